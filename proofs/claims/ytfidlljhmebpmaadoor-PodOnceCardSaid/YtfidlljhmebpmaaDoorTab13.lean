/-
  The methods of a table of ints but IDs. No condition.
-/
import Derived.Test.YtfidlljhmebpmaaDoorMap13
import Derived.Maps.OwnSet
import Derived.Deep.RegionWith
namespace Go.Proofs.YtfidlljhmebpmaaDoor.T13
open Go.RowKit Go.Lib Go.Extern V12
open Go.ChangeMaps (setBlock)

abbrev TMI := TM 85
theorem Tryd.ztb (w : World) : (zeroValue 3).run Tryd.prog w = .ok (.int .i64 0) w := by kernel_rfl
def err (c : Int) : Value := .iface 77 (.int .i64 c)

set_option maxHeartbeats 1000000 in
theorem tbnew_fn (s : Int) (hs : I64 s) (w : World) : Calls Tryd.prog 28 #[.int .i64 s] w fun e w' => ∃ p, e = .returned (.pointer (some ⟨p, 0, none⟩)) ∧ ∃ m, TMI w' (if 0 ≤ s then s else 0) p m [] ∧ Keep w w' ∧ w.heap.size ≤ p ∧ w.heap.size ≤ m := by
  have hmm := @run_makeMap Tryd.prog
  have hs' := Lib.hid hs
  clear hs
  by_cases h0 : 0 ≤ s
  · rw [if_pos h0]
    have hb1 : decide (0 ≤ s) = true := decide_eq_true h0
    have hb2 : decide (s < 0) = false := decide_eq_false (by omega)
    have hb3 : decide (0 < s) = true ∨ s = 0 := by by_cases h : 0 < s; exact .inl (decide_eq_true h); exact .inr (by omega)
    have hm : max s 0 = s := by omega
    go_enter Tryd.func28, Tryd.ntmps28
    go_wp2
    try simp only [hm]
    go_ret
    refine ⟨_, rfl, _, ⟨?_, (MV.is_new w).of (Below.block (Keep.one (w.alloc (.map #[] 0)) _) _ (by rw [World.size_alloc]; omega)), h0, hs'.out.2, by simpa using h0⟩, (Keep.one _ _).alloc _, by simp, by omega⟩
    have := heap_alloc_new (w.alloc (.map #[] 0)) (.cells #[.int .i64 s, .map (some w.heap.size)] 85)
    rwa [World.size_alloc] at this
  · rw [if_neg h0]
    have hb1 : decide (0 ≤ s) = false := decide_eq_false h0
    have hb2 : decide (s < 0) = true := decide_eq_true (by omega)
    have hb3 : decide (0 < s) = false := decide_eq_false (by omega)
    have hm : max s 0 = 0 := by omega
    go_enter Tryd.func28, Tryd.ntmps28
    go_wp2
    try simp only [hm]
    go_ret
    refine ⟨_, rfl, _, ⟨?_, (MV.is_new w).of (Below.block (Keep.one (w.alloc (.map #[] 0)) _) _ (by rw [World.size_alloc]; omega)), by omega, by omega, by simp⟩, (Keep.one _ _).alloc _, by simp, by omega⟩
    have := heap_alloc_new (w.alloc (.map #[] 0)) (.cells #[.int .i64 0, .map (some w.heap.size)] 85)
    rwa [World.size_alloc] at this

section
variable {w : World} {s : Int} {p m : Nat} {l : List (Int × Value)}
theorem len_runI (h : TMI w s p m l) (ty : TypeId) (W : World) (hW : W.heap[m]? = w.heap[m]?) : (Builtin.len_ #[83] ty #[.map (some m)]).run Tryd.prog W = .ok (.int .i64 l.length) W := by
  obtain ⟨es, c, hb, hl⟩ := (h.mp.of hW).length_le
  rw [← hl]
  simp [Builtin.len_, MapKept.run_getObj_map hb, go_sem]
set_option maxHeartbeats 1000000 in
theorem tbroom_fn (h : TMI w s p m l) : Calls Tryd.prog 54 #[.pointer (some ⟨p, 0, none⟩)] w fun e w' => e = .returned (.int .i64 (s - l.length)) ∧ Drawn w w' := by
  have c0 := h.e0
  have c1 := h.e1
  have hl := fun ty => len_runI h ty w rfl
  have hl2 := fun ty => len_runI h ty w.drew rfl
  have h1 := h.lo
  have h2 := h.hi
  have h3 := h.len
  have hw : wrap64 (s - l.length) = s - l.length := by unfold wrap64; omega
  clear h
  go_enter Tryd.func54, Tryd.ntmps54
  go_wp2
  go_region
  all_goals go_wp2
  all_goals go_ret
  all_goals (try rw [hw])
  all_goals exact ⟨rfl, (Drawn.refl w).drew⟩
set_option maxHeartbeats 1000000 in
theorem tbget_some (h : TMI w s p m l) (id : Int) (x : Int) (hx : MV.lookV l id = some (.int .i64 x)) : Calls Tryd.prog 47 #[.pointer (some ⟨p, 0, none⟩), .int .i64 id] w fun e w' => e = .returned (.tuple #[.int .i64 x, .bool true]) ∧ w = w' := by
  have c1 := h.e1
  have ml := MV.look2 Tryd.underlying83 Tryd.underlying3 Tryd.ztb h.mp id
  rw [hx] at ml
  simp only [Option.getD_some, Option.isSome_some] at ml
  clear h hx
  go_enter Tryd.func47, Tryd.ntmps47
  go_wp2
  go_ret2
  exact ⟨rfl, rfl⟩
set_option maxHeartbeats 1000000 in
theorem tbget_none (h : TMI w s p m l) (id : Int) (hx : MV.lookV l id = none) : Calls Tryd.prog 47 #[.pointer (some ⟨p, 0, none⟩), .int .i64 id] w fun e w' => e = .returned (.tuple #[.int .i64 0, .bool false]) ∧ w = w' := by
  have c1 := h.e1
  have ml := MV.look2 Tryd.underlying83 Tryd.underlying3 Tryd.ztb h.mp id
  rw [hx] at ml
  simp only [Option.getD_none, Option.isSome_none] at ml
  clear h hx
  go_enter Tryd.func47, Tryd.ntmps47
  go_wp2
  go_ret2
  exact ⟨rfl, rfl⟩
theorem tbadd_nil (id : Int) (x : Int) (w : World) : Calls Tryd.prog 43 #[.pointer none, .int .i64 id, .int .i64 x] w fun e w' => e = .returned (err 5) ∧ w = w' := by
  go_enter Tryd.func43, Tryd.ntmps43
  go_wp2
  go_ret
  exact ⟨rfl, rfl⟩
set_option maxHeartbeats 1000000 in
theorem tbadd_dup (h : TMI w s p m l) (id : Int) (x y : Int) (hy : MV.lookV l id = some (.int .i64 y)) : Calls Tryd.prog 43 #[.pointer (some ⟨p, 0, none⟩), .int .i64 id, .int .i64 x] w fun e w' => e = .returned (err 6) ∧ w = w' := by
  have c1 := h.e1
  have ml := MV.look2 Tryd.underlying83 Tryd.underlying3 Tryd.ztb h.mp id
  rw [hy] at ml
  simp only [Option.getD_some, Option.isSome_some] at ml
  clear h hy
  go_enter Tryd.func43, Tryd.ntmps43
  go_wp2
  go_ret
  exact ⟨rfl, rfl⟩
set_option maxHeartbeats 1000000 in
theorem tbadd_full (h : TMI w s p m l) (id : Int) (x : Int) (hy : MV.lookV l id = none) (hf : (l.length : Int) = s) : Calls Tryd.prog 43 #[.pointer (some ⟨p, 0, none⟩), .int .i64 id, .int .i64 x] w fun e w' => e = .returned (err 7) ∧ Drawn w w' := by
  have c1 := h.e1
  have ml := MV.look2 Tryd.underlying83 Tryd.underlying3 Tryd.ztb h.mp id
  rw [hy] at ml
  simp only [Option.getD_none, Option.isSome_none] at ml
  have hr := Lib.hid (tbroom_fn h)
  have e0 : s - (l.length : Int) = 0 := by omega
  rw [e0] at hr
  clear h hy hf e0
  go_enter Tryd.func43, Tryd.ntmps43
  go_wp2_with (go_at_call 54; refine hr.out.mono ?_; rintro e w' ⟨rfl, hw⟩)
  go_ret
  exact ⟨rfl, hw⟩
set_option maxRecDepth 100000 in
set_option maxHeartbeats 1000000 in
theorem tbadd_new (h : TMI w s p m l) (id : Int) (x : Int) (hy : MV.lookV l id = none) (hf : (l.length : Int) < s) : Calls Tryd.prog 43 #[.pointer (some ⟨p, 0, none⟩), .int .i64 id, .int .i64 x] w fun e w' => e = .returned .nilIface ∧ TMI w' s p m (l ++ [(id, .int .i64 x)]) ∧ Fr (· = m) w w' := by
  have c1 := h.e1
  have ml := MV.look2 Tryd.underlying83 Tryd.underlying3 Tryd.ztb h.mp id
  rw [hy] at ml
  simp only [Option.getD_none, Option.isSome_none] at ml
  have hr := Lib.hid (tbroom_fn h)
  have e0 : ¬ s - (l.length : Int) = 0 := by omega
  obtain ⟨n, hn⟩ : ∃ n, n = s - (l.length : Int) := ⟨_, rfl⟩
  rw [← hn] at hr e0
  replace hn := Lib.hid hn
  obtain ⟨o, ho, hu⟩ := MV.put_new Tryd.underlying83 Tryd.underlying3 h.mp id (.int .i64 x) (MV.look_none.1 hy)
  have H := Lib.hid h
  have hf' := Lib.hid hf
  have ho' := Lib.hid ho
  have hu' := Lib.hid hu
  clear h hy hf ho hu
  go_enter Tryd.func43, Tryd.ntmps43
  go_wp2_with (go_at_call 54; refine hr.out.mono ?_; rintro e w' ⟨rfl, hw⟩; obtain ⟨q, hq⟩ := hw; have c2 := ((Drawn.refl w).drewN q).keep.cell c1; have hu2 := hu'.out (w.drewN q) rfl; subst hq)
  go_ret
  refine ⟨rfl, ?_⟩
  exact H.out.put ((Drawn.refl w).drewN q).keep ho'.out (by have := hf'.out; simp; omega)
end
end Go.Proofs.YtfidlljhmebpmaaDoor.T13
