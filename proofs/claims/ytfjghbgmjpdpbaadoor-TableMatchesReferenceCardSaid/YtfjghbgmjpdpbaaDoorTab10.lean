/-
  The methods of a table of ints but IDs. No condition.
-/
import Derived.Test.YtfjghbgmjpdpbaaDoorMap10
import Derived.Maps.OwnSet
import Derived.Deep.RegionWith
namespace Go.Proofs.YtfjghbgmjpdpbaaDoor.T10
open Go.RowKit Go.Lib Go.Extern
open Go.ChangeMaps (setBlock)

abbrev TMI := TM 60
theorem Tryd.ztb (w : World) : (zeroValue 3).run Tryd.prog w = .ok (.int .i64 0) w := by kernel_rfl
def err (c : Int) : Value := .iface 70 (.int .i64 c)

set_option maxHeartbeats 1000000 in
theorem tbnew_fn (s : Int) (hs : I64 s) (w : World) : Calls Tryd.prog 8 #[.int .i64 s] w fun e w' => ∃ p, e = .returned (.pointer (some ⟨p, 0, none⟩)) ∧ ∃ m, TMI w' (if 0 ≤ s then s else 0) p m [] ∧ Keep w w' ∧ w.heap.size ≤ p ∧ w.heap.size ≤ m := by
  have hmm := @run_makeMap Tryd.prog
  have hs' := Lib.hid hs
  clear hs
  by_cases h0 : 0 ≤ s
  · rw [if_pos h0]
    have hb1 : decide (0 ≤ s) = true := decide_eq_true h0
    have hb2 : decide (s < 0) = false := decide_eq_false (by omega)
    have hb3 : decide (0 < s) = true ∨ s = 0 := by by_cases h : 0 < s; exact .inl (decide_eq_true h); exact .inr (by omega)
    have hm : max s 0 = s := by omega
    go_enter Tryd.func8, Tryd.ntmps8
    go_wp2
    try simp only [hm]
    go_ret
    refine ⟨_, rfl, _, ⟨?_, (MV.is_new w).of (Below.block (Keep.one (w.alloc (.map #[] 0)) _) _ (by rw [World.size_alloc]; omega)), h0, hs'.out.2, by simpa using h0⟩, (Keep.one _ _).alloc _, by simp, by omega⟩
    have := heap_alloc_new (w.alloc (.map #[] 0)) (.cells #[.int .i64 s, .map (some w.heap.size)] 60)
    rwa [World.size_alloc] at this
  · rw [if_neg h0]
    have hb1 : decide (0 ≤ s) = false := decide_eq_false h0
    have hb2 : decide (s < 0) = true := decide_eq_true (by omega)
    have hb3 : decide (0 < s) = false := decide_eq_false (by omega)
    have hm : max s 0 = 0 := by omega
    go_enter Tryd.func8, Tryd.ntmps8
    go_wp2
    try simp only [hm]
    go_ret
    refine ⟨_, rfl, _, ⟨?_, (MV.is_new w).of (Below.block (Keep.one (w.alloc (.map #[] 0)) _) _ (by rw [World.size_alloc]; omega)), by omega, by omega, by simp⟩, (Keep.one _ _).alloc _, by simp, by omega⟩
    have := heap_alloc_new (w.alloc (.map #[] 0)) (.cells #[.int .i64 0, .map (some w.heap.size)] 60)
    rwa [World.size_alloc] at this

section
variable {w : World} {s : Int} {p m : Nat} {l : List (Int × Value)}
theorem len_runI (h : TMI w s p m l) (ty : TypeId) (W : World) (hW : W.heap[m]? = w.heap[m]?) : (Builtin.len_ #[58] ty #[.map (some m)]).run Tryd.prog W = .ok (.int .i64 l.length) W := by
  obtain ⟨es, c, hb, hl⟩ := (h.mp.of hW).length_le
  rw [← hl]
  simp [Builtin.len_, MapKept.run_getObj_map hb, go_sem]
set_option maxHeartbeats 1000000 in
theorem tblen_fn (h : TMI w s p m l) : Calls Tryd.prog 14 #[.pointer (some ⟨p, 0, none⟩)] w fun e w' => e = .returned (.int .i64 l.length) ∧ w = w' := by
  have c0 := h.e0
  have c1 := h.e1
  have hl := fun ty => len_runI h ty w rfl
  clear h
  go_enter Tryd.func14, Tryd.ntmps14
  go_wp2
  go_ret
  exact ⟨rfl, rfl⟩
theorem tblen_nil (w : World) : Calls Tryd.prog 14 #[.pointer none] w fun e w' => e = .returned (.int .i64 0) ∧ w = w' := by
  go_enter Tryd.func14, Tryd.ntmps14
  go_wp2
  go_ret
  exact ⟨rfl, rfl⟩
set_option maxHeartbeats 1000000 in
theorem tbroom_fn (h : TMI w s p m l) : Calls Tryd.prog 15 #[.pointer (some ⟨p, 0, none⟩)] w fun e w' => e = .returned (.int .i64 (s - l.length)) ∧ Drawn w w' := by
  have c0 := h.e0
  have c1 := h.e1
  have hl := fun ty => len_runI h ty w rfl
  have hl2 := fun ty => len_runI h ty w.drew rfl
  have h1 := h.lo
  have h2 := h.hi
  have h3 := h.len
  have hw : wrap64 (s - l.length) = s - l.length := by unfold wrap64; omega
  clear h
  go_enter Tryd.func15, Tryd.ntmps15
  go_wp2
  go_region
  all_goals go_wp2
  all_goals go_ret
  all_goals (try rw [hw])
  all_goals exact ⟨rfl, (Drawn.refl w).drew⟩
set_option maxHeartbeats 1000000 in
theorem tbget_some (h : TMI w s p m l) (id : Int) (x : Int) (hx : MV.lookV l id = some (.int .i64 x)) : Calls Tryd.prog 25 #[.pointer (some ⟨p, 0, none⟩), .int .i64 id] w fun e w' => e = .returned (.tuple #[.int .i64 x, .bool true]) ∧ w = w' := by
  have c1 := h.e1
  have ml := MV.look2 Tryd.underlying58 Tryd.underlying3 Tryd.ztb h.mp id
  rw [hx] at ml
  simp only [Option.getD_some, Option.isSome_some] at ml
  clear h hx
  go_enter Tryd.func25, Tryd.ntmps25
  go_wp2
  go_ret2
  exact ⟨rfl, rfl⟩
set_option maxHeartbeats 1000000 in
theorem tbget_none (h : TMI w s p m l) (id : Int) (hx : MV.lookV l id = none) : Calls Tryd.prog 25 #[.pointer (some ⟨p, 0, none⟩), .int .i64 id] w fun e w' => e = .returned (.tuple #[.int .i64 0, .bool false]) ∧ w = w' := by
  have c1 := h.e1
  have ml := MV.look2 Tryd.underlying58 Tryd.underlying3 Tryd.ztb h.mp id
  rw [hx] at ml
  simp only [Option.getD_none, Option.isSome_none] at ml
  clear h hx
  go_enter Tryd.func25, Tryd.ntmps25
  go_wp2
  go_ret2
  exact ⟨rfl, rfl⟩
theorem tbadd_nil (id : Int) (x : Int) (w : World) : Calls Tryd.prog 21 #[.pointer none, .int .i64 id, .int .i64 x] w fun e w' => e = .returned (err 5) ∧ w = w' := by
  go_enter Tryd.func21, Tryd.ntmps21
  go_wp2
  go_ret
  exact ⟨rfl, rfl⟩
set_option maxHeartbeats 1000000 in
theorem tbadd_dup (h : TMI w s p m l) (id : Int) (x y : Int) (hy : MV.lookV l id = some (.int .i64 y)) : Calls Tryd.prog 21 #[.pointer (some ⟨p, 0, none⟩), .int .i64 id, .int .i64 x] w fun e w' => e = .returned (err 6) ∧ w = w' := by
  have c1 := h.e1
  have ml := MV.look2 Tryd.underlying58 Tryd.underlying3 Tryd.ztb h.mp id
  rw [hy] at ml
  simp only [Option.getD_some, Option.isSome_some] at ml
  clear h hy
  go_enter Tryd.func21, Tryd.ntmps21
  go_wp2
  go_ret
  exact ⟨rfl, rfl⟩
set_option maxHeartbeats 1000000 in
theorem tbadd_full (h : TMI w s p m l) (id : Int) (x : Int) (hy : MV.lookV l id = none) (hf : (l.length : Int) = s) : Calls Tryd.prog 21 #[.pointer (some ⟨p, 0, none⟩), .int .i64 id, .int .i64 x] w fun e w' => e = .returned (err 7) ∧ Drawn w w' := by
  have c1 := h.e1
  have ml := MV.look2 Tryd.underlying58 Tryd.underlying3 Tryd.ztb h.mp id
  rw [hy] at ml
  simp only [Option.getD_none, Option.isSome_none] at ml
  have hr := Lib.hid (tbroom_fn h)
  have e0 : s - (l.length : Int) = 0 := by omega
  rw [e0] at hr
  clear h hy hf e0
  go_enter Tryd.func21, Tryd.ntmps21
  go_wp2_with (go_at_call 15; refine hr.out.mono ?_; rintro e w' ⟨rfl, hw⟩)
  go_ret
  exact ⟨rfl, hw⟩
set_option maxRecDepth 100000 in
set_option maxHeartbeats 1000000 in
theorem tbadd_new (h : TMI w s p m l) (id : Int) (x : Int) (hy : MV.lookV l id = none) (hf : (l.length : Int) < s) : Calls Tryd.prog 21 #[.pointer (some ⟨p, 0, none⟩), .int .i64 id, .int .i64 x] w fun e w' => e = .returned .nilIface ∧ TMI w' s p m (l ++ [(id, .int .i64 x)]) ∧ Fr (· = m) w w' := by
  have c1 := h.e1
  have ml := MV.look2 Tryd.underlying58 Tryd.underlying3 Tryd.ztb h.mp id
  rw [hy] at ml
  simp only [Option.getD_none, Option.isSome_none] at ml
  have hr := Lib.hid (tbroom_fn h)
  have e0 : ¬ s - (l.length : Int) = 0 := by omega
  obtain ⟨n, hn⟩ : ∃ n, n = s - (l.length : Int) := ⟨_, rfl⟩
  rw [← hn] at hr e0
  replace hn := Lib.hid hn
  obtain ⟨o, ho, hu⟩ := MV.put_new Tryd.underlying58 Tryd.underlying3 h.mp id (.int .i64 x) (MV.look_none.1 hy)
  have H := Lib.hid h
  have hf' := Lib.hid hf
  have ho' := Lib.hid ho
  have hu' := Lib.hid hu
  clear h hy hf ho hu
  go_enter Tryd.func21, Tryd.ntmps21
  go_wp2_with (go_at_call 15; refine hr.out.mono ?_; rintro e w' ⟨rfl, hw⟩; obtain ⟨q, hq⟩ := hw; have c2 := ((Drawn.refl w).drewN q).keep.cell c1; have hu2 := hu'.out (w.drewN q) rfl; subst hq)
  go_ret
  refine ⟨rfl, ?_⟩
  exact H.out.put ((Drawn.refl w).drewN q).keep ho'.out (by have := hf'.out; simp; omega)
set_option maxHeartbeats 1000000 in
theorem tbset_none (h : TMI w s p m l) (id x : Int) (hx : MV.lookV l id = none) : Calls Tryd.prog 27 #[.pointer (some ⟨p, 0, none⟩), .int .i64 id, .int .i64 x] w fun e w' => e = .returned (err 5) ∧ w = w' := by
  have hg := Lib.hid (tbget_none h id hx)
  clear h hx
  go_enter Tryd.func27, Tryd.ntmps27
  go_wp2_with (go_at_call 25; refine hg.out.mono ?_; rintro e w' ⟨rfl, rfl⟩)
  go_ret
  exact ⟨rfl, rfl⟩
set_option maxHeartbeats 1000000 in
theorem tbset_some (h : TMI w s p m l) (id x y : Int) (hy : MV.lookV l id = some (.int .i64 y)) : Calls Tryd.prog 27 #[.pointer (some ⟨p, 0, none⟩), .int .i64 id, .int .i64 x] w fun e w' => e = .returned .nilIface ∧ TMI w' s p m (MV.repV l id (.int .i64 x)) ∧ Fr (· = m) w w' := by
  have hg := Lib.hid (tbget_some h id y hy)
  have c1 := h.e1
  have hm : id ∈ l.map (·.1) := Classical.byContradiction fun hn => by rw [MV.look_none.2 hn] at hy; cases hy
  obtain ⟨o, ho, hu⟩ := MV.put_old Tryd.underlying58 Tryd.underlying3 h.mp id (.int .i64 x) hm
  have hu2 := hu w rfl
  have H := Lib.hid h
  have ho' := Lib.hid ho
  clear h hy hm hu ho
  go_enter Tryd.func27, Tryd.ntmps27
  go_wp2_with (go_at_call 25; refine hg.out.mono ?_; rintro e w' ⟨rfl, rfl⟩)
  go_ret
  refine ⟨rfl, ?_⟩
  exact H.out.put (Keep.refl w) ho'.out (by have := H.out.len; unfold MV.repV; rw [List.length_map]; exact this)
set_option maxHeartbeats 1000000 in
theorem tbrem_none (h : TMI w s p m l) (id : Int) (hx : MV.lookV l id = none) : Calls Tryd.prog 23 #[.pointer (some ⟨p, 0, none⟩), .int .i64 id] w fun e w' => e = .returned (.tuple #[.int .i64 0, .bool false]) ∧ w = w' := by
  have hg := Lib.hid (tbget_none h id hx)
  clear h hx
  go_enter Tryd.func23, Tryd.ntmps23
  go_wp2_with (go_at_call 25; refine hg.out.mono ?_; rintro e w' ⟨rfl, rfl⟩)
  go_ret2
  exact ⟨rfl, rfl⟩
set_option maxHeartbeats 1000000 in
theorem tbrem_some (h : TMI w s p m l) (id y : Int) (hy : MV.lookV l id = some (.int .i64 y)) : Calls Tryd.prog 23 #[.pointer (some ⟨p, 0, none⟩), .int .i64 id] w fun e w' => e = .returned (.tuple #[.int .i64 y, .bool true]) ∧ TMI w' s p m (l.filter fun x => decide (x.1 ≠ id)) ∧ Fr (· = m) w w' := by
  have hg := Lib.hid (tbget_some h id y hy)
  have c1 := h.e1
  obtain ⟨o, ho, hu⟩ := MV.del Tryd.underlying58 Tryd.underlying3 h.mp id
  have hu2 := fun ty => hu w ty rfl
  have H := Lib.hid h
  have ho' := Lib.hid ho
  clear h hy hu ho
  go_enter Tryd.func23, Tryd.ntmps23
  go_wp2_with (go_at_call 25; refine hg.out.mono ?_; rintro e w' ⟨rfl, rfl⟩)
  go_ret2
  refine ⟨rfl, ?_⟩
  exact H.out.put (Keep.refl w) ho'.out (by have := H.out.len; have h2 := List.length_filter_le (fun x => decide (x.1 ≠ id)) l; omega)
end
end Go.Proofs.YtfjghbgmjpdpbaaDoor.T10
