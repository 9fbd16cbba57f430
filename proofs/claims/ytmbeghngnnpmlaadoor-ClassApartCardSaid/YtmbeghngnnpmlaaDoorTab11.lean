/-
  The methods of a table of classes but IDs. No condition.
-/
import Derived.Test.YtmbeghngnnpmlaaDoorMap11
import Derived.Maps.OwnSet
import Derived.Deep.RegionWith
namespace Go.Proofs.YtmbeghngnnpmlaaDoor.T11
open Go.RowKit Go.Lib Go.Extern
open Go.ChangeMaps (setBlock)

abbrev TMC := TM 77
theorem Tryd.ztc (w : World) : (zeroValue 30).run Tryd.prog w = .ok (.agg #[.int .i64 0, .int .i64 0, .bool false]) w := by kernel_rfl
def err (c : Int) : Value := .iface 59 (.int .i64 c)

set_option maxHeartbeats 1000000 in
theorem tcnew_fn (s : Int) (hs : I64 s) (w : World) : Calls Tryd.prog 22 #[.int .i64 s] w fun e w' => ∃ p, e = .returned (.pointer (some ⟨p, 0, none⟩)) ∧ ∃ m, TMC w' (if 0 ≤ s then s else 0) p m [] ∧ Keep w w' ∧ w.heap.size ≤ p ∧ w.heap.size ≤ m := by
  have hmm := @run_makeMap Tryd.prog
  have hs' := Lib.hid hs
  clear hs
  by_cases h0 : 0 ≤ s
  · rw [if_pos h0]
    have hb1 : decide (0 ≤ s) = true := decide_eq_true h0
    have hb2 : decide (s < 0) = false := decide_eq_false (by omega)
    have hb3 : decide (0 < s) = true ∨ s = 0 := by by_cases h : 0 < s; exact .inl (decide_eq_true h); exact .inr (by omega)
    have hm : max s 0 = s := by omega
    go_enter Tryd.func22, Tryd.ntmps22
    go_wp2
    try simp only [hm]
    go_ret
    refine ⟨_, rfl, _, ⟨?_, (MV.is_new w).of (Below.block (Keep.one (w.alloc (.map #[] 0)) _) _ (by rw [World.size_alloc]; omega)), h0, hs'.out.2, by simpa using h0⟩, (Keep.one _ _).alloc _, by simp, by omega⟩
    have := heap_alloc_new (w.alloc (.map #[] 0)) (.cells #[.int .i64 s, .map (some w.heap.size)] 77)
    rwa [World.size_alloc] at this
  · rw [if_neg h0]
    have hb1 : decide (0 ≤ s) = false := decide_eq_false h0
    have hb2 : decide (s < 0) = true := decide_eq_true (by omega)
    have hb3 : decide (0 < s) = false := decide_eq_false (by omega)
    have hm : max s 0 = 0 := by omega
    go_enter Tryd.func22, Tryd.ntmps22
    go_wp2
    try simp only [hm]
    go_ret
    refine ⟨_, rfl, _, ⟨?_, (MV.is_new w).of (Below.block (Keep.one (w.alloc (.map #[] 0)) _) _ (by rw [World.size_alloc]; omega)), by omega, by omega, by simp⟩, (Keep.one _ _).alloc _, by simp, by omega⟩
    have := heap_alloc_new (w.alloc (.map #[] 0)) (.cells #[.int .i64 0, .map (some w.heap.size)] 77)
    rwa [World.size_alloc] at this

section
variable {w : World} {s : Int} {p m : Nat} {l : List (Int × Value)}
theorem len_runC (h : TMC w s p m l) (ty : TypeId) (W : World) (hW : W.heap[m]? = w.heap[m]?) : (Builtin.len_ #[75] ty #[.map (some m)]).run Tryd.prog W = .ok (.int .i64 l.length) W := by
  obtain ⟨es, c, hb, hl⟩ := (h.mp.of hW).length_le
  rw [← hl]
  simp [Builtin.len_, MapKept.run_getObj_map hb, go_sem]
set_option maxHeartbeats 1000000 in
theorem tclen_fn (h : TMC w s p m l) : Calls Tryd.prog 28 #[.pointer (some ⟨p, 0, none⟩)] w fun e w' => e = .returned (.int .i64 l.length) ∧ w = w' := by
  have c0 := h.e0
  have c1 := h.e1
  have hl := fun ty => len_runC h ty w rfl
  clear h
  go_enter Tryd.func28, Tryd.ntmps28
  go_wp2
  go_ret
  exact ⟨rfl, rfl⟩
theorem tclen_nil (w : World) : Calls Tryd.prog 28 #[.pointer none] w fun e w' => e = .returned (.int .i64 0) ∧ w = w' := by
  go_enter Tryd.func28, Tryd.ntmps28
  go_wp2
  go_ret
  exact ⟨rfl, rfl⟩
set_option maxHeartbeats 1000000 in
theorem tcroom_fn (h : TMC w s p m l) : Calls Tryd.prog 38 #[.pointer (some ⟨p, 0, none⟩)] w fun e w' => e = .returned (.int .i64 (s - l.length)) ∧ Drawn w w' := by
  have c0 := h.e0
  have c1 := h.e1
  have hl := fun ty => len_runC h ty w rfl
  have hl2 := fun ty => len_runC h ty w.drew rfl
  have h1 := h.lo
  have h2 := h.hi
  have h3 := h.len
  have hw : wrap64 (s - l.length) = s - l.length := by unfold wrap64; omega
  clear h
  go_enter Tryd.func38, Tryd.ntmps38
  go_wp2
  go_region
  all_goals go_wp2
  all_goals go_ret
  all_goals (try rw [hw])
  all_goals exact ⟨rfl, (Drawn.refl w).drew⟩
/-- Its keys' values, in whatever world holds the map's block. -/
theorem TM.look (h : TMC w s p m l) (id : Int) (x : Value) (b : Bool) (hx : (MV.lookV l id).getD zp.val = x) (hb : (MV.lookV l id).isSome = b) : Hid (∀ W : World, W.heap[m]? = w.heap[m]? → (Instr.lookup 75 (.map (some m)) (.int .i64 id) true).run Tryd.prog W = .ok (.tuple #[x, .bool b]) W) := fun W hW => by
  have := MV.look2 Tryd.underlying75 Tryd.underlying3 Tryd.ztc (h.mp.of hW) id
  rw [← hx, ← hb]
  exact this
set_option maxRecDepth 100000 in
set_option maxHeartbeats 1000000 in
theorem tcget_any (h : TMC w s p m l) (id : Int) (x : ClV) (b : Bool) (hx : (MV.lookV l id).getD zp.val = x.val) (hb : (MV.lookV l id).isSome = b) : Calls Tryd.prog 30 #[.pointer (some ⟨p, 0, none⟩), .int .i64 id] w fun e w' => e = .returned (.tuple #[x.val, .bool b]) ∧ Gr w w' := by
  have c1 := h.e1
  have L := h.look id x.val b hx hb
  have ml := L.out (w.alloc (.cells #[.int .i64 0, .int .i64 0, .bool false] 30)) (Below.block (Keep.one _ _) _ h.mlt)
  have hlt := h.plt
  clear h hx hb
  unfold ClV.val at *
  go_enter Tryd.func30, Tryd.ntmps30
  go_wp2
  refine bodyPost_ret (v := .tuple #[.agg #[.int .i64 x.k, .int .i64 x.p, .bool x.f], .bool b]) (by simp [results, Tryd.results30, go_sem, *]) rfl ⟨rfl, ?_⟩
  exact (Gr.one _ _).alloc _
theorem tcadd_nil (id : Int) (x : ClV) (w : World) : Calls Tryd.prog 25 #[.pointer none, .int .i64 id, x.val] w fun e w' => e = .returned (err 5) ∧ Gr w w' := by
  unfold ClV.val
  go_enter Tryd.func25, Tryd.ntmps25
  go_wp2
  go_ret
  exact ⟨rfl, Gr.one _ _⟩
set_option maxRecDepth 100000 in
set_option maxHeartbeats 1000000 in
theorem tcadd_dup (h : TMC w s p m l) (id : Int) (x y : ClV) (hy : MV.lookV l id = some y.val) : Calls Tryd.prog 25 #[.pointer (some ⟨p, 0, none⟩), .int .i64 id, x.val] w fun e w' => e = .returned (err 6) ∧ Gr w w' := by
  have c1 := h.e1
  have L := h.look id y.val true (by rw [hy]; rfl) (by rw [hy]; rfl)
  have ml := L.out (w.alloc (.cells #[.int .i64 x.k, .int .i64 x.p, .bool x.f] 30)) (Below.block (Keep.one _ _) _ h.mlt)
  have hlt := h.plt
  clear h hy
  unfold ClV.val at *
  go_enter Tryd.func25, Tryd.ntmps25
  go_wp2
  go_ret
  exact ⟨rfl, (Gr.one _ _).alloc _⟩
set_option maxRecDepth 100000 in
set_option maxHeartbeats 1000000 in
theorem tcadd_full (h : TMC w s p m l) (id : Int) (x : ClV) (hy : MV.lookV l id = none) (hf : (l.length : Int) = s) : Calls Tryd.prog 25 #[.pointer (some ⟨p, 0, none⟩), .int .i64 id, x.val] w fun e w' => e = .returned (err 7) ∧ Keep w w' := by
  have c1 := h.e1
  have L := h.look id zp.val false (by rw [hy]; rfl) (by rw [hy]; rfl)
  have ml := L.out (w.alloc (.cells #[.int .i64 x.k, .int .i64 x.p, .bool x.f] 30)) (Below.block (Keep.one _ _) _ h.mlt)
  have hr := Lib.hid (fun W (k : Keep w W) => tcroom_fn (h.keep k))
  have e0 : s - (l.length : Int) = 0 := by omega
  rw [e0] at hr
  have hlt := h.plt
  clear h hy hf e0
  unfold zp at ml
  unfold ClV.val at *
  go_enter Tryd.func25, Tryd.ntmps25
  go_wp2_with fail
  refine (hr.out _ ((Keep.one _ _).alloc _)).mono ?_
  rintro e w' ⟨rfl, hw⟩
  go_wp2
  go_ret
  exact ⟨rfl, ((Keep.one _ _).alloc _).trans hw.keep⟩
set_option maxRecDepth 100000 in
set_option maxHeartbeats 2000000 in
theorem tcadd_new (h : TMC w s p m l) (id : Int) (x : ClV) (hy : MV.lookV l id = none) (hf : (l.length : Int) < s) : Calls Tryd.prog 25 #[.pointer (some ⟨p, 0, none⟩), .int .i64 id, x.val] w fun e w' => e = .returned .nilIface ∧ TMC w' s p m (l ++ [(id, x.val)]) ∧ Fr (· = m) w w' := by
  have c1 := h.e1
  have L := h.look id zp.val false (by rw [hy]; rfl) (by rw [hy]; rfl)
  have ml := L.out (w.alloc (.cells #[.int .i64 x.k, .int .i64 x.p, .bool x.f] 30)) (Below.block (Keep.one _ _) _ h.mlt)
  have hr := Lib.hid (fun W (k : Keep w W) => tcroom_fn (h.keep k))
  have e0 : ¬ s - (l.length : Int) = 0 := by omega
  obtain ⟨n, hn⟩ : ∃ n, n = s - (l.length : Int) := ⟨_, rfl⟩
  rw [← hn] at hr e0
  replace hn := Lib.hid hn
  obtain ⟨o, ho, hu⟩ := MV.put_new Tryd.underlying75 Tryd.underlying3 h.mp id x.val (MV.look_none.1 hy)
  have hmlt := Lib.hid h.mlt
  have hlt := h.plt
  have H := Lib.hid h
  have hf' := Lib.hid hf
  have ho' := Lib.hid ho
  have hu' := Lib.hid hu
  clear h hy hf ho hu
  unfold zp at ml
  unfold ClV.val at *
  obtain ⟨W0, hW0⟩ : ∃ W0, W0 = (w.alloc (.cells #[.int .i64 x.k, .int .i64 x.p, .bool x.f] 30)).alloc (.cells #[.int .i64 0, .int .i64 0, .bool false] 30) := ⟨_, rfl⟩
  have K0 : Hid (Keep w W0) := by rw [hW0]; exact (Keep.one _ _).alloc _
  have X : Cel3 W0 w.heap.size 0 x := by
    rw [hW0]
    exact Cel3.keep ⟨by rw [World.cell?_alloc_new]; rfl, by rw [World.cell?_alloc_new]; rfl, by rw [World.cell?_alloc_new]; rfl⟩ (Keep.one _ _)
  go_enter Tryd.func25, Tryd.ntmps25
  go_wp2_with fail
  rw [← hW0]
  replace hW0 := Lib.hid hW0
  refine (hr.out _ K0.out).mono ?_
  rintro e w1 ⟨rfl, hw⟩
  have K1 : Hid (Keep w w1) := K0.out.trans hw.keep
  have c2 := K1.out.cell c1
  have X1 := X.keep hw.keep
  have x0 := X1.e0; have x1 := X1.e1; have x2 := X1.e2
  have hbl := cell_lt x0
  have hu2 := hu'.out w1 (Below.block K1.out _ hmlt.out)
  have hu3 := hu'.out w1.drew (Below.block K1.out _ hmlt.out)
  replace hw := Lib.hid hw
  clear c1 ml X X1
  go_wp2
  go_region
  all_goals
    go_wp2
    go_ret
    refine ⟨rfl, ?_⟩
    exact H.out.put K1.out.drew ho'.out (by have := hf'.out; simp; omega)
end
end Go.Proofs.YtmbeghngnnpmlaaDoor.T11
