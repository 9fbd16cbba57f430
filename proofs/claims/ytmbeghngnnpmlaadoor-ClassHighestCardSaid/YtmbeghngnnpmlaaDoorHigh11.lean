/-
  The store of classes: Highest, Pod. Condition: at most 1000 classes, at most 1048576 amounts; errors.errorType holds its own.
-/
import Derived.Test.YtmbeghngnnpmlaaDoorAll11
import Derived.Test.YtmbeghngnnpmlaaDoorClone11
namespace Go.Proofs.YtmbeghngnnpmlaaDoor.T11
open Go.RowKit Go.Sort Go.Lib Go.Shelf

def hiL (L : List ClV) : ClV := if L.length = 0 then zp else row L (bst (row L) L.length)
section
variable {w w' : World} {s : Int} {q p m : Nat} {L : List ClV}
set_option maxRecDepth 100000 in
set_option maxHeartbeats 4000000 in
theorem cshigh_fn (h : SI w s q p m L) (hl : L.length ≤ 1000) : Calls Tryd.prog 17 #[.pointer (some ⟨q, 0, none⟩)] w fun e w' => e = .returned (.tuple #[(hiL L).val, .bool (decide (0 < L.length))]) ∧ Keep w w' := by
  have B0 := Lib.hid (heap_alloc_new w (.cells #[.int .i64 0, .int .i64 0, .bool false] 30))
  have cA := Lib.hid (csall_fn (h.keep (Keep.one w (.cells #[.int .i64 0, .int .i64 0, .bool false] 30))) hl)
  have okL : Hid (∀ j, j < L.length → ClOk (row L j)) := fun j hj => h.t.ok _ (row_mem hj)
  have hs : Hid (∀ i j, i < j → j < L.length → (row L i).k < (row L j).k) := fun i j h1 h2 => srt_at h.t.srt h1 h2
  obtain ⟨y, hy⟩ : ∃ y, y = hiL L := ⟨_, rfl⟩
  obtain ⟨bb, hbb⟩ : ∃ bb, bb = decide (0 < L.length) := ⟨_, rfl⟩
  rw [← hy, ← hbb]
  unfold hiL at hy
  obtain ⟨n, hn⟩ : ∃ n, n = L.length := ⟨_, rfl⟩
  rw [← hn] at cA okL hl hy hs hbb
  replace hbb := Lib.hid hbb
  replace hn := Lib.hid hn
  clear h
  unfold ClV.val
  go_enter Tryd.func17, Tryd.ntmps17
  go_wp2_with fail
  refine cA.out.mono ?_
  rintro e w1 ⟨B, d, rfl, k1, O1⟩
  have K1 : Hid (Keep w w1) := (Keep.one _ _).trans k1
  have B1 : Hid (w1.heap[w.heap.size]? = some (.cells #[.int .i64 0, .int .i64 0, .bool false] 30 (0, 0))) := k1.block B0.out
  have R1 : Hid (RdC w1 B n (row L)) := rows_rd O1 (by omega) okL.out
  replace k1 := Lib.hid k1
  replace O1 := Lib.hid O1
  obtain ⟨g, hg⟩ : ∃ g, g = w.heap.size := ⟨_, rfl⟩
  rw [← hg] at B1 ⊢
  have hg' : Hid (w.heap.size ≤ g) := Nat.le_of_eq hg.symm
  replace hg := Lib.hid hg
  by_cases h0 : n = 0
  · rw [if_pos h0] at hy
    subst hy
    obtain rfl : bb = false := by rw [hbb.out, h0]; rfl
    subst h0
    obtain ⟨d0, d1, d2⟩ := cel_block (x := zp) B1.out
    have g0 := fun i => frozen_of_row w1 _ i _ _ B1.out
    have B2 := set3_heap zp B1.out
    have K2 : Hid (Keep w (((w1.setCell ⟨g, 0, none⟩ (.int .i64 0)).setCell ⟨g, 1, none⟩ (.int .i64 0)).setCell ⟨g, 2, none⟩ (.bool false))) := set3_keep zp K1.out hg'.out
    replace B2 := Lib.hid B2
    go_wp2
    obtain ⟨e0, e1, e2⟩ := cel_block (x := zp) B2.out
    refine bodyPost_ret (v := .tuple #[.agg #[.int .i64 0, .int .i64 0, .bool false], .bool false]) (by simp only [zp] at e0 e1 e2; simp [results, Tryd.results17, go_sem, e0, e1, e2]) rfl ⟨rfl, K2.out⟩
  · rw [if_neg h0] at hy
    have cM := minfunc_fn B n d (row L) w1 R1.out (by omega) hs.out
    rw [← hy] at cM
    unfold ClV.val at cM
    replace hy := Lib.hid hy
    replace cM := Lib.hid cM
    obtain rfl : bb = true := by rw [hbb.out]; exact decide_eq_true (by omega)
    go_wp2_with fail
    refine cM.out.mono ?_
    rintro e w2 ⟨rfl, k2⟩
    have B2 : Hid (w2.heap[g]? = some (.cells #[.int .i64 0, .int .i64 0, .bool false] 30 (0, 0))) := k2.block B1.out
    have K2 : Hid (Keep w w2) := K1.out.trans k2
    replace k2 := Lib.hid k2
    obtain ⟨d0, d1, d2⟩ := cel_block (x := zp) B2.out
    have g0 := fun i => frozen_of_row w2 _ i _ _ B2.out
    have B3 : Hid ((((w2.setCell ⟨g, 0, none⟩ (.int .i64 y.k)).setCell ⟨g, 1, none⟩ (.int .i64 y.p)).setCell ⟨g, 2, none⟩ (.bool y.f)).heap[g]? = some (.cells #[.int .i64 y.k, .int .i64 y.p, .bool y.f] 30 (0, 0))) := set3_heap y B2.out
    have K3 : Hid (Keep w (((w2.setCell ⟨g, 0, none⟩ (.int .i64 y.k)).setCell ⟨g, 1, none⟩ (.int .i64 y.p)).setCell ⟨g, 2, none⟩ (.bool y.f))) := set3_keep y K2.out hg'.out
    go_wp2
    obtain ⟨e0, e1, e2⟩ := cel_block B3.out
    refine bodyPost_ret (v := .tuple #[.agg #[.int .i64 y.k, .int .i64 y.p, .bool y.f], .bool true]) (by simp [results, Tryd.results17, go_sem, e0, e1, e2]) rfl ⟨rfl, K3.out⟩
def zpod : PodV := ⟨0, 0, false, 0, none, 0, 0, fun _ => 0, 0, 0, 0, 0⟩
theorem nine_set {w : World} {s : Nat} {a0 a1 a2 a3 a4 a5 a6 a7 a8 u : Value} {T : TypeId} (h : w.heap[s]? = some (.cells #[a0, a1, a2, a3, a4, a5, a6, a7, a8] T (0, 0))) :
    (w.setCell ⟨s, 0, none⟩ u).heap[s]? = some (.cells #[u, a1, a2, a3, a4, a5, a6, a7, a8] T (0, 0)) ∧ (w.setCell ⟨s, 1, none⟩ u).heap[s]? = some (.cells #[a0, u, a2, a3, a4, a5, a6, a7, a8] T (0, 0)) ∧
    (w.setCell ⟨s, 2, none⟩ u).heap[s]? = some (.cells #[a0, a1, u, a3, a4, a5, a6, a7, a8] T (0, 0)) ∧ (w.setCell ⟨s, 3, none⟩ u).heap[s]? = some (.cells #[a0, a1, a2, u, a4, a5, a6, a7, a8] T (0, 0)) ∧
    (w.setCell ⟨s, 4, none⟩ u).heap[s]? = some (.cells #[a0, a1, a2, a3, u, a5, a6, a7, a8] T (0, 0)) ∧ (w.setCell ⟨s, 5, none⟩ u).heap[s]? = some (.cells #[a0, a1, a2, a3, a4, u, a6, a7, a8] T (0, 0)) ∧
    (w.setCell ⟨s, 6, none⟩ u).heap[s]? = some (.cells #[a0, a1, a2, a3, a4, a5, u, a7, a8] T (0, 0)) ∧ (w.setCell ⟨s, 7, none⟩ u).heap[s]? = some (.cells #[a0, a1, a2, a3, a4, a5, a6, u, a8] T (0, 0)) ∧
    (w.setCell ⟨s, 8, none⟩ u).heap[s]? = some (.cells #[a0, a1, a2, a3, a4, a5, a6, a7, u] T (0, 0)) := by
  have hlt := lt_of_block h
  have h' : w.heap[s] = .cells #[a0, a1, a2, a3, a4, a5, a6, a7, a8] T (0, 0) := by simpa [Array.getElem?_eq_getElem hlt] using h
  refine ⟨?_, ?_, ?_, ?_, ?_, ?_, ?_, ?_, ?_⟩
  all_goals
    show (w.heap.modify s _)[s]? = _
    rw [Array.getElem?_eq_getElem (by simpa using hlt), Array.getElem_modify_self, h']
    rfl
/-- A pod's nine stores. -/
def put9 (w : World) (s : Nat) (x : PodV) : World := ((((((((w.setCell ⟨s, 0, none⟩ (.int .i64 x.k)).setCell ⟨s, 1, none⟩ (.int .i64 x.p)).setCell ⟨s, 2, none⟩ (.bool x.f)).setCell ⟨s, 3, none⟩ (.int .i64 x.g)).setCell ⟨s, 4, none⟩ (.slice x.A x.m x.c)).setCell ⟨s, 5, none⟩ (.int .i64 x.a)).setCell ⟨s, 6, none⟩ (.int .i64 x.h)).setCell ⟨s, 7, none⟩ (.int .i64 x.d)).setCell ⟨s, 8, none⟩ (.int .i64 x.t)
def podB (x : PodV) : Array Value := #[.int .i64 x.k, .int .i64 x.p, .bool x.f, .int .i64 x.g, .slice x.A x.m x.c, .int .i64 x.a, .int .i64 x.h, .int .i64 x.d, .int .i64 x.t]
theorem put9_heap {w : World} {s : Nat} (x y : PodV) {T : TypeId} (h : w.heap[s]? = some (.cells (podB y) T (0, 0))) : (put9 w s x).heap[s]? = some (.cells (podB x) T (0, 0)) :=
  (nine_set (nine_set (nine_set (nine_set (nine_set (nine_set (nine_set (nine_set (nine_set h).1).2.1).2.2.1).2.2.2.1).2.2.2.2.1).2.2.2.2.2.1).2.2.2.2.2.2.1).2.2.2.2.2.2.2.1).2.2.2.2.2.2.2.2
theorem put9_keep {w0 w : World} {s : Nat} (x : PodV) (k : Keep w0 w) (hs : w0.heap.size ≤ s) : Keep w0 (put9 w s x) :=
  ((((((((k.set hs _).set hs _).set hs _).set hs _).set hs _).set hs _).set hs _).set hs _).set hs _
theorem put9_other {w : World} {s b i : Nat} (x : PodV) (h : b ≠ s) : (put9 w s x).cell? ⟨b, i, none⟩ = w.cell? ⟨b, i, none⟩ := by
  unfold put9
  repeat rw [World.cell?_setCell_other (b := ⟨b, i, none⟩) (h := by simp only [ne_eq, Addr.mk.injEq, not_and]; intro e; exact absurd e.symm h)]
theorem put9_block {w : World} {s k : Nat} (x : PodV) (h : k ≠ s) : (put9 w s x).heap[k]? = w.heap[k]? := by
  unfold put9
  repeat rw [Below.heap_setCell _ _ _ _ h]
/-- What the walk wants of a pod's block. -/
structure Blk9 (w : World) (s : Nat) (x : PodV) : Prop where
  e0 : w.cell? ⟨s, 0, none⟩ = some (.int .i64 x.k)
  e1 : w.cell? ⟨s, 1, none⟩ = some (.int .i64 x.p)
  e2 : w.cell? ⟨s, 2, none⟩ = some (.bool x.f)
  e3 : w.cell? ⟨s, 3, none⟩ = some (.int .i64 x.g)
  e4 : w.cell? ⟨s, 4, none⟩ = some (.slice x.A x.m x.c)
  e5 : w.cell? ⟨s, 5, none⟩ = some (.int .i64 x.a)
  e6 : w.cell? ⟨s, 6, none⟩ = some (.int .i64 x.h)
  e7 : w.cell? ⟨s, 7, none⟩ = some (.int .i64 x.d)
  e8 : w.cell? ⟨s, 8, none⟩ = some (.int .i64 x.t)
  f : ∀ i, w.frozen? ⟨s, i, none⟩ = false
theorem blk9 {w : World} {s : Nat} {x : PodV} {T : TypeId} (h : w.heap[s]? = some (.cells (podB x) T (0, 0))) : Blk9 w s x := by
  refine ⟨?_, ?_, ?_, ?_, ?_, ?_, ?_, ?_, ?_, fun i => frozen_of_row w s i _ _ h⟩ <;> rw [cell_of_row w s _ _ _ _ h] <;> rfl
set_option maxRecDepth 100000 in
set_option maxHeartbeats 4000000 in
theorem cspod_none (h : SI w s q p m L) (o : OpW) (a : Int) (hk : o.x ∉ keys L) : Calls Tryd.prog 19 #[.pointer (some ⟨q, 0, none⟩), o.val, .int .i64 a] w fun e w' => e = .returned (.tuple #[zpod.val, flt 5 1]) ∧ Keep w w' := by
  have cG : Hid (∀ W, Keep w W → Calls Tryd.prog 15 #[.pointer (some ⟨q, 0, none⟩), .int .i64 o.x] W fun e w' => e = .returned (.tuple #[zp.val, .bool false]) ∧ Keep W w') := fun W k => by
    have := csget_fn (h.keep k) o.x
    rw [get_none hk, decide_eq_false hk] at this
    exact this
  have cN := Lib.hid (fun W => new_fn 5 1 W)
  clear h hk
  unfold zpod PodV.val OpW.val flt
  unfold ClV.val zp at cG
  go_enter Tryd.func19, Tryd.ntmps19
  go_wp2_with fail
  refine (cG.out _ ?_).mono ?_
  · repeat (first | exact Keep.refl _ | apply Keep.alloc)
  rintro e w1 ⟨rfl, k1⟩
  have B1 : Hid (w1.heap[w.heap.size + 1]? = some (.cells (podB zpod) 47 (0, 0))) := k1.block (hp2 _ _ _ _)
  have K1 : Hid (Keep w w1) := ((Keep.one _ _).alloc _).trans k1
  have hlt : Hid (w.heap.size + 1 < w1.heap.size) := lt_of_block B1.out
  replace k1 := Lib.hid k1
  obtain ⟨W, hW⟩ : ∃ W, W = w1.alloc (.cells #[.int .i64 0, .int .i64 0, .bool false] 30) := ⟨_, rfl⟩
  have B2 : Hid (W.heap[w.heap.size + 1]? = some (.cells (podB zpod) 47 (0, 0))) := by rw [hW]; exact (Keep.one _ _).block B1.out
  have K2 : Hid (Keep w W) := by rw [hW]; exact K1.out.alloc _
  go_wp2_with fail
  rw [← hW]
  replace hW := Lib.hid hW
  refine (cN.out _).mono ?_
  rintro e w' ⟨rfl, rfl⟩
  obtain ⟨d0, d1, d2, d3, d4, d5, d6, d7, d8, g0⟩ := blk9 B2.out
  have B3 := put9_heap zpod zpod B2.out
  have K3 := put9_keep zpod K2.out (s := w.heap.size + 1) (by omega)
  obtain ⟨e0, e1, e2, e3, e4, e5, e6, e7, e8, _⟩ := blk9 B3
  unfold put9 zpod at *
  replace B3 := Lib.hid B3
  replace K3 := Lib.hid K3
  generalize w.heap.size + 1 = r at *
  go_wp2
  refine bodyPost_ret (v := .tuple #[.agg #[.int .i64 0, .int .i64 0, .bool false, .int .i64 0, .slice none 0 0, .int .i64 0, .int .i64 0, .int .i64 0, .int .i64 0], (Base.fault 5 1).val]) (by simp [results, Tryd.results19, go_sem, e0, e1, e2, e3, e4, e5, e6, e7, e8]) rfl ⟨rfl, K3.out⟩
set_option maxRecDepth 100000 in
set_option maxHeartbeats 8000000 in
theorem cspod_ok (h : SI w s q p m L) (o : OpW) (a : Int) (hk : o.x ∈ keys L) (ho : OpIs w o) (hm : o.m ≤ 1048576) : Calls Tryd.prog 19 #[.pointer (some ⟨q, 0, none⟩), o.val, .int .i64 a] w fun e w' => ∃ A d, e = .returned (.tuple #[(podV (getL L o.x) o a A d).val, .nilIface]) ∧ Keep w w' ∧ w'.ownsRow w.heap.size 2 1 (.slice A o.m d) o.m (rowL o.m o.Z) := by
  have cG : Hid (∀ W, Keep w W → Calls Tryd.prog 15 #[.pointer (some ⟨q, 0, none⟩), .int .i64 o.x] W fun e w' => e = .returned (.tuple #[(getL L o.x).val, .bool true]) ∧ Keep W w') := fun W k => by
    have := csget_fn (h.keep k) o.x
    rw [decide_eq_true hk] at this
    exact this
  obtain ⟨c, hc⟩ : ∃ c, c = getL L o.x := ⟨_, rfl⟩
  rw [← hc] at cG ⊢
  replace hc := Lib.hid hc
  have cC : Hid (∀ W, Keep w W → Calls Tryd.prog 35 #[.slice o.A o.m o.c] W fun e w' => ∃ A' cap, e = .returned (.slice A' o.m cap) ∧ Keep W w' ∧ w'.ownsRow W.heap.size 2 1 (.slice A' o.m cap) o.m (rowL o.m o.Z)) := fun W k => sclone_own o.A o.m o.c o.Z W (ho.rd.keep k) ho.nil hm
  clear h hk ho hm
  unfold podV PodV.val OpW.val
  unfold ClV.val at cG
  have X0 := Lib.hid (heap_alloc_new w (.cells #[.int .i64 o.k, .int .i64 o.i, .int .i64 o.x, .int .i64 o.n, .bool o.f, .slice o.A o.m o.c] 45))
  go_enter Tryd.func19, Tryd.ntmps19
  go_wp2_with fail
  refine (cG.out _ ?_).mono ?_
  · repeat (first | exact Keep.refl _ | apply Keep.alloc)
  rintro e w1 ⟨rfl, k1⟩
  have B1 : Hid (w1.heap[w.heap.size + 1]? = some (.cells (podB zpod) 47 (0, 0))) := k1.block (hp2 _ _ _ _)
  have X1 : Hid (w1.heap[w.heap.size]? = some (.cells #[.int .i64 o.k, .int .i64 o.i, .int .i64 o.x, .int .i64 o.n, .bool o.f, .slice o.A o.m o.c] 45 (0, 0))) := k1.block ((Keep.one _ _).block X0.out)
  have K1 : Hid (Keep w w1) := ((Keep.one _ _).alloc _).trans k1
  have hlt : Hid (w.heap.size + 1 < w1.heap.size) := lt_of_block B1.out
  replace k1 := Lib.hid k1
  obtain ⟨W, hW⟩ : ∃ W, W = w1.alloc (.cells #[.int .i64 c.k, .int .i64 c.p, .bool c.f] 30) := ⟨_, rfl⟩
  have B2 : Hid (W.heap[w.heap.size + 1]? = some (.cells (podB zpod) 47 (0, 0))) := by rw [hW]; exact (Keep.one _ _).block B1.out
  have X2 : W.heap[w.heap.size]? = some (.cells #[.int .i64 o.k, .int .i64 o.i, .int .i64 o.x, .int .i64 o.n, .bool o.f, .slice o.A o.m o.c] 45 (0, 0)) := by rw [hW]; exact (Keep.one _ _).block X1.out
  have C2 : W.heap[w1.heap.size]? = some (.cells #[.int .i64 c.k, .int .i64 c.p, .bool c.f] 30 (0, 0)) := by rw [hW]; exact heap_alloc_new _ _
  have K2 : Hid (Keep w W) := by rw [hW]; exact K1.out.alloc _
  have o1 : W.cell? ⟨w.heap.size, 1, none⟩ = some (.int .i64 o.i) := by rw [cell_of_row W _ _ _ _ _ X2]; rfl
  have o3 : W.cell? ⟨w.heap.size, 3, none⟩ = some (.int .i64 o.n) := by rw [cell_of_row W _ _ _ _ _ X2]; rfl
  have o5 : W.cell? ⟨w.heap.size, 5, none⟩ = some (.slice o.A o.m o.c) := by rw [cell_of_row W _ _ _ _ _ X2]; rfl
  obtain ⟨z0, z1, z2⟩ := cel_block C2
  obtain ⟨d0, d1, d2, d3, d4, d5, d6, d7, d8, g0⟩ := blk9 B2.out
  unfold zpod at d0 d1 d2 d3 d4 d5 d6 d7 d8
  go_wp2_with fail
  rw [← hW]
  replace hW := Lib.hid hW
  replace X2 := Lib.hid X2
  replace C2 := Lib.hid C2
  obtain ⟨r, hr⟩ : ∃ r, r = w.heap.size + 1 := ⟨_, rfl⟩
  obtain ⟨b, hb⟩ : ∃ b, b = w.heap.size := ⟨_, rfl⟩
  obtain ⟨cb, hcb⟩ : ∃ cb, cb = w1.heap.size := ⟨_, rfl⟩
  rw [← hr] at d0 d1 d2 d3 d4 d5 d6 d7 d8 B2 ⊢
  simp only [← hr] at g0
  rw [← hb] at o1 o3 o5 ⊢
  rw [← hcb] at z0 z1 z2 ⊢
  replace hr := Lib.hid hr
  replace hb := Lib.hid hb
  replace hcb := Lib.hid hcb
  have cK : Hid (∀ W', Keep W W' → Calls Tryd.prog 35 #[.slice o.A o.m o.c] W' fun e w4 => ∃ A4 c4, e = .returned (.slice A4 o.m c4) ∧ Hid (Keep W w4) ∧ Hid (w4.ownsRow W.heap.size 2 1 (.slice A4 o.m c4) o.m (rowL o.m o.Z)) ∧ w4.cell? ⟨b, 1, none⟩ = some (.int .i64 o.i) ∧ w4.cell? ⟨b, 3, none⟩ = some (.int .i64 o.n) ∧ w4.cell? ⟨cb, 1, none⟩ = some (.int .i64 c.p) ∧ w4.cell? ⟨cb, 2, none⟩ = some (.bool c.f)
      ∧ w4.cell? ⟨r, 0, none⟩ = some (.int .i64 0) ∧ w4.cell? ⟨r, 1, none⟩ = some (.int .i64 0) ∧ w4.cell? ⟨r, 2, none⟩ = some (.bool false) ∧ w4.cell? ⟨r, 3, none⟩ = some (.int .i64 0) ∧ w4.cell? ⟨r, 4, none⟩ = some (.slice none 0 0) ∧ w4.cell? ⟨r, 5, none⟩ = some (.int .i64 0) ∧ w4.cell? ⟨r, 6, none⟩ = some (.int .i64 0) ∧ w4.cell? ⟨r, 7, none⟩ = some (.int .i64 0) ∧ w4.cell? ⟨r, 8, none⟩ = some (.int .i64 0) ∧ (∀ i, w4.frozen? ⟨r, i, none⟩ = false)) := fun W' k =>
    (cC.out W' (K2.out.trans k)).mono fun e w4 ⟨A4, c4, he, k4, O4⟩ => by
      have K := k.trans k4
      refine ⟨A4, c4, he, K, own_base O4 k.size, K.cell o1, K.cell o3, K.cell z1, K.cell z2, K.cell d0, K.cell d1, K.cell d2, K.cell d3, K.cell d4, K.cell d5, K.cell d6, K.cell d7, K.cell d8, fun i => ?_⟩
      rw [Below.frozen K (p := ⟨r, i, none⟩) (lt_of_block B2.out)]
      exact g0 i
  clear cC
  have nb : b ≠ r := by have := hr.out; have := hb.out; omega
  have nc : cb ≠ r := by have := hr.out; have := hcb.out; have := hlt.out; omega
  have HELD : ∀ Wz, Keep W Wz → (Wz.cell? ⟨b, 1, none⟩ = some (.int .i64 o.i) ∧ Wz.cell? ⟨b, 3, none⟩ = some (.int .i64 o.n) ∧ Wz.cell? ⟨b, 5, none⟩ = some (.slice o.A o.m o.c) ∧ Wz.cell? ⟨cb, 1, none⟩ = some (.int .i64 c.p) ∧ Wz.cell? ⟨cb, 2, none⟩ = some (.bool c.f)) := fun Wz KK => ⟨KK.cell o1, KK.cell o3, KK.cell o5, KK.cell z1, KK.cell z2⟩
  refine wp_region_held_drew (S := fun w' => w'.cell? ⟨b, 1, none⟩ = some (.int .i64 o.i) ∧ w'.cell? ⟨b, 3, none⟩ = some (.int .i64 o.n) ∧ w'.cell? ⟨b, 5, none⟩ = some (.slice o.A o.m o.c) ∧ w'.cell? ⟨cb, 1, none⟩ = some (.int .i64 c.p) ∧ w'.cell? ⟨cb, 2, none⟩ = some (.bool c.f)) (by kernel_rfl) ?_ (fun hHeld => ?_)
  · exact HELD _ (by repeat (with_reducible first | exact Keep.refl W | apply Keep.alloc | apply Keep.drew | apply Keep.drewN | (refine Keep.trans ?_ K4.out)))
  refine wpAnyH_take (i := 0) (v := .pointer (some ⟨b, 1, none⟩)) rfl (by kernel_rfl) (by kernel_rfl) (by kernel_rfl) (fun _ _ _ h => h) (Or.inl ⟨by rfl, fun Wz hW => by obtain ⟨s1, s2, s3, s4, s5⟩ := hW; go_simp⟩) hHeld ?_
  simp only [Act.put, List.getElem_toArray, List.getElem_cons_zero, List.setIfInBounds_toArray, List.set_cons_zero, List.set_cons_succ]
  refine wpAnyH_take (i := 1) (v := .int .i64 o.i) rfl (by kernel_rfl) (by kernel_rfl) (by kernel_rfl) (fun _ _ _ h => h) (Or.inl ⟨by rfl, fun Wz hW => by obtain ⟨s1, s2, s3, s4, s5⟩ := hW; go_simp⟩) hHeld ?_
  simp only [Act.put, List.getElem_toArray, List.getElem_cons_succ, List.getElem_cons_zero, List.setIfInBounds_toArray, List.set_cons_zero, List.set_cons_succ]
  refine wpAnyH_take (i := 2) (v := .pointer (some ⟨cb, 1, none⟩)) rfl (by kernel_rfl) (by kernel_rfl) (by kernel_rfl) (fun _ _ _ h => h) (Or.inl ⟨by rfl, fun Wz hW => by obtain ⟨s1, s2, s3, s4, s5⟩ := hW; go_simp⟩) hHeld ?_
  simp only [Act.put, List.getElem_toArray, List.getElem_cons_succ, List.getElem_cons_zero, List.setIfInBounds_toArray, List.set_cons_zero, List.set_cons_succ]
  refine wpAnyH_take (i := 3) (v := .int .i64 c.p) rfl (by kernel_rfl) (by kernel_rfl) (by kernel_rfl) (fun _ _ _ h => h) (Or.inl ⟨by rfl, fun Wz hW => by obtain ⟨s1, s2, s3, s4, s5⟩ := hW; go_simp⟩) hHeld ?_
  simp only [Act.put, List.getElem_toArray, List.getElem_cons_succ, List.getElem_cons_zero, List.setIfInBounds_toArray, List.set_cons_zero, List.set_cons_succ]
  refine wpAnyH_take (i := 4) (v := .pointer (some ⟨cb, 2, none⟩)) rfl (by kernel_rfl) (by kernel_rfl) (by kernel_rfl) (fun _ _ _ h => h) (Or.inl ⟨by rfl, fun Wz hW => by obtain ⟨s1, s2, s3, s4, s5⟩ := hW; go_simp⟩) hHeld ?_
  simp only [Act.put, List.getElem_toArray, List.getElem_cons_succ, List.getElem_cons_zero, List.setIfInBounds_toArray, List.set_cons_zero, List.set_cons_succ]
  refine wpAnyH_take (i := 5) (v := .bool c.f) rfl (by kernel_rfl) (by kernel_rfl) (by kernel_rfl) (fun _ _ _ h => h) (Or.inl ⟨by rfl, fun Wz hW => by obtain ⟨s1, s2, s3, s4, s5⟩ := hW; go_simp⟩) hHeld ?_
  simp only [Act.put, List.getElem_toArray, List.getElem_cons_succ, List.getElem_cons_zero, List.setIfInBounds_toArray, List.set_cons_zero, List.set_cons_succ]
  refine wpAnyH_take (i := 6) (v := .pointer (some ⟨b, 3, none⟩)) rfl (by kernel_rfl) (by kernel_rfl) (by kernel_rfl) (fun _ _ _ h => h) (Or.inl ⟨by rfl, fun Wz hW => by obtain ⟨s1, s2, s3, s4, s5⟩ := hW; go_simp⟩) hHeld ?_
  simp only [Act.put, List.getElem_toArray, List.getElem_cons_succ, List.getElem_cons_zero, List.setIfInBounds_toArray, List.set_cons_zero, List.set_cons_succ]
  refine wpAnyH_take (i := 7) (v := .int .i64 o.n) rfl (by kernel_rfl) (by kernel_rfl) (by kernel_rfl) (fun _ _ _ h => h) (Or.inl ⟨by rfl, fun Wz hW => by obtain ⟨s1, s2, s3, s4, s5⟩ := hW; go_simp⟩) hHeld ?_
  simp only [Act.put, List.getElem_toArray, List.getElem_cons_succ, List.getElem_cons_zero, List.setIfInBounds_toArray, List.set_cons_zero, List.set_cons_succ]
  refine wpAnyH_take (i := 8) (v := .pointer (some ⟨b, 5, none⟩)) rfl (by kernel_rfl) (by kernel_rfl) (by kernel_rfl) (fun _ _ _ h => h) (Or.inl ⟨by rfl, fun Wz hW => by obtain ⟨s1, s2, s3, s4, s5⟩ := hW; go_simp⟩) hHeld ?_
  simp only [Act.put, List.getElem_toArray, List.getElem_cons_succ, List.getElem_cons_zero, List.setIfInBounds_toArray, List.set_cons_zero, List.set_cons_succ]
  refine wpAnyH_take (i := 9) (v := .slice o.A o.m o.c) rfl (by kernel_rfl) (by kernel_rfl) (by kernel_rfl) (fun _ _ _ h => h) (Or.inl ⟨by rfl, fun Wz hW => by obtain ⟨s1, s2, s3, s4, s5⟩ := hW; go_simp⟩) hHeld ?_
  simp only [Act.put, List.getElem_toArray, List.getElem_cons_succ, List.getElem_cons_zero, List.setIfInBounds_toArray, List.set_cons_zero, List.set_cons_succ]
  refine wpAnyH_take (i := 11) (v := .int .i64 a) rfl (by kernel_rfl) (by kernel_rfl) (by kernel_rfl) (fun _ _ _ h => h) (Or.inl ⟨by rfl, fun Wz hW => by obtain ⟨s1, s2, s3, s4, s5⟩ := hW; go_simp⟩) hHeld ?_
  simp only [Act.put, List.getElem_toArray, List.getElem_cons_succ, List.getElem_cons_zero, List.setIfInBounds_toArray, List.set_cons_zero, List.set_cons_succ]
  refine wpAnyH_ready (rs := [10]) (by kernel_rfl) (by simp) ?_
  refine AllReadyH.cons rfl (fun K hK => ?_) AllReadyH.nil
  simp only [List.getElem_toArray, List.getElem_cons_succ, List.getElem_cons_zero]
  rw [if_pos (by rfl)]
  go_simp
  refine (cK.out _ (by repeat (with_reducible first | exact Keep.refl W | apply Keep.drew))).mono ?_
  rintro e w4 ⟨A4, c4, rfl, K4, O4, o1', o3', z1', z2', d0', d1', d2', d3', d4', d5', d6', d7', d8', g4⟩
  go_wp2_with fail
  refine hK.out _ _ ?_ (fun hHeld => ?_)
  · exact HELD _ K4.out
  clear hK K
  try simp only [Act.put, List.getElem_toArray, List.getElem_cons_succ, List.getElem_cons_zero, List.setIfInBounds_toArray, List.set_cons_zero, List.set_cons_succ]
  refine wpAnyH_take (i := 12) (v := .agg #[.int .i64 o.i, .int .i64 c.p, .bool c.f, .int .i64 o.n, .slice A4 o.m c4, .int .i64 a, .int .i64 1, .int .i64 (-1), .int .i64 (-1)]) rfl (by kernel_rfl) (by kernel_rfl) (by kernel_rfl) (fun _ _ _ h => h) (Or.inl ⟨by rfl, fun Wz hW => by obtain ⟨s1, s2, s3, s4, s5⟩ := hW; go_simp⟩) hHeld ?_
  simp only [Act.put, List.getElem_toArray, List.getElem_cons_succ, List.getElem_cons_zero, List.setIfInBounds_toArray, List.set_cons_zero, List.set_cons_succ]
  refine wpAnyH_ready (rs := [13]) (by kernel_rfl) (by simp) ?_
  refine AllReadyH.cons rfl (fun K hK => ?_) AllReadyH.nil
  simp only [List.getElem_toArray, List.getElem_cons_succ, List.getElem_cons_zero]
  rw [if_pos (by rfl)]
  go_simp
  refine hK.out _ _ ?_ (fun hHeld => ?_)
  · exact ⟨(put9_other (⟨o.i, c.p, c.f, o.n, A4, o.m, c4, o.Z, a, 1, -1, -1⟩ : PodV) (by omega)).trans o1', (put9_other (⟨o.i, c.p, c.f, o.n, A4, o.m, c4, o.Z, a, 1, -1, -1⟩ : PodV) (by omega)).trans o3', (put9_other (⟨o.i, c.p, c.f, o.n, A4, o.m, c4, o.Z, a, 1, -1, -1⟩ : PodV) (by omega)).trans (K4.out.cell o5), (put9_other (⟨o.i, c.p, c.f, o.n, A4, o.m, c4, o.Z, a, 1, -1, -1⟩ : PodV) (by omega)).trans z1', (put9_other (⟨o.i, c.p, c.f, o.n, A4, o.m, c4, o.Z, a, 1, -1, -1⟩ : PodV) (by omega)).trans z2'⟩
  clear hK K
  try simp only [Act.put, List.getElem_toArray, List.getElem_cons_succ, List.getElem_cons_zero, List.setIfInBounds_toArray, List.set_cons_zero, List.set_cons_succ]
  refine wpAnyH_take (i := 14) (v := .nilIface) rfl (by kernel_rfl) (by kernel_rfl) (by kernel_rfl) (fun _ _ _ h => h) (Or.inl ⟨by rfl, fun Wz hW => by obtain ⟨s1, s2, s3, s4, s5⟩ := hW; go_simp⟩) hHeld ?_
  simp only [Act.put, List.getElem_toArray, List.getElem_cons_succ, List.getElem_cons_zero, List.setIfInBounds_toArray, List.set_cons_zero, List.set_cons_succ]
  refine wpAnyH_done (by kernel_rfl) ?_ _
  have B5 : Hid ((put9 w4 r ⟨o.i, c.p, c.f, o.n, A4, o.m, c4, o.Z, a, 1, -1, -1⟩).heap[r]? = some (.cells (podB ⟨o.i, c.p, c.f, o.n, A4, o.m, c4, o.Z, a, 1, -1, -1⟩) 47 (0, 0))) := put9_heap _ zpod (K4.out.block B2.out)
  have hwr : w.heap.size ≤ r := by have := hr.out; omega
  have K5 : Hid (Keep w (put9 w4 r ⟨o.i, c.p, c.f, o.n, A4, o.m, c4, o.Z, a, 1, -1, -1⟩)) := put9_keep _ (K2.out.trans K4.out) hwr
  have O5 : Hid ((put9 w4 r ⟨o.i, c.p, c.f, o.n, A4, o.m, c4, o.Z, a, 1, -1, -1⟩).ownsRow w.heap.size 2 1 (.slice A4 o.m c4) o.m (rowL o.m o.Z)) := by
    refine own_base (base := W.heap.size) ?_ K2.out.size
    refine own_blocks1 O4.out fun g hg => ?_
    have hgl := (O4.out.lt g hg).1
    have hrl := lt_of_block B2.out
    exact put9_block _ (by omega)
  go_wp2
  obtain ⟨e0, e1, e2, e3, e4, e5, e6, e7, e8, _⟩ := blk9 B5.out
  unfold put9 at *
  refine bodyPost_ret (v := .tuple #[.agg #[.int .i64 o.i, .int .i64 c.p, .bool c.f, .int .i64 o.n, .slice A4 o.m c4, .int .i64 a, .int .i64 1, .int .i64 (-1), .int .i64 (-1)], .nilIface]) (by simp [results, Tryd.results19, go_sem, e0, e1, e2, e3, e4, e5, e6, e7, e8]) rfl ⟨A4, c4, rfl, K5.out, O5.out⟩
end
end Go.Proofs.YtmbeghngnnpmlaaDoor.T11
