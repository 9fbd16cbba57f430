/-
  The order of classes by a closure; the least of a row by it. Condition: the classes lie in ascending order of their ids.
-/
import Derived.Test.YtmbeghngnnpmlaaDoorGr11
import Derived.Laws.EntriesVeiled
import Derived.Deep.QuietTactic
import Derived.BigQuiet
namespace Go.Proofs.YtmbeghngnnpmlaaDoor.T11
open Go.RowKit Go.Sort Go.Lib Go.Shelf

def cmpI (a b : Int) : Int := if a < b then -1 else if b < a then 1 else 0
set_option maxHeartbeats 1000000 in
theorem nan_fn (x : Int) (w : World) : Calls Tryd.prog 43 #[.int .i64 x] w fun e w' => e = .returned (.bool false) ∧ w = w' := by
  go_enter Tryd.func43, Tryd.ntmps43
  go_wp2
  go_ret
  exact ⟨rfl, rfl⟩
set_option maxHeartbeats 1000000 in
theorem compare_fn (x y : Int) (w : World) : Calls Tryd.prog 33 #[.int .i64 x, .int .i64 y] w fun e w' => e = .returned (.int .i64 (cmpI x y)) ∧ w = w' := by
  by_cases h1 : x < y
  · rw [show cmpI x y = -1 from if_pos h1]
    go_enter Tryd.func33, Tryd.ntmps33
    go_wp2_with fail
    refine (nan_fn x w).mono ?_
    rintro e w1 ⟨rfl, rfl⟩
    go_wp2_with fail
    refine (nan_fn y w).mono ?_
    rintro e w1 ⟨rfl, rfl⟩
    go_wp2
    go_ret
    exact ⟨rfl, rfl⟩
  · by_cases h2 : y < x
    · rw [show cmpI x y = 1 from (if_neg h1).trans (if_pos h2)]
      go_enter Tryd.func33, Tryd.ntmps33
      go_wp2_with fail
      refine (nan_fn x w).mono ?_
      rintro e w1 ⟨rfl, rfl⟩
      go_wp2_with fail
      refine (nan_fn y w).mono ?_
      rintro e w1 ⟨rfl, rfl⟩
      go_wp2
      go_ret
      exact ⟨rfl, rfl⟩
    · rw [show cmpI x y = 0 from (if_neg h1).trans (if_neg h2)]
      go_enter Tryd.func33, Tryd.ntmps33
      go_wp2_with fail
      refine (nan_fn x w).mono ?_
      rintro e w1 ⟨rfl, rfl⟩
      go_wp2_with fail
      refine (nan_fn y w).mono ?_
      rintro e w1 ⟨rfl, rfl⟩
      go_wp2
      go_ret
      exact ⟨rfl, rfl⟩
/-- The first of two that is not 0. -/
def or2 (x y : Int) : Int := if x ≠ 0 then x else y
set_option maxHeartbeats 2000000 in
theorem or_fn (b c : Nat) (x y : Int) (w : World) (h0 : w.cell? ⟨b, 0, none⟩ = some (.int .i64 x)) (h1 : w.cell? ⟨b, 1, none⟩ = some (.int .i64 y)) :
    Calls Tryd.prog 32 #[.slice (some ⟨b, 0, none⟩) 2 c] w fun e w' => e = .returned (.int .i64 (or2 x y)) ∧ w = w' := by
  go_enter Tryd.func32, Tryd.ntmps32
  go_wp2
  go_loopg [8] 2 (fun gx i wr => ∃ j : Nat, j ≤ 2 ∧ gx = 2 - j ∧ i = .int .i64 j ∧ Hid (w = wr) ∧ Hid ((0 < j → x = 0) ∧ (1 < j → y = 0)))
  case atStart => exact ⟨0, by omega, rfl, rfl, rfl, ⟨fun h => by omega, fun h => by omega⟩⟩
  case round =>
    obtain ⟨j, hj, rfl, rfl, hw, HI⟩ := hrel
    have hw := hw.out
    subst hw
    obtain rfl | rfl | rfl : j = 0 ∨ j = 1 ∨ j = 2 := by omega
    · by_cases hx : x = 0
      · have H1 := Lib.hid hx
        have hb : (x != 0) = false := by simp [hx]
        clear hx
        go_wp2
        go_roundg 1
        case measure => omega
        case rel => exact ⟨1, by omega, rfl, rfl, rfl, ⟨fun _ => H1.out, fun h => by omega⟩⟩
      · have hb : (x != 0) = true := by simpa using hx
        have e : Hid (or2 x y = x) := if_pos hx
        go_wp2
        go_ret
        exact ⟨by rw [e.out]; rfl, rfl⟩
    · by_cases hx : y = 0
      · have H1 := Lib.hid hx
        have hb : (y != 0) = false := by simp [hx]
        clear hx
        go_wp2
        go_roundg 0
        case measure => omega
        case rel => exact ⟨2, by omega, rfl, rfl, rfl, ⟨fun _ => HI.out.1 (by omega), fun _ => H1.out⟩⟩
      · have hb : (y != 0) = true := by simpa using hx
        have e : Hid (or2 x y = y) := by show _ = _; unfold or2; rw [if_neg (by simp [HI.out.1 (by omega)])]
        go_wp2
        go_ret
        exact ⟨by rw [e.out]; rfl, rfl⟩
    · have e : Hid (or2 x y = 0) := by show _ = _; unfold or2; rw [if_neg (by simp [HI.out.1 (by omega)]), HI.out.2 (by omega)]
      go_wp2
      go_ret
      exact ⟨by rw [e.out]; rfl, rfl⟩
/-- Below 0: x is before y. -/
def cmpC (x y : ClV) : Int := or2 (cmpI y.p x.p) (cmpI x.k y.k)
theorem cmpC_neg {x y : ClV} (h : y.k < x.k) : cmpC x y < 0 ↔ y.p < x.p := by
  unfold cmpC or2 cmpI
  repeat' split
  all_goals omega
set_option maxRecDepth 100000 in
set_option maxHeartbeats 4000000 in
theorem highD_fn (x y : ClV) (w : World) : Calls Tryd.prog 31 #[x.val, y.val] w fun e w' => e = .returned (.int .i64 (cmpC x y)) ∧ Gr w w' := by
  have h1 := fun W => compare_fn y.p x.p W
  have h2 := fun W => compare_fn x.k y.k W
  unfold cmpC
  generalize cmpI y.p x.p = u at h1 ⊢
  generalize cmpI x.k y.k = v at h2 ⊢
  have ho := fun b c W => or_fn b c u v W
  generalize or2 u v = r at ho ⊢
  unfold ClV.val
  replace h1 := Lib.hid h1
  replace h2 := Lib.hid h2
  replace ho := Lib.hid ho
  go_enter Tryd.func31, Tryd.ntmps31
  go_wp2_with fail
  have g0 := ((Gr.refl w).alloc (.cells #[.int .i64 x.k, .int .i64 x.p, .bool x.f] 30)).alloc (.cells #[.int .i64 y.k, .int .i64 y.p, .bool y.f] 30)
  obtain ⟨w0, hw0⟩ : ∃ w0, w0 = (w.alloc (.cells #[.int .i64 x.k, .int .i64 x.p, .bool x.f] 30)).alloc (.cells #[.int .i64 y.k, .int .i64 y.p, .bool y.f] 30) := ⟨_, rfl⟩
  have x0 : w0.cell? ⟨w.heap.size, 0, none⟩ = some (.int .i64 x.k) := by rw [hw0]; simp (maxDischargeDepth := 12) [go_sem]
  have x1 : w0.cell? ⟨w.heap.size, 1, none⟩ = some (.int .i64 x.p) := by rw [hw0]; simp (maxDischargeDepth := 12) [go_sem]
  have y0 : w0.cell? ⟨w.heap.size + 1, 0, none⟩ = some (.int .i64 y.k) := by rw [hw0]; simp (maxDischargeDepth := 12) [go_sem]
  have y1 : w0.cell? ⟨w.heap.size + 1, 1, none⟩ = some (.int .i64 y.p) := by rw [hw0]; simp (maxDischargeDepth := 12) [go_sem]
  rw [← hw0] at g0 ⊢
  replace g0 := Lib.hid g0
  replace hw0 := Lib.hid hw0
  generalize w.heap.size = q at *
  go_region_held3 (fun w' => w'.cell? ⟨q, 0, none⟩ = some (.int .i64 x.k) ∧ w'.cell? ⟨q, 1, none⟩ = some (.int .i64 x.p) ∧ w'.cell? ⟨q + 1, 0, none⟩ = some (.int .i64 y.k) ∧ w'.cell? ⟨q + 1, 1, none⟩ = some (.int .i64 y.p))
      ((refine (fun (K : Gr w0 _) => ⟨K.cell x0, K.cell x1, K.cell y0, K.cell y1⟩) ?_; repeat (with_reducible first | exact Gr.refl w0 | apply Gr.alloc | apply Gr.drew | apply Gr.drewN)))
      (first
        | (go_at_call_of 33 (Value.int IntKind.i64 y.p); refine (h1.out _).mono ?_; rintro e w1 ⟨rfl, rfl⟩)
        | (go_at_call_of 33 (Value.int IntKind.i64 x.k); refine (h2.out _).mono ?_; rintro e w1 ⟨rfl, rfl⟩)
        | (go_at_call 32; refine (ho.out _ _ _ (by simp) (by simp)).mono ?_; rintro e w4 ⟨rfl, rfl⟩))
  all_goals
    go_wp2
    go_ret
    refine ⟨rfl, g0.out.trans ?_⟩
    repeat (with_reducible first | exact Gr.refl w0 | apply Gr.alloc | apply Gr.drew | apply Gr.drewN)

/-- The place of the first of the greatest priorities. -/
def bst (P : Nat → ClV) : Nat → Nat
  | 0 => 0
  | n + 1 => if n = 0 then 0 else if (P (bst P n)).p < (P n).p then n else bst P n
theorem bst_lt (P : Nat → ClV) : ∀ {n}, 0 < n → bst P n < n
  | n + 1, _ => by
    unfold bst
    split
    · omega
    · split
      · omega
      · have := bst_lt P (n := n) (by omega); omega
theorem bst_max (P : Nat → ClV) : ∀ {n j}, j < n → (P j).p ≤ (P (bst P n)).p
  | n + 1, j, h => by
    unfold bst
    split
    · obtain rfl : j = 0 := by omega
      omega
    · split
      · by_cases e : j = n
        · subst e; omega
        · have := bst_max P (n := n) (j := j) (by omega); omega
      · by_cases e : j = n
        · subst e; omega
        · exact bst_max P (n := n) (j := j) (by omega)
theorem bst_first (P : Nat → ClV) : ∀ {n j}, j < bst P n → (P j).p < (P (bst P n)).p
  | 0, j, h => by unfold bst at h; omega
  | n + 1, j, h => by
    unfold bst at h ⊢
    split at h
    · omega
    · rename_i h0
      rw [if_neg h0]
      split at h
      · rename_i h1
        rw [if_pos h1]
        have := bst_max P (n := n) (j := j) h
        omega
      · rename_i h1
        rw [if_neg h1]
        exact bst_first P (n := n) h
theorem bst_step {P : Nat → ClV} {n : Nat} (h : 0 < n) : bst P (n + 1) = if (P (bst P n)).p < (P n).p then n else bst P n := by
  conv => lhs; unfold bst
  rw [if_neg (by omega)]
theorem lt_of_block {w : World} {k : Nat} {o : Obj} (h : w.heap[k]? = some o) : k < w.heap.size := (Array.getElem?_eq_some_iff.1 h).1
theorem tri_set {w : World} {s : Nat} {p q r u : Value} (h : w.heap[s]? = some (.cells #[p, q, r] 30 (0, 0))) :
    (w.setCell ⟨s, 0, none⟩ u).heap[s]? = some (.cells #[u, q, r] 30 (0, 0)) ∧ (w.setCell ⟨s, 1, none⟩ u).heap[s]? = some (.cells #[p, u, r] 30 (0, 0)) ∧ (w.setCell ⟨s, 2, none⟩ u).heap[s]? = some (.cells #[p, q, u] 30 (0, 0)) := by
  have hlt := lt_of_block h
  have h' : w.heap[s] = .cells #[p, q, r] 30 (0, 0) := by simpa [Array.getElem?_eq_getElem hlt] using h
  refine ⟨?_, ?_, ?_⟩
  all_goals
    show (w.heap.modify s _)[s]? = _
    rw [Array.getElem?_eq_getElem (by simpa using hlt), Array.getElem_modify_self, h']
    rfl
theorem set3_heap {w : World} {s : Nat} {p q r : Value} (x : ClV) (h : w.heap[s]? = some (.cells #[p, q, r] 30 (0, 0))) :
    (((w.setCell ⟨s, 0, none⟩ (.int .i64 x.k)).setCell ⟨s, 1, none⟩ (.int .i64 x.p)).setCell ⟨s, 2, none⟩ (.bool x.f)).heap[s]? = some (.cells #[.int .i64 x.k, .int .i64 x.p, .bool x.f] 30 (0, 0)) :=
  (tri_set (tri_set (tri_set h).1).2.1).2.2
theorem set3_keep {w0 w : World} {s : Nat} (x : ClV) (k : Keep w0 w) (hs : w0.heap.size ≤ s) : Keep w0 (((w.setCell ⟨s, 0, none⟩ (.int .i64 x.k)).setCell ⟨s, 1, none⟩ (.int .i64 x.p)).setCell ⟨s, 2, none⟩ (.bool x.f)) :=
  ((k.set hs _).set hs _).set hs _
theorem cel_block {w : World} {s : Nat} {x : ClV} (h : w.heap[s]? = some (.cells #[.int .i64 x.k, .int .i64 x.p, .bool x.f] 30 (0, 0))) : w.cell? ⟨s, 0, none⟩ = some (.int .i64 x.k) ∧ w.cell? ⟨s, 1, none⟩ = some (.int .i64 x.p) ∧ w.cell? ⟨s, 2, none⟩ = some (.bool x.f) := by
  refine ⟨?_, ?_, ?_⟩ <;> rw [cell_of_row w s _ _ _ _ h] <;> rfl
set_option maxRecDepth 100000 in
set_option maxHeartbeats 8000000 in
theorem minfunc_any (f : FuncId) (ef : ∀ args w, (callFunc f args).run Tryd.prog w = .ok (.enter f args) w) (hf : ∀ (x y : ClV) (w : World), Calls Tryd.prog f #[x.val, y.val] w fun e w' => e = .returned (.int .i64 (cmpC x y)) ∧ Gr w w') (A : Option Addr) (n c : Nat) (P : Nat → ClV) (w : World) (hR : RdC w A n P) (hn : 0 < n) (hs : ∀ i j, i < j → j < n → (P i).k < (P j).k) :
    Calls Tryd.prog 34 #[.slice A n c, .func (.func f) #[] #[]] w fun e w' => e = .returned (P (bst P n)).val ∧ Keep w w' := by
  have mixed : Tryd.prog.follows .mixedOrders = true := by kernel_rfl
  replace hf := Lib.hid hf
  have hsm := hR.small
  replace hR := Lib.hid hR
  replace hs := Lib.hid hs
  obtain ⟨b, off, hA, ca⟩ := hR.out.adr hn
  subst hA
  have q0 := atC b off n c 0 hn
  rw [Nat.zero_mul, Nat.add_zero] at q0
  have X := ca 0 hn
  rw [Nat.zero_mul, Nat.add_zero] at X
  have x0 := X.e0; have x1 := X.e1; have x2 := X.e2
  have hbl := cell_lt x0
  clear X
  replace ca := Lib.hid ca
  obtain ⟨y0, hy0⟩ : ∃ y, y = P 0 := ⟨_, rfl⟩
  rw [← hy0] at x0 x1 x2
  replace hy0 := Lib.hid hy0
  obtain ⟨W0, hW0⟩ : ∃ W0, W0 = (w.alloc (.cells #[.int .i64 0, .int .i64 0, .bool false] 30)).alloc (.cells #[.int .i64 y0.k, .int .i64 y0.p, .bool y0.f] 30) := ⟨_, rfl⟩
  have K0 : Hid (Keep w W0) := by rw [hW0]; exact (Keep.one _ _).alloc _
  have B0 : Hid (W0.heap[w.heap.size]? = some (.cells #[.int .i64 0, .int .i64 0, .bool false] 30 (0, 0))) := by rw [hW0]; exact (Keep.one _ _).block (heap_alloc_new _ _)
  have B1 : Hid (W0.heap[w.heap.size + 1]? = some (.cells #[.int .i64 y0.k, .int .i64 y0.p, .bool y0.f] 30 (0, 0))) := by
    rw [hW0]
    have := heap_alloc_new (w.alloc (.cells #[.int .i64 0, .int .i64 0, .bool false] 30)) (.cells #[.int .i64 y0.k, .int .i64 y0.p, .bool y0.f] 30)
    rwa [World.size_alloc] at this
  go_enter Tryd.func34, Tryd.ntmps34
  go_wp2
  rw [← hW0]
  replace hW0 := Lib.hid hW0
  clear x0 x1 x2 q0
  obtain ⟨s, hs1⟩ : ∃ s, s = w.heap.size + 1 := ⟨_, rfl⟩
  obtain ⟨r, hr1⟩ : ∃ r, r = w.heap.size := ⟨_, rfl⟩
  rw [← hr1]
  rw [← hr1] at hs1
  rw [← hs1]
  replace hs1 := Lib.hid hs1
  replace hr1 := Lib.hid hr1
  go_loopg [6] (n - 1) (fun gx s6 wr => ∃ (j : Nat) (y z : ClV), 1 ≤ j ∧ j ≤ n ∧ gx = n - j ∧ s6 = .int .i64 j ∧ Hid (Keep w wr) ∧ Hid (y = P (bst P j)) ∧ Hid (wr.heap[s]? = some (.cells #[.int .i64 y.k, .int .i64 y.p, .bool y.f] 30 (0, 0))) ∧ Hid (wr.heap[r]? = some (.cells #[.int .i64 0, .int .i64 0, .bool false] 30 (0, 0))))
  case atStart => exact ⟨1, y0, y0, Nat.le_refl _, hn, rfl, rfl, K0, hy0.out, by rw [hs1.out, hr1.out]; exact B1.out, by rw [hr1.out]; exact B0.out⟩
  case round =>
    obtain ⟨j, y, z, hj1, hj, rfl, rfl, KR, hy, BS, BR⟩ := hrel
    obtain ⟨c0, c1, c2⟩ := cel_block BS.out
    have f0 := fun i => frozen_of_row wr s i _ _ BS.out
    by_cases hlt : j < n
    · have q1 := atC b off n c j hlt
      have X := (ca.out j hlt).keep KR.out
      obtain ⟨x, hx⟩ : ∃ x, x = P j := ⟨_, rfl⟩
      rw [← hx] at X
      have x0 := X.e0; have x1 := X.e1; have x2 := X.e2
      have X1 := Lib.hid X
      clear X
      have hxy : y.k < x.k := by rw [hy.out, hx]; exact hs.out _ _ (by have := bst_lt P (n := j) (by omega); omega) hlt
      have hk : ∀ (n : Nat) (os : Array Obj), Calls Tryd.prog f #[x.val, y.val] (grow (wr.drewN n) os) fun e w' => e = .returned (.int .i64 (cmpC x y)) ∧ ∃ q os', w' = grow ((grow (wr.drewN n) os).drewN q) os' := fun n os => hf.out x y _
      have hc := cmpC_neg hxy
      have hb := bst_step (P := P) (n := j) (by omega)
      rw [← hy.out, ← hx] at hb
      obtain ⟨v, hv⟩ : ∃ v, v = cmpC x y := ⟨_, rfl⟩
      rw [← hv] at hk hc
      unfold ClV.val at hk
      replace hv := Lib.hid hv
      replace hxy := Lib.hid hxy
      have x0 := grows x0; have x1 := grows x1; have x2 := grows x2
      have c0 := grows c0; have c1 := grows c1; have c2 := grows c2
      by_cases hp : y.p < x.p
      · have hd : decide (v < 0) = true := decide_eq_true (hc.2 hp)
        rw [if_pos hp] at hb
        have hb2 : Hid (x = P (bst P (j + 1))) := by show _ = _; rw [hb]; exact hx
        replace hx := Lib.hid hx
        replace hb := Lib.hid hb
        replace hc := Lib.hid hc
        replace hp := Lib.hid hp
        go_wp2_with fail
        go_quiet_grown (first | (go_at_fn f; refine Calls.grown_of (hk _ _)))
        have G2 : Hid (Gr wr (grow (wr.drewN nq) osq)) := ⟨nq, osq, rfl⟩
        clear x0 x1 x2 c0 c1 c2 f0 hk
        generalize grow (wr.drewN nq) osq = w2 at G2 ⊢
        have K2 : Hid (Keep w w2) := KR.out.trans G2.out.keep
        have BS2 : Hid (w2.heap[s]? = some (.cells #[.int .i64 y.k, .int .i64 y.p, .bool y.f] 30 (0, 0))) := G2.out.keep.block BS.out
        have BR2 : Hid (w2.heap[r]? = some (.cells #[.int .i64 0, .int .i64 0, .bool false] 30 (0, 0))) := G2.out.keep.block BR.out
        have X2 := X1.out.keep G2.out.keep
        have x0 := X2.e0; have x1 := X2.e1; have x2 := X2.e2
        clear X2
        obtain ⟨c0, c1, c2⟩ := cel_block BS2.out
        have f0 := fun i => frozen_of_row w2 s i _ _ BS2.out
        have hsl : Hid (w.heap.size ≤ s) := by show _ ≤ _; rw [hs1.out, hr1.out]; omega
        have hsr : Hid (r ≠ s) := by show _ ≠ _; rw [hs1.out]; omega
        have K3 : Hid (Keep w (((w2.setCell ⟨s, 0, none⟩ (.int .i64 x.k)).setCell ⟨s, 1, none⟩ (.int .i64 x.p)).setCell ⟨s, 2, none⟩ (.bool x.f))) := set3_keep x K2.out hsl.out
        have BS3 : Hid ((((w2.setCell ⟨s, 0, none⟩ (.int .i64 x.k)).setCell ⟨s, 1, none⟩ (.int .i64 x.p)).setCell ⟨s, 2, none⟩ (.bool x.f)).heap[s]? = some (.cells #[.int .i64 x.k, .int .i64 x.p, .bool x.f] 30 (0, 0))) := set3_heap x BS2.out
        have BR3 : Hid ((((w2.setCell ⟨s, 0, none⟩ (.int .i64 x.k)).setCell ⟨s, 1, none⟩ (.int .i64 x.p)).setCell ⟨s, 2, none⟩ (.bool x.f)).heap[r]? = some (.cells #[.int .i64 0, .int .i64 0, .bool false] 30 (0, 0))) := by
          show _ = _
          rw [Below.heap_setCell _ _ _ _ hsr.out, Below.heap_setCell _ _ _ _ hsr.out, Below.heap_setCell _ _ _ _ hsr.out]
          exact BR2.out
        go_wp2
        go_roundg (n - (j + 1))
        case measure => omega
        case rel => exact ⟨j + 1, x, z, by omega, hlt, rfl, by go_num, K3, hb2, BS3, BR3⟩
      · have hd : decide (v < 0) = false := decide_eq_false (by rw [hc]; exact hp)
        rw [if_neg hp] at hb
        have hb2 : Hid (y = P (bst P (j + 1))) := by show _ = _; rw [hb]; exact hy.out
        replace hx := Lib.hid hx
        replace hb := Lib.hid hb
        replace hc := Lib.hid hc
        replace hp := Lib.hid hp
        go_wp2_with fail
        go_quiet_grown (first | (go_at_fn f; refine Calls.grown_of (hk _ _)))
        have G2 : Hid (Gr wr (grow (wr.drewN nq) osq)) := ⟨nq, osq, rfl⟩
        clear x0 x1 x2 c0 c1 c2 f0 hk
        generalize grow (wr.drewN nq) osq = w2 at G2 ⊢
        have K2 : Hid (Keep w w2) := KR.out.trans G2.out.keep
        have BS2 : Hid (w2.heap[s]? = some (.cells #[.int .i64 y.k, .int .i64 y.p, .bool y.f] 30 (0, 0))) := G2.out.keep.block BS.out
        have BR2 : Hid (w2.heap[r]? = some (.cells #[.int .i64 0, .int .i64 0, .bool false] 30 (0, 0))) := G2.out.keep.block BR.out
        go_wp2
        go_roundg (n - (j + 1))
        case measure => omega
        case rel => exact ⟨j + 1, y, z, by omega, hlt, rfl, by go_num, K2, hb2, BS2, BR2⟩
    · obtain rfl : j = n := by omega
      have hr0 : Hid (w.heap.size ≤ r) := by show _ ≤ _; rw [hr1.out]; exact Nat.le_refl _
      obtain ⟨d0, d1, d2⟩ := cel_block (x := zp) BR.out
      have g0 := fun i => frozen_of_row wr r i _ _ BR.out
      have BR4 : Hid ((((wr.setCell ⟨r, 0, none⟩ (.int .i64 y.k)).setCell ⟨r, 1, none⟩ (.int .i64 y.p)).setCell ⟨r, 2, none⟩ (.bool y.f)).heap[r]? = some (.cells #[.int .i64 y.k, .int .i64 y.p, .bool y.f] 30 (0, 0))) := set3_heap y BR.out
      have K4 : Hid (Keep w (((wr.setCell ⟨r, 0, none⟩ (.int .i64 y.k)).setCell ⟨r, 1, none⟩ (.int .i64 y.p)).setCell ⟨r, 2, none⟩ (.bool y.f))) := set3_keep y KR.out hr0.out
      go_wp2
      obtain ⟨e0, e1, e2⟩ := cel_block BR4.out
      refine bodyPost_ret (v := .agg #[.int .i64 y.k, .int .i64 y.p, .bool y.f]) (by simp [results, Tryd.results34, go_sem, e0, e1, e2]) rfl ⟨by rw [← hy.out]; rfl, K4.out⟩
theorem minfunc_fn (A : Option Addr) (n c : Nat) (P : Nat → ClV) (w : World) (hR : RdC w A n P) (hn : 0 < n) (hs : ∀ i j, i < j → j < n → (P i).k < (P j).k) :
    Calls Tryd.prog 34 #[.slice A n c, .func (.func 31) #[] #[]] w fun e w' => e = .returned (P (bst P n)).val ∧ Keep w w' :=
  minfunc_any 31 (enters_of Tryd.func31 (by kernel_rfl) rfl) highD_fn A n c P w hR hn hs
end Go.Proofs.YtmbeghngnnpmlaaDoor.T11
