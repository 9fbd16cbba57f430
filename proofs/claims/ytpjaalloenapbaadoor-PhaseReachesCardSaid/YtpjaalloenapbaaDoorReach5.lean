/-
  The walk of PhaseReaches. Condition: the table of names holds its own.
-/
import Derived.Test.YtpjaalloenapbaaDoorAwake5
namespace Go.Proofs.YtpjaalloenapbaaDoor
open Go.RowKit Go.Extern.Stop Go.Stop Go.Extern

/-- Five paths and the row of them, laid one after another. -/
def six (w : World) : World :=
  ((((((w.alloc (.cells #[] 3)).alloc (.cells #[.int .i64 2] 3)).alloc (.cells #[.int .i64 1] 3)).alloc (.cells #[.int .i64 1, .int .i64 4] 3)).alloc (.cells #[.int .i64 1, .int .i64 5] 3)).alloc
    (.cells #[.slice (some ⟨w.heap.size, 0, none⟩) 0 0, .slice (some ⟨w.heap.size + 1, 0, none⟩) 1 1, .slice (some ⟨w.heap.size + 1 + 1, 0, none⟩) 1 1, .slice (some ⟨w.heap.size + 1 + 1 + 1, 0, none⟩) 2 2, .slice (some ⟨w.heap.size + 1 + 1 + 1 + 1, 0, none⟩) 2 2] 27))
theorem size_alloc (w : World) (o : Obj) : (w.alloc o).heap.size = w.heap.size + 1 := by
  show (w.heap.push o).size = _
  simp
theorem six_keep (w : World) : Keep w (six w) := ((((((Keep.one w _).alloc _).alloc _).alloc _).alloc _).alloc _)
theorem six_rd0 (w : World) : Rd (six w) (some ⟨w.heap.size, 0, none⟩) 0 (fun j => ([] : List Int).getD j 0) := by
  have h := Rd.lits (w := w) (T := 3) [] (by decide) (by decide) #[] rfl

  exact h.keep (((((Keep.one _ _).alloc _).alloc _).alloc _).alloc _)
theorem six_cell0 (w : World) : (six w).cell? ⟨w.heap.size + 1 + 1 + 1 + 1 + 1, 0, none⟩ = some (.slice (some ⟨w.heap.size, 0, none⟩) 0 0) := by
  unfold six
  rw [← size_alloc w (.cells #[] 3), ← size_alloc _ (.cells #[.int .i64 2] 3), ← size_alloc _ (.cells #[.int .i64 1] 3), ← size_alloc _ (.cells #[.int .i64 1, .int .i64 4] 3), ← size_alloc _ (.cells #[.int .i64 1, .int .i64 5] 3), World.cell?_alloc_new]
  rfl
theorem six_run0 : runP 1 (fun j => ([] : List Int).getD j 0) 0 = (1, 0) := by decide +kernel
theorem six_rd1 (w : World) : Rd (six w) (some ⟨w.heap.size + 1, 0, none⟩) 1 (fun j => ([2] : List Int).getD j 0) := by
  have h := Rd.lits (w := (w.alloc (.cells #[] 3))) (T := 3) [2] (by decide) (by decide) #[.int .i64 2] rfl
  simp only [size_alloc] at h
  exact h.keep ((((Keep.one _ _).alloc _).alloc _).alloc _)
theorem six_cell1 (w : World) : (six w).cell? ⟨w.heap.size + 1 + 1 + 1 + 1 + 1, 1, none⟩ = some (.slice (some ⟨w.heap.size + 1, 0, none⟩) 1 1) := by
  unfold six
  rw [← size_alloc w (.cells #[] 3), ← size_alloc _ (.cells #[.int .i64 2] 3), ← size_alloc _ (.cells #[.int .i64 1] 3), ← size_alloc _ (.cells #[.int .i64 1, .int .i64 4] 3), ← size_alloc _ (.cells #[.int .i64 1, .int .i64 5] 3), World.cell?_alloc_new]
  rfl
theorem six_run1 : runP 1 (fun j => ([2] : List Int).getD j 0) 1 = (2, 1) := by decide +kernel
theorem six_rd2 (w : World) : Rd (six w) (some ⟨w.heap.size + 1 + 1, 0, none⟩) 1 (fun j => ([1] : List Int).getD j 0) := by
  have h := Rd.lits (w := ((w.alloc (.cells #[] 3)).alloc (.cells #[.int .i64 2] 3))) (T := 3) [1] (by decide) (by decide) #[.int .i64 1] rfl
  simp only [size_alloc] at h
  exact h.keep (((Keep.one _ _).alloc _).alloc _)
theorem six_cell2 (w : World) : (six w).cell? ⟨w.heap.size + 1 + 1 + 1 + 1 + 1, 2, none⟩ = some (.slice (some ⟨w.heap.size + 1 + 1, 0, none⟩) 1 1) := by
  unfold six
  rw [← size_alloc w (.cells #[] 3), ← size_alloc _ (.cells #[.int .i64 2] 3), ← size_alloc _ (.cells #[.int .i64 1] 3), ← size_alloc _ (.cells #[.int .i64 1, .int .i64 4] 3), ← size_alloc _ (.cells #[.int .i64 1, .int .i64 5] 3), World.cell?_alloc_new]
  rfl
theorem six_run2 : runP 1 (fun j => ([1] : List Int).getD j 0) 1 = (3, 1) := by decide +kernel
theorem six_rd3 (w : World) : Rd (six w) (some ⟨w.heap.size + 1 + 1 + 1, 0, none⟩) 2 (fun j => ([1, 4] : List Int).getD j 0) := by
  have h := Rd.lits (w := (((w.alloc (.cells #[] 3)).alloc (.cells #[.int .i64 2] 3)).alloc (.cells #[.int .i64 1] 3))) (T := 3) [1, 4] (by decide) (by decide) #[.int .i64 1, .int .i64 4] rfl
  simp only [size_alloc] at h
  exact h.keep ((Keep.one _ _).alloc _)
theorem six_cell3 (w : World) : (six w).cell? ⟨w.heap.size + 1 + 1 + 1 + 1 + 1, 3, none⟩ = some (.slice (some ⟨w.heap.size + 1 + 1 + 1, 0, none⟩) 2 2) := by
  unfold six
  rw [← size_alloc w (.cells #[] 3), ← size_alloc _ (.cells #[.int .i64 2] 3), ← size_alloc _ (.cells #[.int .i64 1] 3), ← size_alloc _ (.cells #[.int .i64 1, .int .i64 4] 3), ← size_alloc _ (.cells #[.int .i64 1, .int .i64 5] 3), World.cell?_alloc_new]
  rfl
theorem six_run3 : runP 1 (fun j => ([1, 4] : List Int).getD j 0) 2 = (4, 2) := by decide +kernel
theorem six_rd4 (w : World) : Rd (six w) (some ⟨w.heap.size + 1 + 1 + 1 + 1, 0, none⟩) 2 (fun j => ([1, 5] : List Int).getD j 0) := by
  have h := Rd.lits (w := ((((w.alloc (.cells #[] 3)).alloc (.cells #[.int .i64 2] 3)).alloc (.cells #[.int .i64 1] 3)).alloc (.cells #[.int .i64 1, .int .i64 4] 3))) (T := 3) [1, 5] (by decide) (by decide) #[.int .i64 1, .int .i64 5] rfl
  simp only [size_alloc] at h
  exact h.keep (Keep.one _ _)
theorem six_cell4 (w : World) : (six w).cell? ⟨w.heap.size + 1 + 1 + 1 + 1 + 1, 4, none⟩ = some (.slice (some ⟨w.heap.size + 1 + 1 + 1 + 1, 0, none⟩) 2 2) := by
  unfold six
  rw [← size_alloc w (.cells #[] 3), ← size_alloc _ (.cells #[.int .i64 2] 3), ← size_alloc _ (.cells #[.int .i64 1] 3), ← size_alloc _ (.cells #[.int .i64 1, .int .i64 4] 3), ← size_alloc _ (.cells #[.int .i64 1, .int .i64 5] 3), World.cell?_alloc_new]
  rfl
theorem six_run4 : runP 1 (fun j => ([1, 5] : List Int).getD j 0) 2 = (5, 2) := by decide +kernel

/-- Does one of the first j events apply? -/
def ap (p : Int) : Nat → Bool
  | 0 => false
  | j + 1 => ap p j || decide (nxt p j ≠ 0)
theorem ap_out {p : Int} (h : p < 1 ∨ 4 < p) : ap p 6 = false := by
  have h1 (e : Int) : nxt p e = 0 := nxt_phase h
  simp [ap, h1]
theorem ap_in {p : Int} (h1 : 1 ≤ p) (h4 : p ≤ 4) : ap p 6 = true := by
  have h := nxt5 h1 h4
  have h5 : nxt p (5 : Nat) = 5 := h
  simp only [ap]
  rw [h5]
  simp

set_option maxHeartbeats 4000000 in
theorem reach_walk (p : Int) (w : World) (hv : V5 w) : Calls Tryd.prog 7 #[.int .i64 p] w fun r w' => r = .returned (.bool true) ∧ Keep w w' := by
  go_enter Tryd.func7, Tryd.ntmps7
  go_wp2_with fail
  refine (awake_true w hv).mono ?_
  rintro r w1 ⟨rfl, k1⟩
  replace hv := Lib.hid hv
  replace k1 := Lib.hid k1
  go_wp2
  change Code.wp _ _ _ _ (six w1)
  have K0 := Lib.hid (k1.out.trans (six_keep w1))
  have r0 := Lib.hid (six_rd0 w1)
  have c0 := Lib.hid (six_cell0 w1)
  have r1 := Lib.hid (six_rd1 w1)
  have c1 := Lib.hid (six_cell1 w1)
  have r2 := Lib.hid (six_rd2 w1)
  have c2 := Lib.hid (six_cell2 w1)
  have r3 := Lib.hid (six_rd3 w1)
  have c3 := Lib.hid (six_cell3 w1)
  have r4 := Lib.hid (six_rd4 w1)
  have c4 := Lib.hid (six_cell4 w1)
  generalize six w1 = W at K0 c0 r0 c1 r1 c2 r2 c3 r3 c4 r4 ⊢
  go_loopg [4] 5 (fun g i wr => (g = 5 ∧ i = .int .i64 0 ∧ Hid (Keep W wr)) ∨ (g = 4 ∧ i = .int .i64 1 ∧ Hid (Keep W wr)) ∨ (g = 3 ∧ i = .int .i64 2 ∧ Hid (Keep W wr)) ∨ (g = 2 ∧ i = .int .i64 3 ∧ Hid (Keep W wr)) ∨ (g = 1 ∧ i = .int .i64 4 ∧ Hid (Keep W wr)) ∨ (g = 0 ∧ i = .int .i64 5 ∧ Hid (Keep W wr)))
  case atStart => exact Or.inl ⟨rfl, rfl, Keep.refl _⟩
  case round =>
    rcases hrel with ⟨rfl, rfl, k⟩ | ⟨rfl, rfl, k⟩ | ⟨rfl, rfl, k⟩ | ⟨rfl, rfl, k⟩ | ⟨rfl, rfl, k⟩ | ⟨rfl, rfl, k⟩
    · have c := k.out.cell c0.out
      go_wp2_with fail
      refine (run_fn 1 _ 0 0 _ _ (r0.out.keep k.out)).mono ?_
      rintro r w2 ⟨rfl, k2⟩
      have e1 := six_run0
      rw [e1]
      clear e1
      have d := k2.cell c
      clear c
      have K2 := Lib.hid (k.out.trans k2)
      replace k2 := Lib.hid k2
      go_wp2
      go_roundg 4
      case measure => omega
      case rel => exact Or.inr (Or.inl ⟨rfl, rfl, K2⟩)
    · have c := k.out.cell c1.out
      go_wp2_with fail
      refine (run_fn 1 _ 1 1 _ _ (r1.out.keep k.out)).mono ?_
      rintro r w2 ⟨rfl, k2⟩
      have e1 := six_run1
      rw [e1]
      clear e1
      have d := k2.cell c
      clear c
      have K2 := Lib.hid (k.out.trans k2)
      replace k2 := Lib.hid k2
      go_wp2
      go_roundg 3
      case measure => omega
      case rel => exact Or.inr (Or.inr (Or.inl ⟨rfl, rfl, K2⟩))
    · have c := k.out.cell c2.out
      go_wp2_with fail
      refine (run_fn 1 _ 1 1 _ _ (r2.out.keep k.out)).mono ?_
      rintro r w2 ⟨rfl, k2⟩
      have e1 := six_run2
      rw [e1]
      clear e1
      have d := k2.cell c
      clear c
      have K2 := Lib.hid (k.out.trans k2)
      replace k2 := Lib.hid k2
      go_wp2
      go_roundg 2
      case measure => omega
      case rel => exact Or.inr (Or.inr (Or.inr (Or.inl ⟨rfl, rfl, K2⟩)))
    · have c := k.out.cell c3.out
      go_wp2_with fail
      refine (run_fn 1 _ 2 2 _ _ (r3.out.keep k.out)).mono ?_
      rintro r w2 ⟨rfl, k2⟩
      have e1 := six_run3
      rw [e1]
      clear e1
      have d := k2.cell c
      clear c
      have K2 := Lib.hid (k.out.trans k2)
      replace k2 := Lib.hid k2
      go_wp2
      go_roundg 1
      case measure => omega
      case rel => exact Or.inr (Or.inr (Or.inr (Or.inr (Or.inl ⟨rfl, rfl, K2⟩))))
    · have c := k.out.cell c4.out
      go_wp2_with fail
      refine (run_fn 1 _ 2 2 _ _ (r4.out.keep k.out)).mono ?_
      rintro r w2 ⟨rfl, k2⟩
      have e1 := six_run4
      rw [e1]
      clear e1
      have d := k2.cell c
      clear c
      have K2 := Lib.hid (k.out.trans k2)
      replace k2 := Lib.hid k2
      go_wp2
      go_roundg 0
      case measure => omega
      case rel => exact Or.inr (Or.inr (Or.inr (Or.inr (Or.inr (⟨rfl, rfl, K2⟩)))))
    · clear c0 r0 c1 r1 c2 r2 c3 r3 c4 r4
      have K1 := Lib.hid (K0.out.trans k.out)
      clear k
      go_wp2
      go_loopg [7, 8] 5 (fun g a i wr => ∃ j : Nat, 1 ≤ j ∧ j ≤ 6 ∧ g = 6 - j ∧ i = .int .i64 j ∧ a = .bool (ap p j) ∧ Hid (Keep w wr))
      case atStart => exact ⟨1, by omega, by omega, rfl, rfl, by simp [ap, nxt_event (p := p) (e := 0) (by omega)], K1⟩
      case round =>
        obtain ⟨j, h1, h6, rfl, rfl, rfl, k⟩ := hrel
        by_cases hlt : j ≤ 5
        · go_wp2_with fail
          refine (next_fn p j _).mono ?_
          rintro r w2 ⟨rfl, k2⟩
          obtain ⟨x, hx⟩ : ∃ x, x = nxt p j := ⟨_, rfl⟩
          obtain ⟨y, hy⟩ : ∃ y, y = decide (nxt p j ≠ 0) := ⟨_, rfl⟩
          have e0 : Hid (ap p (j + 1) = (ap p j || y)) := by rw [hy]; rfl
          rw [← hy, ← hx]
          replace hx := Lib.hid hx
          replace hy := Lib.hid hy
          have K2 := Lib.hid (k.out.trans k2)
          replace k2 := Lib.hid k2
          cases hz : ap p j with
          | true =>
            rw [hz] at e0
            replace hz := Lib.hid hz
            go_wp2
            go_roundg (6 - (j + 1))
            case measure => omega
            case rel => exact ⟨j + 1, by omega, by omega, rfl, by go_num, by rw [e0.out]; rfl, K2⟩
          | false =>
            rw [hz] at e0
            replace hz := Lib.hid hz
            go_wp2
            go_roundg (6 - (j + 1))
            case measure => omega
            case rel => exact ⟨j + 1, by omega, by omega, rfl, by go_num, by rw [e0.out]; rfl, K2⟩
        · obtain rfl : j = 6 := by omega
          by_cases c1 : p < 1
          · rw [ap_out (Or.inl c1)]
            go_wp2
            go_ret
            exact ⟨rfl, k.out⟩
          by_cases c4 : 4 < p
          · rw [ap_out (Or.inr c4)]
            have c5 : ¬ p < 5 := by omega
            go_wp2
            go_ret
            exact ⟨rfl, k.out⟩
          rw [ap_in (by omega) (by omega)]
          have c5 : p < 5 := by omega
          go_wp2
          go_ret
          exact ⟨rfl, k.out⟩
theorem reach_door {p : Int} {w : World} (hv : V5 w) : Calls Tryd.prog 7 #[.int .i64 p] w fun r w' => r = .returned (.bool true) ∧ Keep w w' := reach_walk p w hv
end Go.Proofs.YtpjaalloenapbaaDoor
