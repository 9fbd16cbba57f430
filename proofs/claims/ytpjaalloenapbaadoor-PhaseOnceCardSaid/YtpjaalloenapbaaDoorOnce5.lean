/-
  The walk of PhaseOnce. Condition: the table of names holds its own.
-/
import Derived.Test.YtpjaalloenapbaaDoorAwake5
namespace Go.Proofs.YtpjaalloenapbaaDoor
open Go.RowKit Go.Extern.Stop Go.Stop Go.Extern

theorem runP_before {p : Int} {E : Nat → Int} {j : Nat} : ∀ {n : Nat}, j < (runP p E n).2 → (runP p E j).2 = j ∧ nxt (runP p E j).1 (E j) ≠ 0
  | 0, h => by
    have : (runP p E 0).2 = 0 := rfl
    omega
  | n + 1, h => by
    by_cases hc : (runP p E n).2 = n ∧ nxt (runP p E n).1 (E n) ≠ 0
    · rw [runP, if_pos hc] at h
      have h : j < n + 1 := h
      rcases Nat.lt_succ_iff_lt_or_eq.1 h with h | rfl
      · exact runP_before (n := n) (by rw [hc.1]; exact h)
      · exact hc
    · rw [runP, if_neg hc] at h
      exact runP_before h
theorem nxt_mem {p e : Int} (h : nxt p e ≠ 0) : (p, e, nxt p e) ∈ tab := by
  unfold nxt at h ⊢
  cases hl : look tab p e with
  | none => simp [hl] at h
  | some v => exact look_mem hl
theorem tab_cases {p e v : Int} (h : (p, e, v) ∈ tab) : (p = 1 ∧ e = 1 ∧ v = 3) ∨ (p = 2 ∧ e = 1 ∧ v = 3) ∨ (p = 1 ∧ e = 2 ∧ v = 2) ∨ (p = 2 ∧ e = 2 ∧ v = 2) ∨ (p = 2 ∧ e = 3 ∧ v = 1) ∨ (p = 3 ∧ e = 4 ∧ v = 4) ∨
    (p = 1 ∧ e = 5 ∧ v = 5) ∨ (p = 2 ∧ e = 5 ∧ v = 5) ∨ (p = 3 ∧ e = 5 ∧ v = 5) ∨ (p = 4 ∧ e = 5 ∧ v = 5) := by
  simpa [tab] using h
/-- The greatest rank among the events that have led to a phase. -/
def lastOf (p : Int) : Int := if p = 3 then 1 else if p = 4 then 2 else if p = 5 then 3 else 0

set_option maxHeartbeats 4000000 in
theorem once_walk (A : Option Addr) (n c : Nat) (E : Nat → Int) (w : World) (hR : Rd w A n E) (hv : V5 w) : Calls Tryd.prog 6 #[.slice A n c] w fun r w' => r = .returned (.bool true) ∧ Keep w w' := by
  have hn := hR.small
  go_enter Tryd.func6, Tryd.ntmps6
  go_wp2_with fail
  refine (awake_true w hv).mono ?_
  rintro r w1 ⟨rfl, k1⟩
  have hR1 := Lib.hid (hR.keep k1)
  have hv1 := Lib.hid (hv.keep k1)
  replace hv := Lib.hid hv
  replace hR := Lib.hid hR
  replace k1 := Lib.hid k1
  by_cases hl : 1000 < n
  · go_wp2_with fail
    refine (awake_true w1 hv1.out).mono ?_
    rintro r w2 ⟨rfl, k2⟩
    have K2 := Lib.hid (k1.out.trans k2)
    replace k2 := Lib.hid k2
    go_wp2
    go_ret
    exact ⟨rfl, K2.out⟩
  · go_wp2_with fail
    refine (run_fn 1 A n c E w1 hR1.out).mono ?_
    rintro r w2 ⟨rfl, k2⟩
    have K2 := Lib.hid (k1.out.trans k2)
    have hR2 := Lib.hid (hR1.out.keep k2)
    replace k2 := Lib.hid k2
    have hN := runP_le 1 E n
    have hbef : Hid (∀ j, j < (runP 1 E n).2 → (runP 1 E j).2 = j ∧ nxt (runP 1 E j).1 (E j) ≠ 0) := fun j hj => runP_before hj
    obtain ⟨x, hx⟩ : ∃ x, x = (runP 1 E n).1 := ⟨_, rfl⟩
    obtain ⟨N, hy⟩ : ∃ y, y = (runP 1 E n).2 := ⟨_, rfl⟩
    rw [← hx, ← hy]
    rw [← hy] at hN hbef
    replace hx := Lib.hid hx
    replace hy := Lib.hid hy
    have hN1 : ¬ n < N := by omega
    have hN2 : ¬ (N : Int) < 0 := by omega
    go_wp2
    go_loopg [5, 6] N (fun g l i wr => ∃ j : Nat, j ≤ N ∧ g = N - j ∧ i = .int .i64 j ∧ l = .int .i64 (lastOf (runP 1 E j).1) ∧ Hid (w2 = wr))
    case atStart => exact ⟨0, Nat.zero_le _, rfl, rfl, rfl, rfl⟩
    case round =>
      obtain ⟨j, hj, rfl, rfl, rfl, hw⟩ := hrel
      have hw := hw.out
      subst hw
      by_cases hlt : j < N
      · obtain ⟨b, off, hA, ca⟩ := hR2.out.adr (by omega)
        subst hA
        have g0 := ca j (by omega)
        clear ca
        obtain ⟨h1, h2⟩ := hbef.out j hlt
        have e0 := runP_on h1 h2
        have h3 := nxt_mem h2
        obtain ⟨y, hyv⟩ : ∃ y, y = E j := ⟨_, rfl⟩
        obtain ⟨q, hq⟩ : ∃ q, q = (runP 1 E j).1 := ⟨_, rfl⟩
        obtain ⟨v, hvv⟩ : ∃ v, v = nxt q y := ⟨_, rfl⟩
        rw [← hyv] at g0 h2 h3 e0
        rw [← hq] at h2 h3 e0 ⊢
        rw [← hvv] at h2 h3 e0
        replace hyv := Lib.hid hyv
        replace hq := Lib.hid hq
        replace hvv := Lib.hid hvv
        replace e0 := Lib.hid e0
        replace h1 := Lib.hid h1
        replace h2 := Lib.hid h2
        have hc := tab_cases h3
        clear h3
        rcases hc with ⟨rfl, rfl, rfl⟩ | ⟨rfl, rfl, rfl⟩ | ⟨rfl, rfl, rfl⟩ | ⟨rfl, rfl, rfl⟩ | ⟨rfl, rfl, rfl⟩ | ⟨rfl, rfl, rfl⟩ | ⟨rfl, rfl, rfl⟩ | ⟨rfl, rfl, rfl⟩ | ⟨rfl, rfl, rfl⟩ | ⟨rfl, rfl, rfl⟩
        all_goals simp only [lastOf, Int.reduceEq, if_true, if_false]
        all_goals (
          go_wp2
          go_roundg (N - (j + 1))
          case measure => omega
          case rel => exact ⟨j + 1, hlt, rfl, by go_num, by rw [e0.out]; rfl, rfl⟩)
      · obtain rfl : j = N := by omega
        go_wp2
        go_ret
        exact ⟨rfl, K2.out⟩
theorem once_door {A : Option Addr} {m cap : Nat} {Z : Nat → Int} {w : World} (hR : Rd w A m Z) (hv : V5 w) : Calls Tryd.prog 6 #[.slice A m cap] w fun r w' => r = .returned (.bool true) ∧ Keep w w' := once_walk A m cap Z w hR hv
end Go.Proofs.YtpjaalloenapbaaDoor
