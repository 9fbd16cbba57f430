/-
  The program's Next and Run say what the table says. No condition.
-/
import Derived.Test.YtpjaalloenapbaaDoorChs5
namespace Go.Proofs.YtpjaalloenapbaaDoor
open Go.RowKit Go.Extern.Stop Go.Stop Go.Extern

theorem next_fn (p e : Int) (w : World) : Calls Tryd.prog 9 #[.int .i64 p, .int .i64 e] w fun r w' => r = .returned (.tuple #[.int .i64 (nxt p e), .bool (decide (nxt p e ≠ 0))]) ∧ Keep w w' := by
  go_enter Tryd.func9, Tryd.ntmps9
  go_wp2_with fail
  refine (changes_fn w).mono ?_
  rintro r w1 ⟨B, rfl, hs, k⟩
  have hl := says_look hs p e
  unfold kv at hl
  obtain ⟨x, hx⟩ : ∃ x, x = nxt p e := ⟨_, rfl⟩
  obtain ⟨y, hy⟩ : ∃ y, y = decide (nxt p e ≠ 0) := ⟨_, rfl⟩
  rw [← hy, ← hx] at hl
  replace hx := Lib.hid hx
  replace hy := Lib.hid hy
  replace hs := Lib.hid hs
  replace k := Lib.hid k
  go_wp2
  go_ret2
  exact ⟨by rw [← hy.out, ← hx.out]; rfl, k.out⟩

/-- The phase behind the first n events, up to the first that does not apply, and how many were applied. -/
def runP (p : Int) (E : Nat → Int) : Nat → Int × Nat
  | 0 => (p, 0)
  | n + 1 => if (runP p E n).2 = n ∧ nxt (runP p E n).1 (E n) ≠ 0 then (nxt (runP p E n).1 (E n), n + 1) else runP p E n
theorem runP_le (p : Int) (E : Nat → Int) : ∀ n, (runP p E n).2 ≤ n
  | 0 => Nat.le_refl _
  | n + 1 => by
    have := runP_le p E n
    unfold runP
    split
    · exact Nat.le_refl _
    · omega
theorem runP_on {p : Int} {E : Nat → Int} {k : Nat} (h : (runP p E k).2 = k) (h1 : nxt (runP p E k).1 (E k) ≠ 0) : runP p E (k + 1) = (nxt (runP p E k).1 (E k), k + 1) := by
  rw [runP, if_pos ⟨h, h1⟩]
theorem runP_off {p : Int} {E : Nat → Int} {k : Nat} (h : (runP p E k).2 = k) (h1 : nxt (runP p E k).1 (E k) = 0) : ∀ n, k ≤ n → runP p E n = runP p E k := by
  intro n hn
  induction n with
  | zero =>
    obtain rfl : k = 0 := by omega
    rfl
  | succ n ih =>
    rcases Nat.lt_or_ge n k with hlt | hge
    · obtain rfl : k = n + 1 := by omega
      rfl
    · have e := ih hge
      rw [runP, e, h]
      rw [if_neg]
      rintro ⟨rfl, h2⟩
      exact h2 h1
theorem tab_i64 : ∀ x ∈ tab, -9223372036854775808 ≤ x.2.2 ∧ x.2.2 ≤ 9223372036854775807 := by decide
theorem nxt_range (p e : Int) : 0 ≤ nxt p e ∧ nxt p e ≤ 5 := by
  have h : ∀ x ∈ tab, 0 ≤ x.2.2 ∧ x.2.2 ≤ 5 := by decide
  unfold nxt
  cases hl : look tab p e with
  | none => decide
  | some v => exact h _ (look_mem hl)

set_option maxHeartbeats 1000000 in
theorem run_fn (p : Int) (A : Option Addr) (n c : Nat) (E : Nat → Int) (w : World) (hR : Rd w A n E) :
    Calls Tryd.prog 11 #[.int .i64 p, .slice A n c] w fun r w' => r = .returned (.tuple #[.int .i64 (runP p E n).1, .int .i64 ((runP p E n).2 : Nat)]) ∧ Keep w w' := by
  have hn := hR.small
  replace hR := Lib.hid hR
  go_enter Tryd.func11, Tryd.ntmps11
  go_wp2_with fail
  refine (changes_fn w).mono ?_
  rintro r w1 ⟨B, rfl, hs, k⟩
  replace hs := Lib.hid hs
  replace k := Lib.hid k
  have hR1 := Lib.hid (hR.out.keep k.out)
  go_wp2
  go_loopg [0, 14] n (fun g q i wr => ∃ j : Nat, j ≤ n ∧ g = n - j ∧ i = .int .i64 j ∧ q = .int .i64 (runP p E j).1 ∧ Hid ((runP p E j).2 = j) ∧ Hid (w1 = wr))
  case atStart => exact ⟨0, Nat.zero_le _, rfl, rfl, rfl, rfl, rfl⟩
  case round =>
    obtain ⟨j, hj, rfl, rfl, rfl, hrun, hw⟩ := hrel
    have hw := hw.out
    subst hw
    obtain ⟨q, hq⟩ : ∃ q, q = (runP p E j).1 := ⟨_, rfl⟩
    rw [← hq]
    replace hq := Lib.hid hq
    by_cases hlt : j < n
    · obtain ⟨b, off, hA, ca⟩ := hR1.out.adr (by omega)
      subst hA
      have g0 := ca j hlt
      clear ca
      obtain ⟨x, hx⟩ : ∃ x, x = E j := ⟨_, rfl⟩
      rw [← hx] at g0
      replace hx := Lib.hid hx
      have hl := says_look hs.out q x
      unfold kv at hl
      by_cases hz : nxt q x = 0
      · rw [hz] at hl
        have e0 := Lib.hid (runP_off hrun.out (by rw [← hq.out, ← hx.out]; exact hz) n (by omega))
        replace hz := Lib.hid hz
        go_wp2
        go_ret2
        exact ⟨by rw [e0.out, ← hq.out, hrun.out]; rfl, k.out⟩
      · have hd : decide (nxt q x ≠ 0) = true := decide_eq_true hz
        rw [hd] at hl
        have e0 := Lib.hid (runP_on hrun.out (by rw [← hq.out, ← hx.out]; exact hz))
        replace hz := Lib.hid hz
        replace hd := Lib.hid hd
        go_wp2
        go_roundg (n - (j + 1))
        case measure => omega
        case rel => exact ⟨j + 1, hlt, rfl, by go_num, by rw [e0.out, ← hq.out, ← hx.out], by rw [e0.out]; rfl, rfl⟩
    · obtain rfl : j = n := by omega
      go_wp2
      go_ret2
      exact ⟨by rw [← hq.out, hrun.out]; rfl, k.out⟩
end Go.Proofs.YtpjaalloenapbaaDoor
