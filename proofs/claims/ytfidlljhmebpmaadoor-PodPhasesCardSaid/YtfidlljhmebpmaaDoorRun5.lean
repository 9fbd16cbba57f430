/-
  The program's Next and Run say what the table says. No condition.
-/
import Derived.Test.YtfidlljhmebpmaaDoorChs5
namespace Go.Proofs.YtfidlljhmebpmaaDoor
open Go.RowKit Go.Extern.Stop Go.Stop Go.Extern

theorem next_fn (p e : Int) (w : World) : Calls Tryd.prog 44 #[.int .i64 p, .int .i64 e] w fun r w' => r = .returned (.tuple #[.int .i64 (nxt p e), .bool (decide (nxt p e ≠ 0))]) ∧ Keep w w' := by
  go_enter Tryd.func44, Tryd.ntmps44
  go_wp2_with fail
  refine (changes_fn w).mono ?_
  rintro r w1 ⟨B, rfl, hs, k⟩
  have hl := says_look hs p e
  unfold kv at hl
  obtain ⟨x, hx⟩ : ∃ x, x = nxt p e := ⟨_, rfl⟩
  obtain ⟨y, hy⟩ : ∃ y, y = decide (nxt p e ≠ 0) := ⟨_, rfl⟩
  rw [← hy, ← hx] at hl
  replace hx := Lib.hid hx
  replace hy := Lib.hid hy
  replace hs := Lib.hid hs
  replace k := Lib.hid k
  go_wp2
  go_ret2
  exact ⟨by rw [← hy.out, ← hx.out]; rfl, k.out⟩

/-- The phase behind the first n events, up to the first that does not apply, and how many were applied. -/
def runP (p : Int) (E : Nat → Int) : Nat → Int × Nat
  | 0 => (p, 0)
  | n + 1 => if (runP p E n).2 = n ∧ nxt (runP p E n).1 (E n) ≠ 0 then (nxt (runP p E n).1 (E n), n + 1) else runP p E n
theorem runP_le (p : Int) (E : Nat → Int) : ∀ n, (runP p E n).2 ≤ n
  | 0 => Nat.le_refl _
  | n + 1 => by
    have := runP_le p E n
    unfold runP
    split
    · exact Nat.le_refl _
    · omega
theorem runP_on {p : Int} {E : Nat → Int} {k : Nat} (h : (runP p E k).2 = k) (h1 : nxt (runP p E k).1 (E k) ≠ 0) : runP p E (k + 1) = (nxt (runP p E k).1 (E k), k + 1) := by
  rw [runP, if_pos ⟨h, h1⟩]
theorem runP_off {p : Int} {E : Nat → Int} {k : Nat} (h : (runP p E k).2 = k) (h1 : nxt (runP p E k).1 (E k) = 0) : ∀ n, k ≤ n → runP p E n = runP p E k := by
  intro n hn
  induction n with
  | zero =>
    obtain rfl : k = 0 := by omega
    rfl
  | succ n ih =>
    rcases Nat.lt_or_ge n k with hlt | hge
    · obtain rfl : k = n + 1 := by omega
      rfl
    · have e := ih hge
      rw [runP, e, h]
      rw [if_neg]
      rintro ⟨rfl, h2⟩
      exact h2 h1
theorem tab_i64 : ∀ x ∈ tab, -9223372036854775808 ≤ x.2.2 ∧ x.2.2 ≤ 9223372036854775807 := by decide
theorem nxt_range (p e : Int) : 0 ≤ nxt p e ∧ nxt p e ≤ 5 := by
  have h : ∀ x ∈ tab, 0 ≤ x.2.2 ∧ x.2.2 ≤ 5 := by decide
  unfold nxt
  cases hl : look tab p e with
  | none => decide
  | some v => exact h _ (look_mem hl)

end Go.Proofs.YtfidlljhmebpmaaDoor
