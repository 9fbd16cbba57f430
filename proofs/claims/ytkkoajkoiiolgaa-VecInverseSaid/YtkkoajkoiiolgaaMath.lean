/-
  Plain mathematics of stage 1: numbers in a high and a low part, sums of columns. No walk, no condition.
-/
import Derived.Test.YtkkoajkoiiolgaaRows
import Derived.Laws.Entries
import Derived.IntWalk
import Derived.Laws.Bits64
namespace Go.Proofs.Ytkkoajkoiiolgaa
open Go.RowKit

/-! The reference's numbers -/
def hi (n : Int) : Int := n / 4294967296
def lo (n : Int) : Int := n % 4294967296
theorem lo_nn (n : Int) : 0 ≤ lo n := by unfold lo; omega
theorem lo_le (n : Int) : lo n ≤ 4294967295 := by unfold lo; omega
theorem and_lo (n : Int) : bits .and .i64 n 4294967295 = lo n := by
  have e1 : (BitVec.ofInt 64 n &&& BitVec.ofInt 64 4294967295).toNat = (lo n).toNat := by
    rw [BitVec.toNat_and, BitVec.toNat_ofInt, show (BitVec.ofInt 64 4294967295).toNat = 2 ^ 32 - 1 from by decide, Nat.and_two_pow_sub_one_eq_mod]
    unfold lo
    omega
  show IntKind.i64.wrap ((BitVec.ofInt 64 n &&& BitVec.ofInt 64 4294967295).toNat : Int) = lo n
  have := lo_nn n
  have := lo_le n
  rw [e1, Int.toNat_of_nonneg (lo_nn n), IntWalk.i64_in _ (by omega)]
theorem hi_def (n : Int) : n / 4294967296 = hi n := rfl
theorem hi_add (a b : Int) : hi a + hi b + (lo a + lo b) / 4294967296 = hi (a + b) := by unfold hi lo; omega
theorem lo_add (a b : Int) : lo (lo a + lo b) = lo (a + b) := by unfold lo; omega
theorem hi_sub (a b : Int) : hi a - hi b + (lo a - lo b) / 4294967296 = hi (a - b) := by unfold hi lo; omega
theorem lo_sub (a b : Int) : lo (lo a - lo b) = lo (a - b) := by unfold lo; omega
theorem hi_lo (a : Int) : hi a * 4294967296 + lo a = a := by unfold hi lo; omega

/-! Sums of columns -/
def sumTo : Nat → (Nat → Int) → Int
  | 0, _ => 0
  | k + 1, f => sumTo k f + f k
def lo64 (n : Int) : Int := n % 18446744073709551616
def hi64 (n : Int) : Int := n / 18446744073709551616
theorem lo64_nn (n : Int) : 0 ≤ lo64 n := by unfold lo64; omega
theorem lo64_le (n : Int) : lo64 n ≤ 18446744073709551615 := by unfold lo64; omega
def inR (n : Int) : Bool := decide (-9223372036854775808 ≤ n ∧ n ≤ 9223372036854775807)

theorem sumTo_bd {R : Nat} {f : Nat → Int} (h : ∀ k, k < R → -9223372036854775808 ≤ f k ∧ f k ≤ 9223372036854775807) : -9223372036854775808 * (R : Int) ≤ sumTo R f ∧ sumTo R f ≤ 9223372036854775808 * (R : Int) := by
  induction R with
  | zero => simp [sumTo]
  | succ R ih =>
    obtain ⟨h1, h2⟩ := ih fun k hk => h k (by omega)
    obtain ⟨h3, h4⟩ := h R (by omega)
    simp only [sumTo]
    omega

theorem hi64_bd {R : Nat} {n : Int} (h : -9223372036854775808 * (R : Int) ≤ n ∧ n ≤ 9223372036854775808 * (R : Int)) (hR : R ≤ 1048576) : -1048576 ≤ hi64 n ∧ hi64 n ≤ 1048576 := by unfold hi64; omega

theorem lo64_step (s v : Int) : (lo64 s + lo64 v) % 18446744073709551616 = lo64 (s + v) := by unfold lo64; omega
theorem hi64_step {s v : Int} (h1 : -9223372036854775808 ≤ v) (h2 : v ≤ 9223372036854775807) : hi64 s + (v / 9223372036854775808 + (lo64 s + lo64 v) / 18446744073709551616) = hi64 (s + v) := by
  unfold hi64 lo64
  omega
def carry (s v : Int) : Int := (lo64 s + lo64 v) / 18446744073709551616
theorem carry_nn (s v : Int) : 0 ≤ carry s v := by unfold carry lo64; omega
theorem carry_le (s v : Int) : carry s v ≤ 1 := by unfold carry lo64; omega
theorem wrap_lo64 (n : Int) : wrap64 (lo64 n) = wrap64 n := by unfold wrap64 lo64; omega
theorem u64_wrap (n : Int) : IntKind.u64.wrap n = lo64 n := by rw [IntKind.wrap_u64]; rfl
theorem inR_lo (n : Int) : (hi64 n == wrap64 (lo64 n) / 9223372036854775808) = decide (hi64 n = wrap64 n / 9223372036854775808) := by
  rw [wrap_lo64]
  by_cases h : hi64 n = wrap64 n / 9223372036854775808
  · rw [beq_iff_eq.2 h, decide_eq_true h]
  · rw [beq_eq_false_iff_ne.2 h, decide_eq_false h]
theorem inR_is (n : Int) : decide (hi64 n = wrap64 n / 9223372036854775808) = inR n := by
  unfold hi64 inR wrap64
  rw [decide_eq_decide]
  omega
end Go.Proofs.Ytkkoajkoiiolgaa
