/-
  The leaves of stage 1: the closures of Sub, Most and Wrong, the law of Add64, make of zeros. Conditions: none but that numbers are in their ranges.
-/
import Derived.Test.YtkkoajkoiiolgaaMath
import Derived.WalkKit
import Derived.WalkSpells
import Derived.WalkLawsBesides
import Derived.BigQuiet
import Derived.Deep.QuietTactic
import Derived.Deep.LoopGhost
import Derived.Deep.OwnRows
namespace Go.Proofs.Ytkkoajkoiiolgaa
open Go.RowKit

theorem add64 (x y : Int) (hx : 0 ≤ x) (hy : 0 ≤ y) (w : World) :
    (callFunc 33 #[.int .u64 x, .int .u64 y, .int .u64 0]).run Try.prog w =
      .ok (.value (.tuple #[.int .u64 ((x + y) % 18446744073709551616), .int .u64 ((x + y) / 18446744073709551616)])) w := by
  rw [run_callFunc_extern Try.func33 (by kernel_rfl) (by kernel_rfl) (by kernel_rfl) (e := add64Entry) (by kernel_rfl), run_add64 x y 0 hx hy (by omega) (by omega)]
  simp only [Result.andThen, Int.add_zero]

/-- x >= y && x-y >= 0 -/
def subOk (x y : Int) : Bool := decide (y ≤ x ∧ x - y ≤ 9223372036854775807)
theorem subOk_ge {x y : Int} (x1 : -9223372036854775808 ≤ x) (x2 : x ≤ 9223372036854775807) (y1 : -9223372036854775808 ≤ y) (y2 : y ≤ 9223372036854775807) (h : y ≤ x) :
    Value.bool (decide (0 ≤ wrap64 (x - y))) = .bool (subOk x y) := by
  unfold subOk wrap64
  congr 1
  rw [decide_eq_decide]
  omega
theorem subOk_lt {x y : Int} (h : x < y) : Value.bool false = .bool (subOk x y) := by
  unfold subOk
  congr 1
  symm
  rw [decide_eq_false_iff_not]
  omega
theorem val_int {k : IntKind} {a b : Int} (h : a = b) : Value.int k a = .int k b := by rw [h]
theorem ret2 {a b c d : Value} (h1 : a = c) (h2 : b = d) : Ending.returned (.tuple #[a, b]) = .returned (.tuple #[c, d]) := by rw [h1, h2]

theorem sub_fn (x y : Int) (w : World) (hx : -9223372036854775808 ≤ x ∧ x ≤ 9223372036854775807) (hy : -9223372036854775808 ≤ y ∧ y ≤ 9223372036854775807) :
    Calls Try.prog 27 #[.int .i64 x, .int .i64 y] w fun e w' => e = .returned (.tuple #[.int .i64 (wrap64 (x - y)), .bool (subOk x y)]) ∧ w' = w := by
  obtain ⟨x1, x2⟩ := hx
  obtain ⟨y1, y2⟩ := hy
  by_cases h : y ≤ x
  · go_enter Try.func27, Try.ntmps27
    go_wp2
    go_ret2
    exact ⟨ret2 rfl (subOk_ge x1 x2 y1 y2 h), rfl⟩
  · go_enter Try.func27, Try.ntmps27
    go_wp2
    go_ret2
    exact ⟨ret2 rfl (subOk_lt h), rfl⟩

theorem most_fn (x y : Int) (w : World) :
    Calls Try.prog 30 #[.int .i64 x, .int .i64 y] w fun e w' => e = .returned (.tuple #[.int .i64 (max x y), .bool true]) ∧ w' = w := by
  rcases Int.lt_or_le x y with h | h
  · have h' : max x y = y := by omega
    rw [h']
    go_enter Try.func30, Try.ntmps30
    go_wp2
    go_ret2
    exact ⟨rfl, rfl⟩
  · have h' : max x y = x := by omega
    rw [h']
    go_enter Try.func30, Try.ntmps30
    go_wp2
    go_ret2
    exact ⟨rfl, rfl⟩

def badAmt (x : Int) : Bool := decide (x < 0 ∨ 1099511627776 < x)
theorem bad_lt {x : Int} (h : x < 0) : Ending.returned (.bool true) = .returned (.bool (badAmt x)) := by
  unfold badAmt
  rw [decide_eq_true (Or.inl h)]
theorem bad_ge {x : Int} (h : 0 ≤ x) : Ending.returned (.bool (decide (1099511627776 < x))) = .returned (.bool (badAmt x)) := by
  unfold badAmt
  congr 2
  rw [decide_eq_decide]
  omega
theorem wrong_fn (x : Int) (w : World) :
    Calls Try.prog 32 #[.int .i64 x] w fun e w' => e = .returned (.bool (badAmt x)) ∧ w' = w := by
  by_cases h : x < 0
  · go_enter Try.func32, Try.ntmps32
    go_wp2
    go_ret
    exact ⟨bad_lt h, rfl⟩
  · go_enter Try.func32, Try.ntmps32
    go_wp2
    go_ret
    exact ⟨bad_ge h, rfl⟩

theorem of_fn (n : Int) (w : World) :
    Calls Try.prog 23 #[.int .i64 n] w fun e w' => e = .returned (.agg #[.int .i64 (hi n), .int .i64 (lo n)]) ∧ Below w.heap.size w w' := by
  go_enter Try.func23, Try.ntmps23
  go_wp2
  refine bodyPost_ret (v := .agg #[.int .i64 (hi n), .int .i64 (lo n)]) (by simp [results, Try.results23, go_sem, and_lo, hi_def]) rfl ⟨rfl, ?_⟩
  exact (Below.refl _ _).alloc (Nat.le_refl _) _

theorem plus_fn (a b : Int) (w : World) (h1 : -1152921504606846976 ≤ hi a) (h2 : hi a ≤ 1152921504606846976) (h3 : -1152921504606846976 ≤ hi b) (h4 : hi b ≤ 1152921504606846976) :
    Calls Try.prog 24 #[.agg #[.int .i64 (hi a), .int .i64 (lo a)], .agg #[.int .i64 (hi b), .int .i64 (lo b)]] w fun e w' => e = .returned (.agg #[.int .i64 (hi (a + b)), .int .i64 (lo (a + b))]) ∧ Below w.heap.size w w' := by
  have l1 := lo_nn a
  have l2 := lo_le a
  have l3 := lo_nn b
  have l4 := lo_le b
  go_enter Try.func24, Try.ntmps24
  go_wp2
  refine bodyPost_ret (v := .agg #[.int .i64 (hi (a + b)), .int .i64 (lo (a + b))]) (by simp [results, Try.results24, go_sem, and_lo, hi_add, lo_add]) rfl ⟨rfl, ?_⟩
  exact (((Below.refl _ _).alloc (Nat.le_refl _) _).alloc (by simp) _).alloc (by simp; omega) _

theorem minus_fn (a b : Int) (w : World) (h1 : -1152921504606846976 ≤ hi a) (h2 : hi a ≤ 1152921504606846976) (h3 : -1152921504606846976 ≤ hi b) (h4 : hi b ≤ 1152921504606846976) :
    Calls Try.prog 28 #[.agg #[.int .i64 (hi a), .int .i64 (lo a)], .agg #[.int .i64 (hi b), .int .i64 (lo b)]] w fun e w' => e = .returned (.agg #[.int .i64 (hi (a - b)), .int .i64 (lo (a - b))]) ∧ Below w.heap.size w w' := by
  have l1 := lo_nn a
  have l2 := lo_le a
  have l3 := lo_nn b
  have l4 := lo_le b
  go_enter Try.func28, Try.ntmps28
  go_wp2
  refine bodyPost_ret (v := .agg #[.int .i64 (hi (a - b)), .int .i64 (lo (a - b))]) (by simp [results, Try.results28, go_sem, and_lo, hi_sub, lo_sub]) rfl ⟨rfl, ?_⟩
  exact (((Below.refl _ _).alloc (Nat.le_refl _) _).alloc (by simp) _).alloc (by simp; omega) _

theorem value_yes (a : Int) (w : World) (h1 : -9223372036854775808 ≤ a) (h2 : a ≤ 9223372036854775807) :
    Calls Try.prog 25 #[.agg #[.int .i64 (hi a), .int .i64 (lo a)]] w fun e w' => e = .returned (.tuple #[.int .i64 a, .bool true]) ∧ Below w.heap.size w w' := by
  have l1 := lo_nn a
  have l2 := lo_le a
  have g1 : -2147483648 ≤ hi a := by unfold hi; omega
  have g2 : hi a ≤ 2147483647 := by unfold hi; omega
  go_enter Try.func25, Try.ntmps25
  go_wp2
  go_ret2
  exact ⟨ret2 (val_int (hi_lo a)) rfl, (Below.refl _ _).alloc (Nat.le_refl _) _⟩

theorem value_lo (a : Int) (w : World) (h1 : a < -9223372036854775808) :
    Calls Try.prog 25 #[.agg #[.int .i64 (hi a), .int .i64 (lo a)]] w fun e w' => e = .returned (.tuple #[.int .i64 0, .bool false]) ∧ Below w.heap.size w w' := by
  have g1 : hi a < -2147483648 := by unfold hi; omega
  go_enter Try.func25, Try.ntmps25
  go_wp2
  go_ret2
  exact ⟨rfl, (Below.refl _ _).alloc (Nat.le_refl _) _⟩

theorem value_hi (a : Int) (w : World) (h1 : 9223372036854775807 < a) :
    Calls Try.prog 25 #[.agg #[.int .i64 (hi a), .int .i64 (lo a)]] w fun e w' => e = .returned (.tuple #[.int .i64 0, .bool false]) ∧ Below w.heap.size w w' := by
  have g1 : 2147483647 < hi a := by unfold hi; omega
  have g2 : ¬ hi a < -2147483648 := by unfold hi; omega
  go_enter Try.func25, Try.ntmps25
  go_wp2
  go_ret2
  exact ⟨rfl, (Below.refl _ _).alloc (Nat.le_refl _) _⟩

theorem value_no (a : Int) (w : World) (h : ¬ (-9223372036854775808 ≤ a ∧ a ≤ 9223372036854775807)) :
    Calls Try.prog 25 #[.agg #[.int .i64 (hi a), .int .i64 (lo a)]] w fun e w' => e = .returned (.tuple #[.int .i64 0, .bool false]) ∧ Below w.heap.size w w' := by
  by_cases h1 : a < -9223372036854775808
  · exact value_lo a w h1
  · exact value_hi a w (by omega)

end Go.Proofs.Ytkkoajkoiiolgaa
