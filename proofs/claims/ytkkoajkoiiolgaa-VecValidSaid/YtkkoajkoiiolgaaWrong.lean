/-
  vec.Wrong and the reference's. No condition.
-/
import Derived.Test.YtkkoajkoiiolgaaComb
namespace Go.Proofs.Ytkkoajkoiiolgaa
open Go.RowKit

def wrongOf (n : Nat) (Z : Nat → Int) (d : Int) : Int :=
  match (List.range n).find? (fun k => badAmt (Z k)) with
  | some k => k
  | none => if (n : Int) = d then -1 else max (min d n) 0
theorem wrongOf_bad {n : Nat} {Z : Nat → Int} {d : Int} {k : Nat} (hk : k < n) (hb : badAmt (Z k) = true) (h : ∀ j, j < k → badAmt (Z j) = false) : wrongOf n Z d = k := by
  have e : (List.range n).find? (fun k => badAmt (Z k)) = some k := by
    rw [List.find?_range_eq_some]
    exact ⟨hb, List.mem_range.2 hk, fun j hj => by rw [h j hj]; rfl⟩
  rw [wrongOf, e]
theorem wrongOf_ok {n : Nat} {Z : Nat → Int} {d : Int} (h : ∀ j, j < n → badAmt (Z j) = false) : wrongOf n Z d = if (n : Int) = d then -1 else max (min d n) 0 := by
  have e : (List.range n).find? (fun k => badAmt (Z k)) = none := by
    rw [List.find?_range_eq_none]
    exact fun j hj => by rw [h j hj]; rfl
  rw [wrongOf, e]
/-- The first bad index, or there is none. -/
theorem bad_or (n : Nat) (Z : Nat → Int) : (∃ k, k < n ∧ badAmt (Z k) = true ∧ ∀ j, j < k → badAmt (Z j) = false) ∨ ∀ j, j < n → badAmt (Z j) = false := by
  induction n with
  | zero => exact Or.inr fun _ h => absurd h (Nat.not_lt_zero _)
  | succ n ih =>
    rcases ih with ⟨k, h1, h2, h3⟩ | h
    · exact Or.inl ⟨k, by omega, h2, h3⟩
    · cases hb : badAmt (Z n)
      · refine Or.inr fun j hj => ?_
        rcases Nat.lt_succ_iff_lt_or_eq.1 hj with h' | rfl
        · exact h j h'
        · exact hb
      · exact Or.inl ⟨n, by omega, hb, h⟩

theorem wrong_is (x : Int) (w : World) (b : Bool) (h : badAmt x = b) : Calls Try.prog 32 #[.int .i64 x] w fun e w' => e = .returned (.bool b) ∧ w' = w := by
  rw [← h]; exact wrong_fn x w

set_option maxHeartbeats 400000 in
theorem index_bad (A : Option Addr) (n c : Nat) (Z : Nat → Int) (w : World) (hA : Rd w A n Z) (k : Nat) (hk : k < n) (hb : badAmt (Z k) = true) (h : ∀ j, j < k → badAmt (Z j) = false) :
    Calls Try.prog 31 #[.slice A n c, .func (.func 32) #[] #[]] w fun e w' => e = .returned (.int .i64 k) ∧ w' = w := by
  have hn := hA.small
  replace hb : Hid (badAmt (Z k) = true) := hb
  replace h : Hid (∀ j, j < k → badAmt (Z j) = false) := h
  go_enter Try.func31, Try.ntmps31
  go_wp2
  go_loopg [8] n (fun g i wr => ∃ j : Nat, j ≤ k ∧ g = n - j ∧ i = .int .i64 j ∧ w = wr)
  case atStart => exact ⟨0, Nat.zero_le _, rfl, rfl, rfl⟩
  case round =>
    obtain ⟨j, hj, rfl, rfl, rfl⟩ := hrel
    obtain ⟨b, off, rfl, ca⟩ := hA.adr (by omega)
    have hjn : j < n := by omega
    have g0 := ca j hjn
    clear ca hA
    by_cases hlt : j < k
    · have hf : Hid (badAmt (Z j) = false) := h.out j hlt
      go_wp2_with (go_at_call 32; refine (wrong_is _ _ _ hf.out).mono ?_; rintro e w' ⟨rfl, rfl⟩)
      go_roundg (n - (j + 1))
      case measure => omega
      case rel => exact ⟨j + 1, hlt, rfl, by go_num, rfl⟩
    · obtain rfl : j = k := by omega
      go_wp2_with (go_at_call 32; refine (wrong_is _ _ _ hb.out).mono ?_; rintro e w' ⟨rfl, rfl⟩)
      go_ret
      exact ⟨rfl, rfl⟩

set_option maxHeartbeats 400000 in
theorem index_ok (A : Option Addr) (n c : Nat) (Z : Nat → Int) (w : World) (hA : Rd w A n Z) (h : ∀ j, j < n → badAmt (Z j) = false) :
    Calls Try.prog 31 #[.slice A n c, .func (.func 32) #[] #[]] w fun e w' => e = .returned (.int .i64 (-1)) ∧ w' = w := by
  have hn := hA.small
  replace h : Hid (∀ j, j < n → badAmt (Z j) = false) := h
  go_enter Try.func31, Try.ntmps31
  go_wp2
  go_loopg [8] n (fun g i wr => ∃ j : Nat, j ≤ n ∧ g = n - j ∧ i = .int .i64 j ∧ w = wr)
  case atStart => exact ⟨0, Nat.zero_le _, rfl, rfl, rfl⟩
  case round =>
    obtain ⟨j, hj, rfl, rfl, rfl⟩ := hrel
    by_cases hlt : j < n
    · obtain ⟨b, off, rfl, ca⟩ := hA.adr (by omega)
      have g0 := ca j hlt
      clear ca hA
      have hf : Hid (badAmt (Z j) = false) := h.out j hlt
      go_wp2_with (go_at_call 32; refine (wrong_is _ _ _ hf.out).mono ?_; rintro e w' ⟨rfl, rfl⟩)
      go_roundg (n - (j + 1))
      case measure => omega
      case rel => exact ⟨j + 1, hlt, rfl, by go_num, rfl⟩
    · go_wp2
      go_ret
      exact ⟨rfl, rfl⟩

theorem ret_int {k : IntKind} {a b : Int} (h : a = b) : Ending.returned (.int k a) = .returned (.int k b) := by rw [h]

set_option maxHeartbeats 400000 in
theorem vwrong_any (A : Option Addr) (n c : Nat) (Z : Nat → Int) (d : Int) (w : World) (hA : Rd w A n Z) :
    Calls Try.prog 20 #[.slice A n c, .int .i64 d] w fun e w' => e = .returned (.int .i64 (wrongOf n Z d)) ∧ w' = w := by
  have hn := hA.small
  rcases bad_or n Z with ⟨k, hk, hb, h⟩ | h
  · have e0 : Hid (wrongOf n Z d = k) := wrongOf_bad hk hb h
    replace hb : Hid (badAmt (Z k) = true) := hb
    replace h : Hid (∀ j, j < k → badAmt (Z j) = false) := h
    go_enter Try.func20, Try.ntmps20
    go_wp2_with (go_at_call 31; refine (index_bad _ _ _ _ _ hA k hk hb.out h.out).mono ?_; rintro e w' ⟨rfl, rfl⟩)
    go_ret
    exact ⟨ret_int e0.out.symm, rfl⟩
  · have e0 : Hid (wrongOf n Z d = if (n : Int) = d then -1 else max (min d n) 0) := wrongOf_ok h
    replace h : Hid (∀ j, j < n → badAmt (Z j) = false) := h
    by_cases hd : (n : Int) = d
    · subst hd
      replace e0 := e0.out
      rw [if_pos rfl] at e0
      replace e0 : Hid (wrongOf n Z n = -1) := e0
      go_enter Try.func20, Try.ntmps20
      go_wp2_with (go_at_call 31; refine (index_ok _ _ _ _ _ hA h.out).mono ?_; rintro e w' ⟨rfl, rfl⟩)
      go_ret
      exact ⟨ret_int e0.out.symm, rfl⟩
    · replace e0 := e0.out
      rw [if_neg hd] at e0
      have hdb : ((n : Int) == d) = false := beq_eq_false_iff_ne.2 hd
      replace hd : Hid (¬ (n : Int) = d) := hd
      replace e0 : Hid (wrongOf n Z d = max (min d n) 0) := e0
      go_enter Try.func20, Try.ntmps20
      go_wp2_with (go_at_call 31; refine (index_ok _ _ _ _ _ hA h.out).mono ?_; rintro e w' ⟨rfl, rfl⟩)
      all_goals
        go_ret
        exact ⟨ret_int (by rw [e0.out]; omega), rfl⟩

theorem bad_not {x : Int} (h : badAmt x = false) : 0 ≤ x ∧ x ≤ 1099511627776 := by
  unfold badAmt at h
  rw [decide_eq_false_iff_not] at h
  omega
theorem bad_yes {x : Int} (h : badAmt x = true) : x < 0 ∨ 1099511627776 < x := by
  unfold badAmt at h
  exact of_decide_eq_true h

set_option maxHeartbeats 400000 in
theorem rwrong_any (A : Option Addr) (n c : Nat) (Z : Nat → Int) (d : Int) (w : World) (hA : Rd w A n Z) :
    Calls Try.prog 21 #[.slice A n c, .int .i64 d] w fun e w' => e = .returned (.int .i64 (wrongOf n Z d)) ∧ w' = w := by
  have hn := hA.small
  rcases bad_or n Z with ⟨k, hk, hb, h⟩ | h
  · have e0 : Hid (wrongOf n Z d = k) := wrongOf_bad hk hb h
    replace hb : Hid (badAmt (Z k) = true) := hb
    replace h : Hid (∀ j, j < k → badAmt (Z j) = false) := h
    go_enter Try.func21, Try.ntmps21
    go_wp2
    go_loopg [5] n (fun g i wr => ∃ j : Nat, j ≤ k ∧ g = n - j ∧ i = .int .i64 j ∧ w = wr)
    case atStart => exact ⟨0, Nat.zero_le _, rfl, rfl, rfl⟩
    case round =>
      obtain ⟨j, hj, rfl, rfl, rfl⟩ := hrel
      obtain ⟨b, off, rfl, ca⟩ := hA.adr (by omega)
      have hjn : j < n := by omega
      have g0 := ca j hjn
      clear ca hA
      by_cases hlt : j < k
      · obtain ⟨f1, f2⟩ := bad_not (h.out j hlt)
        go_wp2
        go_roundg (n - (j + 1))
        case measure => omega
        case rel => exact ⟨j + 1, hlt, rfl, by go_num, rfl⟩
      · obtain rfl : j = k := by omega
        rcases bad_yes hb.out with f | f
        · go_wp2
          go_ret
          exact ⟨ret_int e0.out.symm, rfl⟩
        · have f' : ¬ Z j < 0 := by omega
          go_wp2
          go_ret
          exact ⟨ret_int e0.out.symm, rfl⟩
  · have e0 : Hid (wrongOf n Z d = if (n : Int) = d then -1 else max (min d n) 0) := wrongOf_ok h
    replace h : Hid (∀ j, j < n → badAmt (Z j) = false) := h
    go_enter Try.func21, Try.ntmps21
    go_wp2
    go_loopg [5] n (fun g i wr => ∃ j : Nat, j ≤ n ∧ g = n - j ∧ i = .int .i64 j ∧ w = wr)
    case atStart => exact ⟨0, Nat.zero_le _, rfl, rfl, rfl⟩
    case round =>
      obtain ⟨j, hj, rfl, rfl, rfl⟩ := hrel
      by_cases hlt : j < n
      · obtain ⟨b, off, rfl, ca⟩ := hA.adr (by omega)
        have g0 := ca j hlt
        clear ca hA
        obtain ⟨f1, f2⟩ := bad_not (h.out j hlt)
        go_wp2
        go_roundg (n - (j + 1))
        case measure => omega
        case rel => exact ⟨j + 1, hlt, rfl, by go_num, rfl⟩
      · by_cases hd : (n : Int) = d
        · subst hd
          replace e0 := e0.out
          rw [if_pos rfl] at e0
          replace e0 : Hid (wrongOf n Z n = -1) := e0
          go_wp2
          go_ret
          exact ⟨ret_int e0.out.symm, rfl⟩
        · replace e0 := e0.out
          rw [if_neg hd] at e0
          have hdb : ((n : Int) == d) = false := beq_eq_false_iff_ne.2 hd
          replace hd : Hid (¬ (n : Int) = d) := hd
          replace e0 : Hid (wrongOf n Z d = max (min d n) 0) := e0
          by_cases d0 : d < 0
          · go_wp2
            go_ret
            exact ⟨ret_int (by rw [e0.out]; omega), rfl⟩
          · by_cases d1 : d < n
            · go_wp2
              go_ret
              exact ⟨ret_int (by rw [e0.out]; omega), rfl⟩
            · go_wp2
              go_ret
              exact ⟨ret_int (by rw [e0.out]; omega), rfl⟩
end Go.Proofs.Ytkkoajkoiiolgaa
