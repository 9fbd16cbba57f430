/-
  The checks of an operation's fields: op.wrong, and the reference's Check. No condition.
-/
import Derived.Test.YtflkeabjcbjkhaaDoorSame3
import Derived.Test.YtflkeabjcbjkhaaDoorFuncs
namespace Go.Proofs.YtflkeabjcbjkhaaDoor
open Go.RowKit

def idB (x : Int) : Bool := decide (0 ≤ x ∧ x ≤ 1073741824)
def outB (x lo hi : Int) : Bool := decide (x < lo ∨ hi < x)
def loN (k : Int) : Int := if k = 1 then -1073741824 else 0
def hiN (k : Int) : Int := if k = 1 then 1073741824 else 1048576
theorem idB_out (x : Int) : idB x = !outB x 0 1073741824 := by unfold idB outB; rw [Bool.eq_iff_iff]; simp
/-- The first error of an operation's fields: its code and its index; s is the first wrong index of its amounts. -/
def wr (k i c n s : Int) : Option (Int × Int) :=
  if idB i = false then some (2, 0) else if idB c = false then some (2, 1) else if n < loN k ∨ hiN k < n then some (4, 0) else if (k = 2 ∨ k = 4) ∧ 0 ≤ s then some (3, s) else none
def errV : Option (Int × Int) → Value
  | none => .nilIface
  | some p => (Base.fault p.1 p.2).val

theorem isID_fn (x : Int) (w : World) : Calls Tryd.prog 43 #[.int .i64 x] w fun e w' => e = .returned (.bool (idB x)) ∧ w = w' := by
  by_cases h : x < 0
  · have e : Hid (idB x = false) := by show _ = _; simp [idB]; omega
    go_enter Tryd.func43, Tryd.ntmps43
    go_wp2
    go_ret
    exact ⟨retb e.out.symm, rfl⟩
  · by_cases h2 : 1073741824 < x
    · have e : Hid (idB x = false) := by show _ = _; simp [idB]; omega
      have g : ¬ x ≤ 1073741824 := by omega
      go_enter Tryd.func43, Tryd.ntmps43
      go_wp2
      go_ret
      exact ⟨retb e.out.symm, rfl⟩
    · have e : Hid (idB x = true) := by show _ = _; simp [idB]; omega
      have g : x ≤ 1073741824 := by omega
      go_enter Tryd.func43, Tryd.ntmps43
      go_wp2
      go_ret
      exact ⟨retb e.out.symm, rfl⟩
theorem isID_is {x : Int} (w : World) {b : Bool} (h : idB x = b) : Calls Tryd.prog 43 #[.int .i64 x] w fun e w' => e = .returned (.bool b) ∧ w = w' := by
  rw [← h]; exact isID_fn x w
theorem range_fn (k : Int) (w : World) : Calls Tryd.prog 44 #[.int .i64 k] w fun e w' => e = .returned (.tuple #[.int .i64 (loN k), .int .i64 (hiN k)]) ∧ w = w' := by
  by_cases h : k = 1
  · subst h
    go_enter Tryd.func44, Tryd.ntmps44
    go_wp2
    go_ret2
    exact ⟨rfl, rfl⟩
  · have e1 : Hid (loN k = 0) := by show _ = _; unfold loN; rw [if_neg h]
    have e2 : Hid (hiN k = 1048576) := by show _ = _; unfold hiN; rw [if_neg h]
    have g := beqI h
    replace h := Lib.hid h
    go_enter Tryd.func44, Tryd.ntmps44
    go_wp2
    go_ret2
    exact ⟨by rw [e1.out, e2.out]; rfl, rfl⟩
theorem outside_fn (x lo hi : Int) (w : World) : Calls Tryd.prog 35 #[.int .i64 x, .int .i64 lo, .int .i64 hi] w fun e w' => e = .returned (.bool (outB x lo hi)) ∧ w = w' := by
  by_cases h : x < lo
  · have e : Hid (outB x lo hi = true) := by show _ = _; simp [outB, h]
    go_enter Tryd.func35, Tryd.ntmps35
    go_wp2
    go_ret
    exact ⟨retb e.out.symm, rfl⟩
  · by_cases h2 : hi < x
    · have e : Hid (outB x lo hi = true) := by show _ = _; simp [outB, h2]
      go_enter Tryd.func35, Tryd.ntmps35
      go_wp2
      go_ret
      exact ⟨retb e.out.symm, rfl⟩
    · have e : Hid (outB x lo hi = false) := by show _ = _; simp [outB, h, h2] <;> omega
      go_enter Tryd.func35, Tryd.ntmps35
      go_wp2
      go_ret
      exact ⟨retb e.out.symm, rfl⟩
theorem outside_is {x lo hi : Int} (w : World) {b : Bool} (h : outB x lo hi = b) : Calls Tryd.prog 35 #[.int .i64 x, .int .i64 lo, .int .i64 hi] w fun e w' => e = .returned (.bool b) ∧ w = w' := by
  rw [← h]; exact outside_fn x lo hi w

theorem vwrong_is {A : Option Addr} {n c : Nat} {Z : Nat → Int} {d : Int} {w : World} (hA : Rd w A n Z) (v : Int) (h : wrongOf n Z d = v) :
    Calls Tryd.prog 45 #[.slice A n c, .int .i64 d] w fun e w' => e = .returned (.int .i64 v) ∧ w = w' := by
  rw [← h]; exact (vwrong_any A n c Z d w hA).mono fun _ _ h => ⟨h.1, h.2.symm⟩
theorem rwrong_is {A : Option Addr} {n c : Nat} {Z : Nat → Int} {d : Int} {w : World} (hA : Rd w A n Z) (v : Int) (h : wrongOf n Z d = v) :
    Calls Tryd.prog 36 #[.slice A n c, .int .i64 d] w fun e w' => e = .returned (.int .i64 v) ∧ w = w' := by
  rw [← h]; exact (rwrong_any A n c Z d w hA).mono fun _ _ h => ⟨h.1, h.2.symm⟩

set_option maxHeartbeats 1000000 in
theorem owrong_id (k i c n : Int) (f : Bool) (A : Option Addr) (m cp : Nat) (Z : Nat → Int) (d : Int) (w : World) (hA : Rd w A m Z) (h1 : idB i = false) :
    Calls Tryd.prog 33 #[.agg #[.int .i64 k, .int .i64 i, .int .i64 c, .int .i64 n, .bool f, .slice A m cp], .int .i64 d] w fun e w' => e = .returned ((Base.fault 2 0).val) ∧ Keep w w' := by
  replace hA := Lib.hid hA
  replace h1 := Lib.hid h1
  go_enter Tryd.func33, Tryd.ntmps33
  go_wp2_with fail
  refine (isID_is _ h1.out).mono ?_
  rintro e w' ⟨rfl, rfl⟩
  go_wp2_with fail
  refine (new_fn 2 0 _).mono ?_
  rintro e w' ⟨rfl, rfl⟩
  go_wp2
  go_ret
  exact ⟨rfl, Keep.one _ _⟩

set_option maxHeartbeats 1000000 in
theorem owrong_class (k i c n : Int) (f : Bool) (A : Option Addr) (m cp : Nat) (Z : Nat → Int) (d : Int) (w : World) (hA : Rd w A m Z) (h1 : idB i = true) (h2 : idB c = false) :
    Calls Tryd.prog 33 #[.agg #[.int .i64 k, .int .i64 i, .int .i64 c, .int .i64 n, .bool f, .slice A m cp], .int .i64 d] w fun e w' => e = .returned ((Base.fault 2 1).val) ∧ Keep w w' := by
  replace hA := Lib.hid hA
  replace h1 := Lib.hid h1
  replace h2 := Lib.hid h2
  go_enter Tryd.func33, Tryd.ntmps33
  go_wp2_with fail
  refine (isID_is _ h1.out).mono ?_
  rintro e w' ⟨rfl, rfl⟩
  go_wp2_with fail
  refine (isID_is _ h2.out).mono ?_
  rintro e w' ⟨rfl, rfl⟩
  go_wp2_with fail
  refine (new_fn 2 1 _).mono ?_
  rintro e w' ⟨rfl, rfl⟩
  go_wp2
  go_ret
  exact ⟨rfl, Keep.one _ _⟩

set_option maxHeartbeats 1000000 in
theorem owrong_low (k i c n : Int) (f : Bool) (A : Option Addr) (m cp : Nat) (Z : Nat → Int) (d : Int) (w : World) (hA : Rd w A m Z) (h1 : idB i = true) (h2 : idB c = true) (h3 : n < loN k) :
    Calls Tryd.prog 33 #[.agg #[.int .i64 k, .int .i64 i, .int .i64 c, .int .i64 n, .bool f, .slice A m cp], .int .i64 d] w fun e w' => e = .returned ((Base.fault 4 0).val) ∧ Keep w w' := by
  replace hA := Lib.hid hA
  replace h1 := Lib.hid h1
  replace h2 := Lib.hid h2
  go_enter Tryd.func33, Tryd.ntmps33
  go_wp2_with fail
  refine (isID_is _ h1.out).mono ?_
  rintro e w' ⟨rfl, rfl⟩
  go_wp2_with fail
  refine (isID_is _ h2.out).mono ?_
  rintro e w' ⟨rfl, rfl⟩
  go_wp2_with fail
  refine (range_fn _ _).mono ?_
  rintro e w' ⟨rfl, rfl⟩
  go_wp2_with fail
  refine (new_fn 4 0 _).mono ?_
  rintro e w' ⟨rfl, rfl⟩
  go_wp2
  go_ret
  exact ⟨rfl, Keep.one _ _⟩

set_option maxHeartbeats 1000000 in
theorem owrong_high (k i c n : Int) (f : Bool) (A : Option Addr) (m cp : Nat) (Z : Nat → Int) (d : Int) (w : World) (hA : Rd w A m Z) (h1 : idB i = true) (h2 : idB c = true) (h3 : ¬ n < loN k) (h3b : hiN k < n) :
    Calls Tryd.prog 33 #[.agg #[.int .i64 k, .int .i64 i, .int .i64 c, .int .i64 n, .bool f, .slice A m cp], .int .i64 d] w fun e w' => e = .returned ((Base.fault 4 0).val) ∧ Keep w w' := by
  replace hA := Lib.hid hA
  replace h1 := Lib.hid h1
  replace h2 := Lib.hid h2
  go_enter Tryd.func33, Tryd.ntmps33
  go_wp2_with fail
  refine (isID_is _ h1.out).mono ?_
  rintro e w' ⟨rfl, rfl⟩
  go_wp2_with fail
  refine (isID_is _ h2.out).mono ?_
  rintro e w' ⟨rfl, rfl⟩
  go_wp2_with fail
  refine (range_fn _ _).mono ?_
  rintro e w' ⟨rfl, rfl⟩
  go_wp2_with fail
  refine (new_fn 4 0 _).mono ?_
  rintro e w' ⟨rfl, rfl⟩
  go_wp2
  go_ret
  exact ⟨rfl, Keep.one _ _⟩

set_option maxHeartbeats 1000000 in
theorem owrong_none (k i c n : Int) (f : Bool) (A : Option Addr) (m cp : Nat) (Z : Nat → Int) (d : Int) (w : World) (hA : Rd w A m Z) (h1 : idB i = true) (h2 : idB c = true) (h3 : ¬ n < loN k) (h3b : ¬ hiN k < n) (k2 : ¬ k = 2) (k4 : ¬ k = 4) :
    Calls Tryd.prog 33 #[.agg #[.int .i64 k, .int .i64 i, .int .i64 c, .int .i64 n, .bool f, .slice A m cp], .int .i64 d] w fun e w' => e = .returned (.nilIface) ∧ Keep w w' := by
  replace hA := Lib.hid hA
  replace h1 := Lib.hid h1
  replace h2 := Lib.hid h2
  have g2 : (k != 2) = true := by simp [k2]
  have g4 : (k != 4) = true := by simp [k4]
  replace k2 := Lib.hid k2
  replace k4 := Lib.hid k4
  go_enter Tryd.func33, Tryd.ntmps33
  go_wp2_with fail
  refine (isID_is _ h1.out).mono ?_
  rintro e w' ⟨rfl, rfl⟩
  go_wp2_with fail
  refine (isID_is _ h2.out).mono ?_
  rintro e w' ⟨rfl, rfl⟩
  go_wp2_with fail
  refine (range_fn _ _).mono ?_
  rintro e w' ⟨rfl, rfl⟩
  go_wp2
  go_ret
  exact ⟨rfl, Keep.one _ _⟩

set_option maxHeartbeats 1000000 in
theorem owrong_amt2 (i c n : Int) (f : Bool) (A : Option Addr) (m cp : Nat) (Z : Nat → Int) (d : Int) (w : World) (hA : Rd w A m Z) (h1 : idB i = true) (h2 : idB c = true) (h3 : ¬ n < loN 2) (h3b : ¬ hiN 2 < n) (s : Int) (h4 : wrongOf m Z d = s) (hs : 0 ≤ s) :
    Calls Tryd.prog 33 #[.agg #[.int .i64 2, .int .i64 i, .int .i64 c, .int .i64 n, .bool f, .slice A m cp], .int .i64 d] w fun e w' => e = .returned ((Base.fault 3 s).val) ∧ Keep w w' := by
  replace hA := Lib.hid hA
  replace h1 := Lib.hid h1
  replace h2 := Lib.hid h2
  replace h4 := Lib.hid h4
  go_enter Tryd.func33, Tryd.ntmps33
  go_wp2_with fail
  refine (isID_is _ h1.out).mono ?_
  rintro e w' ⟨rfl, rfl⟩
  go_wp2_with fail
  refine (isID_is _ h2.out).mono ?_
  rintro e w' ⟨rfl, rfl⟩
  go_wp2_with fail
  refine (range_fn _ _).mono ?_
  rintro e w' ⟨rfl, rfl⟩
  go_wp2_with fail
  refine (vwrong_is (hA.out.keep (Keep.one _ _)) _ h4.out).mono ?_
  rintro e w' ⟨rfl, rfl⟩
  go_wp2_with fail
  refine (new_fn 3 s _).mono ?_
  rintro e w' ⟨rfl, rfl⟩
  go_wp2
  go_ret
  exact ⟨rfl, Keep.one _ _⟩

set_option maxHeartbeats 1000000 in
theorem owrong_fine2 (i c n : Int) (f : Bool) (A : Option Addr) (m cp : Nat) (Z : Nat → Int) (d : Int) (w : World) (hA : Rd w A m Z) (h1 : idB i = true) (h2 : idB c = true) (h3 : ¬ n < loN 2) (h3b : ¬ hiN 2 < n) (s : Int) (h4 : wrongOf m Z d = s) (hs : ¬ 0 ≤ s) :
    Calls Tryd.prog 33 #[.agg #[.int .i64 2, .int .i64 i, .int .i64 c, .int .i64 n, .bool f, .slice A m cp], .int .i64 d] w fun e w' => e = .returned (.nilIface) ∧ Keep w w' := by
  replace hA := Lib.hid hA
  replace h1 := Lib.hid h1
  replace h2 := Lib.hid h2
  replace h4 := Lib.hid h4
  go_enter Tryd.func33, Tryd.ntmps33
  go_wp2_with fail
  refine (isID_is _ h1.out).mono ?_
  rintro e w' ⟨rfl, rfl⟩
  go_wp2_with fail
  refine (isID_is _ h2.out).mono ?_
  rintro e w' ⟨rfl, rfl⟩
  go_wp2_with fail
  refine (range_fn _ _).mono ?_
  rintro e w' ⟨rfl, rfl⟩
  go_wp2_with fail
  refine (vwrong_is (hA.out.keep (Keep.one _ _)) _ h4.out).mono ?_
  rintro e w' ⟨rfl, rfl⟩
  go_wp2
  go_ret
  exact ⟨rfl, Keep.one _ _⟩

set_option maxHeartbeats 1000000 in
theorem owrong_amt4 (i c n : Int) (f : Bool) (A : Option Addr) (m cp : Nat) (Z : Nat → Int) (d : Int) (w : World) (hA : Rd w A m Z) (h1 : idB i = true) (h2 : idB c = true) (h3 : ¬ n < loN 4) (h3b : ¬ hiN 4 < n) (s : Int) (h4 : wrongOf m Z d = s) (hs : 0 ≤ s) :
    Calls Tryd.prog 33 #[.agg #[.int .i64 4, .int .i64 i, .int .i64 c, .int .i64 n, .bool f, .slice A m cp], .int .i64 d] w fun e w' => e = .returned ((Base.fault 3 s).val) ∧ Keep w w' := by
  replace hA := Lib.hid hA
  replace h1 := Lib.hid h1
  replace h2 := Lib.hid h2
  replace h4 := Lib.hid h4
  go_enter Tryd.func33, Tryd.ntmps33
  go_wp2_with fail
  refine (isID_is _ h1.out).mono ?_
  rintro e w' ⟨rfl, rfl⟩
  go_wp2_with fail
  refine (isID_is _ h2.out).mono ?_
  rintro e w' ⟨rfl, rfl⟩
  go_wp2_with fail
  refine (range_fn _ _).mono ?_
  rintro e w' ⟨rfl, rfl⟩
  go_wp2_with fail
  refine (vwrong_is (hA.out.keep (Keep.one _ _)) _ h4.out).mono ?_
  rintro e w' ⟨rfl, rfl⟩
  go_wp2_with fail
  refine (new_fn 3 s _).mono ?_
  rintro e w' ⟨rfl, rfl⟩
  go_wp2
  go_ret
  exact ⟨rfl, Keep.one _ _⟩

set_option maxHeartbeats 1000000 in
theorem owrong_fine4 (i c n : Int) (f : Bool) (A : Option Addr) (m cp : Nat) (Z : Nat → Int) (d : Int) (w : World) (hA : Rd w A m Z) (h1 : idB i = true) (h2 : idB c = true) (h3 : ¬ n < loN 4) (h3b : ¬ hiN 4 < n) (s : Int) (h4 : wrongOf m Z d = s) (hs : ¬ 0 ≤ s) :
    Calls Tryd.prog 33 #[.agg #[.int .i64 4, .int .i64 i, .int .i64 c, .int .i64 n, .bool f, .slice A m cp], .int .i64 d] w fun e w' => e = .returned (.nilIface) ∧ Keep w w' := by
  replace hA := Lib.hid hA
  replace h1 := Lib.hid h1
  replace h2 := Lib.hid h2
  replace h4 := Lib.hid h4
  go_enter Tryd.func33, Tryd.ntmps33
  go_wp2_with fail
  refine (isID_is _ h1.out).mono ?_
  rintro e w' ⟨rfl, rfl⟩
  go_wp2_with fail
  refine (isID_is _ h2.out).mono ?_
  rintro e w' ⟨rfl, rfl⟩
  go_wp2_with fail
  refine (range_fn _ _).mono ?_
  rintro e w' ⟨rfl, rfl⟩
  go_wp2_with fail
  refine (vwrong_is (hA.out.keep (Keep.one _ _)) _ h4.out).mono ?_
  rintro e w' ⟨rfl, rfl⟩
  go_wp2
  go_ret
  exact ⟨rfl, Keep.one _ _⟩

theorem owrong_fn (k i c n : Int) (f : Bool) (A : Option Addr) (m cp : Nat) (Z : Nat → Int) (d : Int) (w : World) (hA : Rd w A m Z) :
    Calls Tryd.prog 33 #[.agg #[.int .i64 k, .int .i64 i, .int .i64 c, .int .i64 n, .bool f, .slice A m cp], .int .i64 d] w fun e w' => e = .returned (errV (wr k i c n (wrongOf m Z d))) ∧ Keep w w' := by
  cases h1 : idB i
  · rw [show wr k i c n (wrongOf m Z d) = some (2, 0) from by simp [wr, h1]]
    exact owrong_id k i c n f A m cp Z d w hA h1
  cases h2 : idB c
  · rw [show wr k i c n (wrongOf m Z d) = some (2, 1) from by simp [wr, h1, h2]]
    exact owrong_class k i c n f A m cp Z d w hA h1 h2
  by_cases h3 : n < loN k
  · rw [show wr k i c n (wrongOf m Z d) = some (4, 0) from by simp [wr, h1, h2, h3]]
    exact owrong_low k i c n f A m cp Z d w hA h1 h2 h3
  by_cases h3b : hiN k < n
  · rw [show wr k i c n (wrongOf m Z d) = some (4, 0) from by simp [wr, h1, h2, h3b]]
    exact owrong_high k i c n f A m cp Z d w hA h1 h2 h3 h3b
  by_cases hk : k = 2 ∨ k = 4
  · by_cases hs : 0 ≤ wrongOf m Z d
    · rw [show wr k i c n (wrongOf m Z d) = some (3, wrongOf m Z d) from by simp [wr, h1, h2, h3, h3b, hk, hs]]
      rcases hk with rfl | rfl
      · exact owrong_amt2 i c n f A m cp Z d w hA h1 h2 h3 h3b _ rfl hs
      · exact owrong_amt4 i c n f A m cp Z d w hA h1 h2 h3 h3b _ rfl hs
    · rw [show wr k i c n (wrongOf m Z d) = none from by simp [wr, h1, h2, h3, h3b, hs]]
      rcases hk with rfl | rfl
      · exact owrong_fine2 i c n f A m cp Z d w hA h1 h2 h3 h3b _ rfl hs
      · exact owrong_fine4 i c n f A m cp Z d w hA h1 h2 h3 h3b _ rfl hs
  · rw [show wr k i c n (wrongOf m Z d) = none from by simp [wr, h1, h2, h3, h3b, hk]]
    exact owrong_none k i c n f A m cp Z d w hA h1 h2 h3 h3b (fun h => hk (Or.inl h)) (fun h => hk (Or.inr h))


/-! ### What is wrong with an operation, whatever its kind -/
def chk (k i c n s : Int) : Option (Int × Int) := if k < 1 ∨ 7 < k then some (1, 0) else wr k (kI k i) (kC k c) (kN k n) s
def codeO : Option (Int × Int) → Int
  | none => 0
  | some p => p.1
def atO : Option (Int × Int) → Int
  | none => 0
  | some p => p.2
theorem chk_out {k i c n s : Int} (h : k < 1 ∨ 7 < k) : chk k i c n s = some (1, 0) := by unfold chk; rw [if_pos h]
theorem chk_in {k i c n s : Int} (h : ¬ (k < 1 ∨ 7 < k)) : chk k i c n s = wr k (kI k i) (kC k c) (kN k n) s := by unfold chk; rw [if_neg h]
section
variable {k i c n s : Int}
theorem wr_id (h1 : idB i = false) : wr k i c n s = some (2, 0) := by unfold wr; rw [if_pos h1]
theorem wr_class (h1 : idB i = true) (h2 : idB c = false) : wr k i c n s = some (2, 1) := by unfold wr; rw [if_neg (by rw [h1]; exact Bool.noConfusion), if_pos h2]
theorem wr_num (h1 : idB i = true) (h2 : idB c = true) (h3 : outB n (loN k) (hiN k) = true) : wr k i c n s = some (4, 0) := by
  unfold wr; rw [if_neg (by rw [h1]; exact Bool.noConfusion), if_neg (by rw [h2]; exact Bool.noConfusion), if_pos (by simpa [outB] using h3)]
theorem wr_amt (h1 : idB i = true) (h2 : idB c = true) (h3 : outB n (loN k) (hiN k) = false) (h4 : (k = 2 ∨ k = 4) ∧ 0 ≤ s) : wr k i c n s = some (3, s) := by
  unfold wr; rw [if_neg (by rw [h1]; exact Bool.noConfusion), if_neg (by rw [h2]; exact Bool.noConfusion), if_neg (of_decide_eq_false h3), if_pos h4]
theorem wr_none (h1 : idB i = true) (h2 : idB c = true) (h3 : outB n (loN k) (hiN k) = false) (h4 : ¬ ((k = 2 ∨ k = 4) ∧ 0 ≤ s)) : wr k i c n s = none := by
  unfold wr; rw [if_neg (by rw [h1]; exact Bool.noConfusion), if_neg (by rw [h2]; exact Bool.noConfusion), if_neg (of_decide_eq_false h3), if_neg h4]
end
theorem id_of {x : Int} {b : Bool} (h : outB x 0 1073741824 = b) : idB x = !b := by rw [idB_out, h]

set_option maxHeartbeats 1000000 in
theorem rchk_1_h1 (i c n : Int) (f : Bool) (A : Option Addr) (m cp : Nat) (Z : Nat → Int) (d : Int) (w : World) (hA : Rd w A m Z) (h1 : outB i 0 1073741824 = true) :
    Calls Tryd.prog 10 #[.agg #[.int .i64 1, .int .i64 i, .int .i64 c, .int .i64 n, .bool f, .slice A m cp], .int .i64 d] w fun e w' => e = .returned (.tuple #[.int .i64 2, .int .i64 0]) ∧ Keep w w' := by
  replace hA := Lib.hid hA
  have h0 : Hid (outB 1 1 7 = false) := by show _ = _; decide
  replace h1 := Lib.hid h1
  go_enter Tryd.func10, Tryd.ntmps10
  go_wp2_with fail
  refine (outside_is _ h0.out).mono ?_
  rintro e w' ⟨rfl, rfl⟩
  go_wp2_with fail
  refine (outside_is _ h1.out).mono ?_
  rintro e w' ⟨rfl, rfl⟩
  go_wp2
  go_ret2
  exact ⟨rfl, Keep.one _ _⟩

set_option maxHeartbeats 1000000 in
theorem rchk_1_h3 (i c n : Int) (f : Bool) (A : Option Addr) (m cp : Nat) (Z : Nat → Int) (d : Int) (w : World) (hA : Rd w A m Z) (h1 : outB i 0 1073741824 = false) (h3 : outB n (-1073741824) 1073741824 = true) :
    Calls Tryd.prog 10 #[.agg #[.int .i64 1, .int .i64 i, .int .i64 c, .int .i64 n, .bool f, .slice A m cp], .int .i64 d] w fun e w' => e = .returned (.tuple #[.int .i64 4, .int .i64 0]) ∧ Keep w w' := by
  replace hA := Lib.hid hA
  have h0 : Hid (outB 1 1 7 = false) := by show _ = _; decide
  replace h1 := Lib.hid h1
  replace h3 := Lib.hid h3
  go_enter Tryd.func10, Tryd.ntmps10
  go_wp2_with fail
  refine (outside_is _ h0.out).mono ?_
  rintro e w' ⟨rfl, rfl⟩
  go_wp2_with fail
  refine (outside_is _ h1.out).mono ?_
  rintro e w' ⟨rfl, rfl⟩
  go_wp2_with fail
  refine (outside_is _ h3.out).mono ?_
  rintro e w' ⟨rfl, rfl⟩
  go_wp2
  go_ret2
  exact ⟨rfl, Keep.one _ _⟩

set_option maxHeartbeats 1000000 in
theorem rchk_1_fine (i c n : Int) (f : Bool) (A : Option Addr) (m cp : Nat) (Z : Nat → Int) (d : Int) (w : World) (hA : Rd w A m Z) (h1 : outB i 0 1073741824 = false) (h3 : outB n (-1073741824) 1073741824 = false) :
    Calls Tryd.prog 10 #[.agg #[.int .i64 1, .int .i64 i, .int .i64 c, .int .i64 n, .bool f, .slice A m cp], .int .i64 d] w fun e w' => e = .returned (.tuple #[.int .i64 0, .int .i64 0]) ∧ Keep w w' := by
  replace hA := Lib.hid hA
  have h0 : Hid (outB 1 1 7 = false) := by show _ = _; decide
  replace h1 := Lib.hid h1
  replace h3 := Lib.hid h3
  go_enter Tryd.func10, Tryd.ntmps10
  go_wp2_with fail
  refine (outside_is _ h0.out).mono ?_
  rintro e w' ⟨rfl, rfl⟩
  go_wp2_with fail
  refine (outside_is _ h1.out).mono ?_
  rintro e w' ⟨rfl, rfl⟩
  go_wp2_with fail
  refine (outside_is _ h3.out).mono ?_
  rintro e w' ⟨rfl, rfl⟩
  go_wp2
  go_ret2
  exact ⟨rfl, Keep.one _ _⟩

set_option maxHeartbeats 1000000 in
theorem rchk_2_h1 (i c n : Int) (f : Bool) (A : Option Addr) (m cp : Nat) (Z : Nat → Int) (d : Int) (w : World) (hA : Rd w A m Z) (h1 : outB i 0 1073741824 = true) :
    Calls Tryd.prog 10 #[.agg #[.int .i64 2, .int .i64 i, .int .i64 c, .int .i64 n, .bool f, .slice A m cp], .int .i64 d] w fun e w' => e = .returned (.tuple #[.int .i64 2, .int .i64 0]) ∧ Keep w w' := by
  replace hA := Lib.hid hA
  have h0 : Hid (outB 2 1 7 = false) := by show _ = _; decide
  replace h1 := Lib.hid h1
  go_enter Tryd.func10, Tryd.ntmps10
  go_wp2_with fail
  refine (outside_is _ h0.out).mono ?_
  rintro e w' ⟨rfl, rfl⟩
  go_wp2_with fail
  refine (outside_is _ h1.out).mono ?_
  rintro e w' ⟨rfl, rfl⟩
  go_wp2
  go_ret2
  exact ⟨rfl, Keep.one _ _⟩

set_option maxHeartbeats 1000000 in
theorem rchk_2_h4 (i c n : Int) (f : Bool) (A : Option Addr) (m cp : Nat) (Z : Nat → Int) (d : Int) (w : World) (hA : Rd w A m Z) (h1 : outB i 0 1073741824 = false) (s : Int) (h4 : wrongOf m Z d = s) (hs : 0 ≤ s) :
    Calls Tryd.prog 10 #[.agg #[.int .i64 2, .int .i64 i, .int .i64 c, .int .i64 n, .bool f, .slice A m cp], .int .i64 d] w fun e w' => e = .returned (.tuple #[.int .i64 3, .int .i64 s]) ∧ Keep w w' := by
  replace hA := Lib.hid hA
  have h0 : Hid (outB 2 1 7 = false) := by show _ = _; decide
  replace h1 := Lib.hid h1
  replace h4 := Lib.hid h4
  go_enter Tryd.func10, Tryd.ntmps10
  go_wp2_with fail
  refine (outside_is _ h0.out).mono ?_
  rintro e w' ⟨rfl, rfl⟩
  go_wp2_with fail
  refine (outside_is _ h1.out).mono ?_
  rintro e w' ⟨rfl, rfl⟩
  go_wp2_with fail
  refine (rwrong_is (hA.out.keep (Keep.one _ _)) _ h4.out).mono ?_
  rintro e w' ⟨rfl, rfl⟩
  go_wp2
  go_ret2
  exact ⟨rfl, Keep.one _ _⟩

set_option maxHeartbeats 1000000 in
theorem rchk_2_fine (i c n : Int) (f : Bool) (A : Option Addr) (m cp : Nat) (Z : Nat → Int) (d : Int) (w : World) (hA : Rd w A m Z) (h1 : outB i 0 1073741824 = false) (s : Int) (h4 : wrongOf m Z d = s) (hs : ¬ 0 ≤ s) :
    Calls Tryd.prog 10 #[.agg #[.int .i64 2, .int .i64 i, .int .i64 c, .int .i64 n, .bool f, .slice A m cp], .int .i64 d] w fun e w' => e = .returned (.tuple #[.int .i64 0, .int .i64 0]) ∧ Keep w w' := by
  replace hA := Lib.hid hA
  have h0 : Hid (outB 2 1 7 = false) := by show _ = _; decide
  replace h1 := Lib.hid h1
  replace h4 := Lib.hid h4
  go_enter Tryd.func10, Tryd.ntmps10
  go_wp2_with fail
  refine (outside_is _ h0.out).mono ?_
  rintro e w' ⟨rfl, rfl⟩
  go_wp2_with fail
  refine (outside_is _ h1.out).mono ?_
  rintro e w' ⟨rfl, rfl⟩
  go_wp2_with fail
  refine (rwrong_is (hA.out.keep (Keep.one _ _)) _ h4.out).mono ?_
  rintro e w' ⟨rfl, rfl⟩
  go_wp2
  go_ret2
  exact ⟨rfl, Keep.one _ _⟩

set_option maxHeartbeats 1000000 in
theorem rchk_3_h1 (i c n : Int) (f : Bool) (A : Option Addr) (m cp : Nat) (Z : Nat → Int) (d : Int) (w : World) (hA : Rd w A m Z) (h1 : outB i 0 1073741824 = true) :
    Calls Tryd.prog 10 #[.agg #[.int .i64 3, .int .i64 i, .int .i64 c, .int .i64 n, .bool f, .slice A m cp], .int .i64 d] w fun e w' => e = .returned (.tuple #[.int .i64 2, .int .i64 0]) ∧ Keep w w' := by
  replace hA := Lib.hid hA
  have h0 : Hid (outB 3 1 7 = false) := by show _ = _; decide
  replace h1 := Lib.hid h1
  go_enter Tryd.func10, Tryd.ntmps10
  go_wp2_with fail
  refine (outside_is _ h0.out).mono ?_
  rintro e w' ⟨rfl, rfl⟩
  go_wp2_with fail
  refine (outside_is _ h1.out).mono ?_
  rintro e w' ⟨rfl, rfl⟩
  go_wp2
  go_ret2
  exact ⟨rfl, Keep.one _ _⟩

set_option maxHeartbeats 1000000 in
theorem rchk_3_fine (i c n : Int) (f : Bool) (A : Option Addr) (m cp : Nat) (Z : Nat → Int) (d : Int) (w : World) (hA : Rd w A m Z) (h1 : outB i 0 1073741824 = false) :
    Calls Tryd.prog 10 #[.agg #[.int .i64 3, .int .i64 i, .int .i64 c, .int .i64 n, .bool f, .slice A m cp], .int .i64 d] w fun e w' => e = .returned (.tuple #[.int .i64 0, .int .i64 0]) ∧ Keep w w' := by
  replace hA := Lib.hid hA
  have h0 : Hid (outB 3 1 7 = false) := by show _ = _; decide
  replace h1 := Lib.hid h1
  go_enter Tryd.func10, Tryd.ntmps10
  go_wp2_with fail
  refine (outside_is _ h0.out).mono ?_
  rintro e w' ⟨rfl, rfl⟩
  go_wp2_with fail
  refine (outside_is _ h1.out).mono ?_
  rintro e w' ⟨rfl, rfl⟩
  go_wp2
  go_ret2
  exact ⟨rfl, Keep.one _ _⟩

set_option maxHeartbeats 1000000 in
theorem rchk_4_h1 (i c n : Int) (f : Bool) (A : Option Addr) (m cp : Nat) (Z : Nat → Int) (d : Int) (w : World) (hA : Rd w A m Z) (h1 : outB i 0 1073741824 = true) :
    Calls Tryd.prog 10 #[.agg #[.int .i64 4, .int .i64 i, .int .i64 c, .int .i64 n, .bool f, .slice A m cp], .int .i64 d] w fun e w' => e = .returned (.tuple #[.int .i64 2, .int .i64 0]) ∧ Keep w w' := by
  replace hA := Lib.hid hA
  have h0 : Hid (outB 4 1 7 = false) := by show _ = _; decide
  replace h1 := Lib.hid h1
  go_enter Tryd.func10, Tryd.ntmps10
  go_wp2_with fail
  refine (outside_is _ h0.out).mono ?_
  rintro e w' ⟨rfl, rfl⟩
  go_wp2_with fail
  refine (outside_is _ h1.out).mono ?_
  rintro e w' ⟨rfl, rfl⟩
  go_wp2
  go_ret2
  exact ⟨rfl, Keep.one _ _⟩

set_option maxHeartbeats 1000000 in
theorem rchk_4_h2 (i c n : Int) (f : Bool) (A : Option Addr) (m cp : Nat) (Z : Nat → Int) (d : Int) (w : World) (hA : Rd w A m Z) (h1 : outB i 0 1073741824 = false) (h2 : outB c 0 1073741824 = true) :
    Calls Tryd.prog 10 #[.agg #[.int .i64 4, .int .i64 i, .int .i64 c, .int .i64 n, .bool f, .slice A m cp], .int .i64 d] w fun e w' => e = .returned (.tuple #[.int .i64 2, .int .i64 1]) ∧ Keep w w' := by
  replace hA := Lib.hid hA
  have h0 : Hid (outB 4 1 7 = false) := by show _ = _; decide
  replace h1 := Lib.hid h1
  replace h2 := Lib.hid h2
  go_enter Tryd.func10, Tryd.ntmps10
  go_wp2_with fail
  refine (outside_is _ h0.out).mono ?_
  rintro e w' ⟨rfl, rfl⟩
  go_wp2_with fail
  refine (outside_is _ h1.out).mono ?_
  rintro e w' ⟨rfl, rfl⟩
  go_wp2_with fail
  refine (outside_is _ h2.out).mono ?_
  rintro e w' ⟨rfl, rfl⟩
  go_wp2
  go_ret2
  exact ⟨rfl, Keep.one _ _⟩

set_option maxHeartbeats 1000000 in
theorem rchk_4_h3 (i c n : Int) (f : Bool) (A : Option Addr) (m cp : Nat) (Z : Nat → Int) (d : Int) (w : World) (hA : Rd w A m Z) (h1 : outB i 0 1073741824 = false) (h2 : outB c 0 1073741824 = false) (h3 : outB n 0 1048576 = true) :
    Calls Tryd.prog 10 #[.agg #[.int .i64 4, .int .i64 i, .int .i64 c, .int .i64 n, .bool f, .slice A m cp], .int .i64 d] w fun e w' => e = .returned (.tuple #[.int .i64 4, .int .i64 0]) ∧ Keep w w' := by
  replace hA := Lib.hid hA
  have h0 : Hid (outB 4 1 7 = false) := by show _ = _; decide
  replace h1 := Lib.hid h1
  replace h2 := Lib.hid h2
  replace h3 := Lib.hid h3
  go_enter Tryd.func10, Tryd.ntmps10
  go_wp2_with fail
  refine (outside_is _ h0.out).mono ?_
  rintro e w' ⟨rfl, rfl⟩
  go_wp2_with fail
  refine (outside_is _ h1.out).mono ?_
  rintro e w' ⟨rfl, rfl⟩
  go_wp2_with fail
  refine (outside_is _ h2.out).mono ?_
  rintro e w' ⟨rfl, rfl⟩
  go_wp2_with fail
  refine (outside_is _ h3.out).mono ?_
  rintro e w' ⟨rfl, rfl⟩
  go_wp2
  go_ret2
  exact ⟨rfl, Keep.one _ _⟩

set_option maxHeartbeats 1000000 in
theorem rchk_4_h4 (i c n : Int) (f : Bool) (A : Option Addr) (m cp : Nat) (Z : Nat → Int) (d : Int) (w : World) (hA : Rd w A m Z) (h1 : outB i 0 1073741824 = false) (h2 : outB c 0 1073741824 = false) (h3 : outB n 0 1048576 = false) (s : Int) (h4 : wrongOf m Z d = s) (hs : 0 ≤ s) :
    Calls Tryd.prog 10 #[.agg #[.int .i64 4, .int .i64 i, .int .i64 c, .int .i64 n, .bool f, .slice A m cp], .int .i64 d] w fun e w' => e = .returned (.tuple #[.int .i64 3, .int .i64 s]) ∧ Keep w w' := by
  replace hA := Lib.hid hA
  have h0 : Hid (outB 4 1 7 = false) := by show _ = _; decide
  replace h1 := Lib.hid h1
  replace h2 := Lib.hid h2
  replace h3 := Lib.hid h3
  replace h4 := Lib.hid h4
  go_enter Tryd.func10, Tryd.ntmps10
  go_wp2_with fail
  refine (outside_is _ h0.out).mono ?_
  rintro e w' ⟨rfl, rfl⟩
  go_wp2_with fail
  refine (outside_is _ h1.out).mono ?_
  rintro e w' ⟨rfl, rfl⟩
  go_wp2_with fail
  refine (outside_is _ h2.out).mono ?_
  rintro e w' ⟨rfl, rfl⟩
  go_wp2_with fail
  refine (outside_is _ h3.out).mono ?_
  rintro e w' ⟨rfl, rfl⟩
  go_wp2_with fail
  refine (rwrong_is (hA.out.keep (Keep.one _ _)) _ h4.out).mono ?_
  rintro e w' ⟨rfl, rfl⟩
  go_wp2
  go_ret2
  exact ⟨rfl, Keep.one _ _⟩

set_option maxHeartbeats 1000000 in
theorem rchk_4_fine (i c n : Int) (f : Bool) (A : Option Addr) (m cp : Nat) (Z : Nat → Int) (d : Int) (w : World) (hA : Rd w A m Z) (h1 : outB i 0 1073741824 = false) (h2 : outB c 0 1073741824 = false) (h3 : outB n 0 1048576 = false) (s : Int) (h4 : wrongOf m Z d = s) (hs : ¬ 0 ≤ s) :
    Calls Tryd.prog 10 #[.agg #[.int .i64 4, .int .i64 i, .int .i64 c, .int .i64 n, .bool f, .slice A m cp], .int .i64 d] w fun e w' => e = .returned (.tuple #[.int .i64 0, .int .i64 0]) ∧ Keep w w' := by
  replace hA := Lib.hid hA
  have h0 : Hid (outB 4 1 7 = false) := by show _ = _; decide
  replace h1 := Lib.hid h1
  replace h2 := Lib.hid h2
  replace h3 := Lib.hid h3
  replace h4 := Lib.hid h4
  go_enter Tryd.func10, Tryd.ntmps10
  go_wp2_with fail
  refine (outside_is _ h0.out).mono ?_
  rintro e w' ⟨rfl, rfl⟩
  go_wp2_with fail
  refine (outside_is _ h1.out).mono ?_
  rintro e w' ⟨rfl, rfl⟩
  go_wp2_with fail
  refine (outside_is _ h2.out).mono ?_
  rintro e w' ⟨rfl, rfl⟩
  go_wp2_with fail
  refine (outside_is _ h3.out).mono ?_
  rintro e w' ⟨rfl, rfl⟩
  go_wp2_with fail
  refine (rwrong_is (hA.out.keep (Keep.one _ _)) _ h4.out).mono ?_
  rintro e w' ⟨rfl, rfl⟩
  go_wp2
  go_ret2
  exact ⟨rfl, Keep.one _ _⟩

set_option maxHeartbeats 1000000 in
theorem rchk_5_h1 (i c n : Int) (f : Bool) (A : Option Addr) (m cp : Nat) (Z : Nat → Int) (d : Int) (w : World) (hA : Rd w A m Z) (h1 : outB i 0 1073741824 = true) :
    Calls Tryd.prog 10 #[.agg #[.int .i64 5, .int .i64 i, .int .i64 c, .int .i64 n, .bool f, .slice A m cp], .int .i64 d] w fun e w' => e = .returned (.tuple #[.int .i64 2, .int .i64 0]) ∧ Keep w w' := by
  replace hA := Lib.hid hA
  have h0 : Hid (outB 5 1 7 = false) := by show _ = _; decide
  replace h1 := Lib.hid h1
  go_enter Tryd.func10, Tryd.ntmps10
  go_wp2_with fail
  refine (outside_is _ h0.out).mono ?_
  rintro e w' ⟨rfl, rfl⟩
  go_wp2_with fail
  refine (outside_is _ h1.out).mono ?_
  rintro e w' ⟨rfl, rfl⟩
  go_wp2
  go_ret2
  exact ⟨rfl, Keep.one _ _⟩

set_option maxHeartbeats 1000000 in
theorem rchk_5_fine (i c n : Int) (f : Bool) (A : Option Addr) (m cp : Nat) (Z : Nat → Int) (d : Int) (w : World) (hA : Rd w A m Z) (h1 : outB i 0 1073741824 = false) :
    Calls Tryd.prog 10 #[.agg #[.int .i64 5, .int .i64 i, .int .i64 c, .int .i64 n, .bool f, .slice A m cp], .int .i64 d] w fun e w' => e = .returned (.tuple #[.int .i64 0, .int .i64 0]) ∧ Keep w w' := by
  replace hA := Lib.hid hA
  have h0 : Hid (outB 5 1 7 = false) := by show _ = _; decide
  replace h1 := Lib.hid h1
  go_enter Tryd.func10, Tryd.ntmps10
  go_wp2_with fail
  refine (outside_is _ h0.out).mono ?_
  rintro e w' ⟨rfl, rfl⟩
  go_wp2_with fail
  refine (outside_is _ h1.out).mono ?_
  rintro e w' ⟨rfl, rfl⟩
  go_wp2
  go_ret2
  exact ⟨rfl, Keep.one _ _⟩

set_option maxHeartbeats 1000000 in
theorem rchk_6_h3 (i c n : Int) (f : Bool) (A : Option Addr) (m cp : Nat) (Z : Nat → Int) (d : Int) (w : World) (hA : Rd w A m Z) (h3 : outB n 0 1048576 = true) :
    Calls Tryd.prog 10 #[.agg #[.int .i64 6, .int .i64 i, .int .i64 c, .int .i64 n, .bool f, .slice A m cp], .int .i64 d] w fun e w' => e = .returned (.tuple #[.int .i64 4, .int .i64 0]) ∧ Keep w w' := by
  replace hA := Lib.hid hA
  have h0 : Hid (outB 6 1 7 = false) := by show _ = _; decide
  replace h3 := Lib.hid h3
  go_enter Tryd.func10, Tryd.ntmps10
  go_wp2_with fail
  refine (outside_is _ h0.out).mono ?_
  rintro e w' ⟨rfl, rfl⟩
  go_wp2_with fail
  refine (outside_is _ h3.out).mono ?_
  rintro e w' ⟨rfl, rfl⟩
  go_wp2
  go_ret2
  exact ⟨rfl, Keep.one _ _⟩

set_option maxHeartbeats 1000000 in
theorem rchk_6_fine (i c n : Int) (f : Bool) (A : Option Addr) (m cp : Nat) (Z : Nat → Int) (d : Int) (w : World) (hA : Rd w A m Z) (h3 : outB n 0 1048576 = false) :
    Calls Tryd.prog 10 #[.agg #[.int .i64 6, .int .i64 i, .int .i64 c, .int .i64 n, .bool f, .slice A m cp], .int .i64 d] w fun e w' => e = .returned (.tuple #[.int .i64 0, .int .i64 0]) ∧ Keep w w' := by
  replace hA := Lib.hid hA
  have h0 : Hid (outB 6 1 7 = false) := by show _ = _; decide
  replace h3 := Lib.hid h3
  go_enter Tryd.func10, Tryd.ntmps10
  go_wp2_with fail
  refine (outside_is _ h0.out).mono ?_
  rintro e w' ⟨rfl, rfl⟩
  go_wp2_with fail
  refine (outside_is _ h3.out).mono ?_
  rintro e w' ⟨rfl, rfl⟩
  go_wp2
  go_ret2
  exact ⟨rfl, Keep.one _ _⟩

set_option maxHeartbeats 1000000 in
theorem rchk_7_fine (i c n : Int) (f : Bool) (A : Option Addr) (m cp : Nat) (Z : Nat → Int) (d : Int) (w : World) (hA : Rd w A m Z) :
    Calls Tryd.prog 10 #[.agg #[.int .i64 7, .int .i64 i, .int .i64 c, .int .i64 n, .bool f, .slice A m cp], .int .i64 d] w fun e w' => e = .returned (.tuple #[.int .i64 0, .int .i64 0]) ∧ Keep w w' := by
  replace hA := Lib.hid hA
  have h0 : Hid (outB 7 1 7 = false) := by show _ = _; decide
  go_enter Tryd.func10, Tryd.ntmps10
  go_wp2_with fail
  refine (outside_is _ h0.out).mono ?_
  rintro e w' ⟨rfl, rfl⟩
  go_wp2
  go_ret2
  exact ⟨rfl, Keep.one _ _⟩

set_option maxHeartbeats 1000000 in
theorem rchk_out (k i c n : Int) (f : Bool) (A : Option Addr) (m cp : Nat) (d : Int) (w : World) (h : k < 1 ∨ 7 < k) :
    Calls Tryd.prog 10 #[.agg #[.int .i64 k, .int .i64 i, .int .i64 c, .int .i64 n, .bool f, .slice A m cp], .int .i64 d] w fun e w' => e = .returned (.tuple #[.int .i64 1, .int .i64 0]) ∧ Keep w w' := by
  have h0 : Hid (outB k 1 7 = true) := by show _ = _; exact decide_eq_true h
  replace h := Lib.hid h
  go_enter Tryd.func10, Tryd.ntmps10
  go_wp2_with fail
  refine (outside_is _ h0.out).mono ?_
  rintro e w' ⟨rfl, rfl⟩
  go_wp2
  go_ret2
  exact ⟨rfl, Keep.one _ _⟩
/-- The reference's Check. -/
theorem rcheck_fn (k i c n : Int) (f : Bool) (A : Option Addr) (m cp : Nat) (Z : Nat → Int) (d : Int) (w : World) (hA : Rd w A m Z) :
    Calls Tryd.prog 10 #[.agg #[.int .i64 k, .int .i64 i, .int .i64 c, .int .i64 n, .bool f, .slice A m cp], .int .i64 d] w fun e w' => e = .returned (.tuple #[.int .i64 (codeO (chk k i c n (wrongOf (kM k m) Z d))), .int .i64 (atO (chk k i c n (wrongOf (kM k m) Z d)))]) ∧ Keep w w' := by
  rcases kinds_or k with rfl | rfl | rfl | rfl | rfl | rfl | rfl | h
  · have e := chk_in (k := 1) (i := i) (c := c) (n := n) (s := wrongOf (kM 1 m) Z d) (by omega)
    cases h1 : outB i 0 1073741824
    rotate_left
    · rw [show chk 1 i c n (wrongOf (kM 1 m) Z d) = some (2, 0) from e.trans (wr_id (id_of h1))]
      exact rchk_1_h1 i c n f A m cp Z d w hA h1
    cases h3 : outB n (-1073741824) 1073741824
    rotate_left
    · rw [show chk 1 i c n (wrongOf (kM 1 m) Z d) = some (4, 0) from e.trans (wr_num (id_of h1) (rfl) h3)]
      exact rchk_1_h3 i c n f A m cp Z d w hA h1 h3
    rw [show chk 1 i c n (wrongOf (kM 1 m) Z d) = none from e.trans (wr_none (id_of h1) (rfl) (h3) (by omega))]
    exact rchk_1_fine i c n f A m cp Z d w hA h1 h3
  · have e := chk_in (k := 2) (i := i) (c := c) (n := n) (s := wrongOf (kM 2 m) Z d) (by omega)
    cases h1 : outB i 0 1073741824
    rotate_left
    · rw [show chk 2 i c n (wrongOf (kM 2 m) Z d) = some (2, 0) from e.trans (wr_id (id_of h1))]
      exact rchk_2_h1 i c n f A m cp Z d w hA h1
    by_cases hs : 0 ≤ wrongOf m Z d
    · rw [show chk 2 i c n (wrongOf (kM 2 m) Z d) = some (3, wrongOf m Z d) from e.trans (wr_amt (id_of h1) (rfl) (rfl) ⟨by omega, hs⟩)]
      exact rchk_2_h4 i c n f A m cp Z d w hA h1 _ rfl hs
    rw [show chk 2 i c n (wrongOf (kM 2 m) Z d) = none from e.trans (wr_none (id_of h1) (rfl) (rfl) (by exact fun h => hs h.2))]
    exact rchk_2_fine i c n f A m cp Z d w hA h1 _ rfl hs
  · have e := chk_in (k := 3) (i := i) (c := c) (n := n) (s := wrongOf (kM 3 m) Z d) (by omega)
    cases h1 : outB i 0 1073741824
    rotate_left
    · rw [show chk 3 i c n (wrongOf (kM 3 m) Z d) = some (2, 0) from e.trans (wr_id (id_of h1))]
      exact rchk_3_h1 i c n f A m cp Z d w hA h1
    rw [show chk 3 i c n (wrongOf (kM 3 m) Z d) = none from e.trans (wr_none (id_of h1) (rfl) (rfl) (by omega))]
    exact rchk_3_fine i c n f A m cp Z d w hA h1
  · have e := chk_in (k := 4) (i := i) (c := c) (n := n) (s := wrongOf (kM 4 m) Z d) (by omega)
    cases h1 : outB i 0 1073741824
    rotate_left
    · rw [show chk 4 i c n (wrongOf (kM 4 m) Z d) = some (2, 0) from e.trans (wr_id (id_of h1))]
      exact rchk_4_h1 i c n f A m cp Z d w hA h1
    cases h2 : outB c 0 1073741824
    rotate_left
    · rw [show chk 4 i c n (wrongOf (kM 4 m) Z d) = some (2, 1) from e.trans (wr_class (id_of h1) (id_of h2))]
      exact rchk_4_h2 i c n f A m cp Z d w hA h1 h2
    cases h3 : outB n 0 1048576
    rotate_left
    · rw [show chk 4 i c n (wrongOf (kM 4 m) Z d) = some (4, 0) from e.trans (wr_num (id_of h1) (id_of h2) h3)]
      exact rchk_4_h3 i c n f A m cp Z d w hA h1 h2 h3
    by_cases hs : 0 ≤ wrongOf m Z d
    · rw [show chk 4 i c n (wrongOf (kM 4 m) Z d) = some (3, wrongOf m Z d) from e.trans (wr_amt (id_of h1) (id_of h2) (h3) ⟨by omega, hs⟩)]
      exact rchk_4_h4 i c n f A m cp Z d w hA h1 h2 h3 _ rfl hs
    rw [show chk 4 i c n (wrongOf (kM 4 m) Z d) = none from e.trans (wr_none (id_of h1) (id_of h2) (h3) (by exact fun h => hs h.2))]
    exact rchk_4_fine i c n f A m cp Z d w hA h1 h2 h3 _ rfl hs
  · have e := chk_in (k := 5) (i := i) (c := c) (n := n) (s := wrongOf (kM 5 m) Z d) (by omega)
    cases h1 : outB i 0 1073741824
    rotate_left
    · rw [show chk 5 i c n (wrongOf (kM 5 m) Z d) = some (2, 0) from e.trans (wr_id (id_of h1))]
      exact rchk_5_h1 i c n f A m cp Z d w hA h1
    rw [show chk 5 i c n (wrongOf (kM 5 m) Z d) = none from e.trans (wr_none (id_of h1) (rfl) (rfl) (by omega))]
    exact rchk_5_fine i c n f A m cp Z d w hA h1
  · have e := chk_in (k := 6) (i := i) (c := c) (n := n) (s := wrongOf (kM 6 m) Z d) (by omega)
    cases h3 : outB n 0 1048576
    rotate_left
    · rw [show chk 6 i c n (wrongOf (kM 6 m) Z d) = some (4, 0) from e.trans (wr_num (rfl) (rfl) h3)]
      exact rchk_6_h3 i c n f A m cp Z d w hA h3
    rw [show chk 6 i c n (wrongOf (kM 6 m) Z d) = none from e.trans (wr_none (rfl) (rfl) (h3) (by omega))]
    exact rchk_6_fine i c n f A m cp Z d w hA h3
  · have e := chk_in (k := 7) (i := i) (c := c) (n := n) (s := wrongOf (kM 7 m) Z d) (by omega)
    rw [show chk 7 i c n (wrongOf (kM 7 m) Z d) = none from e.trans (wr_none (rfl) (rfl) (rfl) (by omega))]
    exact rchk_7_fine i c n f A m cp Z d w hA 
  · rw [chk_out h]
    exact rchk_out k i c n f A m cp d w h

end Go.Proofs.YtflkeabjcbjkhaaDoor
