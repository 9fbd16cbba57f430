/-
  OpChecks: the walk. Condition: the listed variables hold their own.
-/
import Derived.Test.YtflkeabjcbjkhaaDoorMakesLaw
import Derived.Test.YtflkeabjcbjkhaaDoorTexts
namespace Go.Proofs.YtflkeabjcbjkhaaDoor
open Go.RowKit Go.Extern.Stop Go.Stop Go.Extern

theorem codeError_of (c : Int) (s : ByteArray) (w : World) (hs : s.size ≤ 1000) (h : Calls Tryd.prog 79 #[.int .i64 c] w fun e w' => e = .returned (.string s) ∧ Keep w w') :
    Calls Tryd.prog 78 #[.int .i64 c] w fun e w' => e = .returned (.string (⟨#[101, 114, 114, 111, 114, 32]⟩ ++ s)) ∧ Keep w w' := by
  have h := Lib.hid h
  go_enter Tryd.func78, Tryd.ntmps78
  go_wp2_with (go_at_call 79; refine h.out.mono ?_; rintro e w' ⟨rfl, hk⟩)
  go_ret
  exact ⟨rfl, hk⟩
theorem ttl_in {k : Int} (h : ¬ (k < 1 ∨ 7 < k)) : ttl k = kindNm k := by
  unfold ttl
  rw [if_neg]
  rcases kinds_or k with rfl | rfl | rfl | rfl | rfl | rfl | rfl | h'
  iterate 7 decide +kernel
  exact absurd h' h
theorem kindNm_size (k : Int) : (kindNm k).size ≤ 100 := by
  rcases kinds_or k with rfl | rfl | rfl | rfl | rfl | rfl | rfl | h
  iterate 7 decide +kernel
  by_cases h0 : k = 0
  · subst h0; decide +kernel
  · rw [kindNm_out (by omega)]; decide +kernel
theorem colon_len (k : Int) : (kindNm k).size + (⟨#[58, 32, 101, 114, 114, 111, 114, 32]⟩ : ByteArray).size ≤ 9223372036854775807 := by
  have h1 := kindNm_size k
  have h2 : (⟨#[58, 32, 101, 114, 114, 111, 114, 32]⟩ : ByteArray).size = 8 := rfl
  omega
theorem colon_len2 (k : Int) (c : UInt8) : (kindNm k ++ ⟨#[58, 32, 101, 114, 114, 111, 114, 32]⟩).size + (⟨#[c]⟩ : ByteArray).size ≤ 9223372036854775807 := by
  have h1 := kindNm_size k
  have h2 : (⟨#[58, 32, 101, 114, 114, 111, 114, 32]⟩ : ByteArray).size = 8 := rfl
  have h3 : (⟨#[c]⟩ : ByteArray).size = 1 := rfl
  rw [ByteArray.size_append]
  omega
theorem rcheck_some (k i c n : Int) (f : Bool) (A : Option Addr) (m cp : Nat) (Z : Nat → Int) (d : Int) (w : World) (hA : Rd w A m Z) (x y : Int) (h : chk k i c n (wrongOf (kM k m) Z d) = some (x, y)) :
    Calls Tryd.prog 10 #[.agg #[.int .i64 k, .int .i64 i, .int .i64 c, .int .i64 n, .bool f, .slice A m cp], .int .i64 d] w fun e w' => e = .returned (.tuple #[.int .i64 x, .int .i64 y]) ∧ Keep w w' := by
  have := rcheck_fn k i c n f A m cp Z d w hA
  rw [h] at this
  exact this
theorem rcheck_none (k i c n : Int) (f : Bool) (A : Option Addr) (m cp : Nat) (Z : Nat → Int) (d : Int) (w : World) (hA : Rd w A m Z) (h : chk k i c n (wrongOf (kM k m) Z d) = none) :
    Calls Tryd.prog 10 #[.agg #[.int .i64 k, .int .i64 i, .int .i64 c, .int .i64 n, .bool f, .slice A m cp], .int .i64 d] w fun e w' => e = .returned (.tuple #[.int .i64 0, .int .i64 0]) ∧ Keep w w' := by
  have := rcheck_fn k i c n f A m cp Z d w hA
  rw [h] at this
  exact this

theorem itoa_2 (w : World) : Calls Tryd.prog 79 #[.int .i64 2] w fun e w' => e = .returned (.string ⟨#[50]⟩) ∧ Keep w w' := by
  refine (Tryd.strconv_Itoa_small 2 (by decide) w).mono fun e w' ⟨he, hw⟩ => ⟨?_, hw ▸ Keep.refl _⟩
  rw [he, Lib.decDigits]
  rfl
theorem says_2 (w : World) : Says 2 ⟨#[101, 114, 114, 111, 114, 32, 50]⟩ w := fun W _ =>
  (codeError_of 2 _ W (by decide) (itoa_2 W)).mono fun _ _ ⟨he, hw⟩ => ⟨he, hw⟩
theorem decimal_2 (w : World) : Calls Tryd.prog 15 #[.int .i64 2] w fun e w' => e = .returned (.string ⟨#[50]⟩) ∧ w = w' := by
  go_enter Tryd.func15, Tryd.ntmps15
  go_wp2
  go_ret
  exact ⟨rfl, rfl⟩
theorem errtext_2 (k y : Int) (b : Nat) (w : World) (hk : ¬ (k < 1 ∨ 7 < k)) (hv : Vars w) (h0 : w.cell? ⟨b, 0, none⟩ = some (.int .i64 k)) (h1 : w.cell? ⟨b, 0 + 1, none⟩ = some (Base.fault 2 y).val) :
    Calls Tryd.prog 95 #[.pointer (some ⟨b, 0, none⟩)] w fun e w' => e = .returned (.string (kindNm k ++ ⟨#[58, 32, 101, 114, 114, 111, 114, 32]⟩ ++ ⟨#[50]⟩)) ∧ Keep w w' := by
  have hs : (⟨(chainText (ByteArray.mk #[101, 114, 114, 111, 114, 32, 50]).data.toList [k]).toArray⟩ : ByteArray) = kindNm k ++ ⟨#[58, 32, 101, 114, 114, 111, 114, 32]⟩ ++ ⟨#[50]⟩ := by
    apply ByteArray.ext
    apply Array.ext'
    simp [chainText, ttl_in hk]
  rw [← hs]
  refine locError_Fault k [] 2 y b _ w _ hv h0 h1 (.base _) (says_2 w) ?_
  have := kindNm_size k
  simp [chainText, ttl_in hk]
  omega

theorem itoa_3 (w : World) : Calls Tryd.prog 79 #[.int .i64 3] w fun e w' => e = .returned (.string ⟨#[51]⟩) ∧ Keep w w' := by
  refine (Tryd.strconv_Itoa_small 3 (by decide) w).mono fun e w' ⟨he, hw⟩ => ⟨?_, hw ▸ Keep.refl _⟩
  rw [he, Lib.decDigits]
  rfl
theorem says_3 (w : World) : Says 3 ⟨#[101, 114, 114, 111, 114, 32, 51]⟩ w := fun W _ =>
  (codeError_of 3 _ W (by decide) (itoa_3 W)).mono fun _ _ ⟨he, hw⟩ => ⟨he, hw⟩
theorem decimal_3 (w : World) : Calls Tryd.prog 15 #[.int .i64 3] w fun e w' => e = .returned (.string ⟨#[51]⟩) ∧ w = w' := by
  go_enter Tryd.func15, Tryd.ntmps15
  go_wp2
  go_ret
  exact ⟨rfl, rfl⟩
theorem errtext_3 (k y : Int) (b : Nat) (w : World) (hk : ¬ (k < 1 ∨ 7 < k)) (hv : Vars w) (h0 : w.cell? ⟨b, 0, none⟩ = some (.int .i64 k)) (h1 : w.cell? ⟨b, 0 + 1, none⟩ = some (Base.fault 3 y).val) :
    Calls Tryd.prog 95 #[.pointer (some ⟨b, 0, none⟩)] w fun e w' => e = .returned (.string (kindNm k ++ ⟨#[58, 32, 101, 114, 114, 111, 114, 32]⟩ ++ ⟨#[51]⟩)) ∧ Keep w w' := by
  have hs : (⟨(chainText (ByteArray.mk #[101, 114, 114, 111, 114, 32, 51]).data.toList [k]).toArray⟩ : ByteArray) = kindNm k ++ ⟨#[58, 32, 101, 114, 114, 111, 114, 32]⟩ ++ ⟨#[51]⟩ := by
    apply ByteArray.ext
    apply Array.ext'
    simp [chainText, ttl_in hk]
  rw [← hs]
  refine locError_Fault k [] 3 y b _ w _ hv h0 h1 (.base _) (says_3 w) ?_
  have := kindNm_size k
  simp [chainText, ttl_in hk]
  omega

theorem itoa_4 (w : World) : Calls Tryd.prog 79 #[.int .i64 4] w fun e w' => e = .returned (.string ⟨#[52]⟩) ∧ Keep w w' := by
  refine (Tryd.strconv_Itoa_small 4 (by decide) w).mono fun e w' ⟨he, hw⟩ => ⟨?_, hw ▸ Keep.refl _⟩
  rw [he, Lib.decDigits]
  rfl
theorem says_4 (w : World) : Says 4 ⟨#[101, 114, 114, 111, 114, 32, 52]⟩ w := fun W _ =>
  (codeError_of 4 _ W (by decide) (itoa_4 W)).mono fun _ _ ⟨he, hw⟩ => ⟨he, hw⟩
theorem decimal_4 (w : World) : Calls Tryd.prog 15 #[.int .i64 4] w fun e w' => e = .returned (.string ⟨#[52]⟩) ∧ w = w' := by
  go_enter Tryd.func15, Tryd.ntmps15
  go_wp2
  go_ret
  exact ⟨rfl, rfl⟩
theorem errtext_4 (k y : Int) (b : Nat) (w : World) (hk : ¬ (k < 1 ∨ 7 < k)) (hv : Vars w) (h0 : w.cell? ⟨b, 0, none⟩ = some (.int .i64 k)) (h1 : w.cell? ⟨b, 0 + 1, none⟩ = some (Base.fault 4 y).val) :
    Calls Tryd.prog 95 #[.pointer (some ⟨b, 0, none⟩)] w fun e w' => e = .returned (.string (kindNm k ++ ⟨#[58, 32, 101, 114, 114, 111, 114, 32]⟩ ++ ⟨#[52]⟩)) ∧ Keep w w' := by
  have hs : (⟨(chainText (ByteArray.mk #[101, 114, 114, 111, 114, 32, 52]).data.toList [k]).toArray⟩ : ByteArray) = kindNm k ++ ⟨#[58, 32, 101, 114, 114, 111, 114, 32]⟩ ++ ⟨#[52]⟩ := by
    apply ByteArray.ext
    apply Array.ext'
    simp [chainText, ttl_in hk]
  rw [← hs]
  refine locError_Fault k [] 4 y b _ w _ hv h0 h1 (.base _) (says_4 w) ?_
  have := kindNm_size k
  simp [chainText, ttl_in hk]
  omega

set_option maxRecDepth 100000 in
set_option maxHeartbeats 16000000 in
theorem checks_out (k i c n : Int) (f : Bool) (A : Option Addr) (m cp : Nat) (d : Int) (w : World) (hv : Vars w) (hm : 100 < m) :
    Calls Tryd.prog 3 #[.agg #[.int .i64 k, .int .i64 i, .int .i64 c, .int .i64 n, .bool f, .slice A m cp], .int .i64 d] w fun e w' => e = .returned (.bool true) ∧ Keep w w' := by
  replace hv := Lib.hid hv
  go_enter Tryd.func3, Tryd.ntmps3
  go_wp2_with fail
  have k0 : Keep w (w.alloc (.cells #[.int .i64 k, .int .i64 i, .int .i64 c, .int .i64 n, .bool f, .slice A m cp] 24)) := Keep.one _ _
  have X := (Box.new w (.int .i64 k) (.int .i64 i) (.int .i64 c) (.int .i64 n) (.bool f) (.slice A m cp)).cel
  obtain ⟨w0, hw0⟩ : ∃ w0, w0 = w.alloc (.cells #[.int .i64 k, .int .i64 i, .int .i64 c, .int .i64 n, .bool f, .slice A m cp] 24) := ⟨_, rfl⟩
  rw [← hw0] at k0 X ⊢
  obtain ⟨s1, hs1⟩ : ∃ s1, s1 = w.heap.size := ⟨_, rfl⟩
  rw [← hs1] at X ⊢
  have hV := Lib.hid (hv.out.keep k0)
  replace X := Lib.hid X
  replace k0 := Lib.hid k0
  clear hw0 hs1
  refine (awake_true _ hV.out).mono ?_
  rintro e w1 ⟨rfl, h⟩
  have k1 := Lib.hid h
  replace h := Lib.hid h
  have e5 := (X.out.keep k1.out).e5
  go_wp2_with fail
  refine (awake_true _ (hV.out.keep k1.out)).mono ?_
  rintro e w2 ⟨rfl, h⟩
  have k2 := Lib.hid (k1.out.trans h)
  replace h := Lib.hid h
  go_wp2
  go_ret
  exact ⟨rfl, k0.out.trans k2.out⟩

set_option maxRecDepth 100000 in
set_option maxHeartbeats 16000000 in
theorem checks_none (k i c n : Int) (f : Bool) (A : Option Addr) (m cp : Nat) (Z : Nat → Int) (d : Int) (w : World) (hv : Vars w) (hA : Rd w A m Z) (hm : m ≤ 100) (hk : ¬ (k < 1 ∨ 7 < k)) (hr : wr k (kI k i) (kC k c) (kN k n) (wrongOf (kM k m) Z d) = none) :
    Calls Tryd.prog 3 #[.agg #[.int .i64 k, .int .i64 i, .int .i64 c, .int .i64 n, .bool f, .slice A m cp], .int .i64 d] w fun e w' => e = .returned (.bool true) ∧ Keep w w' := by
  replace hv := Lib.hid hv
  replace hA := Lib.hid hA
  have hc := Lib.hid ((chk_in hk).trans hr)
  replace hk := Lib.hid hk
  replace hr := Lib.hid hr
  go_enter Tryd.func3, Tryd.ntmps3
  go_wp2_with fail
  have k0 : Keep w (w.alloc (.cells #[.int .i64 k, .int .i64 i, .int .i64 c, .int .i64 n, .bool f, .slice A m cp] 24)) := Keep.one _ _
  have X := (Box.new w (.int .i64 k) (.int .i64 i) (.int .i64 c) (.int .i64 n) (.bool f) (.slice A m cp)).cel
  obtain ⟨w0, hw0⟩ : ∃ w0, w0 = w.alloc (.cells #[.int .i64 k, .int .i64 i, .int .i64 c, .int .i64 n, .bool f, .slice A m cp] 24) := ⟨_, rfl⟩
  rw [← hw0] at k0 X ⊢
  obtain ⟨s1, hs1⟩ : ∃ s1, s1 = w.heap.size := ⟨_, rfl⟩
  rw [← hs1] at X ⊢
  have hV := Lib.hid (hv.out.keep k0)
  replace X := Lib.hid X
  replace k0 := Lib.hid k0
  clear hw0 hs1
  refine (awake_true _ hV.out).mono ?_
  rintro e w1 ⟨rfl, h⟩
  have k1 := Lib.hid h
  replace h := Lib.hid h
  replace hA := Lib.hid (hA.out.keep k0.out)
  have e0 := (X.out.keep k1.out).e0
  have e1 := (X.out.keep k1.out).e1
  have e2 := (X.out.keep k1.out).e2
  have e3 := (X.out.keep k1.out).e3
  have e4 := (X.out.keep k1.out).e4
  have e5 := (X.out.keep k1.out).e5
  go_wp2_with fail
  refine (ocheck_none k i c n f A m cp Z d _ (hV.out.keep k1.out) (hA.out.keep k1.out) hk.out hr.out).mono ?_
  rintro e w2 ⟨rfl, h⟩
  have k2 := Lib.hid (k1.out.trans h)
  replace h := Lib.hid h
  clear e0 e1 e2 e3 e4 e5
  have e0 := (X.out.keep k2.out).e0
  have e1 := (X.out.keep k2.out).e1
  have e2 := (X.out.keep k2.out).e2
  have e3 := (X.out.keep k2.out).e3
  have e4 := (X.out.keep k2.out).e4
  have e5 := (X.out.keep k2.out).e5
  go_wp2_with fail
  refine (rcheck_none k i c n f A m cp Z d _ (hA.out.keep k2.out) hc.out).mono ?_
  rintro e w3 ⟨rfl, h⟩
  have k3 := Lib.hid (k2.out.trans h)
  replace h := Lib.hid h
  go_wp2
  go_ret
  exact ⟨rfl, k0.out.trans k3.out⟩

set_option maxRecDepth 100000 in
set_option maxHeartbeats 16000000 in
theorem checks_kind (k i c n : Int) (f : Bool) (A : Option Addr) (m cp : Nat) (Z : Nat → Int) (d : Int) (w : World) (hv : Vars w) (hA : Rd w A m Z) (hm : m ≤ 100) (hk : k < 1 ∨ 7 < k) :
    Calls Tryd.prog 3 #[.agg #[.int .i64 k, .int .i64 i, .int .i64 c, .int .i64 n, .bool f, .slice A m cp], .int .i64 d] w fun e w' => e = .returned (.bool true) ∧ Keep w w' := by
  replace hv := Lib.hid hv
  replace hA := Lib.hid hA
  have hc := Lib.hid (chk_out (i := i) (c := c) (n := n) (s := wrongOf (kM k m) Z d) hk)
  replace hk := Lib.hid hk
  go_enter Tryd.func3, Tryd.ntmps3
  go_wp2_with fail
  have k0 : Keep w (w.alloc (.cells #[.int .i64 k, .int .i64 i, .int .i64 c, .int .i64 n, .bool f, .slice A m cp] 24)) := Keep.one _ _
  have X := (Box.new w (.int .i64 k) (.int .i64 i) (.int .i64 c) (.int .i64 n) (.bool f) (.slice A m cp)).cel
  obtain ⟨w0, hw0⟩ : ∃ w0, w0 = w.alloc (.cells #[.int .i64 k, .int .i64 i, .int .i64 c, .int .i64 n, .bool f, .slice A m cp] 24) := ⟨_, rfl⟩
  rw [← hw0] at k0 X ⊢
  obtain ⟨s1, hs1⟩ : ∃ s1, s1 = w.heap.size := ⟨_, rfl⟩
  rw [← hs1] at X ⊢
  have hV := Lib.hid (hv.out.keep k0)
  replace X := Lib.hid X
  replace k0 := Lib.hid k0
  clear hw0 hs1
  refine (awake_true _ hV.out).mono ?_
  rintro e w1 ⟨rfl, h⟩
  have k1 := Lib.hid h
  replace h := Lib.hid h
  replace hA := Lib.hid (hA.out.keep k0.out)
  have e0 := (X.out.keep k1.out).e0
  have e1 := (X.out.keep k1.out).e1
  have e2 := (X.out.keep k1.out).e2
  have e3 := (X.out.keep k1.out).e3
  have e4 := (X.out.keep k1.out).e4
  have e5 := (X.out.keep k1.out).e5
  go_wp2_with fail
  refine (ocheck_out k i c n f A m cp d _ (hV.out.keep k1.out) hk.out).mono ?_
  rintro e w2 ⟨rfl, h⟩
  have k2 := Lib.hid (k1.out.trans h)
  replace h := Lib.hid h
  unfold Base.val
  clear e0 e1 e2 e3 e4 e5
  have e0 := (X.out.keep k2.out).e0
  have e1 := (X.out.keep k2.out).e1
  have e2 := (X.out.keep k2.out).e2
  have e3 := (X.out.keep k2.out).e3
  have e4 := (X.out.keep k2.out).e4
  have e5 := (X.out.keep k2.out).e5
  go_wp2_with fail
  refine (rcheck_some k i c n f A m cp Z d _ (hA.out.keep k2.out) 1 0 hc.out).mono ?_
  rintro e w3 ⟨rfl, h⟩
  have k3 := Lib.hid (k2.out.trans h)
  replace h := Lib.hid h
  clear e0 e1 e2 e3 e4 e5
  go_wp2_with fail
  refine (at_yes 1 0 [] _ _ (.base _) (hV.out.keep k3.out).err).mono ?_
  rintro e w4 ⟨rfl, h⟩
  have k4 := Lib.hid (k3.out.trans h)
  replace h := Lib.hid h
  go_wp2_with fail
  refine (place_no (.fault 1 0) _ (hV.out.keep k4.out).err).mono ?_
  rintro e w5 ⟨rfl, h⟩
  have k5 := Lib.hid (k4.out.trans h)
  replace h := Lib.hid h
  go_wp2_with fail
  refine (code3_yes 1 [] (.fault 1 0) _ _ (.base _) (Or.inr ⟨_, rfl⟩) (hV.out.keep k5.out).err).mono ?_
  rintro e w6 ⟨rfl, h⟩
  have k6 := Lib.hid (k5.out.trans h)
  replace h := Lib.hid h
  go_wp2_with fail
  go_quiet (fail)
  go_wp2
  go_ret
  exact ⟨rfl, (k0.out.trans k6.out).drewN _⟩

set_option maxRecDepth 100000 in
set_option maxHeartbeats 16000000 in
theorem checks_2 (k i c n : Int) (f : Bool) (A : Option Addr) (m cp : Nat) (Z : Nat → Int) (d : Int) (w : World) (hv : Vars w) (hA : Rd w A m Z) (hm : m ≤ 100) (hk : ¬ (k < 1 ∨ 7 < k)) (y : Int) (hr : wr k (kI k i) (kC k c) (kN k n) (wrongOf (kM k m) Z d) = some (2, y)) :
    Calls Tryd.prog 3 #[.agg #[.int .i64 k, .int .i64 i, .int .i64 c, .int .i64 n, .bool f, .slice A m cp], .int .i64 d] w fun e w' => e = .returned (.bool true) ∧ Keep w w' := by
  replace hv := Lib.hid hv
  replace hA := Lib.hid hA
  have hc := Lib.hid ((chk_in hk).trans hr)
  replace hk := Lib.hid hk
  replace hr := Lib.hid hr
  have m1 := Tryd.mErrLoc
  have hs1 : ∀ w : World, (Op.stringOp .add (kindNm k) ⟨#[58, 32, 101, 114, 114, 111, 114, 32]⟩).run Tryd.prog w = .ok (.string (kindNm k ++ ⟨#[58, 32, 101, 114, 114, 111, 114, 32]⟩)) w := fun w => run_string_add_sum w _ _ (colon_len k)
  have hs2 : ∀ w : World, (Op.stringOp .add (kindNm k ++ ⟨#[58, 32, 101, 114, 114, 111, 114, 32]⟩) ⟨#[50]⟩).run Tryd.prog w = .ok (.string (kindNm k ++ ⟨#[58, 32, 101, 114, 114, 111, 114, 32]⟩ ++ ⟨#[50]⟩)) w := fun w => run_string_add_sum w _ _ (colon_len2 k _)
  go_enter Tryd.func3, Tryd.ntmps3
  go_wp2_with fail
  have k0 : Keep w (w.alloc (.cells #[.int .i64 k, .int .i64 i, .int .i64 c, .int .i64 n, .bool f, .slice A m cp] 24)) := Keep.one _ _
  have X := (Box.new w (.int .i64 k) (.int .i64 i) (.int .i64 c) (.int .i64 n) (.bool f) (.slice A m cp)).cel
  obtain ⟨w0, hw0⟩ : ∃ w0, w0 = w.alloc (.cells #[.int .i64 k, .int .i64 i, .int .i64 c, .int .i64 n, .bool f, .slice A m cp] 24) := ⟨_, rfl⟩
  rw [← hw0] at k0 X ⊢
  obtain ⟨s1, hs1⟩ : ∃ s1, s1 = w.heap.size := ⟨_, rfl⟩
  rw [← hs1] at X ⊢
  have hV := Lib.hid (hv.out.keep k0)
  replace X := Lib.hid X
  replace k0 := Lib.hid k0
  clear hw0 hs1
  refine (awake_true _ hV.out).mono ?_
  rintro e w1 ⟨rfl, h⟩
  have k1 := Lib.hid h
  replace h := Lib.hid h
  replace hA := Lib.hid (hA.out.keep k0.out)
  have e0 := (X.out.keep k1.out).e0
  have e1 := (X.out.keep k1.out).e1
  have e2 := (X.out.keep k1.out).e2
  have e3 := (X.out.keep k1.out).e3
  have e4 := (X.out.keep k1.out).e4
  have e5 := (X.out.keep k1.out).e5
  go_wp2_with fail
  refine (ocheck_some k i c n f A m cp Z d _ (hV.out.keep k1.out) (hA.out.keep k1.out) hk.out 2 y hr.out).mono ?_
  rintro e w2 ⟨b, rfl, c0, c1, h⟩
  have k2 := Lib.hid (k1.out.trans h)
  replace h := Lib.hid h
  have hC := Lib.hid (Wrapped.chain c0 c1)
  replace c0 := Lib.hid c0
  replace c1 := Lib.hid c1
  have j2 := Lib.hid (Keep.refl w2)
  clear e0 e1 e2 e3 e4 e5
  have e0 := (X.out.keep k2.out).e0
  have e1 := (X.out.keep k2.out).e1
  have e2 := (X.out.keep k2.out).e2
  have e3 := (X.out.keep k2.out).e3
  have e4 := (X.out.keep k2.out).e4
  have e5 := (X.out.keep k2.out).e5
  go_wp2_with fail
  refine (rcheck_some k i c n f A m cp Z d _ (hA.out.keep k2.out) 2 y hc.out).mono ?_
  rintro e w3 ⟨rfl, h⟩
  have k3 := Lib.hid (k2.out.trans h)
  replace h := Lib.hid h
  have j3 := Lib.hid h.out
  clear e0 e1 e2 e3 e4 e5
  go_wp2_with fail
  refine (at_yes 2 y [k] _ _ (hC.out.keep j3.out) (hV.out.keep k3.out).err).mono ?_
  rintro e w4 ⟨rfl, h⟩
  have k4 := Lib.hid (k3.out.trans h)
  replace h := Lib.hid h
  have j4 := Lib.hid (j3.out.trans h.out)
  go_wp2_with fail
  refine (place_yes k _ _ (j4.out.cell c0.out) (hV.out.keep k4.out).err).mono ?_
  rintro e w5 ⟨rfl, h⟩
  have k5 := Lib.hid (k4.out.trans h)
  replace h := Lib.hid h
  have j5 := Lib.hid (j4.out.trans h.out)
  go_wp2_with fail
  refine (code3_yes 2 [k] (.fault 2 y) _ _ (hC.out.keep j5.out) (Or.inr ⟨_, rfl⟩) (hV.out.keep k5.out).err).mono ?_
  rintro e w6 ⟨rfl, h⟩
  have k6 := Lib.hid (k5.out.trans h)
  replace h := Lib.hid h
  have j6 := Lib.hid (j5.out.trans h.out)
  have e0 := (X.out.keep k6.out).e0
  go_wp2_with fail
  go_region_held3 (fun w' => w'.cell? ⟨s1, 0, none⟩ = some (.int .i64 k))
    (first | assumption | exact e0 | exact (X.out.keep k8.out).e0 | exact (X.out.keep k7.out).e0 | exact (X.out.keep k6.out.drew).e0)
    (first
      | (go_at_call 95; refine (errtext_2 k y b _ hk.out (hV.out.keep k6.out.drew) (j6.out.drew.cell c0.out) (j6.out.drew.cell c1.out)).mono ?_; rintro e w7 ⟨rfl, h⟩; have k7 := Lib.hid (k6.out.drew.trans h); replace h := Lib.hid h)
      | (go_at_call 14; refine (kind_rname k _).mono ?_; rintro e w8 ⟨rfl, h⟩; have k8 := Lib.hid (k7.out.trans h); replace h := Lib.hid h)
      | (go_at_call 15; refine (decimal_2 _).mono ?_; rintro e w9 ⟨rfl, rfl⟩))
  go_wp2
  go_ret
  exact ⟨rfl, k0.out.trans k8.out⟩

set_option maxRecDepth 100000 in
set_option maxHeartbeats 16000000 in
theorem checks_3 (k i c n : Int) (f : Bool) (A : Option Addr) (m cp : Nat) (Z : Nat → Int) (d : Int) (w : World) (hv : Vars w) (hA : Rd w A m Z) (hm : m ≤ 100) (hk : ¬ (k < 1 ∨ 7 < k)) (y : Int) (hr : wr k (kI k i) (kC k c) (kN k n) (wrongOf (kM k m) Z d) = some (3, y)) :
    Calls Tryd.prog 3 #[.agg #[.int .i64 k, .int .i64 i, .int .i64 c, .int .i64 n, .bool f, .slice A m cp], .int .i64 d] w fun e w' => e = .returned (.bool true) ∧ Keep w w' := by
  replace hv := Lib.hid hv
  replace hA := Lib.hid hA
  have hc := Lib.hid ((chk_in hk).trans hr)
  replace hk := Lib.hid hk
  replace hr := Lib.hid hr
  have m1 := Tryd.mErrLoc
  have hs1 : ∀ w : World, (Op.stringOp .add (kindNm k) ⟨#[58, 32, 101, 114, 114, 111, 114, 32]⟩).run Tryd.prog w = .ok (.string (kindNm k ++ ⟨#[58, 32, 101, 114, 114, 111, 114, 32]⟩)) w := fun w => run_string_add_sum w _ _ (colon_len k)
  have hs2 : ∀ w : World, (Op.stringOp .add (kindNm k ++ ⟨#[58, 32, 101, 114, 114, 111, 114, 32]⟩) ⟨#[51]⟩).run Tryd.prog w = .ok (.string (kindNm k ++ ⟨#[58, 32, 101, 114, 114, 111, 114, 32]⟩ ++ ⟨#[51]⟩)) w := fun w => run_string_add_sum w _ _ (colon_len2 k _)
  go_enter Tryd.func3, Tryd.ntmps3
  go_wp2_with fail
  have k0 : Keep w (w.alloc (.cells #[.int .i64 k, .int .i64 i, .int .i64 c, .int .i64 n, .bool f, .slice A m cp] 24)) := Keep.one _ _
  have X := (Box.new w (.int .i64 k) (.int .i64 i) (.int .i64 c) (.int .i64 n) (.bool f) (.slice A m cp)).cel
  obtain ⟨w0, hw0⟩ : ∃ w0, w0 = w.alloc (.cells #[.int .i64 k, .int .i64 i, .int .i64 c, .int .i64 n, .bool f, .slice A m cp] 24) := ⟨_, rfl⟩
  rw [← hw0] at k0 X ⊢
  obtain ⟨s1, hs1⟩ : ∃ s1, s1 = w.heap.size := ⟨_, rfl⟩
  rw [← hs1] at X ⊢
  have hV := Lib.hid (hv.out.keep k0)
  replace X := Lib.hid X
  replace k0 := Lib.hid k0
  clear hw0 hs1
  refine (awake_true _ hV.out).mono ?_
  rintro e w1 ⟨rfl, h⟩
  have k1 := Lib.hid h
  replace h := Lib.hid h
  replace hA := Lib.hid (hA.out.keep k0.out)
  have e0 := (X.out.keep k1.out).e0
  have e1 := (X.out.keep k1.out).e1
  have e2 := (X.out.keep k1.out).e2
  have e3 := (X.out.keep k1.out).e3
  have e4 := (X.out.keep k1.out).e4
  have e5 := (X.out.keep k1.out).e5
  go_wp2_with fail
  refine (ocheck_some k i c n f A m cp Z d _ (hV.out.keep k1.out) (hA.out.keep k1.out) hk.out 3 y hr.out).mono ?_
  rintro e w2 ⟨b, rfl, c0, c1, h⟩
  have k2 := Lib.hid (k1.out.trans h)
  replace h := Lib.hid h
  have hC := Lib.hid (Wrapped.chain c0 c1)
  replace c0 := Lib.hid c0
  replace c1 := Lib.hid c1
  have j2 := Lib.hid (Keep.refl w2)
  clear e0 e1 e2 e3 e4 e5
  have e0 := (X.out.keep k2.out).e0
  have e1 := (X.out.keep k2.out).e1
  have e2 := (X.out.keep k2.out).e2
  have e3 := (X.out.keep k2.out).e3
  have e4 := (X.out.keep k2.out).e4
  have e5 := (X.out.keep k2.out).e5
  go_wp2_with fail
  refine (rcheck_some k i c n f A m cp Z d _ (hA.out.keep k2.out) 3 y hc.out).mono ?_
  rintro e w3 ⟨rfl, h⟩
  have k3 := Lib.hid (k2.out.trans h)
  replace h := Lib.hid h
  have j3 := Lib.hid h.out
  clear e0 e1 e2 e3 e4 e5
  go_wp2_with fail
  refine (at_yes 3 y [k] _ _ (hC.out.keep j3.out) (hV.out.keep k3.out).err).mono ?_
  rintro e w4 ⟨rfl, h⟩
  have k4 := Lib.hid (k3.out.trans h)
  replace h := Lib.hid h
  have j4 := Lib.hid (j3.out.trans h.out)
  go_wp2_with fail
  refine (place_yes k _ _ (j4.out.cell c0.out) (hV.out.keep k4.out).err).mono ?_
  rintro e w5 ⟨rfl, h⟩
  have k5 := Lib.hid (k4.out.trans h)
  replace h := Lib.hid h
  have j5 := Lib.hid (j4.out.trans h.out)
  go_wp2_with fail
  refine (code3_yes 3 [k] (.fault 3 y) _ _ (hC.out.keep j5.out) (Or.inr ⟨_, rfl⟩) (hV.out.keep k5.out).err).mono ?_
  rintro e w6 ⟨rfl, h⟩
  have k6 := Lib.hid (k5.out.trans h)
  replace h := Lib.hid h
  have j6 := Lib.hid (j5.out.trans h.out)
  have e0 := (X.out.keep k6.out).e0
  go_wp2_with fail
  go_region_held3 (fun w' => w'.cell? ⟨s1, 0, none⟩ = some (.int .i64 k))
    (first | assumption | exact e0 | exact (X.out.keep k8.out).e0 | exact (X.out.keep k7.out).e0 | exact (X.out.keep k6.out.drew).e0)
    (first
      | (go_at_call 95; refine (errtext_3 k y b _ hk.out (hV.out.keep k6.out.drew) (j6.out.drew.cell c0.out) (j6.out.drew.cell c1.out)).mono ?_; rintro e w7 ⟨rfl, h⟩; have k7 := Lib.hid (k6.out.drew.trans h); replace h := Lib.hid h)
      | (go_at_call 14; refine (kind_rname k _).mono ?_; rintro e w8 ⟨rfl, h⟩; have k8 := Lib.hid (k7.out.trans h); replace h := Lib.hid h)
      | (go_at_call 15; refine (decimal_3 _).mono ?_; rintro e w9 ⟨rfl, rfl⟩))
  go_wp2
  go_ret
  exact ⟨rfl, k0.out.trans k8.out⟩

set_option maxRecDepth 100000 in
set_option maxHeartbeats 16000000 in
theorem checks_4 (k i c n : Int) (f : Bool) (A : Option Addr) (m cp : Nat) (Z : Nat → Int) (d : Int) (w : World) (hv : Vars w) (hA : Rd w A m Z) (hm : m ≤ 100) (hk : ¬ (k < 1 ∨ 7 < k)) (y : Int) (hr : wr k (kI k i) (kC k c) (kN k n) (wrongOf (kM k m) Z d) = some (4, y)) :
    Calls Tryd.prog 3 #[.agg #[.int .i64 k, .int .i64 i, .int .i64 c, .int .i64 n, .bool f, .slice A m cp], .int .i64 d] w fun e w' => e = .returned (.bool true) ∧ Keep w w' := by
  replace hv := Lib.hid hv
  replace hA := Lib.hid hA
  have hc := Lib.hid ((chk_in hk).trans hr)
  replace hk := Lib.hid hk
  replace hr := Lib.hid hr
  have m1 := Tryd.mErrLoc
  have hs1 : ∀ w : World, (Op.stringOp .add (kindNm k) ⟨#[58, 32, 101, 114, 114, 111, 114, 32]⟩).run Tryd.prog w = .ok (.string (kindNm k ++ ⟨#[58, 32, 101, 114, 114, 111, 114, 32]⟩)) w := fun w => run_string_add_sum w _ _ (colon_len k)
  have hs2 : ∀ w : World, (Op.stringOp .add (kindNm k ++ ⟨#[58, 32, 101, 114, 114, 111, 114, 32]⟩) ⟨#[52]⟩).run Tryd.prog w = .ok (.string (kindNm k ++ ⟨#[58, 32, 101, 114, 114, 111, 114, 32]⟩ ++ ⟨#[52]⟩)) w := fun w => run_string_add_sum w _ _ (colon_len2 k _)
  go_enter Tryd.func3, Tryd.ntmps3
  go_wp2_with fail
  have k0 : Keep w (w.alloc (.cells #[.int .i64 k, .int .i64 i, .int .i64 c, .int .i64 n, .bool f, .slice A m cp] 24)) := Keep.one _ _
  have X := (Box.new w (.int .i64 k) (.int .i64 i) (.int .i64 c) (.int .i64 n) (.bool f) (.slice A m cp)).cel
  obtain ⟨w0, hw0⟩ : ∃ w0, w0 = w.alloc (.cells #[.int .i64 k, .int .i64 i, .int .i64 c, .int .i64 n, .bool f, .slice A m cp] 24) := ⟨_, rfl⟩
  rw [← hw0] at k0 X ⊢
  obtain ⟨s1, hs1⟩ : ∃ s1, s1 = w.heap.size := ⟨_, rfl⟩
  rw [← hs1] at X ⊢
  have hV := Lib.hid (hv.out.keep k0)
  replace X := Lib.hid X
  replace k0 := Lib.hid k0
  clear hw0 hs1
  refine (awake_true _ hV.out).mono ?_
  rintro e w1 ⟨rfl, h⟩
  have k1 := Lib.hid h
  replace h := Lib.hid h
  replace hA := Lib.hid (hA.out.keep k0.out)
  have e0 := (X.out.keep k1.out).e0
  have e1 := (X.out.keep k1.out).e1
  have e2 := (X.out.keep k1.out).e2
  have e3 := (X.out.keep k1.out).e3
  have e4 := (X.out.keep k1.out).e4
  have e5 := (X.out.keep k1.out).e5
  go_wp2_with fail
  refine (ocheck_some k i c n f A m cp Z d _ (hV.out.keep k1.out) (hA.out.keep k1.out) hk.out 4 y hr.out).mono ?_
  rintro e w2 ⟨b, rfl, c0, c1, h⟩
  have k2 := Lib.hid (k1.out.trans h)
  replace h := Lib.hid h
  have hC := Lib.hid (Wrapped.chain c0 c1)
  replace c0 := Lib.hid c0
  replace c1 := Lib.hid c1
  have j2 := Lib.hid (Keep.refl w2)
  clear e0 e1 e2 e3 e4 e5
  have e0 := (X.out.keep k2.out).e0
  have e1 := (X.out.keep k2.out).e1
  have e2 := (X.out.keep k2.out).e2
  have e3 := (X.out.keep k2.out).e3
  have e4 := (X.out.keep k2.out).e4
  have e5 := (X.out.keep k2.out).e5
  go_wp2_with fail
  refine (rcheck_some k i c n f A m cp Z d _ (hA.out.keep k2.out) 4 y hc.out).mono ?_
  rintro e w3 ⟨rfl, h⟩
  have k3 := Lib.hid (k2.out.trans h)
  replace h := Lib.hid h
  have j3 := Lib.hid h.out
  clear e0 e1 e2 e3 e4 e5
  go_wp2_with fail
  refine (at_yes 4 y [k] _ _ (hC.out.keep j3.out) (hV.out.keep k3.out).err).mono ?_
  rintro e w4 ⟨rfl, h⟩
  have k4 := Lib.hid (k3.out.trans h)
  replace h := Lib.hid h
  have j4 := Lib.hid (j3.out.trans h.out)
  go_wp2_with fail
  refine (place_yes k _ _ (j4.out.cell c0.out) (hV.out.keep k4.out).err).mono ?_
  rintro e w5 ⟨rfl, h⟩
  have k5 := Lib.hid (k4.out.trans h)
  replace h := Lib.hid h
  have j5 := Lib.hid (j4.out.trans h.out)
  go_wp2_with fail
  refine (code3_yes 4 [k] (.fault 4 y) _ _ (hC.out.keep j5.out) (Or.inr ⟨_, rfl⟩) (hV.out.keep k5.out).err).mono ?_
  rintro e w6 ⟨rfl, h⟩
  have k6 := Lib.hid (k5.out.trans h)
  replace h := Lib.hid h
  have j6 := Lib.hid (j5.out.trans h.out)
  have e0 := (X.out.keep k6.out).e0
  go_wp2_with fail
  go_region_held3 (fun w' => w'.cell? ⟨s1, 0, none⟩ = some (.int .i64 k))
    (first | assumption | exact e0 | exact (X.out.keep k8.out).e0 | exact (X.out.keep k7.out).e0 | exact (X.out.keep k6.out.drew).e0)
    (first
      | (go_at_call 95; refine (errtext_4 k y b _ hk.out (hV.out.keep k6.out.drew) (j6.out.drew.cell c0.out) (j6.out.drew.cell c1.out)).mono ?_; rintro e w7 ⟨rfl, h⟩; have k7 := Lib.hid (k6.out.drew.trans h); replace h := Lib.hid h)
      | (go_at_call 14; refine (kind_rname k _).mono ?_; rintro e w8 ⟨rfl, h⟩; have k8 := Lib.hid (k7.out.trans h); replace h := Lib.hid h)
      | (go_at_call 15; refine (decimal_4 _).mono ?_; rintro e w9 ⟨rfl, rfl⟩))
  go_wp2
  go_ret
  exact ⟨rfl, k0.out.trans k8.out⟩

theorem wr_codes {k i c n s x y : Int} (h : wr k i c n s = some (x, y)) : x = 2 ∨ x = 3 ∨ x = 4 := by
  unfold wr at h
  split at h
  · simp at h; omega
  split at h
  · simp at h; omega
  split at h
  · simp at h; omega
  split at h
  · simp at h; omega
  · cases h
theorem checks_walk (k i c n : Int) (f : Bool) (A : Option Addr) (m cp : Nat) (Z : Nat → Int) (d : Int) (w : World) (hv : Vars w) (hA : Rd w A m Z) :
    Calls Tryd.prog 3 #[.agg #[.int .i64 k, .int .i64 i, .int .i64 c, .int .i64 n, .bool f, .slice A m cp], .int .i64 d] w fun e w' => e = .returned (.bool true) ∧ Keep w w' := by
  by_cases hm : m ≤ 100
  · by_cases hk : k < 1 ∨ 7 < k
    · exact checks_kind k i c n f A m cp Z d w hv hA hm hk
    · cases hr : wr k (kI k i) (kC k c) (kN k n) (wrongOf (kM k m) Z d) with
      | none => exact checks_none k i c n f A m cp Z d w hv hA hm hk hr
      | some p =>
        obtain ⟨x, y⟩ := p
        rcases wr_codes hr with rfl | rfl | rfl
        · exact checks_2 k i c n f A m cp Z d w hv hA hm hk y hr
        · exact checks_3 k i c n f A m cp Z d w hv hA hm hk y hr
        · exact checks_4 k i c n f A m cp Z d w hv hA hm hk y hr
  · exact checks_out k i c n f A m cp d w hv (by omega)

end Go.Proofs.YtflkeabjcbjkhaaDoor
