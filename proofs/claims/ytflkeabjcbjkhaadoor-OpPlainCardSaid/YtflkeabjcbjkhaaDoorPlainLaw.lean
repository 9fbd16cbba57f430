/-
  OpPlain: the walk. Condition: the listed variables hold their own.
-/
import Derived.Test.YtflkeabjcbjkhaaDoorMakesLaw
namespace Go.Proofs.YtflkeabjcbjkhaaDoor
open Go.RowKit Go.Extern.Stop Go.Stop Go.Extern


theorem kI_twice (k : Int) (x : Int) : kI k (kI k x) = kI k x := by
  unfold kI
  by_cases h : k = 1 ∨ k = 2 ∨ k = 3 ∨ k = 4 ∨ k = 5
  · simp only [if_pos h]
  · simp only [if_neg h]
theorem kC_twice (k : Int) (x : Int) : kC k (kC k x) = kC k x := by
  unfold kC
  by_cases h : k = 4
  · simp only [if_pos h]
  · simp only [if_neg h]
theorem kN_twice (k : Int) (x : Int) : kN k (kN k x) = kN k x := by
  unfold kN
  by_cases h : k = 1 ∨ k = 4 ∨ k = 6
  · simp only [if_pos h]
  · simp only [if_neg h]
theorem kF_twice (k : Int) (x : Bool) : kF k (kF k x) = kF k x := by
  unfold kF
  by_cases h : k = 1
  · simp only [if_pos h]
  · simp only [if_neg h]
theorem kM_twice (k : Int) (x : Nat) : kM k (kM k x) = kM k x := by
  unfold kM
  by_cases h : k = 2 ∨ k = 4
  · simp only [if_pos h]
  · simp only [if_neg h]
theorem chk_kept (k i c n s : Int) : chk k (kI k i) (kC k c) (kN k n) s = chk k i c n s := by unfold chk; rw [kI_twice, kC_twice, kN_twice]
theorem same_plain (k i c n : Int) (f : Bool) (m : Nat) (Z : Nat → Int) : sameO k i c n f k (kI k i) (kC k c) (kN k n) (kF k f) (sameB (kM k m) Z (kM k (kM k m)) Z) = true := by
  unfold sameO
  rw [kI_twice, kC_twice, kN_twice, kF_twice, kM_twice, eqO_self, same_refl]
theorem rcheck_plain (k i c n : Int) (f : Bool) (A2 : Option Addr) (m cp2 : Nat) (Z : Nat → Int) (d : Int) (w : World) (hA : Rd w A2 (kM k m) Z) :
    Calls Tryd.prog 10 #[.agg #[.int .i64 k, .int .i64 (kI k i), .int .i64 (kC k c), .int .i64 (kN k n), .bool (kF k f), .slice A2 (kM k m) cp2], .int .i64 d] w fun e w' => e = .returned (.tuple #[.int .i64 (codeO (chk k i c n (wrongOf (kM k m) Z d))), .int .i64 (atO (chk k i c n (wrongOf (kM k m) Z d)))]) ∧ Keep w w' := by
  have h := rcheck_fn k (kI k i) (kC k c) (kN k n) (kF k f) A2 (kM k m) cp2 Z d w hA
  rw [kM_twice, chk_kept] at h
  exact h
theorem rsameO_is (k i c n : Int) (f : Bool) (A : Option Addr) (m cp : Nat) (Z : Nat → Int) (k' i' c' n' : Int) (f' : Bool) (B : Option Addr) (m' cp' : Nat) (Y : Nat → Int) (w : World) (hA : Rd w A m Z) (hB : Rd w B m' Y) (b : Bool) (hs : sameO k i c n f k' i' c' n' f' (sameB (kM k m) Z (kM k' m') Y) = b) :
    Calls Tryd.prog 20 #[.agg #[.int .i64 k, .int .i64 i, .int .i64 c, .int .i64 n, .bool f, .slice A m cp], .agg #[.int .i64 k', .int .i64 i', .int .i64 c', .int .i64 n', .bool f', .slice B m' cp']] w fun e w' => e = .returned (.bool b) ∧ Keep w w' := by
  rw [← hs]; exact rsameO_fn k i c n f A m cp Z k' i' c' n' f' B m' cp' Y w hA hB _ rfl
theorem len_le {m : Nat} (h : m ≤ 100) : ¬ (100 : Int) < (m : Int) := by omega
theorem len_gt {m : Nat} (h : ¬ m ≤ 100) : (100 : Int) < (m : Int) := by omega

set_option maxRecDepth 100000 in
set_option maxHeartbeats 8000000 in
theorem plain_out (k i c n : Int) (f : Bool) (A : Option Addr) (m cp : Nat) (k' i' c' n' : Int) (f' : Bool) (B : Option Addr) (m' cp' : Nat) (d : Int) (w : World) (hv : Vars w) (hm : 100 < m ∨ (m ≤ 100 ∧ 100 < m')) :
    Calls Tryd.prog 4 #[.agg #[.int .i64 k, .int .i64 i, .int .i64 c, .int .i64 n, .bool f, .slice A m cp], .agg #[.int .i64 k', .int .i64 i', .int .i64 c', .int .i64 n', .bool f', .slice B m' cp'], .int .i64 d] w fun e w' => e = .returned (.bool true) ∧ Keep w w' := by
  replace hv := Lib.hid hv
  rcases hm with hm | ⟨hm, hm2⟩
  all_goals
    go_enter Tryd.func4, Tryd.ntmps4
    go_wp2_with fail
    have k0 : Keep w ((w.alloc (.cells #[.int .i64 k, .int .i64 i, .int .i64 c, .int .i64 n, .bool f, .slice A m cp] 24)).alloc (.cells #[.int .i64 k', .int .i64 i', .int .i64 c', .int .i64 n', .bool f', .slice B m' cp'] 24)) := ((Keep.refl w).alloc _).alloc _
    have X1 := ((Box.new w (.int .i64 k) (.int .i64 i) (.int .i64 c) (.int .i64 n) (.bool f) (.slice A m cp)).keep ((Keep.refl (w.alloc (.cells #[.int .i64 k, .int .i64 i, .int .i64 c, .int .i64 n, .bool f, .slice A m cp] 24))).alloc (.cells #[.int .i64 k', .int .i64 i', .int .i64 c', .int .i64 n', .bool f', .slice B m' cp'] 24))).cel
    have X2 := (Box.new2 w (.cells #[.int .i64 k, .int .i64 i, .int .i64 c, .int .i64 n, .bool f, .slice A m cp] 24) (.int .i64 k') (.int .i64 i') (.int .i64 c') (.int .i64 n') (.bool f') (.slice B m' cp')).cel
    obtain ⟨w0, hw0⟩ : ∃ w0, w0 = (w.alloc (.cells #[.int .i64 k, .int .i64 i, .int .i64 c, .int .i64 n, .bool f, .slice A m cp] 24)).alloc (.cells #[.int .i64 k', .int .i64 i', .int .i64 c', .int .i64 n', .bool f', .slice B m' cp'] 24) := ⟨_, rfl⟩
    rw [← hw0] at k0 X1 X2 ⊢
    obtain ⟨s1, hs1⟩ : ∃ s1, s1 = w.heap.size := ⟨_, rfl⟩
    rw [← hs1] at X1 X2 ⊢
    have hV := Lib.hid (hv.out.keep k0)
    replace X1 := Lib.hid X1
    replace X2 := Lib.hid X2
    replace k0 := Lib.hid k0
    clear hw0 hs1
    refine (awake_true _ hV.out).mono ?_
    rintro e w1 ⟨rfl, h⟩
    have k1 := Lib.hid h
    replace h := Lib.hid h
    have e1 := (X1.out.keep k1.out).e5
    have e2 := (X2.out.keep k1.out).e5
    go_wp2_with fail
    refine (awake_true _ (hV.out.keep k1.out)).mono ?_
    rintro e w2 ⟨rfl, h⟩
    have k2 := Lib.hid (k1.out.trans h)
    replace h := Lib.hid h
    go_wp2
    go_ret
    exact ⟨rfl, k0.out.trans k2.out⟩

set_option maxRecDepth 100000 in
set_option maxHeartbeats 32000000 in
theorem plain_in (k i c n : Int) (f : Bool) (A : Option Addr) (m cp : Nat) (Z : Nat → Int) (k' i' c' n' : Int) (f' : Bool) (B : Option Addr) (m' cp' : Nat) (Y : Nat → Int) (d : Int) (w : World) (hv : Vars w) (hA : Rd w A m Z) (hB : Rd w B m' Y) (h0 : A = none → m = 0 ∧ cp = 0) (hm : m ≤ 100) (hm' : m' ≤ 100) :
    Calls Tryd.prog 4 #[.agg #[.int .i64 k, .int .i64 i, .int .i64 c, .int .i64 n, .bool f, .slice A m cp], .agg #[.int .i64 k', .int .i64 i', .int .i64 c', .int .i64 n', .bool f', .slice B m' cp'], .int .i64 d] w fun e w' => e = .returned (.bool true) ∧ Keep w w' := by
  replace hv := Lib.hid hv
  replace hA := Lib.hid hA
  replace hB := Lib.hid hB
  replace h0 := Lib.hid h0
  have hmm : m ≤ 1048576 := by omega
  replace hmm := Lib.hid hmm
  go_enter Tryd.func4, Tryd.ntmps4
  go_wp2_with fail
  have k0 : Keep w ((w.alloc (.cells #[.int .i64 k, .int .i64 i, .int .i64 c, .int .i64 n, .bool f, .slice A m cp] 24)).alloc (.cells #[.int .i64 k', .int .i64 i', .int .i64 c', .int .i64 n', .bool f', .slice B m' cp'] 24)) := ((Keep.refl w).alloc _).alloc _
  have X1 := ((Box.new w (.int .i64 k) (.int .i64 i) (.int .i64 c) (.int .i64 n) (.bool f) (.slice A m cp)).keep ((Keep.refl (w.alloc (.cells #[.int .i64 k, .int .i64 i, .int .i64 c, .int .i64 n, .bool f, .slice A m cp] 24))).alloc (.cells #[.int .i64 k', .int .i64 i', .int .i64 c', .int .i64 n', .bool f', .slice B m' cp'] 24))).cel
  have X2 := (Box.new2 w (.cells #[.int .i64 k, .int .i64 i, .int .i64 c, .int .i64 n, .bool f, .slice A m cp] 24) (.int .i64 k') (.int .i64 i') (.int .i64 c') (.int .i64 n') (.bool f') (.slice B m' cp')).cel
  obtain ⟨w0, hw0⟩ : ∃ w0, w0 = (w.alloc (.cells #[.int .i64 k, .int .i64 i, .int .i64 c, .int .i64 n, .bool f, .slice A m cp] 24)).alloc (.cells #[.int .i64 k', .int .i64 i', .int .i64 c', .int .i64 n', .bool f', .slice B m' cp'] 24) := ⟨_, rfl⟩
  rw [← hw0] at k0 X1 X2 ⊢
  obtain ⟨s1, hs1⟩ : ∃ s1, s1 = w.heap.size := ⟨_, rfl⟩
  rw [← hs1] at X1 X2 ⊢
  have hV := Lib.hid (hv.out.keep k0)
  replace X1 := Lib.hid X1
  replace X2 := Lib.hid X2
  replace k0 := Lib.hid k0
  clear hw0 hs1
  refine (awake_true _ hV.out).mono ?_
  rintro e w1 ⟨rfl, h⟩
  have k1 := Lib.hid h
  replace h := Lib.hid h
  have e5 := (X1.out.keep k1.out).e5
  have f5 := (X2.out.keep k1.out).e5
  have e0 := (X1.out.keep k1.out).e0
  have e1 := (X1.out.keep k1.out).e1
  have e2 := (X1.out.keep k1.out).e2
  have e3 := (X1.out.keep k1.out).e3
  have e4 := (X1.out.keep k1.out).e4
  go_wp2_with fail
  refine (plain_fn k i c n f A m cp Z _ (hA.out.keep (k0.out.trans k1.out)) h0.out hmm.out).mono ?_
  rintro e w2 ⟨A2, cp2, rfl, h, hown⟩
  have hP := Lib.hid (rd_of_own hown (hA.out.kept k))
  have k2 := Lib.hid (k1.out.trans h)
  replace h := Lib.hid h
  clear e0 e1 e2 e3 e4 e5 f5 hown
  go_wp2_with fail
  have X3 := (Box.new w2 (.int .i64 k) (.int .i64 (kI k i)) (.int .i64 (kC k c)) (.int .i64 (kN k n)) (.bool (kF k f)) (.slice A2 (kM k m) cp2)).cel
  have K0 := k2.out.alloc (.cells #[.int .i64 k, .int .i64 (kI k i), .int .i64 (kC k c), .int .i64 (kN k n), .bool (kF k f), .slice A2 (kM k m) cp2] 24)
  have hP := hP.out.keep (Keep.one w2 (.cells #[.int .i64 k, .int .i64 (kI k i), .int .i64 (kC k c), .int .i64 (kN k n), .bool (kF k f), .slice A2 (kM k m) cp2] 24))
  obtain ⟨bp, hbp⟩ : ∃ bp, bp = w2.heap.size := ⟨_, rfl⟩
  obtain ⟨w3, hw3⟩ : ∃ w3, w3 = w2.alloc (.cells #[.int .i64 k, .int .i64 (kI k i), .int .i64 (kC k c), .int .i64 (kN k n), .bool (kF k f), .slice A2 (kM k m) cp2] 24) := ⟨_, rfl⟩
  rw [← hbp] at X3 ⊢
  rw [← hw3] at X3 K0 hP ⊢
  replace X1 := Lib.hid (X1.out.keep K0)
  replace X2 := Lib.hid (X2.out.keep K0)
  replace hA := Lib.hid (hA.out.keep (k0.out.trans K0))
  replace hB := Lib.hid (hB.out.keep (k0.out.trans K0))
  replace hP := Lib.hid hP
  replace X3 := Lib.hid X3
  replace k0 := Lib.hid (k0.out.trans K0)
  clear hw3 hbp K0 hV hv
  refine (rcheck_plain k i c n f A2 m cp2 Z d _ hP.out).mono ?_
  rintro e w4 ⟨rfl, h⟩
  have K4 := Lib.hid h
  replace h := Lib.hid h
  obtain ⟨X, hX⟩ : ∃ X, X = codeO (chk k i c n (wrongOf (kM k m) Z d)) := ⟨_, rfl⟩
  obtain ⟨T, hT⟩ : ∃ T, T = atO (chk k i c n (wrongOf (kM k m) Z d)) := ⟨_, rfl⟩
  rw [← hX, ← hT]
  replace hX := Lib.hid hX
  replace hT := Lib.hid hT
  have e0 := (X1.out.keep K4.out).e0
  have e1 := (X1.out.keep K4.out).e1
  have e2 := (X1.out.keep K4.out).e2
  have e3 := (X1.out.keep K4.out).e3
  have e4 := (X1.out.keep K4.out).e4
  have e5 := (X1.out.keep K4.out).e5
  go_wp2_with fail
  refine (rcheck_fn k i c n f A m cp Z d _ (hA.out.keep K4.out)).mono ?_
  rintro e w5 ⟨rfl, h⟩
  have K5 := Lib.hid (K4.out.trans h)
  replace h := Lib.hid h
  rw [← hX.out, ← hT.out]
  clear e0 e1 e2 e3 e4 e5
  obtain ⟨s, hs⟩ : ∃ s, sameO k i c n f k' i' c' n' f' (sameB (kM k m) Z (kM k' m') Y) = s := ⟨_, rfl⟩
  replace hs := Lib.hid hs
  go_wp2_with fail
  go_region_held3 (fun w' => w'.cell? ⟨s1, 0, none⟩ = some (.int .i64 k) ∧ w'.cell? ⟨s1, 1, none⟩ = some (.int .i64 i) ∧ w'.cell? ⟨s1, 2, none⟩ = some (.int .i64 c) ∧ w'.cell? ⟨s1, 3, none⟩ = some (.int .i64 n) ∧ w'.cell? ⟨s1, 4, none⟩ = some (.bool f) ∧ w'.cell? ⟨s1, 5, none⟩ = some (.slice A m cp) ∧ w'.cell? ⟨s1 + 1, 0, none⟩ = some (.int .i64 k') ∧ w'.cell? ⟨s1 + 1, 1, none⟩ = some (.int .i64 i') ∧ w'.cell? ⟨s1 + 1, 2, none⟩ = some (.int .i64 c') ∧ w'.cell? ⟨s1 + 1, 3, none⟩ = some (.int .i64 n') ∧ w'.cell? ⟨s1 + 1, 4, none⟩ = some (.bool f') ∧ w'.cell? ⟨s1 + 1, 5, none⟩ = some (.slice B m' cp') ∧ w'.cell? ⟨bp, 0, none⟩ = some (.int .i64 k) ∧ w'.cell? ⟨bp, 1, none⟩ = some (.int .i64 (kI k i)) ∧ w'.cell? ⟨bp, 2, none⟩ = some (.int .i64 (kC k c)) ∧ w'.cell? ⟨bp, 3, none⟩ = some (.int .i64 (kN k n)) ∧ w'.cell? ⟨bp, 4, none⟩ = some (.bool (kF k f)) ∧ w'.cell? ⟨bp, 5, none⟩ = some (.slice A2 (kM k m) cp2))
    (first | assumption | exact ⟨(X1.out.keep K5.out.drew).e0, (X1.out.keep K5.out.drew).e1, (X1.out.keep K5.out.drew).e2, (X1.out.keep K5.out.drew).e3, (X1.out.keep K5.out.drew).e4, (X1.out.keep K5.out.drew).e5, (X2.out.keep K5.out.drew).e0, (X2.out.keep K5.out.drew).e1, (X2.out.keep K5.out.drew).e2, (X2.out.keep K5.out.drew).e3, (X2.out.keep K5.out.drew).e4, (X2.out.keep K5.out.drew).e5, (X3.out.keep K5.out.drew).e0, (X3.out.keep K5.out.drew).e1, (X3.out.keep K5.out.drew).e2, (X3.out.keep K5.out.drew).e3, (X3.out.keep K5.out.drew).e4, (X3.out.keep K5.out.drew).e5⟩ | exact ⟨(X1.out.keep K12.out).e0, (X1.out.keep K12.out).e1, (X1.out.keep K12.out).e2, (X1.out.keep K12.out).e3, (X1.out.keep K12.out).e4, (X1.out.keep K12.out).e5, (X2.out.keep K12.out).e0, (X2.out.keep K12.out).e1, (X2.out.keep K12.out).e2, (X2.out.keep K12.out).e3, (X2.out.keep K12.out).e4, (X2.out.keep K12.out).e5, (X3.out.keep K12.out).e0, (X3.out.keep K12.out).e1, (X3.out.keep K12.out).e2, (X3.out.keep K12.out).e3, (X3.out.keep K12.out).e4, (X3.out.keep K12.out).e5⟩ | exact ⟨(X1.out.keep K11.out).e0, (X1.out.keep K11.out).e1, (X1.out.keep K11.out).e2, (X1.out.keep K11.out).e3, (X1.out.keep K11.out).e4, (X1.out.keep K11.out).e5, (X2.out.keep K11.out).e0, (X2.out.keep K11.out).e1, (X2.out.keep K11.out).e2, (X2.out.keep K11.out).e3, (X2.out.keep K11.out).e4, (X2.out.keep K11.out).e5, (X3.out.keep K11.out).e0, (X3.out.keep K11.out).e1, (X3.out.keep K11.out).e2, (X3.out.keep K11.out).e3, (X3.out.keep K11.out).e4, (X3.out.keep K11.out).e5⟩ | exact ⟨(X1.out.keep K10.out).e0, (X1.out.keep K10.out).e1, (X1.out.keep K10.out).e2, (X1.out.keep K10.out).e3, (X1.out.keep K10.out).e4, (X1.out.keep K10.out).e5, (X2.out.keep K10.out).e0, (X2.out.keep K10.out).e1, (X2.out.keep K10.out).e2, (X2.out.keep K10.out).e3, (X2.out.keep K10.out).e4, (X2.out.keep K10.out).e5, (X3.out.keep K10.out).e0, (X3.out.keep K10.out).e1, (X3.out.keep K10.out).e2, (X3.out.keep K10.out).e3, (X3.out.keep K10.out).e4, (X3.out.keep K10.out).e5⟩ | exact ⟨(X1.out.keep K9.out).e0, (X1.out.keep K9.out).e1, (X1.out.keep K9.out).e2, (X1.out.keep K9.out).e3, (X1.out.keep K9.out).e4, (X1.out.keep K9.out).e5, (X2.out.keep K9.out).e0, (X2.out.keep K9.out).e1, (X2.out.keep K9.out).e2, (X2.out.keep K9.out).e3, (X2.out.keep K9.out).e4, (X2.out.keep K9.out).e5, (X3.out.keep K9.out).e0, (X3.out.keep K9.out).e1, (X3.out.keep K9.out).e2, (X3.out.keep K9.out).e3, (X3.out.keep K9.out).e4, (X3.out.keep K9.out).e5⟩ | exact ⟨(X1.out.keep K8.out).e0, (X1.out.keep K8.out).e1, (X1.out.keep K8.out).e2, (X1.out.keep K8.out).e3, (X1.out.keep K8.out).e4, (X1.out.keep K8.out).e5, (X2.out.keep K8.out).e0, (X2.out.keep K8.out).e1, (X2.out.keep K8.out).e2, (X2.out.keep K8.out).e3, (X2.out.keep K8.out).e4, (X2.out.keep K8.out).e5, (X3.out.keep K8.out).e0, (X3.out.keep K8.out).e1, (X3.out.keep K8.out).e2, (X3.out.keep K8.out).e3, (X3.out.keep K8.out).e4, (X3.out.keep K8.out).e5⟩ | exact ⟨(X1.out.keep K7.out).e0, (X1.out.keep K7.out).e1, (X1.out.keep K7.out).e2, (X1.out.keep K7.out).e3, (X1.out.keep K7.out).e4, (X1.out.keep K7.out).e5, (X2.out.keep K7.out).e0, (X2.out.keep K7.out).e1, (X2.out.keep K7.out).e2, (X2.out.keep K7.out).e3, (X2.out.keep K7.out).e4, (X2.out.keep K7.out).e5, (X3.out.keep K7.out).e0, (X3.out.keep K7.out).e1, (X3.out.keep K7.out).e2, (X3.out.keep K7.out).e3, (X3.out.keep K7.out).e4, (X3.out.keep K7.out).e5⟩ | exact ⟨(X1.out.keep K6.out).e0, (X1.out.keep K6.out).e1, (X1.out.keep K6.out).e2, (X1.out.keep K6.out).e3, (X1.out.keep K6.out).e4, (X1.out.keep K6.out).e5, (X2.out.keep K6.out).e0, (X2.out.keep K6.out).e1, (X2.out.keep K6.out).e2, (X2.out.keep K6.out).e3, (X2.out.keep K6.out).e4, (X2.out.keep K6.out).e5, (X3.out.keep K6.out).e0, (X3.out.keep K6.out).e1, (X3.out.keep K6.out).e2, (X3.out.keep K6.out).e3, (X3.out.keep K6.out).e4, (X3.out.keep K6.out).e5⟩)
    (first
      | (go_at_call 18; refine (rplain_fn k i c n f A m cp _).mono ?_; rintro e w6 ⟨rfl, h⟩; have K6 := Lib.hid (K5.out.drew.trans h); replace h := Lib.hid h)
      | (go_at_call_of 17 (Value.slice A2 (kM k m) cp2); refine (requal_self k (kI k i) (kC k c) (kN k n) (kF k f) A2 (kM k m) cp2 Z (kA k A) (kM k cp) _ (hP.out.keep K6.out) ((hA.out.keep K6.out).kept k)).mono ?_; rintro e w7 ⟨rfl, h⟩; have K7 := Lib.hid (K6.out.trans h); replace h := Lib.hid h)
      | (go_at_call_of 19 (Value.slice B m' cp'); refine (osame_is k i c n f A m cp Z k' i' c' n' f' B m' cp' Y _ (hA.out.keep K7.out) (hB.out.keep K7.out) s hs.out).mono ?_; rintro e w8 ⟨rfl, h⟩; have K8 := Lib.hid (K7.out.trans h); replace h := Lib.hid h)
      | (go_at_call 20; refine (rsameO_is k i c n f A m cp Z k' i' c' n' f' B m' cp' Y _ (hA.out.keep K8.out) (hB.out.keep K8.out) s hs.out).mono ?_; rintro e w9 ⟨rfl, h⟩; have K9 := Lib.hid (K8.out.trans h); replace h := Lib.hid h)
      | (go_at_call_of 19 (Value.slice A2 (kM k m) cp2); refine (osame_is k i c n f A m cp Z k (kI k i) (kC k c) (kN k n) (kF k f) A2 (kM k m) cp2 Z _ (hA.out.keep K9.out) (hP.out.keep K9.out) true (same_plain k i c n f m Z)).mono ?_; rintro e w10 ⟨rfl, h⟩; have K10 := Lib.hid (K9.out.trans h); replace h := Lib.hid h)
      | (go_at_call 21; refine (clone_fn k i c n f A m cp Z _ (hA.out.keep K10.out) h0.out hmm.out).mono ?_; rintro e w11 ⟨A3, cp3, rfl, h, hown⟩; have K11 := Lib.hid (K10.out.trans h); have hC := Lib.hid (rd_of_own hown hA.out); clear hown; replace h := Lib.hid h)
      | (go_at_call_of 17 (Value.slice A3 m cp3); refine (requal_self k i c n f A3 m cp3 Z A cp _ hC.out (hA.out.keep K11.out)).mono ?_; rintro e w12 ⟨rfl, h⟩; have K12 := Lib.hid (K11.out.trans h); replace h := Lib.hid h))
  go_wp2
  go_ret
  exact ⟨rfl, k0.out.trans K12.out⟩
theorem plain_walk (k i c n : Int) (f : Bool) (A : Option Addr) (m cp : Nat) (Z : Nat → Int) (k' i' c' n' : Int) (f' : Bool) (B : Option Addr) (m' cp' : Nat) (Y : Nat → Int) (d : Int) (w : World) (hv : Vars w) (hA : Rd w A m Z) (hB : Rd w B m' Y) (h0 : A = none → m = 0 ∧ cp = 0) :
    Calls Tryd.prog 4 #[.agg #[.int .i64 k, .int .i64 i, .int .i64 c, .int .i64 n, .bool f, .slice A m cp], .agg #[.int .i64 k', .int .i64 i', .int .i64 c', .int .i64 n', .bool f', .slice B m' cp'], .int .i64 d] w fun e w' => e = .returned (.bool true) ∧ Keep w w' := by
  by_cases hm : m ≤ 100
  · by_cases hm' : m' ≤ 100
    · exact plain_in k i c n f A m cp Z k' i' c' n' f' B m' cp' Y d w hv hA hB h0 hm hm'
    · exact plain_out k i c n f A m cp k' i' c' n' f' B m' cp' d w hv (Or.inr ⟨hm, by omega⟩)
  · exact plain_out k i c n f A m cp k' i' c' n' f' B m' cp' d w hv (Or.inl (by omega))

end Go.Proofs.YtflkeabjcbjkhaaDoor
