/-
  OpMakes: the walk. Condition: the listed variables hold their own.
-/
import Derived.Test.YtflkeabjcbjkhaaDoorAwake3
namespace Go.Proofs.YtflkeabjcbjkhaaDoor
open Go.RowKit Go.Extern.Stop Go.Stop Go.Extern

theorem same_refl (n : Nat) (Z : Nat → Int) : sameB n Z n Z = true := same_yes rfl fun _ _ => rfl
theorem requal_self (k i c n : Int) (f : Bool) (A : Option Addr) (m cp : Nat) (Z : Nat → Int) (B : Option Addr) (cp' : Nat) (w : World) (hA : Rd w A m Z) (hB : Rd w B m Z) :
    Calls Tryd.prog 17 #[.agg #[.int .i64 k, .int .i64 i, .int .i64 c, .int .i64 n, .bool f, .slice A m cp], .agg #[.int .i64 k, .int .i64 i, .int .i64 c, .int .i64 n, .bool f, .slice B m cp']] w fun e w' => e = .returned (.bool true) ∧ Keep w w' := by
  have h := requal_fn k i c n f A m cp Z k i c n f B m cp' Z w hA hB true (same_refl m Z)
  rw [eqO_self] at h
  exact h

set_option maxRecDepth 100000 in
set_option maxHeartbeats 4000000 in
theorem makes_out (i c n : Int) (f : Bool) (A : Option Addr) (m cp : Nat) (w : World) (hv : Vars w) (hm : 100 < m) :
    Calls Tryd.prog 6 #[.int .i64 i, .int .i64 c, .int .i64 n, .bool f, .slice A m cp] w fun e w' => e = .returned (.bool true) ∧ Keep w w' := by
  replace hv := Lib.hid hv
  go_enter Tryd.func6, Tryd.ntmps6
  go_wp2_with fail
  refine (awake_true _ hv.out).mono ?_
  rintro e w1 ⟨rfl, h⟩
  have k1 := Lib.hid h
  replace h := Lib.hid h
  go_wp2_with fail
  refine (awake_true _ (hv.out.keep k1.out)).mono ?_
  rintro e w2 ⟨rfl, h⟩
  have k2 := Lib.hid (k1.out.trans h)
  replace h := Lib.hid h
  go_wp2
  go_ret
  exact ⟨rfl, k2.out⟩

set_option maxRecDepth 100000 in
set_option maxHeartbeats 16000000 in
theorem makes_in (i c n : Int) (f : Bool) (A : Option Addr) (m cp : Nat) (Z : Nat → Int) (w : World) (hv : Vars w) (hR : Rd w A m Z) (h0 : A = none → m = 0 ∧ cp = 0) (hm : m ≤ 100) :
    Calls Tryd.prog 6 #[.int .i64 i, .int .i64 c, .int .i64 n, .bool f, .slice A m cp] w fun e w' => e = .returned (.bool true) ∧ Keep w w' := by
  replace hv := Lib.hid hv
  replace hR := Lib.hid hR
  replace h0 := Lib.hid h0
  go_enter Tryd.func6, Tryd.ntmps6
  go_wp2_with fail
  refine (awake_true _ hv.out).mono ?_
  rintro e w1 ⟨rfl, h⟩
  have k1 := Lib.hid h
  replace h := Lib.hid h
  go_wp2_with fail
  refine (class_fn i n f _).mono ?_
  rintro e w2 ⟨rfl, h⟩
  have k2 := Lib.hid (k1.out.trans h)
  replace h := Lib.hid h
  go_wp2_with fail
  refine (requal_self 1 i 0 n f none 0 0 (fun _ => 0) none 0 _ (Rd.nil _ _ _) (Rd.nil _ _ _)).mono ?_
  rintro e w3 ⟨rfl, h⟩
  have k3 := Lib.hid (k2.out.trans h)
  replace h := Lib.hid h
  go_wp2_with fail
  refine (node_fn i A m cp Z _ (hR.out.keep k3.out) h0.out (by omega)).mono ?_
  rintro e w4 ⟨B4, cp4, rfl, h, hown⟩
  have k4 := Lib.hid (k3.out.trans h)
  replace h := Lib.hid h
  have hB4 := Lib.hid (rd_of_own hown hR.out)
  clear hown
  go_wp2_with fail
  refine (requal_self 2 i 0 0 false _ m _ Z A cp _ hB4.out (hR.out.keep k4.out)).mono ?_
  rintro e w5 ⟨rfl, h⟩
  have k5 := Lib.hid (k4.out.trans h)
  replace h := Lib.hid h
  go_wp2_with fail
  refine (drop_fn i _).mono ?_
  rintro e w6 ⟨rfl, h⟩
  have k6 := Lib.hid (k5.out.trans h)
  replace h := Lib.hid h
  go_wp2_with fail
  refine (requal_self 3 i 0 0 false none 0 0 (fun _ => 0) none 0 _ (Rd.nil _ _ _) (Rd.nil _ _ _)).mono ?_
  rintro e w7 ⟨rfl, h⟩
  have k7 := Lib.hid (k6.out.trans h)
  replace h := Lib.hid h
  go_wp2_with fail
  refine (pod_fn i c n A m cp Z _ (hR.out.keep k7.out) h0.out (by omega)).mono ?_
  rintro e w8 ⟨B8, cp8, rfl, h, hown⟩
  have k8 := Lib.hid (k7.out.trans h)
  replace h := Lib.hid h
  have hB8 := Lib.hid (rd_of_own hown hR.out)
  clear hown
  go_wp2_with fail
  refine (requal_self 4 i c n false _ m _ Z A cp _ hB8.out (hR.out.keep k8.out)).mono ?_
  rintro e w9 ⟨rfl, h⟩
  have k9 := Lib.hid (k8.out.trans h)
  replace h := Lib.hid h
  go_wp2_with fail
  refine (delete_fn i _).mono ?_
  rintro e w10 ⟨rfl, h⟩
  have k10 := Lib.hid (k9.out.trans h)
  replace h := Lib.hid h
  go_wp2_with fail
  refine (requal_self 5 i 0 0 false none 0 0 (fun _ => 0) none 0 _ (Rd.nil _ _ _) (Rd.nil _ _ _)).mono ?_
  rintro e w11 ⟨rfl, h⟩
  have k11 := Lib.hid (k10.out.trans h)
  replace h := Lib.hid h
  go_wp2_with fail
  refine (tick_fn n _).mono ?_
  rintro e w12 ⟨rfl, h⟩
  have k12 := Lib.hid (k11.out.trans h)
  replace h := Lib.hid h
  go_wp2_with fail
  refine (requal_self 6 0 0 n false none 0 0 (fun _ => 0) none 0 _ (Rd.nil _ _ _) (Rd.nil _ _ _)).mono ?_
  rintro e w13 ⟨rfl, h⟩
  have k13 := Lib.hid (k12.out.trans h)
  replace h := Lib.hid h
  go_wp2_with fail
  refine (cycle_fn  _).mono ?_
  rintro e w14 ⟨rfl, h⟩
  have k14 := Lib.hid (k13.out.trans h)
  replace h := Lib.hid h
  go_wp2_with fail
  refine (requal_self 7 0 0 0 false none 0 0 (fun _ => 0) none 0 _ (Rd.nil _ _ _) (Rd.nil _ _ _)).mono ?_
  rintro e w15 ⟨rfl, h⟩
  have k15 := Lib.hid (k14.out.trans h)
  replace h := Lib.hid h
  go_wp2
  go_ret
  exact ⟨rfl, k15.out⟩
theorem makes_walk (i c n : Int) (f : Bool) (A : Option Addr) (m cp : Nat) (Z : Nat → Int) (w : World) (hv : Vars w) (hR : Rd w A m Z) (h0 : A = none → m = 0 ∧ cp = 0) :
    Calls Tryd.prog 6 #[.int .i64 i, .int .i64 c, .int .i64 n, .bool f, .slice A m cp] w fun e w' => e = .returned (.bool true) ∧ Keep w w' := by
  by_cases hm : m ≤ 100
  · exact makes_in i c n f A m cp Z w hv hR h0 hm
  · exact makes_out i c n f A m cp w hv (by omega)

end Go.Proofs.YtflkeabjcbjkhaaDoor
