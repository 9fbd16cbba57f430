/-
  OpLimits: the walks, a kind and a bound each. Condition: the listed variables hold their own.
-/
import Derived.Test.YtflkeabjcbjkhaaDoorAwake3
namespace Go.Proofs.YtflkeabjcbjkhaaDoor
open Go.RowKit Go.Extern.Stop Go.Stop Go.Extern

theorem two_at (w : World) (a b : Int) (ha : -9223372036854775808 ≤ a ∧ a ≤ 9223372036854775807) (hb : -9223372036854775808 ≤ b ∧ b ≤ 9223372036854775807) :
    Rd (w.alloc (.cells #[.int .i64 a, .int .i64 b] 2)) (some ⟨w.heap.size, 0, none⟩) 2 (pick a b) := Rd.two a b rfl ha hb

set_option maxRecDepth 100000 in
set_option maxHeartbeats 16000000 in
theorem lim_1_high (a : Int) (w : World) (hv : Vars w) (h0 : 0 ≤ a) (h1 : a ≤ 255) (hr : a % 6 = 0) :
    Calls Tryd.prog 7 #[.int .u8 a, .bool false] w fun e w' => e = .returned (.bool true) ∧ Keep w w' := by
  replace hv := Lib.hid hv
  go_enter Tryd.func7, Tryd.ntmps7
  go_wp2_with fail
  refine (awake_true _ hv.out).mono ?_
  rintro e w1 ⟨rfl, h⟩
  have k1 := Lib.hid h
  replace h := Lib.hid h
  go_wp2_with fail
  obtain ⟨w2, hw2⟩ : ∃ w2, w2 = ((w1.alloc (.cells #[.int .i64 1099511627776, .int .i64 0] 2)).alloc (.cells #[.int .i64 1, .int .i64 1073741824, .int .i64 1073741824, .int .i64 1073741824, .bool false, .slice (some ⟨w1.heap.size, 0, none⟩) 2 2] 24)) := ⟨_, rfl⟩
  rw [← hw2]
  have k2 : Keep w w2 := by rw [hw2]; exact (k1.out.alloc _).alloc _
  have X := ((Box.new2 w1 (.cells #[.int .i64 1099511627776, .int .i64 0] 2) (.int .i64 1) (.int .i64 1073741824) (.int .i64 1073741824) (.int .i64 1073741824) (.bool false) (.slice (some ⟨w1.heap.size, 0, none⟩) 2 2))).cel
  have R := (two_at w1 1099511627776 0 (by decide) (by decide)).keep (Keep.one _ (.cells #[.int .i64 1, .int .i64 1073741824, .int .i64 1073741824, .int .i64 1073741824, .bool false, .slice (some ⟨w1.heap.size, 0, none⟩) 2 2] 24))
  rw [← hw2] at X R
  have hV := Lib.hid (hv.out.keep k2)
  replace k2 := Lib.hid k2
  replace R := Lib.hid R
  replace X := Lib.hid X
  clear hw2
  refine (ocheck_none 1 1073741824 1073741824 1073741824 false (some ⟨w1.heap.size, 0, none⟩) 2 2 (pick 1099511627776 0) 2 _ hV.out R.out (by decide) (by decide +kernel)).mono ?_
  rintro e w3 ⟨rfl, h⟩
  have k3 := Lib.hid (k2.out.trans h)
  have x0 := (X.out.keep h).e0
  have x1 := (X.out.keep h).e1
  have x2 := (X.out.keep h).e2
  have x3 := (X.out.keep h).e3
  have x4 := (X.out.keep h).e4
  have x5 := (X.out.keep h).e5
  have hlt : w1.heap.size + 1 < w3.heap.size := cell_lt x0
  have hlt1 : w1.heap.size < w3.heap.size := by omega
  have hlt2 : w1.heap.size < w3.heap.size + 1 := by omega
  have hlt3 : w1.heap.size < w3.heap.size + 1 + 1 := by omega
  replace h := Lib.hid h
  go_wp2_with fail
  obtain ⟨w4, hw4⟩ : ∃ w4, w4 = ((((w3.alloc (.cells #[.int .i64 1, .int .i64 1073741825, .int .i64 1073741824, .int .i64 1073741824, .bool false, .slice (some ⟨w1.heap.size, 0, none⟩) 2 2] 24)).alloc (.cells #[.int .i64 1, .int .i64 1073741824, .int .i64 1073741824, .int .i64 1073741825, .bool false, .slice (some ⟨w1.heap.size, 0, none⟩) 2 2] 24)).alloc (.cells #[.int .i64 1, .int .i64 1073741824, .int .i64 1073741824, .int .i64 1073741824, .bool false, .slice (some ⟨w3.heap.size + 1 + 1 + 1, 0, none⟩) 2 2] 24)).alloc (.cells #[.int .i64 0, .int .i64 1099511627777] 2)) := ⟨_, rfl⟩
  rw [← hw4]
  have K4 : Keep w3 w4 := by rw [hw4]; exact ((((Keep.refl w3).alloc _).alloc _).alloc _).alloc _
  have Y0 : Cel w4 (w3.heap.size) (.int .i64 1) (.int .i64 1073741825) (.int .i64 1073741824) (.int .i64 1073741824) (.bool false) (.slice (some ⟨w1.heap.size, 0, none⟩) 2 2) := by rw [hw4]; exact ⟨by simp (maxDischargeDepth := 12) [go_sem], by simp (maxDischargeDepth := 12) [go_sem], by simp (maxDischargeDepth := 12) [go_sem], by simp (maxDischargeDepth := 12) [go_sem], by simp (maxDischargeDepth := 12) [go_sem], by simp (maxDischargeDepth := 12) [go_sem]⟩
  have Y1 : Cel w4 (w3.heap.size + 1) (.int .i64 1) (.int .i64 1073741824) (.int .i64 1073741824) (.int .i64 1073741825) (.bool false) (.slice (some ⟨w1.heap.size, 0, none⟩) 2 2) := by rw [hw4]; exact ⟨by simp (maxDischargeDepth := 12) [go_sem], by simp (maxDischargeDepth := 12) [go_sem], by simp (maxDischargeDepth := 12) [go_sem], by simp (maxDischargeDepth := 12) [go_sem], by simp (maxDischargeDepth := 12) [go_sem], by simp (maxDischargeDepth := 12) [go_sem]⟩
  have Y2 : Cel w4 (w3.heap.size + 1 + 1) (.int .i64 1) (.int .i64 1073741824) (.int .i64 1073741824) (.int .i64 1073741824) (.bool false) (.slice (some ⟨w3.heap.size + 1 + 1 + 1, 0, none⟩) 2 2) := by rw [hw4]; exact ⟨by simp (maxDischargeDepth := 12) [go_sem], by simp (maxDischargeDepth := 12) [go_sem], by simp (maxDischargeDepth := 12) [go_sem], by simp (maxDischargeDepth := 12) [go_sem], by simp (maxDischargeDepth := 12) [go_sem], by simp (maxDischargeDepth := 12) [go_sem]⟩
  have R4 : Rd w4 (some ⟨w3.heap.size + 1 + 1 + 1, 0, none⟩) 2 (pick 0 1099511627777) := by rw [hw4]; exact Rd.two (w := (((w3.alloc (.cells #[.int .i64 1, .int .i64 1073741825, .int .i64 1073741824, .int .i64 1073741824, .bool false, .slice (some ⟨w1.heap.size, 0, none⟩) 2 2] 24)).alloc (.cells #[.int .i64 1, .int .i64 1073741824, .int .i64 1073741824, .int .i64 1073741825, .bool false, .slice (some ⟨w1.heap.size, 0, none⟩) 2 2] 24)).alloc (.cells #[.int .i64 1, .int .i64 1073741824, .int .i64 1073741824, .int .i64 1073741824, .bool false, .slice (some ⟨w3.heap.size + 1 + 1 + 1, 0, none⟩) 2 2] 24))) (B := w3.heap.size + 1 + 1 + 1) 0 1099511627777 (by simp) (by decide) (by decide)
  have R3 := Lib.hid (R.out.keep (h.out.trans K4))
  have hV4 := Lib.hid (hV.out.keep (h.out.trans K4))
  have k4 := Lib.hid (k3.out.trans K4)
  have K4 := Lib.hid (Keep.refl w4)
  replace Y0 := Lib.hid Y0
  replace Y1 := Lib.hid Y1
  replace Y2 := Lib.hid Y2
  replace R4 := Lib.hid R4
  clear hw4 hlt hlt1 hlt2 hlt3 x0 x1 x2 x3 x4 x5 hV hv R X h k2 k3
  refine (ocheck_some 1 1073741825 1073741824 1073741824 false (some ⟨w1.heap.size, 0, none⟩) 2 2 (pick 1099511627776 0) 2 _ (hV4.out.keep K4.out) (R3.out.keep K4.out) (by decide) 2 0 (by decide +kernel)).mono ?_
  rintro e w5 ⟨b5, rfl, c0, c1, h⟩
  have hC := Lib.hid (Wrapped.chain c0 c1)
  clear c0 c1
  have K5 := Lib.hid (K4.out.trans h)
  replace h := Lib.hid h
  go_wp2_with fail
  refine (code3_yes 2 [1] (.fault 2 0) _ _ hC.out (Or.inr ⟨_, rfl⟩) (hV4.out.keep K5.out).err).mono ?_
  rintro e w6 ⟨rfl, h⟩
  have K6 := Lib.hid (K5.out.trans h)
  replace h := Lib.hid h
  clear hC
  have z0 := (Y1.out.keep K6.out).e0
  have z1 := (Y1.out.keep K6.out).e1
  have z2 := (Y1.out.keep K6.out).e2
  have z3 := (Y1.out.keep K6.out).e3
  have z4 := (Y1.out.keep K6.out).e4
  have z5 := (Y1.out.keep K6.out).e5
  go_wp2_with fail
  refine (ocheck_some 1 1073741824 1073741824 1073741825 false (some ⟨w1.heap.size, 0, none⟩) 2 2 (pick 1099511627776 0) 2 _ (hV4.out.keep K6.out) (R3.out.keep K6.out) (by decide) 4 0 (by decide +kernel)).mono ?_
  rintro e w7 ⟨b7, rfl, c0, c1, h⟩
  have hC := Lib.hid (Wrapped.chain c0 c1)
  clear c0 c1
  have K7 := Lib.hid (K6.out.trans h)
  replace h := Lib.hid h
  clear z0 z1 z2 z3 z4 z5
  go_wp2_with fail
  refine (code3_yes 4 [1] (.fault 4 0) _ _ hC.out (Or.inr ⟨_, rfl⟩) (hV4.out.keep K7.out).err).mono ?_
  rintro e w8 ⟨rfl, h⟩
  have K8 := Lib.hid (K7.out.trans h)
  replace h := Lib.hid h
  clear hC
  have z0 := (Y2.out.keep K8.out).e0
  have z1 := (Y2.out.keep K8.out).e1
  have z2 := (Y2.out.keep K8.out).e2
  have z3 := (Y2.out.keep K8.out).e3
  have z4 := (Y2.out.keep K8.out).e4
  have z5 := (Y2.out.keep K8.out).e5
  go_wp2_with fail
  refine (ocheck_none 1 1073741824 1073741824 1073741824 false (some ⟨w3.heap.size + 1 + 1 + 1, 0, none⟩) 2 2 (pick 0 1099511627777) 2 _ (hV4.out.keep K8.out) (R4.out.keep K8.out) (by decide) (by decide +kernel)).mono ?_
  rintro e w9 ⟨rfl, h⟩
  have K9 := Lib.hid (K8.out.trans h)
  replace h := Lib.hid h
  clear z0 z1 z2 z3 z4 z5
  go_wp2_with fail
  refine (code3_nil _).mono ?_
  rintro e w10 ⟨rfl, h⟩
  have K10 := Lib.hid (K9.out.trans h)
  replace h := Lib.hid h
  go_wp2
  go_ret
  exact ⟨rfl, k4.out.trans K10.out⟩

set_option maxRecDepth 100000 in
set_option maxHeartbeats 16000000 in
theorem lim_1_low (a : Int) (w : World) (hv : Vars w) (h0 : 0 ≤ a) (h1 : a ≤ 255) (hr : a % 6 = 0) :
    Calls Tryd.prog 7 #[.int .u8 a, .bool true] w fun e w' => e = .returned (.bool true) ∧ Keep w w' := by
  replace hv := Lib.hid hv
  go_enter Tryd.func7, Tryd.ntmps7
  go_wp2_with fail
  refine (awake_true _ hv.out).mono ?_
  rintro e w1 ⟨rfl, h⟩
  have k1 := Lib.hid h
  replace h := Lib.hid h
  go_wp2_with fail
  obtain ⟨w2, hw2⟩ : ∃ w2, w2 = (((w1.alloc (.cells #[.int .i64 1099511627776, .int .i64 0] 2)).alloc (.cells #[.int .i64 1, .int .i64 0, .int .i64 0, .int .i64 (-1073741824), .bool false, .slice (some ⟨w1.heap.size + 1 + 1, 0, none⟩) 2 2] 24)).alloc (.cells #[.int .i64 0, .int .i64 0] 2)) := ⟨_, rfl⟩
  rw [← hw2]
  have k2 : Keep w w2 := by rw [hw2]; exact ((k1.out.alloc _).alloc _).alloc _
  have X := ((Box.new2 w1 (.cells #[.int .i64 1099511627776, .int .i64 0] 2) (.int .i64 1) (.int .i64 0) (.int .i64 0) (.int .i64 (-1073741824)) (.bool false) (.slice (some ⟨w1.heap.size + 1 + 1, 0, none⟩) 2 2)).keep (Keep.one _ (.cells #[.int .i64 0, .int .i64 0] 2))).cel
  have R := Rd.two (w := (w1.alloc (.cells #[.int .i64 1099511627776, .int .i64 0] 2)).alloc (.cells #[.int .i64 1, .int .i64 0, .int .i64 0, .int .i64 (-1073741824), .bool false, .slice (some ⟨w1.heap.size + 1 + 1, 0, none⟩) 2 2] 24)) (B := w1.heap.size + 1 + 1) 0 0 (by simp) (by decide) (by decide)
  rw [← hw2] at X R
  have hV := Lib.hid (hv.out.keep k2)
  replace k2 := Lib.hid k2
  replace R := Lib.hid R
  replace X := Lib.hid X
  clear hw2
  refine (ocheck_none 1 0 0 (-1073741824) false (some ⟨w1.heap.size + 1 + 1, 0, none⟩) 2 2 (pick 0 0) 2 _ hV.out R.out (by decide) (by decide +kernel)).mono ?_
  rintro e w3 ⟨rfl, h⟩
  have k3 := Lib.hid (k2.out.trans h)
  have x0 := (X.out.keep h).e0
  have x1 := (X.out.keep h).e1
  have x2 := (X.out.keep h).e2
  have x3 := (X.out.keep h).e3
  have x4 := (X.out.keep h).e4
  have x5 := (X.out.keep h).e5
  have hlt : w1.heap.size + 1 < w3.heap.size := cell_lt x0
  have hlt1 : w1.heap.size < w3.heap.size := by omega
  have hlt2 : w1.heap.size < w3.heap.size + 1 := by omega
  have hlt3 : w1.heap.size < w3.heap.size + 1 + 1 := by omega
  replace h := Lib.hid h
  go_wp2_with fail
  obtain ⟨w4, hw4⟩ : ∃ w4, w4 = (((((w3.alloc (.cells #[.int .i64 1, .int .i64 (-1), .int .i64 0, .int .i64 (-1073741824), .bool false, .slice (some ⟨w1.heap.size + 1 + 1, 0, none⟩) 2 2] 24)).alloc (.cells #[.int .i64 1, .int .i64 0, .int .i64 0, .int .i64 (-1073741825), .bool false, .slice (some ⟨w1.heap.size + 1 + 1, 0, none⟩) 2 2] 24)).alloc (.cells #[.int .i64 1, .int .i64 0, .int .i64 0, .int .i64 (-1073741824), .bool false, .slice (some ⟨w3.heap.size + 1 + 1 + 1 + 1, 0, none⟩) 2 2] 24)).alloc (.cells #[.int .i64 0, .int .i64 1099511627777] 2)).alloc (.cells #[.int .i64 0, .int .i64 (-1)] 2)) := ⟨_, rfl⟩
  rw [← hw4]
  have K4 : Keep w3 w4 := by rw [hw4]; exact (((((Keep.refl w3).alloc _).alloc _).alloc _).alloc _).alloc _
  have Y0 : Cel w4 (w3.heap.size) (.int .i64 1) (.int .i64 (-1)) (.int .i64 0) (.int .i64 (-1073741824)) (.bool false) (.slice (some ⟨w1.heap.size + 1 + 1, 0, none⟩) 2 2) := by rw [hw4]; exact ⟨by simp (maxDischargeDepth := 12) [go_sem], by simp (maxDischargeDepth := 12) [go_sem], by simp (maxDischargeDepth := 12) [go_sem], by simp (maxDischargeDepth := 12) [go_sem], by simp (maxDischargeDepth := 12) [go_sem], by simp (maxDischargeDepth := 12) [go_sem]⟩
  have Y1 : Cel w4 (w3.heap.size + 1) (.int .i64 1) (.int .i64 0) (.int .i64 0) (.int .i64 (-1073741825)) (.bool false) (.slice (some ⟨w1.heap.size + 1 + 1, 0, none⟩) 2 2) := by rw [hw4]; exact ⟨by simp (maxDischargeDepth := 12) [go_sem], by simp (maxDischargeDepth := 12) [go_sem], by simp (maxDischargeDepth := 12) [go_sem], by simp (maxDischargeDepth := 12) [go_sem], by simp (maxDischargeDepth := 12) [go_sem], by simp (maxDischargeDepth := 12) [go_sem]⟩
  have Y2 : Cel w4 (w3.heap.size + 1 + 1) (.int .i64 1) (.int .i64 0) (.int .i64 0) (.int .i64 (-1073741824)) (.bool false) (.slice (some ⟨w3.heap.size + 1 + 1 + 1 + 1, 0, none⟩) 2 2) := by rw [hw4]; exact ⟨by simp (maxDischargeDepth := 12) [go_sem], by simp (maxDischargeDepth := 12) [go_sem], by simp (maxDischargeDepth := 12) [go_sem], by simp (maxDischargeDepth := 12) [go_sem], by simp (maxDischargeDepth := 12) [go_sem], by simp (maxDischargeDepth := 12) [go_sem]⟩
  have R4 : Rd w4 (some ⟨w3.heap.size + 1 + 1 + 1 + 1, 0, none⟩) 2 (pick 0 (-1)) := by rw [hw4]; exact Rd.two (w := ((((w3.alloc (.cells #[.int .i64 1, .int .i64 (-1), .int .i64 0, .int .i64 (-1073741824), .bool false, .slice (some ⟨w1.heap.size + 1 + 1, 0, none⟩) 2 2] 24)).alloc (.cells #[.int .i64 1, .int .i64 0, .int .i64 0, .int .i64 (-1073741825), .bool false, .slice (some ⟨w1.heap.size + 1 + 1, 0, none⟩) 2 2] 24)).alloc (.cells #[.int .i64 1, .int .i64 0, .int .i64 0, .int .i64 (-1073741824), .bool false, .slice (some ⟨w3.heap.size + 1 + 1 + 1 + 1, 0, none⟩) 2 2] 24)).alloc (.cells #[.int .i64 0, .int .i64 1099511627777] 2))) (B := w3.heap.size + 1 + 1 + 1 + 1) 0 (-1) (by simp) (by decide) (by decide)
  have R3 := Lib.hid (R.out.keep (h.out.trans K4))
  have hV4 := Lib.hid (hV.out.keep (h.out.trans K4))
  have k4 := Lib.hid (k3.out.trans K4)
  have K4 := Lib.hid (Keep.refl w4)
  replace Y0 := Lib.hid Y0
  replace Y1 := Lib.hid Y1
  replace Y2 := Lib.hid Y2
  replace R4 := Lib.hid R4
  clear hw4 hlt hlt1 hlt2 hlt3 x0 x1 x2 x3 x4 x5 hV hv R X h k2 k3
  refine (ocheck_some 1 (-1) 0 (-1073741824) false (some ⟨w1.heap.size + 1 + 1, 0, none⟩) 2 2 (pick 0 0) 2 _ (hV4.out.keep K4.out) (R3.out.keep K4.out) (by decide) 2 0 (by decide +kernel)).mono ?_
  rintro e w5 ⟨b5, rfl, c0, c1, h⟩
  have hC := Lib.hid (Wrapped.chain c0 c1)
  clear c0 c1
  have K5 := Lib.hid (K4.out.trans h)
  replace h := Lib.hid h
  go_wp2_with fail
  refine (code3_yes 2 [1] (.fault 2 0) _ _ hC.out (Or.inr ⟨_, rfl⟩) (hV4.out.keep K5.out).err).mono ?_
  rintro e w6 ⟨rfl, h⟩
  have K6 := Lib.hid (K5.out.trans h)
  replace h := Lib.hid h
  clear hC
  have z0 := (Y1.out.keep K6.out).e0
  have z1 := (Y1.out.keep K6.out).e1
  have z2 := (Y1.out.keep K6.out).e2
  have z3 := (Y1.out.keep K6.out).e3
  have z4 := (Y1.out.keep K6.out).e4
  have z5 := (Y1.out.keep K6.out).e5
  go_wp2_with fail
  refine (ocheck_some 1 0 0 (-1073741825) false (some ⟨w1.heap.size + 1 + 1, 0, none⟩) 2 2 (pick 0 0) 2 _ (hV4.out.keep K6.out) (R3.out.keep K6.out) (by decide) 4 0 (by decide +kernel)).mono ?_
  rintro e w7 ⟨b7, rfl, c0, c1, h⟩
  have hC := Lib.hid (Wrapped.chain c0 c1)
  clear c0 c1
  have K7 := Lib.hid (K6.out.trans h)
  replace h := Lib.hid h
  clear z0 z1 z2 z3 z4 z5
  go_wp2_with fail
  refine (code3_yes 4 [1] (.fault 4 0) _ _ hC.out (Or.inr ⟨_, rfl⟩) (hV4.out.keep K7.out).err).mono ?_
  rintro e w8 ⟨rfl, h⟩
  have K8 := Lib.hid (K7.out.trans h)
  replace h := Lib.hid h
  clear hC
  have z0 := (Y2.out.keep K8.out).e0
  have z1 := (Y2.out.keep K8.out).e1
  have z2 := (Y2.out.keep K8.out).e2
  have z3 := (Y2.out.keep K8.out).e3
  have z4 := (Y2.out.keep K8.out).e4
  have z5 := (Y2.out.keep K8.out).e5
  go_wp2_with fail
  refine (ocheck_none 1 0 0 (-1073741824) false (some ⟨w3.heap.size + 1 + 1 + 1 + 1, 0, none⟩) 2 2 (pick 0 (-1)) 2 _ (hV4.out.keep K8.out) (R4.out.keep K8.out) (by decide) (by decide +kernel)).mono ?_
  rintro e w9 ⟨rfl, h⟩
  have K9 := Lib.hid (K8.out.trans h)
  replace h := Lib.hid h
  clear z0 z1 z2 z3 z4 z5
  go_wp2_with fail
  refine (code3_nil _).mono ?_
  rintro e w10 ⟨rfl, h⟩
  have K10 := Lib.hid (K9.out.trans h)
  replace h := Lib.hid h
  go_wp2
  go_ret
  exact ⟨rfl, k4.out.trans K10.out⟩

set_option maxRecDepth 100000 in
set_option maxHeartbeats 16000000 in
theorem lim_2_high (a : Int) (w : World) (hv : Vars w) (h0 : 0 ≤ a) (h1 : a ≤ 255) (hr : a % 6 = 1) :
    Calls Tryd.prog 7 #[.int .u8 a, .bool false] w fun e w' => e = .returned (.bool true) ∧ Keep w w' := by
  replace hv := Lib.hid hv
  go_enter Tryd.func7, Tryd.ntmps7
  go_wp2_with fail
  refine (awake_true _ hv.out).mono ?_
  rintro e w1 ⟨rfl, h⟩
  have k1 := Lib.hid h
  replace h := Lib.hid h
  go_wp2_with fail
  obtain ⟨w2, hw2⟩ : ∃ w2, w2 = ((w1.alloc (.cells #[.int .i64 1099511627776, .int .i64 0] 2)).alloc (.cells #[.int .i64 2, .int .i64 1073741824, .int .i64 1073741824, .int .i64 1048576, .bool false, .slice (some ⟨w1.heap.size, 0, none⟩) 2 2] 24)) := ⟨_, rfl⟩
  rw [← hw2]
  have k2 : Keep w w2 := by rw [hw2]; exact (k1.out.alloc _).alloc _
  have X := ((Box.new2 w1 (.cells #[.int .i64 1099511627776, .int .i64 0] 2) (.int .i64 2) (.int .i64 1073741824) (.int .i64 1073741824) (.int .i64 1048576) (.bool false) (.slice (some ⟨w1.heap.size, 0, none⟩) 2 2))).cel
  have R := (two_at w1 1099511627776 0 (by decide) (by decide)).keep (Keep.one _ (.cells #[.int .i64 2, .int .i64 1073741824, .int .i64 1073741824, .int .i64 1048576, .bool false, .slice (some ⟨w1.heap.size, 0, none⟩) 2 2] 24))
  rw [← hw2] at X R
  have hV := Lib.hid (hv.out.keep k2)
  replace k2 := Lib.hid k2
  replace R := Lib.hid R
  replace X := Lib.hid X
  clear hw2
  refine (ocheck_none 2 1073741824 1073741824 1048576 false (some ⟨w1.heap.size, 0, none⟩) 2 2 (pick 1099511627776 0) 2 _ hV.out R.out (by decide) (by decide +kernel)).mono ?_
  rintro e w3 ⟨rfl, h⟩
  have k3 := Lib.hid (k2.out.trans h)
  have x0 := (X.out.keep h).e0
  have x1 := (X.out.keep h).e1
  have x2 := (X.out.keep h).e2
  have x3 := (X.out.keep h).e3
  have x4 := (X.out.keep h).e4
  have x5 := (X.out.keep h).e5
  have hlt : w1.heap.size + 1 < w3.heap.size := cell_lt x0
  have hlt1 : w1.heap.size < w3.heap.size := by omega
  have hlt2 : w1.heap.size < w3.heap.size + 1 := by omega
  have hlt3 : w1.heap.size < w3.heap.size + 1 + 1 := by omega
  replace h := Lib.hid h
  go_wp2_with fail
  obtain ⟨w4, hw4⟩ : ∃ w4, w4 = ((((w3.alloc (.cells #[.int .i64 2, .int .i64 1073741825, .int .i64 1073741824, .int .i64 1048576, .bool false, .slice (some ⟨w1.heap.size, 0, none⟩) 2 2] 24)).alloc (.cells #[.int .i64 2, .int .i64 1073741824, .int .i64 1073741824, .int .i64 1048577, .bool false, .slice (some ⟨w1.heap.size, 0, none⟩) 2 2] 24)).alloc (.cells #[.int .i64 2, .int .i64 1073741824, .int .i64 1073741824, .int .i64 1048576, .bool false, .slice (some ⟨w3.heap.size + 1 + 1 + 1, 0, none⟩) 2 2] 24)).alloc (.cells #[.int .i64 0, .int .i64 1099511627777] 2)) := ⟨_, rfl⟩
  rw [← hw4]
  have K4 : Keep w3 w4 := by rw [hw4]; exact ((((Keep.refl w3).alloc _).alloc _).alloc _).alloc _
  have Y0 : Cel w4 (w3.heap.size) (.int .i64 2) (.int .i64 1073741825) (.int .i64 1073741824) (.int .i64 1048576) (.bool false) (.slice (some ⟨w1.heap.size, 0, none⟩) 2 2) := by rw [hw4]; exact ⟨by simp (maxDischargeDepth := 12) [go_sem], by simp (maxDischargeDepth := 12) [go_sem], by simp (maxDischargeDepth := 12) [go_sem], by simp (maxDischargeDepth := 12) [go_sem], by simp (maxDischargeDepth := 12) [go_sem], by simp (maxDischargeDepth := 12) [go_sem]⟩
  have Y1 : Cel w4 (w3.heap.size + 1) (.int .i64 2) (.int .i64 1073741824) (.int .i64 1073741824) (.int .i64 1048577) (.bool false) (.slice (some ⟨w1.heap.size, 0, none⟩) 2 2) := by rw [hw4]; exact ⟨by simp (maxDischargeDepth := 12) [go_sem], by simp (maxDischargeDepth := 12) [go_sem], by simp (maxDischargeDepth := 12) [go_sem], by simp (maxDischargeDepth := 12) [go_sem], by simp (maxDischargeDepth := 12) [go_sem], by simp (maxDischargeDepth := 12) [go_sem]⟩
  have Y2 : Cel w4 (w3.heap.size + 1 + 1) (.int .i64 2) (.int .i64 1073741824) (.int .i64 1073741824) (.int .i64 1048576) (.bool false) (.slice (some ⟨w3.heap.size + 1 + 1 + 1, 0, none⟩) 2 2) := by rw [hw4]; exact ⟨by simp (maxDischargeDepth := 12) [go_sem], by simp (maxDischargeDepth := 12) [go_sem], by simp (maxDischargeDepth := 12) [go_sem], by simp (maxDischargeDepth := 12) [go_sem], by simp (maxDischargeDepth := 12) [go_sem], by simp (maxDischargeDepth := 12) [go_sem]⟩
  have R4 : Rd w4 (some ⟨w3.heap.size + 1 + 1 + 1, 0, none⟩) 2 (pick 0 1099511627777) := by rw [hw4]; exact Rd.two (w := (((w3.alloc (.cells #[.int .i64 2, .int .i64 1073741825, .int .i64 1073741824, .int .i64 1048576, .bool false, .slice (some ⟨w1.heap.size, 0, none⟩) 2 2] 24)).alloc (.cells #[.int .i64 2, .int .i64 1073741824, .int .i64 1073741824, .int .i64 1048577, .bool false, .slice (some ⟨w1.heap.size, 0, none⟩) 2 2] 24)).alloc (.cells #[.int .i64 2, .int .i64 1073741824, .int .i64 1073741824, .int .i64 1048576, .bool false, .slice (some ⟨w3.heap.size + 1 + 1 + 1, 0, none⟩) 2 2] 24))) (B := w3.heap.size + 1 + 1 + 1) 0 1099511627777 (by simp) (by decide) (by decide)
  have R3 := Lib.hid (R.out.keep (h.out.trans K4))
  have hV4 := Lib.hid (hV.out.keep (h.out.trans K4))
  have k4 := Lib.hid (k3.out.trans K4)
  have K4 := Lib.hid (Keep.refl w4)
  replace Y0 := Lib.hid Y0
  replace Y1 := Lib.hid Y1
  replace Y2 := Lib.hid Y2
  replace R4 := Lib.hid R4
  clear hw4 hlt hlt1 hlt2 hlt3 x0 x1 x2 x3 x4 x5 hV hv R X h k2 k3
  refine (ocheck_some 2 1073741825 1073741824 1048576 false (some ⟨w1.heap.size, 0, none⟩) 2 2 (pick 1099511627776 0) 2 _ (hV4.out.keep K4.out) (R3.out.keep K4.out) (by decide) 2 0 (by decide +kernel)).mono ?_
  rintro e w5 ⟨b5, rfl, c0, c1, h⟩
  have hC := Lib.hid (Wrapped.chain c0 c1)
  clear c0 c1
  have K5 := Lib.hid (K4.out.trans h)
  replace h := Lib.hid h
  go_wp2_with fail
  refine (code3_yes 2 [2] (.fault 2 0) _ _ hC.out (Or.inr ⟨_, rfl⟩) (hV4.out.keep K5.out).err).mono ?_
  rintro e w6 ⟨rfl, h⟩
  have K6 := Lib.hid (K5.out.trans h)
  replace h := Lib.hid h
  clear hC
  have z0 := (Y1.out.keep K6.out).e0
  have z1 := (Y1.out.keep K6.out).e1
  have z2 := (Y1.out.keep K6.out).e2
  have z3 := (Y1.out.keep K6.out).e3
  have z4 := (Y1.out.keep K6.out).e4
  have z5 := (Y1.out.keep K6.out).e5
  go_wp2_with fail
  refine (ocheck_none 2 1073741824 1073741824 1048577 false (some ⟨w1.heap.size, 0, none⟩) 2 2 (pick 1099511627776 0) 2 _ (hV4.out.keep K6.out) (R3.out.keep K6.out) (by decide) (by decide +kernel)).mono ?_
  rintro e w7 ⟨rfl, h⟩
  have K7 := Lib.hid (K6.out.trans h)
  replace h := Lib.hid h
  clear z0 z1 z2 z3 z4 z5
  go_wp2_with fail
  refine (code3_nil _).mono ?_
  rintro e w8 ⟨rfl, h⟩
  have K8 := Lib.hid (K7.out.trans h)
  replace h := Lib.hid h
  have z0 := (Y2.out.keep K8.out).e0
  have z1 := (Y2.out.keep K8.out).e1
  have z2 := (Y2.out.keep K8.out).e2
  have z3 := (Y2.out.keep K8.out).e3
  have z4 := (Y2.out.keep K8.out).e4
  have z5 := (Y2.out.keep K8.out).e5
  go_wp2_with fail
  refine (ocheck_some 2 1073741824 1073741824 1048576 false (some ⟨w3.heap.size + 1 + 1 + 1, 0, none⟩) 2 2 (pick 0 1099511627777) 2 _ (hV4.out.keep K8.out) (R4.out.keep K8.out) (by decide) 3 1 (by decide +kernel)).mono ?_
  rintro e w9 ⟨b9, rfl, c0, c1, h⟩
  have hC := Lib.hid (Wrapped.chain c0 c1)
  clear c0 c1
  have K9 := Lib.hid (K8.out.trans h)
  replace h := Lib.hid h
  clear z0 z1 z2 z3 z4 z5
  go_wp2_with fail
  refine (code3_yes 3 [2] (.fault 3 1) _ _ hC.out (Or.inr ⟨_, rfl⟩) (hV4.out.keep K9.out).err).mono ?_
  rintro e w10 ⟨rfl, h⟩
  have K10 := Lib.hid (K9.out.trans h)
  replace h := Lib.hid h
  clear hC
  go_wp2
  go_ret
  exact ⟨rfl, k4.out.trans K10.out⟩

set_option maxRecDepth 100000 in
set_option maxHeartbeats 16000000 in
theorem lim_2_low (a : Int) (w : World) (hv : Vars w) (h0 : 0 ≤ a) (h1 : a ≤ 255) (hr : a % 6 = 1) :
    Calls Tryd.prog 7 #[.int .u8 a, .bool true] w fun e w' => e = .returned (.bool true) ∧ Keep w w' := by
  replace hv := Lib.hid hv
  go_enter Tryd.func7, Tryd.ntmps7
  go_wp2_with fail
  refine (awake_true _ hv.out).mono ?_
  rintro e w1 ⟨rfl, h⟩
  have k1 := Lib.hid h
  replace h := Lib.hid h
  go_wp2_with fail
  obtain ⟨w2, hw2⟩ : ∃ w2, w2 = (((w1.alloc (.cells #[.int .i64 1099511627776, .int .i64 0] 2)).alloc (.cells #[.int .i64 2, .int .i64 0, .int .i64 0, .int .i64 0, .bool false, .slice (some ⟨w1.heap.size + 1 + 1, 0, none⟩) 2 2] 24)).alloc (.cells #[.int .i64 0, .int .i64 0] 2)) := ⟨_, rfl⟩
  rw [← hw2]
  have k2 : Keep w w2 := by rw [hw2]; exact ((k1.out.alloc _).alloc _).alloc _
  have X := ((Box.new2 w1 (.cells #[.int .i64 1099511627776, .int .i64 0] 2) (.int .i64 2) (.int .i64 0) (.int .i64 0) (.int .i64 0) (.bool false) (.slice (some ⟨w1.heap.size + 1 + 1, 0, none⟩) 2 2)).keep (Keep.one _ (.cells #[.int .i64 0, .int .i64 0] 2))).cel
  have R := Rd.two (w := (w1.alloc (.cells #[.int .i64 1099511627776, .int .i64 0] 2)).alloc (.cells #[.int .i64 2, .int .i64 0, .int .i64 0, .int .i64 0, .bool false, .slice (some ⟨w1.heap.size + 1 + 1, 0, none⟩) 2 2] 24)) (B := w1.heap.size + 1 + 1) 0 0 (by simp) (by decide) (by decide)
  rw [← hw2] at X R
  have hV := Lib.hid (hv.out.keep k2)
  replace k2 := Lib.hid k2
  replace R := Lib.hid R
  replace X := Lib.hid X
  clear hw2
  refine (ocheck_none 2 0 0 0 false (some ⟨w1.heap.size + 1 + 1, 0, none⟩) 2 2 (pick 0 0) 2 _ hV.out R.out (by decide) (by decide +kernel)).mono ?_
  rintro e w3 ⟨rfl, h⟩
  have k3 := Lib.hid (k2.out.trans h)
  have x0 := (X.out.keep h).e0
  have x1 := (X.out.keep h).e1
  have x2 := (X.out.keep h).e2
  have x3 := (X.out.keep h).e3
  have x4 := (X.out.keep h).e4
  have x5 := (X.out.keep h).e5
  have hlt : w1.heap.size + 1 < w3.heap.size := cell_lt x0
  have hlt1 : w1.heap.size < w3.heap.size := by omega
  have hlt2 : w1.heap.size < w3.heap.size + 1 := by omega
  have hlt3 : w1.heap.size < w3.heap.size + 1 + 1 := by omega
  replace h := Lib.hid h
  go_wp2_with fail
  obtain ⟨w4, hw4⟩ : ∃ w4, w4 = (((((w3.alloc (.cells #[.int .i64 2, .int .i64 (-1), .int .i64 0, .int .i64 0, .bool false, .slice (some ⟨w1.heap.size + 1 + 1, 0, none⟩) 2 2] 24)).alloc (.cells #[.int .i64 2, .int .i64 0, .int .i64 0, .int .i64 (-1), .bool false, .slice (some ⟨w1.heap.size + 1 + 1, 0, none⟩) 2 2] 24)).alloc (.cells #[.int .i64 2, .int .i64 0, .int .i64 0, .int .i64 0, .bool false, .slice (some ⟨w3.heap.size + 1 + 1 + 1 + 1, 0, none⟩) 2 2] 24)).alloc (.cells #[.int .i64 0, .int .i64 1099511627777] 2)).alloc (.cells #[.int .i64 0, .int .i64 (-1)] 2)) := ⟨_, rfl⟩
  rw [← hw4]
  have K4 : Keep w3 w4 := by rw [hw4]; exact (((((Keep.refl w3).alloc _).alloc _).alloc _).alloc _).alloc _
  have Y0 : Cel w4 (w3.heap.size) (.int .i64 2) (.int .i64 (-1)) (.int .i64 0) (.int .i64 0) (.bool false) (.slice (some ⟨w1.heap.size + 1 + 1, 0, none⟩) 2 2) := by rw [hw4]; exact ⟨by simp (maxDischargeDepth := 12) [go_sem], by simp (maxDischargeDepth := 12) [go_sem], by simp (maxDischargeDepth := 12) [go_sem], by simp (maxDischargeDepth := 12) [go_sem], by simp (maxDischargeDepth := 12) [go_sem], by simp (maxDischargeDepth := 12) [go_sem]⟩
  have Y1 : Cel w4 (w3.heap.size + 1) (.int .i64 2) (.int .i64 0) (.int .i64 0) (.int .i64 (-1)) (.bool false) (.slice (some ⟨w1.heap.size + 1 + 1, 0, none⟩) 2 2) := by rw [hw4]; exact ⟨by simp (maxDischargeDepth := 12) [go_sem], by simp (maxDischargeDepth := 12) [go_sem], by simp (maxDischargeDepth := 12) [go_sem], by simp (maxDischargeDepth := 12) [go_sem], by simp (maxDischargeDepth := 12) [go_sem], by simp (maxDischargeDepth := 12) [go_sem]⟩
  have Y2 : Cel w4 (w3.heap.size + 1 + 1) (.int .i64 2) (.int .i64 0) (.int .i64 0) (.int .i64 0) (.bool false) (.slice (some ⟨w3.heap.size + 1 + 1 + 1 + 1, 0, none⟩) 2 2) := by rw [hw4]; exact ⟨by simp (maxDischargeDepth := 12) [go_sem], by simp (maxDischargeDepth := 12) [go_sem], by simp (maxDischargeDepth := 12) [go_sem], by simp (maxDischargeDepth := 12) [go_sem], by simp (maxDischargeDepth := 12) [go_sem], by simp (maxDischargeDepth := 12) [go_sem]⟩
  have R4 : Rd w4 (some ⟨w3.heap.size + 1 + 1 + 1 + 1, 0, none⟩) 2 (pick 0 (-1)) := by rw [hw4]; exact Rd.two (w := ((((w3.alloc (.cells #[.int .i64 2, .int .i64 (-1), .int .i64 0, .int .i64 0, .bool false, .slice (some ⟨w1.heap.size + 1 + 1, 0, none⟩) 2 2] 24)).alloc (.cells #[.int .i64 2, .int .i64 0, .int .i64 0, .int .i64 (-1), .bool false, .slice (some ⟨w1.heap.size + 1 + 1, 0, none⟩) 2 2] 24)).alloc (.cells #[.int .i64 2, .int .i64 0, .int .i64 0, .int .i64 0, .bool false, .slice (some ⟨w3.heap.size + 1 + 1 + 1 + 1, 0, none⟩) 2 2] 24)).alloc (.cells #[.int .i64 0, .int .i64 1099511627777] 2))) (B := w3.heap.size + 1 + 1 + 1 + 1) 0 (-1) (by simp) (by decide) (by decide)
  have R3 := Lib.hid (R.out.keep (h.out.trans K4))
  have hV4 := Lib.hid (hV.out.keep (h.out.trans K4))
  have k4 := Lib.hid (k3.out.trans K4)
  have K4 := Lib.hid (Keep.refl w4)
  replace Y0 := Lib.hid Y0
  replace Y1 := Lib.hid Y1
  replace Y2 := Lib.hid Y2
  replace R4 := Lib.hid R4
  clear hw4 hlt hlt1 hlt2 hlt3 x0 x1 x2 x3 x4 x5 hV hv R X h k2 k3
  refine (ocheck_some 2 (-1) 0 0 false (some ⟨w1.heap.size + 1 + 1, 0, none⟩) 2 2 (pick 0 0) 2 _ (hV4.out.keep K4.out) (R3.out.keep K4.out) (by decide) 2 0 (by decide +kernel)).mono ?_
  rintro e w5 ⟨b5, rfl, c0, c1, h⟩
  have hC := Lib.hid (Wrapped.chain c0 c1)
  clear c0 c1
  have K5 := Lib.hid (K4.out.trans h)
  replace h := Lib.hid h
  go_wp2_with fail
  refine (code3_yes 2 [2] (.fault 2 0) _ _ hC.out (Or.inr ⟨_, rfl⟩) (hV4.out.keep K5.out).err).mono ?_
  rintro e w6 ⟨rfl, h⟩
  have K6 := Lib.hid (K5.out.trans h)
  replace h := Lib.hid h
  clear hC
  have z0 := (Y1.out.keep K6.out).e0
  have z1 := (Y1.out.keep K6.out).e1
  have z2 := (Y1.out.keep K6.out).e2
  have z3 := (Y1.out.keep K6.out).e3
  have z4 := (Y1.out.keep K6.out).e4
  have z5 := (Y1.out.keep K6.out).e5
  go_wp2_with fail
  refine (ocheck_none 2 0 0 (-1) false (some ⟨w1.heap.size + 1 + 1, 0, none⟩) 2 2 (pick 0 0) 2 _ (hV4.out.keep K6.out) (R3.out.keep K6.out) (by decide) (by decide +kernel)).mono ?_
  rintro e w7 ⟨rfl, h⟩
  have K7 := Lib.hid (K6.out.trans h)
  replace h := Lib.hid h
  clear z0 z1 z2 z3 z4 z5
  go_wp2_with fail
  refine (code3_nil _).mono ?_
  rintro e w8 ⟨rfl, h⟩
  have K8 := Lib.hid (K7.out.trans h)
  replace h := Lib.hid h
  have z0 := (Y2.out.keep K8.out).e0
  have z1 := (Y2.out.keep K8.out).e1
  have z2 := (Y2.out.keep K8.out).e2
  have z3 := (Y2.out.keep K8.out).e3
  have z4 := (Y2.out.keep K8.out).e4
  have z5 := (Y2.out.keep K8.out).e5
  go_wp2_with fail
  refine (ocheck_some 2 0 0 0 false (some ⟨w3.heap.size + 1 + 1 + 1 + 1, 0, none⟩) 2 2 (pick 0 (-1)) 2 _ (hV4.out.keep K8.out) (R4.out.keep K8.out) (by decide) 3 1 (by decide +kernel)).mono ?_
  rintro e w9 ⟨b9, rfl, c0, c1, h⟩
  have hC := Lib.hid (Wrapped.chain c0 c1)
  clear c0 c1
  have K9 := Lib.hid (K8.out.trans h)
  replace h := Lib.hid h
  clear z0 z1 z2 z3 z4 z5
  go_wp2_with fail
  refine (code3_yes 3 [2] (.fault 3 1) _ _ hC.out (Or.inr ⟨_, rfl⟩) (hV4.out.keep K9.out).err).mono ?_
  rintro e w10 ⟨rfl, h⟩
  have K10 := Lib.hid (K9.out.trans h)
  replace h := Lib.hid h
  clear hC
  go_wp2
  go_ret
  exact ⟨rfl, k4.out.trans K10.out⟩

set_option maxRecDepth 100000 in
set_option maxHeartbeats 16000000 in
theorem lim_3_high (a : Int) (w : World) (hv : Vars w) (h0 : 0 ≤ a) (h1 : a ≤ 255) (hr : a % 6 = 2) :
    Calls Tryd.prog 7 #[.int .u8 a, .bool false] w fun e w' => e = .returned (.bool true) ∧ Keep w w' := by
  replace hv := Lib.hid hv
  go_enter Tryd.func7, Tryd.ntmps7
  go_wp2_with fail
  refine (awake_true _ hv.out).mono ?_
  rintro e w1 ⟨rfl, h⟩
  have k1 := Lib.hid h
  replace h := Lib.hid h
  go_wp2_with fail
  obtain ⟨w2, hw2⟩ : ∃ w2, w2 = ((w1.alloc (.cells #[.int .i64 1099511627776, .int .i64 0] 2)).alloc (.cells #[.int .i64 3, .int .i64 1073741824, .int .i64 1073741824, .int .i64 1048576, .bool false, .slice (some ⟨w1.heap.size, 0, none⟩) 2 2] 24)) := ⟨_, rfl⟩
  rw [← hw2]
  have k2 : Keep w w2 := by rw [hw2]; exact (k1.out.alloc _).alloc _
  have X := ((Box.new2 w1 (.cells #[.int .i64 1099511627776, .int .i64 0] 2) (.int .i64 3) (.int .i64 1073741824) (.int .i64 1073741824) (.int .i64 1048576) (.bool false) (.slice (some ⟨w1.heap.size, 0, none⟩) 2 2))).cel
  have R := (two_at w1 1099511627776 0 (by decide) (by decide)).keep (Keep.one _ (.cells #[.int .i64 3, .int .i64 1073741824, .int .i64 1073741824, .int .i64 1048576, .bool false, .slice (some ⟨w1.heap.size, 0, none⟩) 2 2] 24))
  rw [← hw2] at X R
  have hV := Lib.hid (hv.out.keep k2)
  replace k2 := Lib.hid k2
  replace R := Lib.hid R
  replace X := Lib.hid X
  clear hw2
  refine (ocheck_none 3 1073741824 1073741824 1048576 false (some ⟨w1.heap.size, 0, none⟩) 2 2 (pick 1099511627776 0) 2 _ hV.out R.out (by decide) (by decide +kernel)).mono ?_
  rintro e w3 ⟨rfl, h⟩
  have k3 := Lib.hid (k2.out.trans h)
  have x0 := (X.out.keep h).e0
  have x1 := (X.out.keep h).e1
  have x2 := (X.out.keep h).e2
  have x3 := (X.out.keep h).e3
  have x4 := (X.out.keep h).e4
  have x5 := (X.out.keep h).e5
  have hlt : w1.heap.size + 1 < w3.heap.size := cell_lt x0
  have hlt1 : w1.heap.size < w3.heap.size := by omega
  have hlt2 : w1.heap.size < w3.heap.size + 1 := by omega
  have hlt3 : w1.heap.size < w3.heap.size + 1 + 1 := by omega
  replace h := Lib.hid h
  go_wp2_with fail
  obtain ⟨w4, hw4⟩ : ∃ w4, w4 = ((((w3.alloc (.cells #[.int .i64 3, .int .i64 1073741825, .int .i64 1073741824, .int .i64 1048576, .bool false, .slice (some ⟨w1.heap.size, 0, none⟩) 2 2] 24)).alloc (.cells #[.int .i64 3, .int .i64 1073741824, .int .i64 1073741824, .int .i64 1048577, .bool false, .slice (some ⟨w1.heap.size, 0, none⟩) 2 2] 24)).alloc (.cells #[.int .i64 3, .int .i64 1073741824, .int .i64 1073741824, .int .i64 1048576, .bool false, .slice (some ⟨w3.heap.size + 1 + 1 + 1, 0, none⟩) 2 2] 24)).alloc (.cells #[.int .i64 0, .int .i64 1099511627777] 2)) := ⟨_, rfl⟩
  rw [← hw4]
  have K4 : Keep w3 w4 := by rw [hw4]; exact ((((Keep.refl w3).alloc _).alloc _).alloc _).alloc _
  have Y0 : Cel w4 (w3.heap.size) (.int .i64 3) (.int .i64 1073741825) (.int .i64 1073741824) (.int .i64 1048576) (.bool false) (.slice (some ⟨w1.heap.size, 0, none⟩) 2 2) := by rw [hw4]; exact ⟨by simp (maxDischargeDepth := 12) [go_sem], by simp (maxDischargeDepth := 12) [go_sem], by simp (maxDischargeDepth := 12) [go_sem], by simp (maxDischargeDepth := 12) [go_sem], by simp (maxDischargeDepth := 12) [go_sem], by simp (maxDischargeDepth := 12) [go_sem]⟩
  have Y1 : Cel w4 (w3.heap.size + 1) (.int .i64 3) (.int .i64 1073741824) (.int .i64 1073741824) (.int .i64 1048577) (.bool false) (.slice (some ⟨w1.heap.size, 0, none⟩) 2 2) := by rw [hw4]; exact ⟨by simp (maxDischargeDepth := 12) [go_sem], by simp (maxDischargeDepth := 12) [go_sem], by simp (maxDischargeDepth := 12) [go_sem], by simp (maxDischargeDepth := 12) [go_sem], by simp (maxDischargeDepth := 12) [go_sem], by simp (maxDischargeDepth := 12) [go_sem]⟩
  have Y2 : Cel w4 (w3.heap.size + 1 + 1) (.int .i64 3) (.int .i64 1073741824) (.int .i64 1073741824) (.int .i64 1048576) (.bool false) (.slice (some ⟨w3.heap.size + 1 + 1 + 1, 0, none⟩) 2 2) := by rw [hw4]; exact ⟨by simp (maxDischargeDepth := 12) [go_sem], by simp (maxDischargeDepth := 12) [go_sem], by simp (maxDischargeDepth := 12) [go_sem], by simp (maxDischargeDepth := 12) [go_sem], by simp (maxDischargeDepth := 12) [go_sem], by simp (maxDischargeDepth := 12) [go_sem]⟩
  have R4 : Rd w4 (some ⟨w3.heap.size + 1 + 1 + 1, 0, none⟩) 2 (pick 0 1099511627777) := by rw [hw4]; exact Rd.two (w := (((w3.alloc (.cells #[.int .i64 3, .int .i64 1073741825, .int .i64 1073741824, .int .i64 1048576, .bool false, .slice (some ⟨w1.heap.size, 0, none⟩) 2 2] 24)).alloc (.cells #[.int .i64 3, .int .i64 1073741824, .int .i64 1073741824, .int .i64 1048577, .bool false, .slice (some ⟨w1.heap.size, 0, none⟩) 2 2] 24)).alloc (.cells #[.int .i64 3, .int .i64 1073741824, .int .i64 1073741824, .int .i64 1048576, .bool false, .slice (some ⟨w3.heap.size + 1 + 1 + 1, 0, none⟩) 2 2] 24))) (B := w3.heap.size + 1 + 1 + 1) 0 1099511627777 (by simp) (by decide) (by decide)
  have R3 := Lib.hid (R.out.keep (h.out.trans K4))
  have hV4 := Lib.hid (hV.out.keep (h.out.trans K4))
  have k4 := Lib.hid (k3.out.trans K4)
  have K4 := Lib.hid (Keep.refl w4)
  replace Y0 := Lib.hid Y0
  replace Y1 := Lib.hid Y1
  replace Y2 := Lib.hid Y2
  replace R4 := Lib.hid R4
  clear hw4 hlt hlt1 hlt2 hlt3 x0 x1 x2 x3 x4 x5 hV hv R X h k2 k3
  refine (ocheck_some 3 1073741825 1073741824 1048576 false (some ⟨w1.heap.size, 0, none⟩) 2 2 (pick 1099511627776 0) 2 _ (hV4.out.keep K4.out) (R3.out.keep K4.out) (by decide) 2 0 (by decide +kernel)).mono ?_
  rintro e w5 ⟨b5, rfl, c0, c1, h⟩
  have hC := Lib.hid (Wrapped.chain c0 c1)
  clear c0 c1
  have K5 := Lib.hid (K4.out.trans h)
  replace h := Lib.hid h
  go_wp2_with fail
  refine (code3_yes 2 [3] (.fault 2 0) _ _ hC.out (Or.inr ⟨_, rfl⟩) (hV4.out.keep K5.out).err).mono ?_
  rintro e w6 ⟨rfl, h⟩
  have K6 := Lib.hid (K5.out.trans h)
  replace h := Lib.hid h
  clear hC
  have z0 := (Y1.out.keep K6.out).e0
  have z1 := (Y1.out.keep K6.out).e1
  have z2 := (Y1.out.keep K6.out).e2
  have z3 := (Y1.out.keep K6.out).e3
  have z4 := (Y1.out.keep K6.out).e4
  have z5 := (Y1.out.keep K6.out).e5
  go_wp2_with fail
  refine (ocheck_none 3 1073741824 1073741824 1048577 false (some ⟨w1.heap.size, 0, none⟩) 2 2 (pick 1099511627776 0) 2 _ (hV4.out.keep K6.out) (R3.out.keep K6.out) (by decide) (by decide +kernel)).mono ?_
  rintro e w7 ⟨rfl, h⟩
  have K7 := Lib.hid (K6.out.trans h)
  replace h := Lib.hid h
  clear z0 z1 z2 z3 z4 z5
  go_wp2_with fail
  refine (code3_nil _).mono ?_
  rintro e w8 ⟨rfl, h⟩
  have K8 := Lib.hid (K7.out.trans h)
  replace h := Lib.hid h
  have z0 := (Y2.out.keep K8.out).e0
  have z1 := (Y2.out.keep K8.out).e1
  have z2 := (Y2.out.keep K8.out).e2
  have z3 := (Y2.out.keep K8.out).e3
  have z4 := (Y2.out.keep K8.out).e4
  have z5 := (Y2.out.keep K8.out).e5
  go_wp2_with fail
  refine (ocheck_none 3 1073741824 1073741824 1048576 false (some ⟨w3.heap.size + 1 + 1 + 1, 0, none⟩) 2 2 (pick 0 1099511627777) 2 _ (hV4.out.keep K8.out) (R4.out.keep K8.out) (by decide) (by decide +kernel)).mono ?_
  rintro e w9 ⟨rfl, h⟩
  have K9 := Lib.hid (K8.out.trans h)
  replace h := Lib.hid h
  clear z0 z1 z2 z3 z4 z5
  go_wp2_with fail
  refine (code3_nil _).mono ?_
  rintro e w10 ⟨rfl, h⟩
  have K10 := Lib.hid (K9.out.trans h)
  replace h := Lib.hid h
  go_wp2
  go_ret
  exact ⟨rfl, k4.out.trans K10.out⟩

set_option maxRecDepth 100000 in
set_option maxHeartbeats 16000000 in
theorem lim_3_low (a : Int) (w : World) (hv : Vars w) (h0 : 0 ≤ a) (h1 : a ≤ 255) (hr : a % 6 = 2) :
    Calls Tryd.prog 7 #[.int .u8 a, .bool true] w fun e w' => e = .returned (.bool true) ∧ Keep w w' := by
  replace hv := Lib.hid hv
  go_enter Tryd.func7, Tryd.ntmps7
  go_wp2_with fail
  refine (awake_true _ hv.out).mono ?_
  rintro e w1 ⟨rfl, h⟩
  have k1 := Lib.hid h
  replace h := Lib.hid h
  go_wp2_with fail
  obtain ⟨w2, hw2⟩ : ∃ w2, w2 = (((w1.alloc (.cells #[.int .i64 1099511627776, .int .i64 0] 2)).alloc (.cells #[.int .i64 3, .int .i64 0, .int .i64 0, .int .i64 0, .bool false, .slice (some ⟨w1.heap.size + 1 + 1, 0, none⟩) 2 2] 24)).alloc (.cells #[.int .i64 0, .int .i64 0] 2)) := ⟨_, rfl⟩
  rw [← hw2]
  have k2 : Keep w w2 := by rw [hw2]; exact ((k1.out.alloc _).alloc _).alloc _
  have X := ((Box.new2 w1 (.cells #[.int .i64 1099511627776, .int .i64 0] 2) (.int .i64 3) (.int .i64 0) (.int .i64 0) (.int .i64 0) (.bool false) (.slice (some ⟨w1.heap.size + 1 + 1, 0, none⟩) 2 2)).keep (Keep.one _ (.cells #[.int .i64 0, .int .i64 0] 2))).cel
  have R := Rd.two (w := (w1.alloc (.cells #[.int .i64 1099511627776, .int .i64 0] 2)).alloc (.cells #[.int .i64 3, .int .i64 0, .int .i64 0, .int .i64 0, .bool false, .slice (some ⟨w1.heap.size + 1 + 1, 0, none⟩) 2 2] 24)) (B := w1.heap.size + 1 + 1) 0 0 (by simp) (by decide) (by decide)
  rw [← hw2] at X R
  have hV := Lib.hid (hv.out.keep k2)
  replace k2 := Lib.hid k2
  replace R := Lib.hid R
  replace X := Lib.hid X
  clear hw2
  refine (ocheck_none 3 0 0 0 false (some ⟨w1.heap.size + 1 + 1, 0, none⟩) 2 2 (pick 0 0) 2 _ hV.out R.out (by decide) (by decide +kernel)).mono ?_
  rintro e w3 ⟨rfl, h⟩
  have k3 := Lib.hid (k2.out.trans h)
  have x0 := (X.out.keep h).e0
  have x1 := (X.out.keep h).e1
  have x2 := (X.out.keep h).e2
  have x3 := (X.out.keep h).e3
  have x4 := (X.out.keep h).e4
  have x5 := (X.out.keep h).e5
  have hlt : w1.heap.size + 1 < w3.heap.size := cell_lt x0
  have hlt1 : w1.heap.size < w3.heap.size := by omega
  have hlt2 : w1.heap.size < w3.heap.size + 1 := by omega
  have hlt3 : w1.heap.size < w3.heap.size + 1 + 1 := by omega
  replace h := Lib.hid h
  go_wp2_with fail
  obtain ⟨w4, hw4⟩ : ∃ w4, w4 = (((((w3.alloc (.cells #[.int .i64 3, .int .i64 (-1), .int .i64 0, .int .i64 0, .bool false, .slice (some ⟨w1.heap.size + 1 + 1, 0, none⟩) 2 2] 24)).alloc (.cells #[.int .i64 3, .int .i64 0, .int .i64 0, .int .i64 (-1), .bool false, .slice (some ⟨w1.heap.size + 1 + 1, 0, none⟩) 2 2] 24)).alloc (.cells #[.int .i64 3, .int .i64 0, .int .i64 0, .int .i64 0, .bool false, .slice (some ⟨w3.heap.size + 1 + 1 + 1 + 1, 0, none⟩) 2 2] 24)).alloc (.cells #[.int .i64 0, .int .i64 1099511627777] 2)).alloc (.cells #[.int .i64 0, .int .i64 (-1)] 2)) := ⟨_, rfl⟩
  rw [← hw4]
  have K4 : Keep w3 w4 := by rw [hw4]; exact (((((Keep.refl w3).alloc _).alloc _).alloc _).alloc _).alloc _
  have Y0 : Cel w4 (w3.heap.size) (.int .i64 3) (.int .i64 (-1)) (.int .i64 0) (.int .i64 0) (.bool false) (.slice (some ⟨w1.heap.size + 1 + 1, 0, none⟩) 2 2) := by rw [hw4]; exact ⟨by simp (maxDischargeDepth := 12) [go_sem], by simp (maxDischargeDepth := 12) [go_sem], by simp (maxDischargeDepth := 12) [go_sem], by simp (maxDischargeDepth := 12) [go_sem], by simp (maxDischargeDepth := 12) [go_sem], by simp (maxDischargeDepth := 12) [go_sem]⟩
  have Y1 : Cel w4 (w3.heap.size + 1) (.int .i64 3) (.int .i64 0) (.int .i64 0) (.int .i64 (-1)) (.bool false) (.slice (some ⟨w1.heap.size + 1 + 1, 0, none⟩) 2 2) := by rw [hw4]; exact ⟨by simp (maxDischargeDepth := 12) [go_sem], by simp (maxDischargeDepth := 12) [go_sem], by simp (maxDischargeDepth := 12) [go_sem], by simp (maxDischargeDepth := 12) [go_sem], by simp (maxDischargeDepth := 12) [go_sem], by simp (maxDischargeDepth := 12) [go_sem]⟩
  have Y2 : Cel w4 (w3.heap.size + 1 + 1) (.int .i64 3) (.int .i64 0) (.int .i64 0) (.int .i64 0) (.bool false) (.slice (some ⟨w3.heap.size + 1 + 1 + 1 + 1, 0, none⟩) 2 2) := by rw [hw4]; exact ⟨by simp (maxDischargeDepth := 12) [go_sem], by simp (maxDischargeDepth := 12) [go_sem], by simp (maxDischargeDepth := 12) [go_sem], by simp (maxDischargeDepth := 12) [go_sem], by simp (maxDischargeDepth := 12) [go_sem], by simp (maxDischargeDepth := 12) [go_sem]⟩
  have R4 : Rd w4 (some ⟨w3.heap.size + 1 + 1 + 1 + 1, 0, none⟩) 2 (pick 0 (-1)) := by rw [hw4]; exact Rd.two (w := ((((w3.alloc (.cells #[.int .i64 3, .int .i64 (-1), .int .i64 0, .int .i64 0, .bool false, .slice (some ⟨w1.heap.size + 1 + 1, 0, none⟩) 2 2] 24)).alloc (.cells #[.int .i64 3, .int .i64 0, .int .i64 0, .int .i64 (-1), .bool false, .slice (some ⟨w1.heap.size + 1 + 1, 0, none⟩) 2 2] 24)).alloc (.cells #[.int .i64 3, .int .i64 0, .int .i64 0, .int .i64 0, .bool false, .slice (some ⟨w3.heap.size + 1 + 1 + 1 + 1, 0, none⟩) 2 2] 24)).alloc (.cells #[.int .i64 0, .int .i64 1099511627777] 2))) (B := w3.heap.size + 1 + 1 + 1 + 1) 0 (-1) (by simp) (by decide) (by decide)
  have R3 := Lib.hid (R.out.keep (h.out.trans K4))
  have hV4 := Lib.hid (hV.out.keep (h.out.trans K4))
  have k4 := Lib.hid (k3.out.trans K4)
  have K4 := Lib.hid (Keep.refl w4)
  replace Y0 := Lib.hid Y0
  replace Y1 := Lib.hid Y1
  replace Y2 := Lib.hid Y2
  replace R4 := Lib.hid R4
  clear hw4 hlt hlt1 hlt2 hlt3 x0 x1 x2 x3 x4 x5 hV hv R X h k2 k3
  refine (ocheck_some 3 (-1) 0 0 false (some ⟨w1.heap.size + 1 + 1, 0, none⟩) 2 2 (pick 0 0) 2 _ (hV4.out.keep K4.out) (R3.out.keep K4.out) (by decide) 2 0 (by decide +kernel)).mono ?_
  rintro e w5 ⟨b5, rfl, c0, c1, h⟩
  have hC := Lib.hid (Wrapped.chain c0 c1)
  clear c0 c1
  have K5 := Lib.hid (K4.out.trans h)
  replace h := Lib.hid h
  go_wp2_with fail
  refine (code3_yes 2 [3] (.fault 2 0) _ _ hC.out (Or.inr ⟨_, rfl⟩) (hV4.out.keep K5.out).err).mono ?_
  rintro e w6 ⟨rfl, h⟩
  have K6 := Lib.hid (K5.out.trans h)
  replace h := Lib.hid h
  clear hC
  have z0 := (Y1.out.keep K6.out).e0
  have z1 := (Y1.out.keep K6.out).e1
  have z2 := (Y1.out.keep K6.out).e2
  have z3 := (Y1.out.keep K6.out).e3
  have z4 := (Y1.out.keep K6.out).e4
  have z5 := (Y1.out.keep K6.out).e5
  go_wp2_with fail
  refine (ocheck_none 3 0 0 (-1) false (some ⟨w1.heap.size + 1 + 1, 0, none⟩) 2 2 (pick 0 0) 2 _ (hV4.out.keep K6.out) (R3.out.keep K6.out) (by decide) (by decide +kernel)).mono ?_
  rintro e w7 ⟨rfl, h⟩
  have K7 := Lib.hid (K6.out.trans h)
  replace h := Lib.hid h
  clear z0 z1 z2 z3 z4 z5
  go_wp2_with fail
  refine (code3_nil _).mono ?_
  rintro e w8 ⟨rfl, h⟩
  have K8 := Lib.hid (K7.out.trans h)
  replace h := Lib.hid h
  have z0 := (Y2.out.keep K8.out).e0
  have z1 := (Y2.out.keep K8.out).e1
  have z2 := (Y2.out.keep K8.out).e2
  have z3 := (Y2.out.keep K8.out).e3
  have z4 := (Y2.out.keep K8.out).e4
  have z5 := (Y2.out.keep K8.out).e5
  go_wp2_with fail
  refine (ocheck_none 3 0 0 0 false (some ⟨w3.heap.size + 1 + 1 + 1 + 1, 0, none⟩) 2 2 (pick 0 (-1)) 2 _ (hV4.out.keep K8.out) (R4.out.keep K8.out) (by decide) (by decide +kernel)).mono ?_
  rintro e w9 ⟨rfl, h⟩
  have K9 := Lib.hid (K8.out.trans h)
  replace h := Lib.hid h
  clear z0 z1 z2 z3 z4 z5
  go_wp2_with fail
  refine (code3_nil _).mono ?_
  rintro e w10 ⟨rfl, h⟩
  have K10 := Lib.hid (K9.out.trans h)
  replace h := Lib.hid h
  go_wp2
  go_ret
  exact ⟨rfl, k4.out.trans K10.out⟩

set_option maxRecDepth 100000 in
set_option maxHeartbeats 16000000 in
theorem lim_4_high (a : Int) (w : World) (hv : Vars w) (h0 : 0 ≤ a) (h1 : a ≤ 255) (hr : a % 6 = 3) :
    Calls Tryd.prog 7 #[.int .u8 a, .bool false] w fun e w' => e = .returned (.bool true) ∧ Keep w w' := by
  replace hv := Lib.hid hv
  go_enter Tryd.func7, Tryd.ntmps7
  go_wp2_with fail
  refine (awake_true _ hv.out).mono ?_
  rintro e w1 ⟨rfl, h⟩
  have k1 := Lib.hid h
  replace h := Lib.hid h
  go_wp2_with fail
  obtain ⟨w2, hw2⟩ : ∃ w2, w2 = ((w1.alloc (.cells #[.int .i64 1099511627776, .int .i64 0] 2)).alloc (.cells #[.int .i64 4, .int .i64 1073741824, .int .i64 1073741824, .int .i64 1048576, .bool false, .slice (some ⟨w1.heap.size, 0, none⟩) 2 2] 24)) := ⟨_, rfl⟩
  rw [← hw2]
  have k2 : Keep w w2 := by rw [hw2]; exact (k1.out.alloc _).alloc _
  have X := ((Box.new2 w1 (.cells #[.int .i64 1099511627776, .int .i64 0] 2) (.int .i64 4) (.int .i64 1073741824) (.int .i64 1073741824) (.int .i64 1048576) (.bool false) (.slice (some ⟨w1.heap.size, 0, none⟩) 2 2))).cel
  have R := (two_at w1 1099511627776 0 (by decide) (by decide)).keep (Keep.one _ (.cells #[.int .i64 4, .int .i64 1073741824, .int .i64 1073741824, .int .i64 1048576, .bool false, .slice (some ⟨w1.heap.size, 0, none⟩) 2 2] 24))
  rw [← hw2] at X R
  have hV := Lib.hid (hv.out.keep k2)
  replace k2 := Lib.hid k2
  replace R := Lib.hid R
  replace X := Lib.hid X
  clear hw2
  refine (ocheck_none 4 1073741824 1073741824 1048576 false (some ⟨w1.heap.size, 0, none⟩) 2 2 (pick 1099511627776 0) 2 _ hV.out R.out (by decide) (by decide +kernel)).mono ?_
  rintro e w3 ⟨rfl, h⟩
  have k3 := Lib.hid (k2.out.trans h)
  have x0 := (X.out.keep h).e0
  have x1 := (X.out.keep h).e1
  have x2 := (X.out.keep h).e2
  have x3 := (X.out.keep h).e3
  have x4 := (X.out.keep h).e4
  have x5 := (X.out.keep h).e5
  have hlt : w1.heap.size + 1 < w3.heap.size := cell_lt x0
  have hlt1 : w1.heap.size < w3.heap.size := by omega
  have hlt2 : w1.heap.size < w3.heap.size + 1 := by omega
  have hlt3 : w1.heap.size < w3.heap.size + 1 + 1 := by omega
  replace h := Lib.hid h
  go_wp2_with fail
  obtain ⟨w4, hw4⟩ : ∃ w4, w4 = ((((w3.alloc (.cells #[.int .i64 4, .int .i64 1073741825, .int .i64 1073741824, .int .i64 1048576, .bool false, .slice (some ⟨w1.heap.size, 0, none⟩) 2 2] 24)).alloc (.cells #[.int .i64 4, .int .i64 1073741824, .int .i64 1073741824, .int .i64 1048577, .bool false, .slice (some ⟨w1.heap.size, 0, none⟩) 2 2] 24)).alloc (.cells #[.int .i64 4, .int .i64 1073741824, .int .i64 1073741824, .int .i64 1048576, .bool false, .slice (some ⟨w3.heap.size + 1 + 1 + 1, 0, none⟩) 2 2] 24)).alloc (.cells #[.int .i64 0, .int .i64 1099511627777] 2)) := ⟨_, rfl⟩
  rw [← hw4]
  have K4 : Keep w3 w4 := by rw [hw4]; exact ((((Keep.refl w3).alloc _).alloc _).alloc _).alloc _
  have Y0 : Cel w4 (w3.heap.size) (.int .i64 4) (.int .i64 1073741825) (.int .i64 1073741824) (.int .i64 1048576) (.bool false) (.slice (some ⟨w1.heap.size, 0, none⟩) 2 2) := by rw [hw4]; exact ⟨by simp (maxDischargeDepth := 12) [go_sem], by simp (maxDischargeDepth := 12) [go_sem], by simp (maxDischargeDepth := 12) [go_sem], by simp (maxDischargeDepth := 12) [go_sem], by simp (maxDischargeDepth := 12) [go_sem], by simp (maxDischargeDepth := 12) [go_sem]⟩
  have Y1 : Cel w4 (w3.heap.size + 1) (.int .i64 4) (.int .i64 1073741824) (.int .i64 1073741824) (.int .i64 1048577) (.bool false) (.slice (some ⟨w1.heap.size, 0, none⟩) 2 2) := by rw [hw4]; exact ⟨by simp (maxDischargeDepth := 12) [go_sem], by simp (maxDischargeDepth := 12) [go_sem], by simp (maxDischargeDepth := 12) [go_sem], by simp (maxDischargeDepth := 12) [go_sem], by simp (maxDischargeDepth := 12) [go_sem], by simp (maxDischargeDepth := 12) [go_sem]⟩
  have Y2 : Cel w4 (w3.heap.size + 1 + 1) (.int .i64 4) (.int .i64 1073741824) (.int .i64 1073741824) (.int .i64 1048576) (.bool false) (.slice (some ⟨w3.heap.size + 1 + 1 + 1, 0, none⟩) 2 2) := by rw [hw4]; exact ⟨by simp (maxDischargeDepth := 12) [go_sem], by simp (maxDischargeDepth := 12) [go_sem], by simp (maxDischargeDepth := 12) [go_sem], by simp (maxDischargeDepth := 12) [go_sem], by simp (maxDischargeDepth := 12) [go_sem], by simp (maxDischargeDepth := 12) [go_sem]⟩
  have R4 : Rd w4 (some ⟨w3.heap.size + 1 + 1 + 1, 0, none⟩) 2 (pick 0 1099511627777) := by rw [hw4]; exact Rd.two (w := (((w3.alloc (.cells #[.int .i64 4, .int .i64 1073741825, .int .i64 1073741824, .int .i64 1048576, .bool false, .slice (some ⟨w1.heap.size, 0, none⟩) 2 2] 24)).alloc (.cells #[.int .i64 4, .int .i64 1073741824, .int .i64 1073741824, .int .i64 1048577, .bool false, .slice (some ⟨w1.heap.size, 0, none⟩) 2 2] 24)).alloc (.cells #[.int .i64 4, .int .i64 1073741824, .int .i64 1073741824, .int .i64 1048576, .bool false, .slice (some ⟨w3.heap.size + 1 + 1 + 1, 0, none⟩) 2 2] 24))) (B := w3.heap.size + 1 + 1 + 1) 0 1099511627777 (by simp) (by decide) (by decide)
  have R3 := Lib.hid (R.out.keep (h.out.trans K4))
  have hV4 := Lib.hid (hV.out.keep (h.out.trans K4))
  have k4 := Lib.hid (k3.out.trans K4)
  have K4 := Lib.hid (Keep.refl w4)
  replace Y0 := Lib.hid Y0
  replace Y1 := Lib.hid Y1
  replace Y2 := Lib.hid Y2
  replace R4 := Lib.hid R4
  clear hw4 hlt hlt1 hlt2 hlt3 x0 x1 x2 x3 x4 x5 hV hv R X h k2 k3
  refine (ocheck_some 4 1073741825 1073741824 1048576 false (some ⟨w1.heap.size, 0, none⟩) 2 2 (pick 1099511627776 0) 2 _ (hV4.out.keep K4.out) (R3.out.keep K4.out) (by decide) 2 0 (by decide +kernel)).mono ?_
  rintro e w5 ⟨b5, rfl, c0, c1, h⟩
  have hC := Lib.hid (Wrapped.chain c0 c1)
  clear c0 c1
  have K5 := Lib.hid (K4.out.trans h)
  replace h := Lib.hid h
  go_wp2_with fail
  refine (code3_yes 2 [4] (.fault 2 0) _ _ hC.out (Or.inr ⟨_, rfl⟩) (hV4.out.keep K5.out).err).mono ?_
  rintro e w6 ⟨rfl, h⟩
  have K6 := Lib.hid (K5.out.trans h)
  replace h := Lib.hid h
  clear hC
  have z0 := (Y1.out.keep K6.out).e0
  have z1 := (Y1.out.keep K6.out).e1
  have z2 := (Y1.out.keep K6.out).e2
  have z3 := (Y1.out.keep K6.out).e3
  have z4 := (Y1.out.keep K6.out).e4
  have z5 := (Y1.out.keep K6.out).e5
  go_wp2_with fail
  refine (ocheck_some 4 1073741824 1073741824 1048577 false (some ⟨w1.heap.size, 0, none⟩) 2 2 (pick 1099511627776 0) 2 _ (hV4.out.keep K6.out) (R3.out.keep K6.out) (by decide) 4 0 (by decide +kernel)).mono ?_
  rintro e w7 ⟨b7, rfl, c0, c1, h⟩
  have hC := Lib.hid (Wrapped.chain c0 c1)
  clear c0 c1
  have K7 := Lib.hid (K6.out.trans h)
  replace h := Lib.hid h
  clear z0 z1 z2 z3 z4 z5
  go_wp2_with fail
  refine (code3_yes 4 [4] (.fault 4 0) _ _ hC.out (Or.inr ⟨_, rfl⟩) (hV4.out.keep K7.out).err).mono ?_
  rintro e w8 ⟨rfl, h⟩
  have K8 := Lib.hid (K7.out.trans h)
  replace h := Lib.hid h
  clear hC
  have z0 := (Y2.out.keep K8.out).e0
  have z1 := (Y2.out.keep K8.out).e1
  have z2 := (Y2.out.keep K8.out).e2
  have z3 := (Y2.out.keep K8.out).e3
  have z4 := (Y2.out.keep K8.out).e4
  have z5 := (Y2.out.keep K8.out).e5
  go_wp2_with fail
  refine (ocheck_some 4 1073741824 1073741824 1048576 false (some ⟨w3.heap.size + 1 + 1 + 1, 0, none⟩) 2 2 (pick 0 1099511627777) 2 _ (hV4.out.keep K8.out) (R4.out.keep K8.out) (by decide) 3 1 (by decide +kernel)).mono ?_
  rintro e w9 ⟨b9, rfl, c0, c1, h⟩
  have hC := Lib.hid (Wrapped.chain c0 c1)
  clear c0 c1
  have K9 := Lib.hid (K8.out.trans h)
  replace h := Lib.hid h
  clear z0 z1 z2 z3 z4 z5
  go_wp2_with fail
  refine (code3_yes 3 [4] (.fault 3 1) _ _ hC.out (Or.inr ⟨_, rfl⟩) (hV4.out.keep K9.out).err).mono ?_
  rintro e w10 ⟨rfl, h⟩
  have K10 := Lib.hid (K9.out.trans h)
  replace h := Lib.hid h
  clear hC
  go_wp2
  go_ret
  exact ⟨rfl, k4.out.trans K10.out⟩

set_option maxRecDepth 100000 in
set_option maxHeartbeats 16000000 in
theorem lim_4_low (a : Int) (w : World) (hv : Vars w) (h0 : 0 ≤ a) (h1 : a ≤ 255) (hr : a % 6 = 3) :
    Calls Tryd.prog 7 #[.int .u8 a, .bool true] w fun e w' => e = .returned (.bool true) ∧ Keep w w' := by
  replace hv := Lib.hid hv
  go_enter Tryd.func7, Tryd.ntmps7
  go_wp2_with fail
  refine (awake_true _ hv.out).mono ?_
  rintro e w1 ⟨rfl, h⟩
  have k1 := Lib.hid h
  replace h := Lib.hid h
  go_wp2_with fail
  obtain ⟨w2, hw2⟩ : ∃ w2, w2 = (((w1.alloc (.cells #[.int .i64 1099511627776, .int .i64 0] 2)).alloc (.cells #[.int .i64 4, .int .i64 0, .int .i64 0, .int .i64 0, .bool false, .slice (some ⟨w1.heap.size + 1 + 1, 0, none⟩) 2 2] 24)).alloc (.cells #[.int .i64 0, .int .i64 0] 2)) := ⟨_, rfl⟩
  rw [← hw2]
  have k2 : Keep w w2 := by rw [hw2]; exact ((k1.out.alloc _).alloc _).alloc _
  have X := ((Box.new2 w1 (.cells #[.int .i64 1099511627776, .int .i64 0] 2) (.int .i64 4) (.int .i64 0) (.int .i64 0) (.int .i64 0) (.bool false) (.slice (some ⟨w1.heap.size + 1 + 1, 0, none⟩) 2 2)).keep (Keep.one _ (.cells #[.int .i64 0, .int .i64 0] 2))).cel
  have R := Rd.two (w := (w1.alloc (.cells #[.int .i64 1099511627776, .int .i64 0] 2)).alloc (.cells #[.int .i64 4, .int .i64 0, .int .i64 0, .int .i64 0, .bool false, .slice (some ⟨w1.heap.size + 1 + 1, 0, none⟩) 2 2] 24)) (B := w1.heap.size + 1 + 1) 0 0 (by simp) (by decide) (by decide)
  rw [← hw2] at X R
  have hV := Lib.hid (hv.out.keep k2)
  replace k2 := Lib.hid k2
  replace R := Lib.hid R
  replace X := Lib.hid X
  clear hw2
  refine (ocheck_none 4 0 0 0 false (some ⟨w1.heap.size + 1 + 1, 0, none⟩) 2 2 (pick 0 0) 2 _ hV.out R.out (by decide) (by decide +kernel)).mono ?_
  rintro e w3 ⟨rfl, h⟩
  have k3 := Lib.hid (k2.out.trans h)
  have x0 := (X.out.keep h).e0
  have x1 := (X.out.keep h).e1
  have x2 := (X.out.keep h).e2
  have x3 := (X.out.keep h).e3
  have x4 := (X.out.keep h).e4
  have x5 := (X.out.keep h).e5
  have hlt : w1.heap.size + 1 < w3.heap.size := cell_lt x0
  have hlt1 : w1.heap.size < w3.heap.size := by omega
  have hlt2 : w1.heap.size < w3.heap.size + 1 := by omega
  have hlt3 : w1.heap.size < w3.heap.size + 1 + 1 := by omega
  replace h := Lib.hid h
  go_wp2_with fail
  obtain ⟨w4, hw4⟩ : ∃ w4, w4 = (((((w3.alloc (.cells #[.int .i64 4, .int .i64 (-1), .int .i64 0, .int .i64 0, .bool false, .slice (some ⟨w1.heap.size + 1 + 1, 0, none⟩) 2 2] 24)).alloc (.cells #[.int .i64 4, .int .i64 0, .int .i64 0, .int .i64 (-1), .bool false, .slice (some ⟨w1.heap.size + 1 + 1, 0, none⟩) 2 2] 24)).alloc (.cells #[.int .i64 4, .int .i64 0, .int .i64 0, .int .i64 0, .bool false, .slice (some ⟨w3.heap.size + 1 + 1 + 1 + 1, 0, none⟩) 2 2] 24)).alloc (.cells #[.int .i64 0, .int .i64 1099511627777] 2)).alloc (.cells #[.int .i64 0, .int .i64 (-1)] 2)) := ⟨_, rfl⟩
  rw [← hw4]
  have K4 : Keep w3 w4 := by rw [hw4]; exact (((((Keep.refl w3).alloc _).alloc _).alloc _).alloc _).alloc _
  have Y0 : Cel w4 (w3.heap.size) (.int .i64 4) (.int .i64 (-1)) (.int .i64 0) (.int .i64 0) (.bool false) (.slice (some ⟨w1.heap.size + 1 + 1, 0, none⟩) 2 2) := by rw [hw4]; exact ⟨by simp (maxDischargeDepth := 12) [go_sem], by simp (maxDischargeDepth := 12) [go_sem], by simp (maxDischargeDepth := 12) [go_sem], by simp (maxDischargeDepth := 12) [go_sem], by simp (maxDischargeDepth := 12) [go_sem], by simp (maxDischargeDepth := 12) [go_sem]⟩
  have Y1 : Cel w4 (w3.heap.size + 1) (.int .i64 4) (.int .i64 0) (.int .i64 0) (.int .i64 (-1)) (.bool false) (.slice (some ⟨w1.heap.size + 1 + 1, 0, none⟩) 2 2) := by rw [hw4]; exact ⟨by simp (maxDischargeDepth := 12) [go_sem], by simp (maxDischargeDepth := 12) [go_sem], by simp (maxDischargeDepth := 12) [go_sem], by simp (maxDischargeDepth := 12) [go_sem], by simp (maxDischargeDepth := 12) [go_sem], by simp (maxDischargeDepth := 12) [go_sem]⟩
  have Y2 : Cel w4 (w3.heap.size + 1 + 1) (.int .i64 4) (.int .i64 0) (.int .i64 0) (.int .i64 0) (.bool false) (.slice (some ⟨w3.heap.size + 1 + 1 + 1 + 1, 0, none⟩) 2 2) := by rw [hw4]; exact ⟨by simp (maxDischargeDepth := 12) [go_sem], by simp (maxDischargeDepth := 12) [go_sem], by simp (maxDischargeDepth := 12) [go_sem], by simp (maxDischargeDepth := 12) [go_sem], by simp (maxDischargeDepth := 12) [go_sem], by simp (maxDischargeDepth := 12) [go_sem]⟩
  have R4 : Rd w4 (some ⟨w3.heap.size + 1 + 1 + 1 + 1, 0, none⟩) 2 (pick 0 (-1)) := by rw [hw4]; exact Rd.two (w := ((((w3.alloc (.cells #[.int .i64 4, .int .i64 (-1), .int .i64 0, .int .i64 0, .bool false, .slice (some ⟨w1.heap.size + 1 + 1, 0, none⟩) 2 2] 24)).alloc (.cells #[.int .i64 4, .int .i64 0, .int .i64 0, .int .i64 (-1), .bool false, .slice (some ⟨w1.heap.size + 1 + 1, 0, none⟩) 2 2] 24)).alloc (.cells #[.int .i64 4, .int .i64 0, .int .i64 0, .int .i64 0, .bool false, .slice (some ⟨w3.heap.size + 1 + 1 + 1 + 1, 0, none⟩) 2 2] 24)).alloc (.cells #[.int .i64 0, .int .i64 1099511627777] 2))) (B := w3.heap.size + 1 + 1 + 1 + 1) 0 (-1) (by simp) (by decide) (by decide)
  have R3 := Lib.hid (R.out.keep (h.out.trans K4))
  have hV4 := Lib.hid (hV.out.keep (h.out.trans K4))
  have k4 := Lib.hid (k3.out.trans K4)
  have K4 := Lib.hid (Keep.refl w4)
  replace Y0 := Lib.hid Y0
  replace Y1 := Lib.hid Y1
  replace Y2 := Lib.hid Y2
  replace R4 := Lib.hid R4
  clear hw4 hlt hlt1 hlt2 hlt3 x0 x1 x2 x3 x4 x5 hV hv R X h k2 k3
  refine (ocheck_some 4 (-1) 0 0 false (some ⟨w1.heap.size + 1 + 1, 0, none⟩) 2 2 (pick 0 0) 2 _ (hV4.out.keep K4.out) (R3.out.keep K4.out) (by decide) 2 0 (by decide +kernel)).mono ?_
  rintro e w5 ⟨b5, rfl, c0, c1, h⟩
  have hC := Lib.hid (Wrapped.chain c0 c1)
  clear c0 c1
  have K5 := Lib.hid (K4.out.trans h)
  replace h := Lib.hid h
  go_wp2_with fail
  refine (code3_yes 2 [4] (.fault 2 0) _ _ hC.out (Or.inr ⟨_, rfl⟩) (hV4.out.keep K5.out).err).mono ?_
  rintro e w6 ⟨rfl, h⟩
  have K6 := Lib.hid (K5.out.trans h)
  replace h := Lib.hid h
  clear hC
  have z0 := (Y1.out.keep K6.out).e0
  have z1 := (Y1.out.keep K6.out).e1
  have z2 := (Y1.out.keep K6.out).e2
  have z3 := (Y1.out.keep K6.out).e3
  have z4 := (Y1.out.keep K6.out).e4
  have z5 := (Y1.out.keep K6.out).e5
  go_wp2_with fail
  refine (ocheck_some 4 0 0 (-1) false (some ⟨w1.heap.size + 1 + 1, 0, none⟩) 2 2 (pick 0 0) 2 _ (hV4.out.keep K6.out) (R3.out.keep K6.out) (by decide) 4 0 (by decide +kernel)).mono ?_
  rintro e w7 ⟨b7, rfl, c0, c1, h⟩
  have hC := Lib.hid (Wrapped.chain c0 c1)
  clear c0 c1
  have K7 := Lib.hid (K6.out.trans h)
  replace h := Lib.hid h
  clear z0 z1 z2 z3 z4 z5
  go_wp2_with fail
  refine (code3_yes 4 [4] (.fault 4 0) _ _ hC.out (Or.inr ⟨_, rfl⟩) (hV4.out.keep K7.out).err).mono ?_
  rintro e w8 ⟨rfl, h⟩
  have K8 := Lib.hid (K7.out.trans h)
  replace h := Lib.hid h
  clear hC
  have z0 := (Y2.out.keep K8.out).e0
  have z1 := (Y2.out.keep K8.out).e1
  have z2 := (Y2.out.keep K8.out).e2
  have z3 := (Y2.out.keep K8.out).e3
  have z4 := (Y2.out.keep K8.out).e4
  have z5 := (Y2.out.keep K8.out).e5
  go_wp2_with fail
  refine (ocheck_some 4 0 0 0 false (some ⟨w3.heap.size + 1 + 1 + 1 + 1, 0, none⟩) 2 2 (pick 0 (-1)) 2 _ (hV4.out.keep K8.out) (R4.out.keep K8.out) (by decide) 3 1 (by decide +kernel)).mono ?_
  rintro e w9 ⟨b9, rfl, c0, c1, h⟩
  have hC := Lib.hid (Wrapped.chain c0 c1)
  clear c0 c1
  have K9 := Lib.hid (K8.out.trans h)
  replace h := Lib.hid h
  clear z0 z1 z2 z3 z4 z5
  go_wp2_with fail
  refine (code3_yes 3 [4] (.fault 3 1) _ _ hC.out (Or.inr ⟨_, rfl⟩) (hV4.out.keep K9.out).err).mono ?_
  rintro e w10 ⟨rfl, h⟩
  have K10 := Lib.hid (K9.out.trans h)
  replace h := Lib.hid h
  clear hC
  go_wp2
  go_ret
  exact ⟨rfl, k4.out.trans K10.out⟩

set_option maxRecDepth 100000 in
set_option maxHeartbeats 16000000 in
theorem lim_5_high (a : Int) (w : World) (hv : Vars w) (h0 : 0 ≤ a) (h1 : a ≤ 255) (hr : a % 6 = 4) :
    Calls Tryd.prog 7 #[.int .u8 a, .bool false] w fun e w' => e = .returned (.bool true) ∧ Keep w w' := by
  replace hv := Lib.hid hv
  go_enter Tryd.func7, Tryd.ntmps7
  go_wp2_with fail
  refine (awake_true _ hv.out).mono ?_
  rintro e w1 ⟨rfl, h⟩
  have k1 := Lib.hid h
  replace h := Lib.hid h
  go_wp2_with fail
  obtain ⟨w2, hw2⟩ : ∃ w2, w2 = ((w1.alloc (.cells #[.int .i64 1099511627776, .int .i64 0] 2)).alloc (.cells #[.int .i64 5, .int .i64 1073741824, .int .i64 1073741824, .int .i64 1048576, .bool false, .slice (some ⟨w1.heap.size, 0, none⟩) 2 2] 24)) := ⟨_, rfl⟩
  rw [← hw2]
  have k2 : Keep w w2 := by rw [hw2]; exact (k1.out.alloc _).alloc _
  have X := ((Box.new2 w1 (.cells #[.int .i64 1099511627776, .int .i64 0] 2) (.int .i64 5) (.int .i64 1073741824) (.int .i64 1073741824) (.int .i64 1048576) (.bool false) (.slice (some ⟨w1.heap.size, 0, none⟩) 2 2))).cel
  have R := (two_at w1 1099511627776 0 (by decide) (by decide)).keep (Keep.one _ (.cells #[.int .i64 5, .int .i64 1073741824, .int .i64 1073741824, .int .i64 1048576, .bool false, .slice (some ⟨w1.heap.size, 0, none⟩) 2 2] 24))
  rw [← hw2] at X R
  have hV := Lib.hid (hv.out.keep k2)
  replace k2 := Lib.hid k2
  replace R := Lib.hid R
  replace X := Lib.hid X
  clear hw2
  refine (ocheck_none 5 1073741824 1073741824 1048576 false (some ⟨w1.heap.size, 0, none⟩) 2 2 (pick 1099511627776 0) 2 _ hV.out R.out (by decide) (by decide +kernel)).mono ?_
  rintro e w3 ⟨rfl, h⟩
  have k3 := Lib.hid (k2.out.trans h)
  have x0 := (X.out.keep h).e0
  have x1 := (X.out.keep h).e1
  have x2 := (X.out.keep h).e2
  have x3 := (X.out.keep h).e3
  have x4 := (X.out.keep h).e4
  have x5 := (X.out.keep h).e5
  have hlt : w1.heap.size + 1 < w3.heap.size := cell_lt x0
  have hlt1 : w1.heap.size < w3.heap.size := by omega
  have hlt2 : w1.heap.size < w3.heap.size + 1 := by omega
  have hlt3 : w1.heap.size < w3.heap.size + 1 + 1 := by omega
  replace h := Lib.hid h
  go_wp2_with fail
  obtain ⟨w4, hw4⟩ : ∃ w4, w4 = ((((w3.alloc (.cells #[.int .i64 5, .int .i64 1073741825, .int .i64 1073741824, .int .i64 1048576, .bool false, .slice (some ⟨w1.heap.size, 0, none⟩) 2 2] 24)).alloc (.cells #[.int .i64 5, .int .i64 1073741824, .int .i64 1073741824, .int .i64 1048577, .bool false, .slice (some ⟨w1.heap.size, 0, none⟩) 2 2] 24)).alloc (.cells #[.int .i64 5, .int .i64 1073741824, .int .i64 1073741824, .int .i64 1048576, .bool false, .slice (some ⟨w3.heap.size + 1 + 1 + 1, 0, none⟩) 2 2] 24)).alloc (.cells #[.int .i64 0, .int .i64 1099511627777] 2)) := ⟨_, rfl⟩
  rw [← hw4]
  have K4 : Keep w3 w4 := by rw [hw4]; exact ((((Keep.refl w3).alloc _).alloc _).alloc _).alloc _
  have Y0 : Cel w4 (w3.heap.size) (.int .i64 5) (.int .i64 1073741825) (.int .i64 1073741824) (.int .i64 1048576) (.bool false) (.slice (some ⟨w1.heap.size, 0, none⟩) 2 2) := by rw [hw4]; exact ⟨by simp (maxDischargeDepth := 12) [go_sem], by simp (maxDischargeDepth := 12) [go_sem], by simp (maxDischargeDepth := 12) [go_sem], by simp (maxDischargeDepth := 12) [go_sem], by simp (maxDischargeDepth := 12) [go_sem], by simp (maxDischargeDepth := 12) [go_sem]⟩
  have Y1 : Cel w4 (w3.heap.size + 1) (.int .i64 5) (.int .i64 1073741824) (.int .i64 1073741824) (.int .i64 1048577) (.bool false) (.slice (some ⟨w1.heap.size, 0, none⟩) 2 2) := by rw [hw4]; exact ⟨by simp (maxDischargeDepth := 12) [go_sem], by simp (maxDischargeDepth := 12) [go_sem], by simp (maxDischargeDepth := 12) [go_sem], by simp (maxDischargeDepth := 12) [go_sem], by simp (maxDischargeDepth := 12) [go_sem], by simp (maxDischargeDepth := 12) [go_sem]⟩
  have Y2 : Cel w4 (w3.heap.size + 1 + 1) (.int .i64 5) (.int .i64 1073741824) (.int .i64 1073741824) (.int .i64 1048576) (.bool false) (.slice (some ⟨w3.heap.size + 1 + 1 + 1, 0, none⟩) 2 2) := by rw [hw4]; exact ⟨by simp (maxDischargeDepth := 12) [go_sem], by simp (maxDischargeDepth := 12) [go_sem], by simp (maxDischargeDepth := 12) [go_sem], by simp (maxDischargeDepth := 12) [go_sem], by simp (maxDischargeDepth := 12) [go_sem], by simp (maxDischargeDepth := 12) [go_sem]⟩
  have R4 : Rd w4 (some ⟨w3.heap.size + 1 + 1 + 1, 0, none⟩) 2 (pick 0 1099511627777) := by rw [hw4]; exact Rd.two (w := (((w3.alloc (.cells #[.int .i64 5, .int .i64 1073741825, .int .i64 1073741824, .int .i64 1048576, .bool false, .slice (some ⟨w1.heap.size, 0, none⟩) 2 2] 24)).alloc (.cells #[.int .i64 5, .int .i64 1073741824, .int .i64 1073741824, .int .i64 1048577, .bool false, .slice (some ⟨w1.heap.size, 0, none⟩) 2 2] 24)).alloc (.cells #[.int .i64 5, .int .i64 1073741824, .int .i64 1073741824, .int .i64 1048576, .bool false, .slice (some ⟨w3.heap.size + 1 + 1 + 1, 0, none⟩) 2 2] 24))) (B := w3.heap.size + 1 + 1 + 1) 0 1099511627777 (by simp) (by decide) (by decide)
  have R3 := Lib.hid (R.out.keep (h.out.trans K4))
  have hV4 := Lib.hid (hV.out.keep (h.out.trans K4))
  have k4 := Lib.hid (k3.out.trans K4)
  have K4 := Lib.hid (Keep.refl w4)
  replace Y0 := Lib.hid Y0
  replace Y1 := Lib.hid Y1
  replace Y2 := Lib.hid Y2
  replace R4 := Lib.hid R4
  clear hw4 hlt hlt1 hlt2 hlt3 x0 x1 x2 x3 x4 x5 hV hv R X h k2 k3
  refine (ocheck_some 5 1073741825 1073741824 1048576 false (some ⟨w1.heap.size, 0, none⟩) 2 2 (pick 1099511627776 0) 2 _ (hV4.out.keep K4.out) (R3.out.keep K4.out) (by decide) 2 0 (by decide +kernel)).mono ?_
  rintro e w5 ⟨b5, rfl, c0, c1, h⟩
  have hC := Lib.hid (Wrapped.chain c0 c1)
  clear c0 c1
  have K5 := Lib.hid (K4.out.trans h)
  replace h := Lib.hid h
  go_wp2_with fail
  refine (code3_yes 2 [5] (.fault 2 0) _ _ hC.out (Or.inr ⟨_, rfl⟩) (hV4.out.keep K5.out).err).mono ?_
  rintro e w6 ⟨rfl, h⟩
  have K6 := Lib.hid (K5.out.trans h)
  replace h := Lib.hid h
  clear hC
  have z0 := (Y1.out.keep K6.out).e0
  have z1 := (Y1.out.keep K6.out).e1
  have z2 := (Y1.out.keep K6.out).e2
  have z3 := (Y1.out.keep K6.out).e3
  have z4 := (Y1.out.keep K6.out).e4
  have z5 := (Y1.out.keep K6.out).e5
  go_wp2_with fail
  refine (ocheck_none 5 1073741824 1073741824 1048577 false (some ⟨w1.heap.size, 0, none⟩) 2 2 (pick 1099511627776 0) 2 _ (hV4.out.keep K6.out) (R3.out.keep K6.out) (by decide) (by decide +kernel)).mono ?_
  rintro e w7 ⟨rfl, h⟩
  have K7 := Lib.hid (K6.out.trans h)
  replace h := Lib.hid h
  clear z0 z1 z2 z3 z4 z5
  go_wp2_with fail
  refine (code3_nil _).mono ?_
  rintro e w8 ⟨rfl, h⟩
  have K8 := Lib.hid (K7.out.trans h)
  replace h := Lib.hid h
  have z0 := (Y2.out.keep K8.out).e0
  have z1 := (Y2.out.keep K8.out).e1
  have z2 := (Y2.out.keep K8.out).e2
  have z3 := (Y2.out.keep K8.out).e3
  have z4 := (Y2.out.keep K8.out).e4
  have z5 := (Y2.out.keep K8.out).e5
  go_wp2_with fail
  refine (ocheck_none 5 1073741824 1073741824 1048576 false (some ⟨w3.heap.size + 1 + 1 + 1, 0, none⟩) 2 2 (pick 0 1099511627777) 2 _ (hV4.out.keep K8.out) (R4.out.keep K8.out) (by decide) (by decide +kernel)).mono ?_
  rintro e w9 ⟨rfl, h⟩
  have K9 := Lib.hid (K8.out.trans h)
  replace h := Lib.hid h
  clear z0 z1 z2 z3 z4 z5
  go_wp2_with fail
  refine (code3_nil _).mono ?_
  rintro e w10 ⟨rfl, h⟩
  have K10 := Lib.hid (K9.out.trans h)
  replace h := Lib.hid h
  go_wp2
  go_ret
  exact ⟨rfl, k4.out.trans K10.out⟩

set_option maxRecDepth 100000 in
set_option maxHeartbeats 16000000 in
theorem lim_5_low (a : Int) (w : World) (hv : Vars w) (h0 : 0 ≤ a) (h1 : a ≤ 255) (hr : a % 6 = 4) :
    Calls Tryd.prog 7 #[.int .u8 a, .bool true] w fun e w' => e = .returned (.bool true) ∧ Keep w w' := by
  replace hv := Lib.hid hv
  go_enter Tryd.func7, Tryd.ntmps7
  go_wp2_with fail
  refine (awake_true _ hv.out).mono ?_
  rintro e w1 ⟨rfl, h⟩
  have k1 := Lib.hid h
  replace h := Lib.hid h
  go_wp2_with fail
  obtain ⟨w2, hw2⟩ : ∃ w2, w2 = (((w1.alloc (.cells #[.int .i64 1099511627776, .int .i64 0] 2)).alloc (.cells #[.int .i64 5, .int .i64 0, .int .i64 0, .int .i64 0, .bool false, .slice (some ⟨w1.heap.size + 1 + 1, 0, none⟩) 2 2] 24)).alloc (.cells #[.int .i64 0, .int .i64 0] 2)) := ⟨_, rfl⟩
  rw [← hw2]
  have k2 : Keep w w2 := by rw [hw2]; exact ((k1.out.alloc _).alloc _).alloc _
  have X := ((Box.new2 w1 (.cells #[.int .i64 1099511627776, .int .i64 0] 2) (.int .i64 5) (.int .i64 0) (.int .i64 0) (.int .i64 0) (.bool false) (.slice (some ⟨w1.heap.size + 1 + 1, 0, none⟩) 2 2)).keep (Keep.one _ (.cells #[.int .i64 0, .int .i64 0] 2))).cel
  have R := Rd.two (w := (w1.alloc (.cells #[.int .i64 1099511627776, .int .i64 0] 2)).alloc (.cells #[.int .i64 5, .int .i64 0, .int .i64 0, .int .i64 0, .bool false, .slice (some ⟨w1.heap.size + 1 + 1, 0, none⟩) 2 2] 24)) (B := w1.heap.size + 1 + 1) 0 0 (by simp) (by decide) (by decide)
  rw [← hw2] at X R
  have hV := Lib.hid (hv.out.keep k2)
  replace k2 := Lib.hid k2
  replace R := Lib.hid R
  replace X := Lib.hid X
  clear hw2
  refine (ocheck_none 5 0 0 0 false (some ⟨w1.heap.size + 1 + 1, 0, none⟩) 2 2 (pick 0 0) 2 _ hV.out R.out (by decide) (by decide +kernel)).mono ?_
  rintro e w3 ⟨rfl, h⟩
  have k3 := Lib.hid (k2.out.trans h)
  have x0 := (X.out.keep h).e0
  have x1 := (X.out.keep h).e1
  have x2 := (X.out.keep h).e2
  have x3 := (X.out.keep h).e3
  have x4 := (X.out.keep h).e4
  have x5 := (X.out.keep h).e5
  have hlt : w1.heap.size + 1 < w3.heap.size := cell_lt x0
  have hlt1 : w1.heap.size < w3.heap.size := by omega
  have hlt2 : w1.heap.size < w3.heap.size + 1 := by omega
  have hlt3 : w1.heap.size < w3.heap.size + 1 + 1 := by omega
  replace h := Lib.hid h
  go_wp2_with fail
  obtain ⟨w4, hw4⟩ : ∃ w4, w4 = (((((w3.alloc (.cells #[.int .i64 5, .int .i64 (-1), .int .i64 0, .int .i64 0, .bool false, .slice (some ⟨w1.heap.size + 1 + 1, 0, none⟩) 2 2] 24)).alloc (.cells #[.int .i64 5, .int .i64 0, .int .i64 0, .int .i64 (-1), .bool false, .slice (some ⟨w1.heap.size + 1 + 1, 0, none⟩) 2 2] 24)).alloc (.cells #[.int .i64 5, .int .i64 0, .int .i64 0, .int .i64 0, .bool false, .slice (some ⟨w3.heap.size + 1 + 1 + 1 + 1, 0, none⟩) 2 2] 24)).alloc (.cells #[.int .i64 0, .int .i64 1099511627777] 2)).alloc (.cells #[.int .i64 0, .int .i64 (-1)] 2)) := ⟨_, rfl⟩
  rw [← hw4]
  have K4 : Keep w3 w4 := by rw [hw4]; exact (((((Keep.refl w3).alloc _).alloc _).alloc _).alloc _).alloc _
  have Y0 : Cel w4 (w3.heap.size) (.int .i64 5) (.int .i64 (-1)) (.int .i64 0) (.int .i64 0) (.bool false) (.slice (some ⟨w1.heap.size + 1 + 1, 0, none⟩) 2 2) := by rw [hw4]; exact ⟨by simp (maxDischargeDepth := 12) [go_sem], by simp (maxDischargeDepth := 12) [go_sem], by simp (maxDischargeDepth := 12) [go_sem], by simp (maxDischargeDepth := 12) [go_sem], by simp (maxDischargeDepth := 12) [go_sem], by simp (maxDischargeDepth := 12) [go_sem]⟩
  have Y1 : Cel w4 (w3.heap.size + 1) (.int .i64 5) (.int .i64 0) (.int .i64 0) (.int .i64 (-1)) (.bool false) (.slice (some ⟨w1.heap.size + 1 + 1, 0, none⟩) 2 2) := by rw [hw4]; exact ⟨by simp (maxDischargeDepth := 12) [go_sem], by simp (maxDischargeDepth := 12) [go_sem], by simp (maxDischargeDepth := 12) [go_sem], by simp (maxDischargeDepth := 12) [go_sem], by simp (maxDischargeDepth := 12) [go_sem], by simp (maxDischargeDepth := 12) [go_sem]⟩
  have Y2 : Cel w4 (w3.heap.size + 1 + 1) (.int .i64 5) (.int .i64 0) (.int .i64 0) (.int .i64 0) (.bool false) (.slice (some ⟨w3.heap.size + 1 + 1 + 1 + 1, 0, none⟩) 2 2) := by rw [hw4]; exact ⟨by simp (maxDischargeDepth := 12) [go_sem], by simp (maxDischargeDepth := 12) [go_sem], by simp (maxDischargeDepth := 12) [go_sem], by simp (maxDischargeDepth := 12) [go_sem], by simp (maxDischargeDepth := 12) [go_sem], by simp (maxDischargeDepth := 12) [go_sem]⟩
  have R4 : Rd w4 (some ⟨w3.heap.size + 1 + 1 + 1 + 1, 0, none⟩) 2 (pick 0 (-1)) := by rw [hw4]; exact Rd.two (w := ((((w3.alloc (.cells #[.int .i64 5, .int .i64 (-1), .int .i64 0, .int .i64 0, .bool false, .slice (some ⟨w1.heap.size + 1 + 1, 0, none⟩) 2 2] 24)).alloc (.cells #[.int .i64 5, .int .i64 0, .int .i64 0, .int .i64 (-1), .bool false, .slice (some ⟨w1.heap.size + 1 + 1, 0, none⟩) 2 2] 24)).alloc (.cells #[.int .i64 5, .int .i64 0, .int .i64 0, .int .i64 0, .bool false, .slice (some ⟨w3.heap.size + 1 + 1 + 1 + 1, 0, none⟩) 2 2] 24)).alloc (.cells #[.int .i64 0, .int .i64 1099511627777] 2))) (B := w3.heap.size + 1 + 1 + 1 + 1) 0 (-1) (by simp) (by decide) (by decide)
  have R3 := Lib.hid (R.out.keep (h.out.trans K4))
  have hV4 := Lib.hid (hV.out.keep (h.out.trans K4))
  have k4 := Lib.hid (k3.out.trans K4)
  have K4 := Lib.hid (Keep.refl w4)
  replace Y0 := Lib.hid Y0
  replace Y1 := Lib.hid Y1
  replace Y2 := Lib.hid Y2
  replace R4 := Lib.hid R4
  clear hw4 hlt hlt1 hlt2 hlt3 x0 x1 x2 x3 x4 x5 hV hv R X h k2 k3
  refine (ocheck_some 5 (-1) 0 0 false (some ⟨w1.heap.size + 1 + 1, 0, none⟩) 2 2 (pick 0 0) 2 _ (hV4.out.keep K4.out) (R3.out.keep K4.out) (by decide) 2 0 (by decide +kernel)).mono ?_
  rintro e w5 ⟨b5, rfl, c0, c1, h⟩
  have hC := Lib.hid (Wrapped.chain c0 c1)
  clear c0 c1
  have K5 := Lib.hid (K4.out.trans h)
  replace h := Lib.hid h
  go_wp2_with fail
  refine (code3_yes 2 [5] (.fault 2 0) _ _ hC.out (Or.inr ⟨_, rfl⟩) (hV4.out.keep K5.out).err).mono ?_
  rintro e w6 ⟨rfl, h⟩
  have K6 := Lib.hid (K5.out.trans h)
  replace h := Lib.hid h
  clear hC
  have z0 := (Y1.out.keep K6.out).e0
  have z1 := (Y1.out.keep K6.out).e1
  have z2 := (Y1.out.keep K6.out).e2
  have z3 := (Y1.out.keep K6.out).e3
  have z4 := (Y1.out.keep K6.out).e4
  have z5 := (Y1.out.keep K6.out).e5
  go_wp2_with fail
  refine (ocheck_none 5 0 0 (-1) false (some ⟨w1.heap.size + 1 + 1, 0, none⟩) 2 2 (pick 0 0) 2 _ (hV4.out.keep K6.out) (R3.out.keep K6.out) (by decide) (by decide +kernel)).mono ?_
  rintro e w7 ⟨rfl, h⟩
  have K7 := Lib.hid (K6.out.trans h)
  replace h := Lib.hid h
  clear z0 z1 z2 z3 z4 z5
  go_wp2_with fail
  refine (code3_nil _).mono ?_
  rintro e w8 ⟨rfl, h⟩
  have K8 := Lib.hid (K7.out.trans h)
  replace h := Lib.hid h
  have z0 := (Y2.out.keep K8.out).e0
  have z1 := (Y2.out.keep K8.out).e1
  have z2 := (Y2.out.keep K8.out).e2
  have z3 := (Y2.out.keep K8.out).e3
  have z4 := (Y2.out.keep K8.out).e4
  have z5 := (Y2.out.keep K8.out).e5
  go_wp2_with fail
  refine (ocheck_none 5 0 0 0 false (some ⟨w3.heap.size + 1 + 1 + 1 + 1, 0, none⟩) 2 2 (pick 0 (-1)) 2 _ (hV4.out.keep K8.out) (R4.out.keep K8.out) (by decide) (by decide +kernel)).mono ?_
  rintro e w9 ⟨rfl, h⟩
  have K9 := Lib.hid (K8.out.trans h)
  replace h := Lib.hid h
  clear z0 z1 z2 z3 z4 z5
  go_wp2_with fail
  refine (code3_nil _).mono ?_
  rintro e w10 ⟨rfl, h⟩
  have K10 := Lib.hid (K9.out.trans h)
  replace h := Lib.hid h
  go_wp2
  go_ret
  exact ⟨rfl, k4.out.trans K10.out⟩

set_option maxRecDepth 100000 in
set_option maxHeartbeats 16000000 in
theorem lim_6_high (a : Int) (w : World) (hv : Vars w) (h0 : 0 ≤ a) (h1 : a ≤ 255) (hr : a % 6 = 5) :
    Calls Tryd.prog 7 #[.int .u8 a, .bool false] w fun e w' => e = .returned (.bool true) ∧ Keep w w' := by
  replace hv := Lib.hid hv
  go_enter Tryd.func7, Tryd.ntmps7
  go_wp2_with fail
  refine (awake_true _ hv.out).mono ?_
  rintro e w1 ⟨rfl, h⟩
  have k1 := Lib.hid h
  replace h := Lib.hid h
  go_wp2_with fail
  obtain ⟨w2, hw2⟩ : ∃ w2, w2 = ((w1.alloc (.cells #[.int .i64 1099511627776, .int .i64 0] 2)).alloc (.cells #[.int .i64 6, .int .i64 1073741824, .int .i64 1073741824, .int .i64 1048576, .bool false, .slice (some ⟨w1.heap.size, 0, none⟩) 2 2] 24)) := ⟨_, rfl⟩
  rw [← hw2]
  have k2 : Keep w w2 := by rw [hw2]; exact (k1.out.alloc _).alloc _
  have X := ((Box.new2 w1 (.cells #[.int .i64 1099511627776, .int .i64 0] 2) (.int .i64 6) (.int .i64 1073741824) (.int .i64 1073741824) (.int .i64 1048576) (.bool false) (.slice (some ⟨w1.heap.size, 0, none⟩) 2 2))).cel
  have R := (two_at w1 1099511627776 0 (by decide) (by decide)).keep (Keep.one _ (.cells #[.int .i64 6, .int .i64 1073741824, .int .i64 1073741824, .int .i64 1048576, .bool false, .slice (some ⟨w1.heap.size, 0, none⟩) 2 2] 24))
  rw [← hw2] at X R
  have hV := Lib.hid (hv.out.keep k2)
  replace k2 := Lib.hid k2
  replace R := Lib.hid R
  replace X := Lib.hid X
  clear hw2
  refine (ocheck_none 6 1073741824 1073741824 1048576 false (some ⟨w1.heap.size, 0, none⟩) 2 2 (pick 1099511627776 0) 2 _ hV.out R.out (by decide) (by decide +kernel)).mono ?_
  rintro e w3 ⟨rfl, h⟩
  have k3 := Lib.hid (k2.out.trans h)
  have x0 := (X.out.keep h).e0
  have x1 := (X.out.keep h).e1
  have x2 := (X.out.keep h).e2
  have x3 := (X.out.keep h).e3
  have x4 := (X.out.keep h).e4
  have x5 := (X.out.keep h).e5
  have hlt : w1.heap.size + 1 < w3.heap.size := cell_lt x0
  have hlt1 : w1.heap.size < w3.heap.size := by omega
  have hlt2 : w1.heap.size < w3.heap.size + 1 := by omega
  have hlt3 : w1.heap.size < w3.heap.size + 1 + 1 := by omega
  replace h := Lib.hid h
  go_wp2_with fail
  obtain ⟨w4, hw4⟩ : ∃ w4, w4 = ((((w3.alloc (.cells #[.int .i64 6, .int .i64 1073741825, .int .i64 1073741824, .int .i64 1048576, .bool false, .slice (some ⟨w1.heap.size, 0, none⟩) 2 2] 24)).alloc (.cells #[.int .i64 6, .int .i64 1073741824, .int .i64 1073741824, .int .i64 1048577, .bool false, .slice (some ⟨w1.heap.size, 0, none⟩) 2 2] 24)).alloc (.cells #[.int .i64 6, .int .i64 1073741824, .int .i64 1073741824, .int .i64 1048576, .bool false, .slice (some ⟨w3.heap.size + 1 + 1 + 1, 0, none⟩) 2 2] 24)).alloc (.cells #[.int .i64 0, .int .i64 1099511627777] 2)) := ⟨_, rfl⟩
  rw [← hw4]
  have K4 : Keep w3 w4 := by rw [hw4]; exact ((((Keep.refl w3).alloc _).alloc _).alloc _).alloc _
  have Y0 : Cel w4 (w3.heap.size) (.int .i64 6) (.int .i64 1073741825) (.int .i64 1073741824) (.int .i64 1048576) (.bool false) (.slice (some ⟨w1.heap.size, 0, none⟩) 2 2) := by rw [hw4]; exact ⟨by simp (maxDischargeDepth := 12) [go_sem], by simp (maxDischargeDepth := 12) [go_sem], by simp (maxDischargeDepth := 12) [go_sem], by simp (maxDischargeDepth := 12) [go_sem], by simp (maxDischargeDepth := 12) [go_sem], by simp (maxDischargeDepth := 12) [go_sem]⟩
  have Y1 : Cel w4 (w3.heap.size + 1) (.int .i64 6) (.int .i64 1073741824) (.int .i64 1073741824) (.int .i64 1048577) (.bool false) (.slice (some ⟨w1.heap.size, 0, none⟩) 2 2) := by rw [hw4]; exact ⟨by simp (maxDischargeDepth := 12) [go_sem], by simp (maxDischargeDepth := 12) [go_sem], by simp (maxDischargeDepth := 12) [go_sem], by simp (maxDischargeDepth := 12) [go_sem], by simp (maxDischargeDepth := 12) [go_sem], by simp (maxDischargeDepth := 12) [go_sem]⟩
  have Y2 : Cel w4 (w3.heap.size + 1 + 1) (.int .i64 6) (.int .i64 1073741824) (.int .i64 1073741824) (.int .i64 1048576) (.bool false) (.slice (some ⟨w3.heap.size + 1 + 1 + 1, 0, none⟩) 2 2) := by rw [hw4]; exact ⟨by simp (maxDischargeDepth := 12) [go_sem], by simp (maxDischargeDepth := 12) [go_sem], by simp (maxDischargeDepth := 12) [go_sem], by simp (maxDischargeDepth := 12) [go_sem], by simp (maxDischargeDepth := 12) [go_sem], by simp (maxDischargeDepth := 12) [go_sem]⟩
  have R4 : Rd w4 (some ⟨w3.heap.size + 1 + 1 + 1, 0, none⟩) 2 (pick 0 1099511627777) := by rw [hw4]; exact Rd.two (w := (((w3.alloc (.cells #[.int .i64 6, .int .i64 1073741825, .int .i64 1073741824, .int .i64 1048576, .bool false, .slice (some ⟨w1.heap.size, 0, none⟩) 2 2] 24)).alloc (.cells #[.int .i64 6, .int .i64 1073741824, .int .i64 1073741824, .int .i64 1048577, .bool false, .slice (some ⟨w1.heap.size, 0, none⟩) 2 2] 24)).alloc (.cells #[.int .i64 6, .int .i64 1073741824, .int .i64 1073741824, .int .i64 1048576, .bool false, .slice (some ⟨w3.heap.size + 1 + 1 + 1, 0, none⟩) 2 2] 24))) (B := w3.heap.size + 1 + 1 + 1) 0 1099511627777 (by simp) (by decide) (by decide)
  have R3 := Lib.hid (R.out.keep (h.out.trans K4))
  have hV4 := Lib.hid (hV.out.keep (h.out.trans K4))
  have k4 := Lib.hid (k3.out.trans K4)
  have K4 := Lib.hid (Keep.refl w4)
  replace Y0 := Lib.hid Y0
  replace Y1 := Lib.hid Y1
  replace Y2 := Lib.hid Y2
  replace R4 := Lib.hid R4
  clear hw4 hlt hlt1 hlt2 hlt3 x0 x1 x2 x3 x4 x5 hV hv R X h k2 k3
  refine (ocheck_none 6 1073741825 1073741824 1048576 false (some ⟨w1.heap.size, 0, none⟩) 2 2 (pick 1099511627776 0) 2 _ (hV4.out.keep K4.out) (R3.out.keep K4.out) (by decide) (by decide +kernel)).mono ?_
  rintro e w5 ⟨rfl, h⟩
  have K5 := Lib.hid (K4.out.trans h)
  replace h := Lib.hid h
  go_wp2_with fail
  refine (code3_nil _).mono ?_
  rintro e w6 ⟨rfl, h⟩
  have K6 := Lib.hid (K5.out.trans h)
  replace h := Lib.hid h
  have z0 := (Y1.out.keep K6.out).e0
  have z1 := (Y1.out.keep K6.out).e1
  have z2 := (Y1.out.keep K6.out).e2
  have z3 := (Y1.out.keep K6.out).e3
  have z4 := (Y1.out.keep K6.out).e4
  have z5 := (Y1.out.keep K6.out).e5
  go_wp2_with fail
  refine (ocheck_some 6 1073741824 1073741824 1048577 false (some ⟨w1.heap.size, 0, none⟩) 2 2 (pick 1099511627776 0) 2 _ (hV4.out.keep K6.out) (R3.out.keep K6.out) (by decide) 4 0 (by decide +kernel)).mono ?_
  rintro e w7 ⟨b7, rfl, c0, c1, h⟩
  have hC := Lib.hid (Wrapped.chain c0 c1)
  clear c0 c1
  have K7 := Lib.hid (K6.out.trans h)
  replace h := Lib.hid h
  clear z0 z1 z2 z3 z4 z5
  go_wp2_with fail
  refine (code3_yes 4 [6] (.fault 4 0) _ _ hC.out (Or.inr ⟨_, rfl⟩) (hV4.out.keep K7.out).err).mono ?_
  rintro e w8 ⟨rfl, h⟩
  have K8 := Lib.hid (K7.out.trans h)
  replace h := Lib.hid h
  clear hC
  have z0 := (Y2.out.keep K8.out).e0
  have z1 := (Y2.out.keep K8.out).e1
  have z2 := (Y2.out.keep K8.out).e2
  have z3 := (Y2.out.keep K8.out).e3
  have z4 := (Y2.out.keep K8.out).e4
  have z5 := (Y2.out.keep K8.out).e5
  go_wp2_with fail
  refine (ocheck_none 6 1073741824 1073741824 1048576 false (some ⟨w3.heap.size + 1 + 1 + 1, 0, none⟩) 2 2 (pick 0 1099511627777) 2 _ (hV4.out.keep K8.out) (R4.out.keep K8.out) (by decide) (by decide +kernel)).mono ?_
  rintro e w9 ⟨rfl, h⟩
  have K9 := Lib.hid (K8.out.trans h)
  replace h := Lib.hid h
  clear z0 z1 z2 z3 z4 z5
  go_wp2_with fail
  refine (code3_nil _).mono ?_
  rintro e w10 ⟨rfl, h⟩
  have K10 := Lib.hid (K9.out.trans h)
  replace h := Lib.hid h
  go_wp2
  go_ret
  exact ⟨rfl, k4.out.trans K10.out⟩

set_option maxRecDepth 100000 in
set_option maxHeartbeats 16000000 in
theorem lim_6_low (a : Int) (w : World) (hv : Vars w) (h0 : 0 ≤ a) (h1 : a ≤ 255) (hr : a % 6 = 5) :
    Calls Tryd.prog 7 #[.int .u8 a, .bool true] w fun e w' => e = .returned (.bool true) ∧ Keep w w' := by
  replace hv := Lib.hid hv
  go_enter Tryd.func7, Tryd.ntmps7
  go_wp2_with fail
  refine (awake_true _ hv.out).mono ?_
  rintro e w1 ⟨rfl, h⟩
  have k1 := Lib.hid h
  replace h := Lib.hid h
  go_wp2_with fail
  obtain ⟨w2, hw2⟩ : ∃ w2, w2 = (((w1.alloc (.cells #[.int .i64 1099511627776, .int .i64 0] 2)).alloc (.cells #[.int .i64 6, .int .i64 0, .int .i64 0, .int .i64 0, .bool false, .slice (some ⟨w1.heap.size + 1 + 1, 0, none⟩) 2 2] 24)).alloc (.cells #[.int .i64 0, .int .i64 0] 2)) := ⟨_, rfl⟩
  rw [← hw2]
  have k2 : Keep w w2 := by rw [hw2]; exact ((k1.out.alloc _).alloc _).alloc _
  have X := ((Box.new2 w1 (.cells #[.int .i64 1099511627776, .int .i64 0] 2) (.int .i64 6) (.int .i64 0) (.int .i64 0) (.int .i64 0) (.bool false) (.slice (some ⟨w1.heap.size + 1 + 1, 0, none⟩) 2 2)).keep (Keep.one _ (.cells #[.int .i64 0, .int .i64 0] 2))).cel
  have R := Rd.two (w := (w1.alloc (.cells #[.int .i64 1099511627776, .int .i64 0] 2)).alloc (.cells #[.int .i64 6, .int .i64 0, .int .i64 0, .int .i64 0, .bool false, .slice (some ⟨w1.heap.size + 1 + 1, 0, none⟩) 2 2] 24)) (B := w1.heap.size + 1 + 1) 0 0 (by simp) (by decide) (by decide)
  rw [← hw2] at X R
  have hV := Lib.hid (hv.out.keep k2)
  replace k2 := Lib.hid k2
  replace R := Lib.hid R
  replace X := Lib.hid X
  clear hw2
  refine (ocheck_none 6 0 0 0 false (some ⟨w1.heap.size + 1 + 1, 0, none⟩) 2 2 (pick 0 0) 2 _ hV.out R.out (by decide) (by decide +kernel)).mono ?_
  rintro e w3 ⟨rfl, h⟩
  have k3 := Lib.hid (k2.out.trans h)
  have x0 := (X.out.keep h).e0
  have x1 := (X.out.keep h).e1
  have x2 := (X.out.keep h).e2
  have x3 := (X.out.keep h).e3
  have x4 := (X.out.keep h).e4
  have x5 := (X.out.keep h).e5
  have hlt : w1.heap.size + 1 < w3.heap.size := cell_lt x0
  have hlt1 : w1.heap.size < w3.heap.size := by omega
  have hlt2 : w1.heap.size < w3.heap.size + 1 := by omega
  have hlt3 : w1.heap.size < w3.heap.size + 1 + 1 := by omega
  replace h := Lib.hid h
  go_wp2_with fail
  obtain ⟨w4, hw4⟩ : ∃ w4, w4 = (((((w3.alloc (.cells #[.int .i64 6, .int .i64 (-1), .int .i64 0, .int .i64 0, .bool false, .slice (some ⟨w1.heap.size + 1 + 1, 0, none⟩) 2 2] 24)).alloc (.cells #[.int .i64 6, .int .i64 0, .int .i64 0, .int .i64 (-1), .bool false, .slice (some ⟨w1.heap.size + 1 + 1, 0, none⟩) 2 2] 24)).alloc (.cells #[.int .i64 6, .int .i64 0, .int .i64 0, .int .i64 0, .bool false, .slice (some ⟨w3.heap.size + 1 + 1 + 1 + 1, 0, none⟩) 2 2] 24)).alloc (.cells #[.int .i64 0, .int .i64 1099511627777] 2)).alloc (.cells #[.int .i64 0, .int .i64 (-1)] 2)) := ⟨_, rfl⟩
  rw [← hw4]
  have K4 : Keep w3 w4 := by rw [hw4]; exact (((((Keep.refl w3).alloc _).alloc _).alloc _).alloc _).alloc _
  have Y0 : Cel w4 (w3.heap.size) (.int .i64 6) (.int .i64 (-1)) (.int .i64 0) (.int .i64 0) (.bool false) (.slice (some ⟨w1.heap.size + 1 + 1, 0, none⟩) 2 2) := by rw [hw4]; exact ⟨by simp (maxDischargeDepth := 12) [go_sem], by simp (maxDischargeDepth := 12) [go_sem], by simp (maxDischargeDepth := 12) [go_sem], by simp (maxDischargeDepth := 12) [go_sem], by simp (maxDischargeDepth := 12) [go_sem], by simp (maxDischargeDepth := 12) [go_sem]⟩
  have Y1 : Cel w4 (w3.heap.size + 1) (.int .i64 6) (.int .i64 0) (.int .i64 0) (.int .i64 (-1)) (.bool false) (.slice (some ⟨w1.heap.size + 1 + 1, 0, none⟩) 2 2) := by rw [hw4]; exact ⟨by simp (maxDischargeDepth := 12) [go_sem], by simp (maxDischargeDepth := 12) [go_sem], by simp (maxDischargeDepth := 12) [go_sem], by simp (maxDischargeDepth := 12) [go_sem], by simp (maxDischargeDepth := 12) [go_sem], by simp (maxDischargeDepth := 12) [go_sem]⟩
  have Y2 : Cel w4 (w3.heap.size + 1 + 1) (.int .i64 6) (.int .i64 0) (.int .i64 0) (.int .i64 0) (.bool false) (.slice (some ⟨w3.heap.size + 1 + 1 + 1 + 1, 0, none⟩) 2 2) := by rw [hw4]; exact ⟨by simp (maxDischargeDepth := 12) [go_sem], by simp (maxDischargeDepth := 12) [go_sem], by simp (maxDischargeDepth := 12) [go_sem], by simp (maxDischargeDepth := 12) [go_sem], by simp (maxDischargeDepth := 12) [go_sem], by simp (maxDischargeDepth := 12) [go_sem]⟩
  have R4 : Rd w4 (some ⟨w3.heap.size + 1 + 1 + 1 + 1, 0, none⟩) 2 (pick 0 (-1)) := by rw [hw4]; exact Rd.two (w := ((((w3.alloc (.cells #[.int .i64 6, .int .i64 (-1), .int .i64 0, .int .i64 0, .bool false, .slice (some ⟨w1.heap.size + 1 + 1, 0, none⟩) 2 2] 24)).alloc (.cells #[.int .i64 6, .int .i64 0, .int .i64 0, .int .i64 (-1), .bool false, .slice (some ⟨w1.heap.size + 1 + 1, 0, none⟩) 2 2] 24)).alloc (.cells #[.int .i64 6, .int .i64 0, .int .i64 0, .int .i64 0, .bool false, .slice (some ⟨w3.heap.size + 1 + 1 + 1 + 1, 0, none⟩) 2 2] 24)).alloc (.cells #[.int .i64 0, .int .i64 1099511627777] 2))) (B := w3.heap.size + 1 + 1 + 1 + 1) 0 (-1) (by simp) (by decide) (by decide)
  have R3 := Lib.hid (R.out.keep (h.out.trans K4))
  have hV4 := Lib.hid (hV.out.keep (h.out.trans K4))
  have k4 := Lib.hid (k3.out.trans K4)
  have K4 := Lib.hid (Keep.refl w4)
  replace Y0 := Lib.hid Y0
  replace Y1 := Lib.hid Y1
  replace Y2 := Lib.hid Y2
  replace R4 := Lib.hid R4
  clear hw4 hlt hlt1 hlt2 hlt3 x0 x1 x2 x3 x4 x5 hV hv R X h k2 k3
  refine (ocheck_none 6 (-1) 0 0 false (some ⟨w1.heap.size + 1 + 1, 0, none⟩) 2 2 (pick 0 0) 2 _ (hV4.out.keep K4.out) (R3.out.keep K4.out) (by decide) (by decide +kernel)).mono ?_
  rintro e w5 ⟨rfl, h⟩
  have K5 := Lib.hid (K4.out.trans h)
  replace h := Lib.hid h
  go_wp2_with fail
  refine (code3_nil _).mono ?_
  rintro e w6 ⟨rfl, h⟩
  have K6 := Lib.hid (K5.out.trans h)
  replace h := Lib.hid h
  have z0 := (Y1.out.keep K6.out).e0
  have z1 := (Y1.out.keep K6.out).e1
  have z2 := (Y1.out.keep K6.out).e2
  have z3 := (Y1.out.keep K6.out).e3
  have z4 := (Y1.out.keep K6.out).e4
  have z5 := (Y1.out.keep K6.out).e5
  go_wp2_with fail
  refine (ocheck_some 6 0 0 (-1) false (some ⟨w1.heap.size + 1 + 1, 0, none⟩) 2 2 (pick 0 0) 2 _ (hV4.out.keep K6.out) (R3.out.keep K6.out) (by decide) 4 0 (by decide +kernel)).mono ?_
  rintro e w7 ⟨b7, rfl, c0, c1, h⟩
  have hC := Lib.hid (Wrapped.chain c0 c1)
  clear c0 c1
  have K7 := Lib.hid (K6.out.trans h)
  replace h := Lib.hid h
  clear z0 z1 z2 z3 z4 z5
  go_wp2_with fail
  refine (code3_yes 4 [6] (.fault 4 0) _ _ hC.out (Or.inr ⟨_, rfl⟩) (hV4.out.keep K7.out).err).mono ?_
  rintro e w8 ⟨rfl, h⟩
  have K8 := Lib.hid (K7.out.trans h)
  replace h := Lib.hid h
  clear hC
  have z0 := (Y2.out.keep K8.out).e0
  have z1 := (Y2.out.keep K8.out).e1
  have z2 := (Y2.out.keep K8.out).e2
  have z3 := (Y2.out.keep K8.out).e3
  have z4 := (Y2.out.keep K8.out).e4
  have z5 := (Y2.out.keep K8.out).e5
  go_wp2_with fail
  refine (ocheck_none 6 0 0 0 false (some ⟨w3.heap.size + 1 + 1 + 1 + 1, 0, none⟩) 2 2 (pick 0 (-1)) 2 _ (hV4.out.keep K8.out) (R4.out.keep K8.out) (by decide) (by decide +kernel)).mono ?_
  rintro e w9 ⟨rfl, h⟩
  have K9 := Lib.hid (K8.out.trans h)
  replace h := Lib.hid h
  clear z0 z1 z2 z3 z4 z5
  go_wp2_with fail
  refine (code3_nil _).mono ?_
  rintro e w10 ⟨rfl, h⟩
  have K10 := Lib.hid (K9.out.trans h)
  replace h := Lib.hid h
  go_wp2
  go_ret
  exact ⟨rfl, k4.out.trans K10.out⟩

theorem limits_walk (a : Int) (low : Bool) (w : World) (hv : Vars w) (h0 : 0 ≤ a) (h1 : a ≤ 255) :
    Calls Tryd.prog 7 #[.int .u8 a, .bool low] w fun e w' => e = .returned (.bool true) ∧ Keep w w' := by
  have hr : a % 6 = 0 ∨ a % 6 = 1 ∨ a % 6 = 2 ∨ a % 6 = 3 ∨ a % 6 = 4 ∨ a % 6 = 5 := by omega
  rcases hr with hr | hr | hr | hr | hr | hr <;> cases low
  · exact lim_1_high a w hv h0 h1 hr
  · exact lim_1_low a w hv h0 h1 hr
  · exact lim_2_high a w hv h0 h1 hr
  · exact lim_2_low a w hv h0 h1 hr
  · exact lim_3_high a w hv h0 h1 hr
  · exact lim_3_low a w hv h0 h1 hr
  · exact lim_4_high a w hv h0 h1 hr
  · exact lim_4_low a w hv h0 h1 hr
  · exact lim_5_high a w hv h0 h1 hr
  · exact lim_5_low a w hv h0 h1 hr
  · exact lim_6_high a w hv h0 h1 hr
  · exact lim_6_low a w hv h0 h1 hr

end Go.Proofs.YtflkeabjcbjkhaaDoor
