/-
  The walk of RankTotal. No condition.
-/
import Derived.Test.YtflheiodaklceaaLawMath6
namespace Go.Proofs.Ytflheiodaklceaa
open Go.RowKit Go.Sort Go.Lib Go.Shelf

theorem few3 (x y z : PodV) : FewP (fun t => [x, y, z].getD t x) 3 ↔ ((-1073741824 ≤ x.p ∧ x.p ≤ 1073741824 ∧ x.m ≤ 20) ∧ (-1073741824 ≤ y.p ∧ y.p ≤ 1073741824 ∧ y.m ≤ 20) ∧ (-1073741824 ≤ z.p ∧ z.p ≤ 1073741824 ∧ z.m ≤ 20)) := by
  constructor
  · rintro ⟨_, h⟩
    exact ⟨h 0 (by omega), h 1 (by omega), h 2 (by omega)⟩
  · rintro ⟨h0, h1, h2⟩
    refine ⟨by omega, fun j hj => ?_⟩
    rcases three hj with rfl | rfl | rfl
    · exact h0
    · exact h1
    · exact h2

set_option maxRecDepth 100000 in
set_option maxHeartbeats 16000000 in
theorem total_walk (x y z : PodV) (w : World) (hx : PodIs w x) (hy : PodIs w y) (hz : PodIs w z) : Calls Try.prog 5 #[x.val, y.val, z.val] w fun e w' => e = .returned (.bool true) ∧ Keep w w' := by
  have mixed : Try.prog.follows .mixedOrders = true := by kernel_rfl
  have aw := Lib.hid awake_true
  have hx := Lib.hid hx
  have hy := Lib.hid hy
  have hz := Lib.hid hz
  have bxy := fun W => before_fn x y W
  have byz := fun W => before_fn y z W
  have bxz := fun W => before_fn x z W
  have byx := fun W => before_fn y x W
  have bxx := fun W => before_fn x x W
  have cxy := fun W => kcompare_fn x y W
  have cyx := fun W => kcompare_fn y x W
  have tr := Lib.hid (fun h1 h2 => @bef_trans x y z h1 h2)
  have ot := Lib.hid (fun h => @bef_other x y h)
  have rg := cmpP_range y x
  rw [bef_self] at bxx
  rw [cmpP_anti] at cxy
  generalize cmpP y x = r at cxy cyx rg
  generalize befP x y = p at bxy tr ot
  generalize befP y z = q at byz tr
  generalize befP x z = s at bxz tr
  generalize befP y x = u at byx ot
  have wr : IntKind.i64.wrap (-r) = -r := by rw [IntKind.wrap_i64]; omega
  have gxy := bxy
  have gyx := byx
  have gxx := bxx
  unfold PodV.val Gr at gxy gyx gxx cxy cyx
  unfold PodV.val at bxy byz bxz
  unfold PodV.val
  clear byx bxx
  replace bxy := Lib.hid bxy
  replace byz := Lib.hid byz
  replace bxz := Lib.hid bxz
  replace gxy := Lib.hid gxy
  replace gyx := Lib.hid gyx
  replace gxx := Lib.hid gxx
  replace cxy := Lib.hid cxy
  replace cyx := Lib.hid cyx
  go_enter Try.func5, Try.ntmps5
  go_wp2_with fail
  refine (aw.out _).mono ?_
  rintro e w1 ⟨rfl, k1⟩
  have kb : Keep w (((w.alloc (.cells #[.int .i64 x.k, .int .i64 x.p, .bool x.f, .int .i64 x.g, .slice x.A x.m x.c, .int .i64 x.a, .int .i64 x.h, .int .i64 x.d, .int .i64 x.t] 25)).alloc (.cells #[.int .i64 y.k, .int .i64 y.p, .bool y.f, .int .i64 y.g, .slice y.A y.m y.c, .int .i64 y.a, .int .i64 y.h, .int .i64 y.d, .int .i64 y.t] 25)).alloc (.cells #[.int .i64 z.k, .int .i64 z.p, .bool z.f, .int .i64 z.g, .slice z.A z.m z.c, .int .i64 z.a, .int .i64 z.h, .int .i64 z.d, .int .i64 z.t] 25)) := (((Keep.refl w).alloc _).alloc _).alloc _
  have X := ((Cel9.new w x 25 _ rfl).keep ((Keep.one _ (.cells #[.int .i64 y.k, .int .i64 y.p, .bool y.f, .int .i64 y.g, .slice y.A y.m y.c, .int .i64 y.a, .int .i64 y.h, .int .i64 y.d, .int .i64 y.t] 25)).alloc (.cells #[.int .i64 z.k, .int .i64 z.p, .bool z.f, .int .i64 z.g, .slice z.A z.m z.c, .int .i64 z.a, .int .i64 z.h, .int .i64 z.d, .int .i64 z.t] 25))).keep k1
  have Y := ((Cel9.new (w.alloc (.cells #[.int .i64 x.k, .int .i64 x.p, .bool x.f, .int .i64 x.g, .slice x.A x.m x.c, .int .i64 x.a, .int .i64 x.h, .int .i64 x.d, .int .i64 x.t] 25)) y 25 _ rfl).keep (Keep.one _ (.cells #[.int .i64 z.k, .int .i64 z.p, .bool z.f, .int .i64 z.g, .slice z.A z.m z.c, .int .i64 z.a, .int .i64 z.h, .int .i64 z.d, .int .i64 z.t] 25))).keep k1
  have Z := (Cel9.new ((w.alloc (.cells #[.int .i64 x.k, .int .i64 x.p, .bool x.f, .int .i64 x.g, .slice x.A x.m x.c, .int .i64 x.a, .int .i64 x.h, .int .i64 x.d, .int .i64 x.t] 25)).alloc (.cells #[.int .i64 y.k, .int .i64 y.p, .bool y.f, .int .i64 y.g, .slice y.A y.m y.c, .int .i64 y.a, .int .i64 y.h, .int .i64 y.d, .int .i64 y.t] 25)) z 25 _ rfl).keep k1
  have K1 := Lib.hid (kb.trans k1)
  simp only [World.size_alloc] at Y Z
  replace k1 := Lib.hid k1
  clear kb
  obtain ⟨b0, hb0⟩ : ∃ b0, b0 = w.heap.size := ⟨_, rfl⟩
  rw [← hb0] at X Y Z ⊢
  replace hb0 := Lib.hid hb0
  have x0 := X.e0; have x1 := X.e1; have x2 := X.e2; have x3 := X.e3; have x4 := X.e4; have x5 := X.e5; have x6 := X.e6; have x7 := X.e7; have x8 := X.e8
  have y0 := Y.e0; have y1 := Y.e1; have y2 := Y.e2; have y3 := Y.e3; have y4 := Y.e4; have y5 := Y.e5; have y6 := Y.e6; have y7 := Y.e7; have y8 := Y.e8
  have z0 := Z.e0; have z1 := Z.e1; have z2 := Z.e2; have z3 := Z.e3; have z4 := Z.e4; have z5 := Z.e5; have z6 := Z.e6; have z7 := Z.e7; have z8 := Z.e8
  clear X Y Z
  simp only [Nat.zero_add] at x1 x2 x3 x4 x5 x6 x7 x8 y1 y2 y3 y4 y5 y6 y7 y8 z1 z2 z3 z4 z5 z6 z7 z8
  have RL := Lib.hid (rd_lay1 (W := w1) (w := w) (L := [x, y, z]) (K1.out.alloc (.cells #[.int .i64 x.k, .int .i64 x.p, .bool x.f, .int .i64 x.g, .slice x.A x.m x.c, .int .i64 x.a, .int .i64 x.h, .int .i64 x.d, .int .i64 x.t, .int .i64 y.k, .int .i64 y.p, .bool y.f, .int .i64 y.g, .slice y.A y.m y.c, .int .i64 y.a, .int .i64 y.h, .int .i64 y.d, .int .i64 y.t, .int .i64 z.k, .int .i64 z.p, .bool z.f, .int .i64 z.g, .slice z.A z.m z.c, .int .i64 z.a, .int .i64 z.h, .int .i64 z.d, .int .i64 z.t] 25)) (by simp) (fun v hv => by
    simp only [List.mem_cons, List.not_mem_nil, or_false] at hv
    rcases hv with rfl | rfl | rfl
    · exact hx.out
    · exact hy.out
    · exact hz.out) rfl x)
  have K2 := Lib.hid (K1.out.alloc (.cells #[.int .i64 x.k, .int .i64 x.p, .bool x.f, .int .i64 x.g, .slice x.A x.m x.c, .int .i64 x.a, .int .i64 x.h, .int .i64 x.d, .int .i64 x.t, .int .i64 y.k, .int .i64 y.p, .bool y.f, .int .i64 y.g, .slice y.A y.m y.c, .int .i64 y.a, .int .i64 y.h, .int .i64 y.d, .int .i64 y.t, .int .i64 z.k, .int .i64 z.p, .bool z.f, .int .i64 z.g, .slice z.A z.m z.c, .int .i64 z.a, .int .i64 z.h, .int .i64 z.d, .int .i64 z.t] 25))
  by_cases hf : FewP (fun t => [x, y, z].getD t x) 3
  · have hfew := Lib.hid (rfew_fn _ 3 3 _ _ RL.out true ⟨fun _ => hf, fun _ => rfl⟩)
    replace hf := Lib.hid hf
    go_wp2_with fail
    refine hfew.out.mono ?_
    rintro e w2 ⟨rfl, rfl⟩
    clear hfew RL
    have g2 : Hid (Keep w1 (w1.alloc (.cells #[.int .i64 x.k, .int .i64 x.p, .bool x.f, .int .i64 x.g, .slice x.A x.m x.c, .int .i64 x.a, .int .i64 x.h, .int .i64 x.d, .int .i64 x.t, .int .i64 y.k, .int .i64 y.p, .bool y.f, .int .i64 y.g, .slice y.A y.m y.c, .int .i64 y.a, .int .i64 y.h, .int .i64 y.d, .int .i64 y.t, .int .i64 z.k, .int .i64 z.p, .bool z.f, .int .i64 z.g, .slice z.A z.m z.c, .int .i64 z.a, .int .i64 z.h, .int .i64 z.d, .int .i64 z.t] 25))) := Keep.one w1 _
    replace x0 := g2.out.cell x0; replace x1 := g2.out.cell x1; replace x2 := g2.out.cell x2; replace x3 := g2.out.cell x3; replace x4 := g2.out.cell x4; replace x5 := g2.out.cell x5; replace x6 := g2.out.cell x6; replace x7 := g2.out.cell x7; replace x8 := g2.out.cell x8
    replace y0 := g2.out.cell y0; replace y1 := g2.out.cell y1; replace y2 := g2.out.cell y2; replace y3 := g2.out.cell y3; replace y4 := g2.out.cell y4; replace y5 := g2.out.cell y5; replace y6 := g2.out.cell y6; replace y7 := g2.out.cell y7; replace y8 := g2.out.cell y8
    replace z0 := g2.out.cell z0; replace z1 := g2.out.cell z1; replace z2 := g2.out.cell z2; replace z3 := g2.out.cell z3; replace z4 := g2.out.cell z4; replace z5 := g2.out.cell z5; replace z6 := g2.out.cell z6; replace z7 := g2.out.cell z7; replace z8 := g2.out.cell z8
    clear g2 K1 k1
    generalize w1.alloc (.cells #[.int .i64 x.k, .int .i64 x.p, .bool x.f, .int .i64 x.g, .slice x.A x.m x.c, .int .i64 x.a, .int .i64 x.h, .int .i64 x.d, .int .i64 x.t, .int .i64 y.k, .int .i64 y.p, .bool y.f, .int .i64 y.g, .slice y.A y.m y.c, .int .i64 y.a, .int .i64 y.h, .int .i64 y.d, .int .i64 y.t, .int .i64 z.k, .int .i64 z.p, .bool z.f, .int .i64 z.g, .slice z.A z.m z.c, .int .i64 z.a, .int .i64 z.h, .int .i64 z.d, .int .i64 z.t] 25) = w2 at *
    cases p with
    | true =>
      cases q with
      | true =>
        have hs := Lib.hid (tr.out rfl rfl)
        rw [hs.out] at bxz
        clear hs tr
        go_wp2_with fail
        refine (bxy.out _).mono ?_
        rintro e w3 ⟨rfl, h3⟩
        have k3 := Lib.hid h3.keep
        replace x0 := k3.out.cell x0; replace x1 := k3.out.cell x1; replace x2 := k3.out.cell x2; replace x3 := k3.out.cell x3; replace x4 := k3.out.cell x4; replace x5 := k3.out.cell x5; replace x6 := k3.out.cell x6; replace x7 := k3.out.cell x7; replace x8 := k3.out.cell x8
        replace y0 := k3.out.cell y0; replace y1 := k3.out.cell y1; replace y2 := k3.out.cell y2; replace y3 := k3.out.cell y3; replace y4 := k3.out.cell y4; replace y5 := k3.out.cell y5; replace y6 := k3.out.cell y6; replace y7 := k3.out.cell y7; replace y8 := k3.out.cell y8
        replace z0 := k3.out.cell z0; replace z1 := k3.out.cell z1; replace z2 := k3.out.cell z2; replace z3 := k3.out.cell z3; replace z4 := k3.out.cell z4; replace z5 := k3.out.cell z5; replace z6 := k3.out.cell z6; replace z7 := k3.out.cell z7; replace z8 := k3.out.cell z8
        replace h3 := Lib.hid h3
        go_wp2_with fail
        refine (byz.out _).mono ?_
        rintro e w4 ⟨rfl, h4⟩
        have k4 := Lib.hid h4.keep
        replace x0 := k4.out.cell x0; replace x1 := k4.out.cell x1; replace x2 := k4.out.cell x2; replace x3 := k4.out.cell x3; replace x4 := k4.out.cell x4; replace x5 := k4.out.cell x5; replace x6 := k4.out.cell x6; replace x7 := k4.out.cell x7; replace x8 := k4.out.cell x8
        replace y0 := k4.out.cell y0; replace y1 := k4.out.cell y1; replace y2 := k4.out.cell y2; replace y3 := k4.out.cell y3; replace y4 := k4.out.cell y4; replace y5 := k4.out.cell y5; replace y6 := k4.out.cell y6; replace y7 := k4.out.cell y7; replace y8 := k4.out.cell y8
        replace z0 := k4.out.cell z0; replace z1 := k4.out.cell z1; replace z2 := k4.out.cell z2; replace z3 := k4.out.cell z3; replace z4 := k4.out.cell z4; replace z5 := k4.out.cell z5; replace z6 := k4.out.cell z6; replace z7 := k4.out.cell z7; replace z8 := k4.out.cell z8
        replace h4 := Lib.hid h4
        go_wp2_with fail
        refine (bxz.out _).mono ?_
        rintro e w5 ⟨rfl, h5⟩
        have k5 := Lib.hid h5.keep
        replace x0 := k5.out.cell x0; replace x1 := k5.out.cell x1; replace x2 := k5.out.cell x2; replace x3 := k5.out.cell x3; replace x4 := k5.out.cell x4; replace x5 := k5.out.cell x5; replace x6 := k5.out.cell x6; replace x7 := k5.out.cell x7; replace x8 := k5.out.cell x8
        replace y0 := k5.out.cell y0; replace y1 := k5.out.cell y1; replace y2 := k5.out.cell y2; replace y3 := k5.out.cell y3; replace y4 := k5.out.cell y4; replace y5 := k5.out.cell y5; replace y6 := k5.out.cell y6; replace y7 := k5.out.cell y7; replace y8 := k5.out.cell y8
        replace z0 := k5.out.cell z0; replace z1 := k5.out.cell z1; replace z2 := k5.out.cell z2; replace z3 := k5.out.cell z3; replace z4 := k5.out.cell z4; replace z5 := k5.out.cell z5; replace z6 := k5.out.cell z6; replace z7 := k5.out.cell z7; replace z8 := k5.out.cell z8
        replace h5 := Lib.hid h5
        have K5 := Lib.hid (K2.out.trans (k3.out.trans (k4.out.trans k5.out)))
        clear k3 k4 k5 h3 h4 h5 K2
        go_upto_region 5 with fail
        clear z0 z1 z2 z3 z4 z5 z6 z7 z8
        replace x0 : ∀ (n : Nat) (os : Array Obj), (grow (w5.drewN n) os).cell? _ = _ := grows x0; replace x1 : ∀ (n : Nat) (os : Array Obj), (grow (w5.drewN n) os).cell? _ = _ := grows x1; replace x2 : ∀ (n : Nat) (os : Array Obj), (grow (w5.drewN n) os).cell? _ = _ := grows x2; replace x3 : ∀ (n : Nat) (os : Array Obj), (grow (w5.drewN n) os).cell? _ = _ := grows x3; replace x4 : ∀ (n : Nat) (os : Array Obj), (grow (w5.drewN n) os).cell? _ = _ := grows x4; replace x5 : ∀ (n : Nat) (os : Array Obj), (grow (w5.drewN n) os).cell? _ = _ := grows x5; replace x6 : ∀ (n : Nat) (os : Array Obj), (grow (w5.drewN n) os).cell? _ = _ := grows x6; replace x7 : ∀ (n : Nat) (os : Array Obj), (grow (w5.drewN n) os).cell? _ = _ := grows x7; replace x8 : ∀ (n : Nat) (os : Array Obj), (grow (w5.drewN n) os).cell? _ = _ := grows x8
        replace y0 : ∀ (n : Nat) (os : Array Obj), (grow (w5.drewN n) os).cell? _ = _ := grows y0; replace y1 : ∀ (n : Nat) (os : Array Obj), (grow (w5.drewN n) os).cell? _ = _ := grows y1; replace y2 : ∀ (n : Nat) (os : Array Obj), (grow (w5.drewN n) os).cell? _ = _ := grows y2; replace y3 : ∀ (n : Nat) (os : Array Obj), (grow (w5.drewN n) os).cell? _ = _ := grows y3; replace y4 : ∀ (n : Nat) (os : Array Obj), (grow (w5.drewN n) os).cell? _ = _ := grows y4; replace y5 : ∀ (n : Nat) (os : Array Obj), (grow (w5.drewN n) os).cell? _ = _ := grows y5; replace y6 : ∀ (n : Nat) (os : Array Obj), (grow (w5.drewN n) os).cell? _ = _ := grows y6; replace y7 : ∀ (n : Nat) (os : Array Obj), (grow (w5.drewN n) os).cell? _ = _ := grows y7; replace y8 : ∀ (n : Nat) (os : Array Obj), (grow (w5.drewN n) os).cell? _ = _ := grows y8
        by_cases hk : x.k = y.k
        · clear ot
          generalize x.k = k1 at *
          generalize y.k = k2 at *
          subst hk
          skip
          go_wp2_with fail
          refine wp_region_quiet_grown (by assumption) (by kernel_rfl) ?_
          repeat (go_big_quiet_step (first | (go_at_call 10; with_reducible refine Calls.grown_of (cxy.out _)) | (go_at_call 10; with_reducible refine Calls.grown_of (cyx.out _)) | (go_at_call 12; with_reducible refine Calls.grown_of (gxy.out _)) | (go_at_call 12; with_reducible refine Calls.grown_of (gyx.out _)) | (go_at_call 12; with_reducible refine Calls.grown_of (gxx.out _))))
          refine wpQuiet_nil ?_
          intro _ hw'
          obtain ⟨⟨nq, osq⟩, hw''⟩ := hw'
          subst hw''
          go_wp2
          go_ret
          exact ⟨rfl, K5.out.trans (Gr.keep ⟨nq, osq, rfl⟩)⟩
        · have hkb : (x.k == y.k) = false := beq_eq_false_iff_ne.2 hk
          have hpu := ot.out hk
          replace hk := Lib.hid hk
          cases u with
          | true =>
            exact absurd hpu (by decide)
          | false =>
            clear ot hpu
            go_wp2_with fail
            refine wp_region_quiet_grown (by assumption) (by kernel_rfl) ?_
            repeat (go_big_quiet_step (first | (go_at_call 10; with_reducible refine Calls.grown_of (cxy.out _)) | (go_at_call 10; with_reducible refine Calls.grown_of (cyx.out _)) | (go_at_call 12; with_reducible refine Calls.grown_of (gxy.out _)) | (go_at_call 12; with_reducible refine Calls.grown_of (gyx.out _)) | (go_at_call 12; with_reducible refine Calls.grown_of (gxx.out _))))
            refine wpQuiet_nil ?_
            intro _ hw'
            obtain ⟨⟨nq, osq⟩, hw''⟩ := hw'
            subst hw''
            go_wp2
            go_ret
            exact ⟨rfl, K5.out.trans (Gr.keep ⟨nq, osq, rfl⟩)⟩
      | false =>
        clear tr
        go_wp2_with fail
        refine (bxy.out _).mono ?_
        rintro e w3 ⟨rfl, h3⟩
        have k3 := Lib.hid h3.keep
        replace x0 := k3.out.cell x0; replace x1 := k3.out.cell x1; replace x2 := k3.out.cell x2; replace x3 := k3.out.cell x3; replace x4 := k3.out.cell x4; replace x5 := k3.out.cell x5; replace x6 := k3.out.cell x6; replace x7 := k3.out.cell x7; replace x8 := k3.out.cell x8
        replace y0 := k3.out.cell y0; replace y1 := k3.out.cell y1; replace y2 := k3.out.cell y2; replace y3 := k3.out.cell y3; replace y4 := k3.out.cell y4; replace y5 := k3.out.cell y5; replace y6 := k3.out.cell y6; replace y7 := k3.out.cell y7; replace y8 := k3.out.cell y8
        replace z0 := k3.out.cell z0; replace z1 := k3.out.cell z1; replace z2 := k3.out.cell z2; replace z3 := k3.out.cell z3; replace z4 := k3.out.cell z4; replace z5 := k3.out.cell z5; replace z6 := k3.out.cell z6; replace z7 := k3.out.cell z7; replace z8 := k3.out.cell z8
        replace h3 := Lib.hid h3
        go_wp2_with fail
        refine (byz.out _).mono ?_
        rintro e w5 ⟨rfl, h5⟩
        have k5 := Lib.hid h5.keep
        replace x0 := k5.out.cell x0; replace x1 := k5.out.cell x1; replace x2 := k5.out.cell x2; replace x3 := k5.out.cell x3; replace x4 := k5.out.cell x4; replace x5 := k5.out.cell x5; replace x6 := k5.out.cell x6; replace x7 := k5.out.cell x7; replace x8 := k5.out.cell x8
        replace y0 := k5.out.cell y0; replace y1 := k5.out.cell y1; replace y2 := k5.out.cell y2; replace y3 := k5.out.cell y3; replace y4 := k5.out.cell y4; replace y5 := k5.out.cell y5; replace y6 := k5.out.cell y6; replace y7 := k5.out.cell y7; replace y8 := k5.out.cell y8
        replace z0 := k5.out.cell z0; replace z1 := k5.out.cell z1; replace z2 := k5.out.cell z2; replace z3 := k5.out.cell z3; replace z4 := k5.out.cell z4; replace z5 := k5.out.cell z5; replace z6 := k5.out.cell z6; replace z7 := k5.out.cell z7; replace z8 := k5.out.cell z8
        replace h5 := Lib.hid h5
        have K5 := Lib.hid (K2.out.trans (k3.out.trans k5.out))
        clear k3 k5 h3 h5 K2
        go_upto_region 5 with fail
        clear z0 z1 z2 z3 z4 z5 z6 z7 z8
        replace x0 : ∀ (n : Nat) (os : Array Obj), (grow (w5.drewN n) os).cell? _ = _ := grows x0; replace x1 : ∀ (n : Nat) (os : Array Obj), (grow (w5.drewN n) os).cell? _ = _ := grows x1; replace x2 : ∀ (n : Nat) (os : Array Obj), (grow (w5.drewN n) os).cell? _ = _ := grows x2; replace x3 : ∀ (n : Nat) (os : Array Obj), (grow (w5.drewN n) os).cell? _ = _ := grows x3; replace x4 : ∀ (n : Nat) (os : Array Obj), (grow (w5.drewN n) os).cell? _ = _ := grows x4; replace x5 : ∀ (n : Nat) (os : Array Obj), (grow (w5.drewN n) os).cell? _ = _ := grows x5; replace x6 : ∀ (n : Nat) (os : Array Obj), (grow (w5.drewN n) os).cell? _ = _ := grows x6; replace x7 : ∀ (n : Nat) (os : Array Obj), (grow (w5.drewN n) os).cell? _ = _ := grows x7; replace x8 : ∀ (n : Nat) (os : Array Obj), (grow (w5.drewN n) os).cell? _ = _ := grows x8
        replace y0 : ∀ (n : Nat) (os : Array Obj), (grow (w5.drewN n) os).cell? _ = _ := grows y0; replace y1 : ∀ (n : Nat) (os : Array Obj), (grow (w5.drewN n) os).cell? _ = _ := grows y1; replace y2 : ∀ (n : Nat) (os : Array Obj), (grow (w5.drewN n) os).cell? _ = _ := grows y2; replace y3 : ∀ (n : Nat) (os : Array Obj), (grow (w5.drewN n) os).cell? _ = _ := grows y3; replace y4 : ∀ (n : Nat) (os : Array Obj), (grow (w5.drewN n) os).cell? _ = _ := grows y4; replace y5 : ∀ (n : Nat) (os : Array Obj), (grow (w5.drewN n) os).cell? _ = _ := grows y5; replace y6 : ∀ (n : Nat) (os : Array Obj), (grow (w5.drewN n) os).cell? _ = _ := grows y6; replace y7 : ∀ (n : Nat) (os : Array Obj), (grow (w5.drewN n) os).cell? _ = _ := grows y7; replace y8 : ∀ (n : Nat) (os : Array Obj), (grow (w5.drewN n) os).cell? _ = _ := grows y8
        by_cases hk : x.k = y.k
        · clear ot
          generalize x.k = k1 at *
          generalize y.k = k2 at *
          subst hk
          skip
          go_wp2_with fail
          refine wp_region_quiet_grown (by assumption) (by kernel_rfl) ?_
          repeat (go_big_quiet_step (first | (go_at_call 10; with_reducible refine Calls.grown_of (cxy.out _)) | (go_at_call 10; with_reducible refine Calls.grown_of (cyx.out _)) | (go_at_call 12; with_reducible refine Calls.grown_of (gxy.out _)) | (go_at_call 12; with_reducible refine Calls.grown_of (gyx.out _)) | (go_at_call 12; with_reducible refine Calls.grown_of (gxx.out _))))
          refine wpQuiet_nil ?_
          intro _ hw'
          obtain ⟨⟨nq, osq⟩, hw''⟩ := hw'
          subst hw''
          go_wp2
          go_ret
          exact ⟨rfl, K5.out.trans (Gr.keep ⟨nq, osq, rfl⟩)⟩
        · have hkb : (x.k == y.k) = false := beq_eq_false_iff_ne.2 hk
          have hpu := ot.out hk
          replace hk := Lib.hid hk
          cases u with
          | true =>
            exact absurd hpu (by decide)
          | false =>
            clear ot hpu
            go_wp2_with fail
            refine wp_region_quiet_grown (by assumption) (by kernel_rfl) ?_
            repeat (go_big_quiet_step (first | (go_at_call 10; with_reducible refine Calls.grown_of (cxy.out _)) | (go_at_call 10; with_reducible refine Calls.grown_of (cyx.out _)) | (go_at_call 12; with_reducible refine Calls.grown_of (gxy.out _)) | (go_at_call 12; with_reducible refine Calls.grown_of (gyx.out _)) | (go_at_call 12; with_reducible refine Calls.grown_of (gxx.out _))))
            refine wpQuiet_nil ?_
            intro _ hw'
            obtain ⟨⟨nq, osq⟩, hw''⟩ := hw'
            subst hw''
            go_wp2
            go_ret
            exact ⟨rfl, K5.out.trans (Gr.keep ⟨nq, osq, rfl⟩)⟩
    | false =>
      clear tr
      go_wp2_with fail
      refine (bxy.out _).mono ?_
      rintro e w5 ⟨rfl, h5⟩
      have k5 := Lib.hid h5.keep
      replace x0 := k5.out.cell x0; replace x1 := k5.out.cell x1; replace x2 := k5.out.cell x2; replace x3 := k5.out.cell x3; replace x4 := k5.out.cell x4; replace x5 := k5.out.cell x5; replace x6 := k5.out.cell x6; replace x7 := k5.out.cell x7; replace x8 := k5.out.cell x8
      replace y0 := k5.out.cell y0; replace y1 := k5.out.cell y1; replace y2 := k5.out.cell y2; replace y3 := k5.out.cell y3; replace y4 := k5.out.cell y4; replace y5 := k5.out.cell y5; replace y6 := k5.out.cell y6; replace y7 := k5.out.cell y7; replace y8 := k5.out.cell y8
      replace z0 := k5.out.cell z0; replace z1 := k5.out.cell z1; replace z2 := k5.out.cell z2; replace z3 := k5.out.cell z3; replace z4 := k5.out.cell z4; replace z5 := k5.out.cell z5; replace z6 := k5.out.cell z6; replace z7 := k5.out.cell z7; replace z8 := k5.out.cell z8
      replace h5 := Lib.hid h5
      have K5 := Lib.hid (K2.out.trans k5.out)
      clear k5 h5 K2
      go_upto_region 5 with fail
      clear z0 z1 z2 z3 z4 z5 z6 z7 z8
      replace x0 : ∀ (n : Nat) (os : Array Obj), (grow (w5.drewN n) os).cell? _ = _ := grows x0; replace x1 : ∀ (n : Nat) (os : Array Obj), (grow (w5.drewN n) os).cell? _ = _ := grows x1; replace x2 : ∀ (n : Nat) (os : Array Obj), (grow (w5.drewN n) os).cell? _ = _ := grows x2; replace x3 : ∀ (n : Nat) (os : Array Obj), (grow (w5.drewN n) os).cell? _ = _ := grows x3; replace x4 : ∀ (n : Nat) (os : Array Obj), (grow (w5.drewN n) os).cell? _ = _ := grows x4; replace x5 : ∀ (n : Nat) (os : Array Obj), (grow (w5.drewN n) os).cell? _ = _ := grows x5; replace x6 : ∀ (n : Nat) (os : Array Obj), (grow (w5.drewN n) os).cell? _ = _ := grows x6; replace x7 : ∀ (n : Nat) (os : Array Obj), (grow (w5.drewN n) os).cell? _ = _ := grows x7; replace x8 : ∀ (n : Nat) (os : Array Obj), (grow (w5.drewN n) os).cell? _ = _ := grows x8
      replace y0 : ∀ (n : Nat) (os : Array Obj), (grow (w5.drewN n) os).cell? _ = _ := grows y0; replace y1 : ∀ (n : Nat) (os : Array Obj), (grow (w5.drewN n) os).cell? _ = _ := grows y1; replace y2 : ∀ (n : Nat) (os : Array Obj), (grow (w5.drewN n) os).cell? _ = _ := grows y2; replace y3 : ∀ (n : Nat) (os : Array Obj), (grow (w5.drewN n) os).cell? _ = _ := grows y3; replace y4 : ∀ (n : Nat) (os : Array Obj), (grow (w5.drewN n) os).cell? _ = _ := grows y4; replace y5 : ∀ (n : Nat) (os : Array Obj), (grow (w5.drewN n) os).cell? _ = _ := grows y5; replace y6 : ∀ (n : Nat) (os : Array Obj), (grow (w5.drewN n) os).cell? _ = _ := grows y6; replace y7 : ∀ (n : Nat) (os : Array Obj), (grow (w5.drewN n) os).cell? _ = _ := grows y7; replace y8 : ∀ (n : Nat) (os : Array Obj), (grow (w5.drewN n) os).cell? _ = _ := grows y8
      by_cases hk : x.k = y.k
      · clear ot
        generalize x.k = k1 at *
        generalize y.k = k2 at *
        subst hk
        skip
        go_wp2_with fail
        refine wp_region_quiet_grown (by assumption) (by kernel_rfl) ?_
        repeat (go_big_quiet_step (first | (go_at_call 10; with_reducible refine Calls.grown_of (cxy.out _)) | (go_at_call 10; with_reducible refine Calls.grown_of (cyx.out _)) | (go_at_call 12; with_reducible refine Calls.grown_of (gxy.out _)) | (go_at_call 12; with_reducible refine Calls.grown_of (gyx.out _)) | (go_at_call 12; with_reducible refine Calls.grown_of (gxx.out _))))
        refine wpQuiet_nil ?_
        intro _ hw'
        obtain ⟨⟨nq, osq⟩, hw''⟩ := hw'
        subst hw''
        go_wp2
        go_ret
        exact ⟨rfl, K5.out.trans (Gr.keep ⟨nq, osq, rfl⟩)⟩
      · have hkb : (x.k == y.k) = false := beq_eq_false_iff_ne.2 hk
        have hpu := ot.out hk
        replace hk := Lib.hid hk
        cases u with
        | true =>
          clear ot hpu
          go_wp2_with fail
          refine wp_region_quiet_grown (by assumption) (by kernel_rfl) ?_
          repeat (go_big_quiet_step (first | (go_at_call 10; with_reducible refine Calls.grown_of (cxy.out _)) | (go_at_call 10; with_reducible refine Calls.grown_of (cyx.out _)) | (go_at_call 12; with_reducible refine Calls.grown_of (gxy.out _)) | (go_at_call 12; with_reducible refine Calls.grown_of (gyx.out _)) | (go_at_call 12; with_reducible refine Calls.grown_of (gxx.out _))))
          refine wpQuiet_nil ?_
          intro _ hw'
          obtain ⟨⟨nq, osq⟩, hw''⟩ := hw'
          subst hw''
          go_wp2
          go_ret
          exact ⟨rfl, K5.out.trans (Gr.keep ⟨nq, osq, rfl⟩)⟩
        | false =>
          exact absurd hpu (by decide)
  · have hfew := Lib.hid (rfew_fn _ 3 3 _ _ RL.out false ⟨fun h => (by cases h), fun h => absurd h hf⟩)
    replace hf := Lib.hid hf
    go_wp2_with fail
    refine hfew.out.mono ?_
    rintro e w2 ⟨rfl, rfl⟩
    go_wp2_with fail
    refine (aw.out _).mono ?_
    rintro e w3 ⟨rfl, k3⟩
    have K3 := Lib.hid (K2.out.trans k3)
    replace k3 := Lib.hid k3
    go_wp2
    go_ret
    exact ⟨rfl, K3.out⟩
end Go.Proofs.Ytflheiodaklceaa
