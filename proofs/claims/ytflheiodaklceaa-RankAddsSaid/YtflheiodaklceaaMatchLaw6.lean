/-
  The walk of RankMatchesReference. No condition.
-/
import Derived.Test.YtflheiodaklceaaTotalLaw6
import Derived.Test.YtflheiodaklceaaLowerLaw6
namespace Go.Proofs.Ytflheiodaklceaa
open Go.RowKit Go.Sort Go.Lib Go.Shelf

theorem few2 (x y : PodV) : FewP (fun t => [x, y].getD t x) 2 → (-1073741824 ≤ x.p ∧ x.p ≤ 1073741824) ∧ (-1073741824 ≤ y.p ∧ y.p ≤ 1073741824) := by
  rintro ⟨_, h⟩
  exact ⟨⟨(h 0 (by omega)).1, (h 0 (by omega)).2.1⟩, ⟨(h 1 (by omega)).1, (h 1 (by omega)).2.1⟩⟩

set_option maxRecDepth 100000 in
set_option maxHeartbeats 16000000 in
theorem matches_walk (A : Option Addr) (n c : Nat) (P : Nat → PodV) (x y : PodV) (w : World) (hR : RdPods w A n P) (hx : PodIs w x) (hy : PodIs w y) : Calls Try.prog 3 #[.slice A n c, x.val, y.val] w fun e w' => e = .returned (.bool true) ∧ Keep w w' := by
  have mixed : Try.prog.follows .mixedOrders = true := by kernel_rfl
  have aw := Lib.hid awake_true
  have hx := Lib.hid hx
  have hy := Lib.hid hy
  replace hR := Lib.hid hR
  have kc := fun W => kcompare_fn x y W
  have kb := fun W => before_fn x y W
  have rc := Lib.hid (fun W h1 h2 => rcompare_fn x y W h1 h2)
  unfold befP at kb
  unfold PodV.val Gr at kc kb
  unfold PodV.val
  replace kc := Lib.hid kc
  replace kb := Lib.hid kb
  go_enter Try.func3, Try.ntmps3
  go_wp2_with fail
  refine (aw.out _).mono ?_
  rintro e w1 ⟨rfl, k1⟩
  have kk : Keep w ((w.alloc (.cells #[.int .i64 x.k, .int .i64 x.p, .bool x.f, .int .i64 x.g, .slice x.A x.m x.c, .int .i64 x.a, .int .i64 x.h, .int .i64 x.d, .int .i64 x.t] 25)).alloc (.cells #[.int .i64 y.k, .int .i64 y.p, .bool y.f, .int .i64 y.g, .slice y.A y.m y.c, .int .i64 y.a, .int .i64 y.h, .int .i64 y.d, .int .i64 y.t] 25)) := ((Keep.refl w).alloc _).alloc _
  have X := ((Cel9.new w x 25 _ rfl).keep (Keep.one _ (.cells #[.int .i64 y.k, .int .i64 y.p, .bool y.f, .int .i64 y.g, .slice y.A y.m y.c, .int .i64 y.a, .int .i64 y.h, .int .i64 y.d, .int .i64 y.t] 25))).keep k1
  have Y := (Cel9.new (w.alloc (.cells #[.int .i64 x.k, .int .i64 x.p, .bool x.f, .int .i64 x.g, .slice x.A x.m x.c, .int .i64 x.a, .int .i64 x.h, .int .i64 x.d, .int .i64 x.t] 25)) y 25 _ rfl).keep k1
  have K1 := Lib.hid (kk.trans k1)
  simp only [World.size_alloc] at Y
  replace k1 := Lib.hid k1
  clear kk
  obtain ⟨b0, hb0⟩ : ∃ b0, b0 = w.heap.size := ⟨_, rfl⟩
  rw [← hb0] at X Y ⊢
  replace hb0 := Lib.hid hb0
  have x0 := X.e0; have x1 := X.e1; have x2 := X.e2; have x3 := X.e3; have x4 := X.e4; have x5 := X.e5; have x6 := X.e6; have x7 := X.e7; have x8 := X.e8
  have y0 := Y.e0; have y1 := Y.e1; have y2 := Y.e2; have y3 := Y.e3; have y4 := Y.e4; have y5 := Y.e5; have y6 := Y.e6; have y7 := Y.e7; have y8 := Y.e8
  clear X Y
  simp only [Nat.zero_add] at x1 x2 x3 x4 x5 x6 x7 x8 y1 y2 y3 y4 y5 y6 y7 y8
  have R1 := Lib.hid (hR.out.keep K1.out)
  have again : Hid (∀ w2, Keep w w2 → Calls Try.prog 8 #[] w2 fun e w' => e = .returned (.bool true) ∧ Keep w w') := fun w2 k => (aw.out w2).mono fun e w' h => ⟨h.1, k.trans h.2⟩
  by_cases hf : FewP P n
  · have hfew := rfew_fn A n c P w1 R1.out true ⟨fun _ => hf, fun _ => rfl⟩
    replace hf := Lib.hid hf
    have RL := Lib.hid (rd_lay1 (W := w1) (w := w) (L := [x, y]) (K1.out.alloc (.cells #[.int .i64 x.k, .int .i64 x.p, .bool x.f, .int .i64 x.g, .slice x.A x.m x.c, .int .i64 x.a, .int .i64 x.h, .int .i64 x.d, .int .i64 x.t, .int .i64 y.k, .int .i64 y.p, .bool y.f, .int .i64 y.g, .slice y.A y.m y.c, .int .i64 y.a, .int .i64 y.h, .int .i64 y.d, .int .i64 y.t] 25)) (by simp) (fun v hv => by
      simp only [List.mem_cons, List.not_mem_nil, or_false] at hv
      rcases hv with rfl | rfl
      · exact hx.out
      · exact hy.out) rfl x)
    have K2 := Lib.hid (K1.out.alloc (.cells #[.int .i64 x.k, .int .i64 x.p, .bool x.f, .int .i64 x.g, .slice x.A x.m x.c, .int .i64 x.a, .int .i64 x.h, .int .i64 x.d, .int .i64 x.t, .int .i64 y.k, .int .i64 y.p, .bool y.f, .int .i64 y.g, .slice y.A y.m y.c, .int .i64 y.a, .int .i64 y.h, .int .i64 y.d, .int .i64 y.t] 25))
    replace hfew := Lib.hid hfew
    go_wp2_with fail
    refine hfew.out.mono ?_
    rintro e w2 ⟨rfl, rfl⟩
    clear hfew
    by_cases hg : FewP (fun t => [x, y].getD t x) 2
    · have hfew2 := rfew_fn _ 2 2 _ _ RL.out true ⟨fun _ => hg, fun _ => rfl⟩
      have hxy := few2 x y hg
      have rc2 := fun W => rc.out W hxy.1 hxy.2
      unfold PodV.val Gr at rc2
      replace rc2 := Lib.hid rc2
      replace hg := Lib.hid hg
      replace hxy := Lib.hid hxy
      clear rc
      replace hfew2 := Lib.hid hfew2
      go_wp2_with fail
      refine hfew2.out.mono ?_
      rintro e w2 ⟨rfl, rfl⟩
      clear hfew2 RL
      have g2 : Hid (Keep w1 (w1.alloc (.cells #[.int .i64 x.k, .int .i64 x.p, .bool x.f, .int .i64 x.g, .slice x.A x.m x.c, .int .i64 x.a, .int .i64 x.h, .int .i64 x.d, .int .i64 x.t, .int .i64 y.k, .int .i64 y.p, .bool y.f, .int .i64 y.g, .slice y.A y.m y.c, .int .i64 y.a, .int .i64 y.h, .int .i64 y.d, .int .i64 y.t] 25))) := Keep.one w1 _
      replace x0 := g2.out.cell x0; replace x1 := g2.out.cell x1; replace x2 := g2.out.cell x2; replace x3 := g2.out.cell x3; replace x4 := g2.out.cell x4; replace x5 := g2.out.cell x5; replace x6 := g2.out.cell x6; replace x7 := g2.out.cell x7; replace x8 := g2.out.cell x8
      replace y0 := g2.out.cell y0; replace y1 := g2.out.cell y1; replace y2 := g2.out.cell y2; replace y3 := g2.out.cell y3; replace y4 := g2.out.cell y4; replace y5 := g2.out.cell y5; replace y6 := g2.out.cell y6; replace y7 := g2.out.cell y7; replace y8 := g2.out.cell y8
      have R2 := Lib.hid (R1.out.keep g2.out)
      clear g2 K1 k1 R1
      generalize w1.alloc (.cells #[.int .i64 x.k, .int .i64 x.p, .bool x.f, .int .i64 x.g, .slice x.A x.m x.c, .int .i64 x.a, .int .i64 x.h, .int .i64 x.d, .int .i64 x.t, .int .i64 y.k, .int .i64 y.p, .bool y.f, .int .i64 y.g, .slice y.A y.m y.c, .int .i64 y.a, .int .i64 y.h, .int .i64 y.d, .int .i64 y.t] 25) = w2 at *
      generalize cmpP x y = r at kc kb rc2
      go_wp2_with fail
      have gx0 := grows x0; have gx1 := grows x1; have gx2 := grows x2; have gx3 := grows x3; have gx4 := grows x4; have gx5 := grows x5; have gx6 := grows x6; have gx7 := grows x7; have gx8 := grows x8
      have gy0 := grows y0; have gy1 := grows y1; have gy2 := grows y2; have gy3 := grows y3; have gy4 := grows y4; have gy5 := grows y5; have gy6 := grows y6; have gy7 := grows y7; have gy8 := grows y8
      clear x0 x1 x2 x3 x4 x5 x6 x7 x8 y0 y1 y2 y3 y4 y5 y6 y7 y8
      refine wp_region_quiet_grown (by assumption) (by kernel_rfl) ?_
      repeat (go_big_quiet_step (first | (go_at_call 10; with_reducible refine Calls.grown_of (kc.out _)) | (go_at_call 11; with_reducible refine Calls.grown_of (rc2.out _)) | (go_at_call 12; with_reducible refine Calls.grown_of (kb.out _))))
      refine wpQuiet_nil ?_
      intro _ hw'
      obtain ⟨⟨nq, osq⟩, hw''⟩ := hw'
      subst hw''
      clear gx0 gx1 gx2 gx3 gx4 gx5 gx6 gx7 gx8 gy0 gy1 gy2 gy3 gy4 gy5 gy6 gy7 gy8
      have R3 := Lib.hid (R2.out.keep (Gr.keep ⟨nq, osq, rfl⟩))
      have K3 := Lib.hid (K2.out.trans (Gr.keep ⟨nq, osq, rfl⟩))
      clear R2 K2 kc kb rc2 hx hy hg hxy
      generalize grow (w2.drewN nq) osq = w3 at *
      have hn := hf.out.1
      have ps : Hid (∀ j, j < n → -1073741824 ≤ (P j).p ∧ (P j).p ≤ 1073741824) := fun j hj => ⟨(hf.out.2 j hj).1, (hf.out.2 j hj).2.1⟩
      go_wp2_with fail
      refine (rsort_fn A n c P _ R3.out (by omega) ps.out).mono ?_
      rintro e w4 ⟨v4, rfl, k4, A4, c4, T, rfl, RS, PT, ST⟩
      have R4 := Lib.hid (R3.out.keep k4)
      have K4 := Lib.hid (K3.out.trans k4)
      replace k4 := Lib.hid k4
      replace RS := Lib.hid RS
      replace PT := Lib.hid PT
      replace ST := Lib.hid ST
      have hsort := fun W (k : Keep w4 W) => ksort_fn A n c P W (R4.out.keep k) (by omega) (fun j hj => by have := (hf.out.2 j hj).2.2; omega)
      replace hsort := Lib.hid hsort
      go_wp2_with fail
      refine (least_fn A n c P _ R4.out).mono ?_
      rintro e w5 ⟨rfl, k5⟩
      have R5 := Lib.hid (R4.out.keep k5)
      have K5 := Lib.hid (K4.out.trans k5)
      have RS5 := Lib.hid (RS.out.keep k5)
      have k45 := Lib.hid k5
      clear k5 RS
      have hd := @least_head P n T
      have hfi : Hid (∀ k, k < leastI P n → cmpP (P k) (P (leastI P n)) ≠ 0) := fun k h => least_first h
      have hlt := leastI_lt P n
      obtain ⟨li, hli⟩ : ∃ li, li = leastI P n := ⟨_, rfl⟩
      rw [← hli] at hd hfi hlt ⊢
      have fin : Hid (∀ W, Keep w5 W → Calls Try.prog 17 #[.slice A n c] W fun e w' => ∃ g S, e = .returned (.slice (some ⟨g, 0, none⟩) n n) ∧ Keep W w' ∧ Calls Try.prog 16 #[.slice (some ⟨g, 0, none⟩) n n, .slice A4 n c4] w' fun e w'' => e = .returned (.bool true) ∧ Keep w' w'') := fun W k => by
        refine (hsort.out W (k45.out.trans k)).mono ?_
        rintro e w6 ⟨v, rfl, k6, g, rfl, _, _, _, S, dk, rS, _, pS, sS, cS⟩
        have od := one_row (cmpP_swo P) pS sS PT.out ST.out
        exact ⟨g, S, rfl, k6, rsame6_fn (some ⟨g, 0, none⟩) A4 n n c4 S (fun t => P (T.getD t 0)) w6 rS ((RS5.out.keep k).keep k6) (fun j hj => by rw [← od j hj]; exact cS j hj)⟩
      clear hsort k45
      by_cases h0 : 0 < n
      · have hd2 := hd h0 PT.out ST.out
        have hln := hlt h0
        rw [decide_eq_true h0]
        replace hd2 := Lib.hid hd2
        clear hd hlt
        replace hli := Lib.hid hli
        have h0z : (0 : Int) < (n : Int) := by omega
        have l0z : ¬ (li : Int) < 0 := by omega
        have l1z : (li : Int) < (n : Int) := by omega
        have l2z : ¬ (n : Int) ≤ (li : Int) := by omega
        have d0z : decide ((li : Int) < 0) = false := decide_eq_false l0z
        have d2z : decide ((n : Int) ≤ (li : Int)) = false := decide_eq_false l2z
        have d3z : decide (n ≤ li) = false := decide_eq_false (by omega)
        obtain ⟨b, off, hA, ca⟩ := R5.out.adr h0
        subst hA
        obtain ⟨b4, off4, hA4, ca4⟩ := RS5.out.adr h0
        subst hA4
        have q1 := pods_at b off n c li hln
        have q2 := pods_at b4 off4 n c4 0 h0
        simp only [Nat.zero_mul, Nat.add_zero, Int.natCast_zero] at q2
        have X := ca li hln
        have Z := ca4 0 h0
        rw [hd2.out, Nat.zero_mul, Nat.add_zero] at Z
        have il := R5.out.is li hln
        have zz : Hid (∀ W, Keep w5 W → Calls Try.prog 15 #[(P li).val, (P li).val] W fun e w' => e = .returned (.bool true) ∧ Gr W w') := fun W k => rsamepod_fn _ _ W (SameV.refl _) (il.keep k) (il.keep k)
        obtain ⟨u, hu⟩ : ∃ u, u = P li := ⟨_, rfl⟩
        rw [← hu] at X Z zz
        have sp := fun (n : Nat) (os : Array Obj) => zz.out (grow (w5.drewN n) os) (Gr.keep ⟨n, os, rfl⟩)
        unfold PodV.val Gr at sp
        replace sp := Lib.hid sp
        clear zz
        replace il := Lib.hid il
        replace hu := Lib.hid hu
        replace ca := Lib.hid ca
        replace ca4 := Lib.hid ca4
        have x0 := X.e0; have x1 := X.e1; have x2 := X.e2; have x3 := X.e3; have x4 := X.e4; have x5 := X.e5; have x6 := X.e6; have x7 := X.e7; have x8 := X.e8
        have z0 := Z.e0; have z1 := Z.e1; have z2 := Z.e2; have z3 := Z.e3; have z4 := Z.e4; have z5 := Z.e5; have z6 := Z.e6; have z7 := Z.e7; have z8 := Z.e8
        clear X Z
        go_wp2_with fail
        have gx0 := grows x0; have gx1 := grows x1; have gx2 := grows x2; have gx3 := grows x3; have gx4 := grows x4; have gx5 := grows x5; have gx6 := grows x6; have gx7 := grows x7; have gx8 := grows x8
        have gz0 := grows z0; have gz1 := grows z1; have gz2 := grows z2; have gz3 := grows z3; have gz4 := grows z4; have gz5 := grows z5; have gz6 := grows z6; have gz7 := grows z7; have gz8 := grows z8
        clear x0 x1 x2 x3 x4 x5 x6 x7 x8 z0 z1 z2 z3 z4 z5 z6 z7 z8
        refine wp_region_quiet_grown (by assumption) (by kernel_rfl) ?_
        repeat (go_big_quiet_step (first | (go_at_call 15; with_reducible refine Calls.grown_of (sp.out _ _))))
        refine wpQuiet_nil ?_
        intro _ hw'
        obtain ⟨⟨nq, osq⟩, hw''⟩ := hw'
        subst hw''
        clear gx0 gx1 gx2 gx3 gx4 gx5 gx6 gx7 gx8 gz0 gz1 gz2 gz3 gz4 gz5 gz6 gz7 gz8
        have G6 : Hid (Gr w5 (grow (w5.drewN nq) osq)) := ⟨nq, osq, rfl⟩
        clear sp q2 ca4
        generalize grow (w5.drewN nq) osq = w6 at *
        go_wp2
        go_loopg [10] li (fun gx s10 wr => ∃ k : Nat, k ≤ li ∧ gx = li - k ∧ s10 = .int .i64 k ∧ Hid (Gr w5 wr))
        case atStart => exact ⟨0, Nat.zero_le _, rfl, rfl, G6⟩
        case round =>
          clear G6
          obtain ⟨k, hk, rfl, rfl, G⟩ := hrel
          by_cases hkl : k < li
          · have hkz : (k : Int) < (li : Int) := by omega
            have q3 := pods_at b off n c k (by omega)
            have X := (ca.out li hln).keep G.out.keep
            have Y := (ca.out k (by omega)).keep G.out.keep
            rw [← hu.out] at X
            have hne : cmpP (P k) u ≠ 0 := by rw [hu.out]; exact hfi.out k (by exact hkl)
            have rk := fun W => rcompare_fn (P k) u W (ps.out k (by omega)) (by rw [hu.out]; exact ps.out li hln)
            generalize cmpP (P k) u = r at hne rk
            generalize P k = y at Y rk
            unfold PodV.val Gr at rk
            replace rk := Lib.hid rk
            have hb : (r == 0) = false := beq_eq_false_iff_ne.2 hne
            replace hne := Lib.hid hne
            have x0 := X.e0; have x1 := X.e1; have x2 := X.e2; have x3 := X.e3; have x4 := X.e4; have x5 := X.e5; have x6 := X.e6; have x7 := X.e7; have x8 := X.e8
            have y0 := Y.e0; have y1 := Y.e1; have y2 := Y.e2; have y3 := Y.e3; have y4 := Y.e4; have y5 := Y.e5; have y6 := Y.e6; have y7 := Y.e7; have y8 := Y.e8
            clear X Y
            go_wp2_with fail
            have gx0 := grows x0; have gx1 := grows x1; have gx2 := grows x2; have gx3 := grows x3; have gx4 := grows x4; have gx5 := grows x5; have gx6 := grows x6; have gx7 := grows x7; have gx8 := grows x8
            have gy0 := grows y0; have gy1 := grows y1; have gy2 := grows y2; have gy3 := grows y3; have gy4 := grows y4; have gy5 := grows y5; have gy6 := grows y6; have gy7 := grows y7; have gy8 := grows y8
            clear x0 x1 x2 x3 x4 x5 x6 x7 x8 y0 y1 y2 y3 y4 y5 y6 y7 y8
            refine wp_region_quiet_grown (by assumption) (by kernel_rfl) ?_
            repeat (go_big_quiet_step (first | (go_at_call 11; with_reducible refine Calls.grown_of (rk.out _))))
            refine wpQuiet_nil ?_
            intro _ hw'
            obtain ⟨⟨nq, osq⟩, hw''⟩ := hw'
            subst hw''
            clear gx0 gx1 gx2 gx3 gx4 gx5 gx6 gx7 gx8 gy0 gy1 gy2 gy3 gy4 gy5 gy6 gy7 gy8
            have G2 : Hid (Gr w5 (grow (wr.drewN nq) osq)) := G.out.trans ⟨nq, osq, rfl⟩
            generalize grow (wr.drewN nq) osq = w7 at G2 ⊢
            go_wp2
            go_roundg (li - (k + 1))
            case measure => omega
            case rel => exact ⟨k + 1, hkl, rfl, by go_num, G2⟩
          · obtain rfl : k = li := by omega
            go_wp2_with fail
            refine (fin.out _ G.out.keep).mono ?_
            rintro e w7 ⟨g, S, rfl, k7, hs⟩
            replace hs := Lib.hid hs
            have K7 := Lib.hid (K5.out.trans (G.out.keep.trans k7))
            replace k7 := Lib.hid k7
            go_wp2_with fail
            refine hs.out.mono ?_
            rintro e w8 ⟨rfl, k8⟩
            have K8 := Lib.hid (K7.out.trans k8)
            replace k8 := Lib.hid k8
            go_wp2
            go_ret
            exact ⟨rfl, K8.out⟩
      · obtain rfl : n = 0 := by omega
        obtain rfl : li = 0 := by rw [hli]; rfl
        rw [decide_eq_false h0]
        clear hd hlt
        replace hli := Lib.hid hli
        go_wp2_with fail
        refine wp_region_quiet_grown (by assumption) (by kernel_rfl) ?_
        repeat (go_big_quiet_step (first | fail))
        refine wpQuiet_nil ?_
        intro _ hw'
        obtain ⟨⟨nq, osq⟩, hw''⟩ := hw'
        subst hw''
        have G6 : Hid (Gr w5 (grow (w5.drewN nq) osq)) := ⟨nq, osq, rfl⟩
        generalize grow (w5.drewN nq) osq = w6 at *
        go_wp2
        go_loopg [10] 0 (fun gx s10 wr => gx = 0 ∧ s10 = .int .i64 0 ∧ Hid (w6 = wr))
        case atStart => exact ⟨rfl, rfl, rfl⟩
        case round =>
          obtain ⟨rfl, rfl, G⟩ := hrel
          have G := G.out
          subst G
          go_wp2_with fail
          refine (fin.out _ G6.out.keep).mono ?_
          rintro e w7 ⟨g, S, rfl, k7, hs⟩
          replace hs := Lib.hid hs
          have K7 := Lib.hid (K5.out.trans (G6.out.keep.trans k7))
          replace k7 := Lib.hid k7
          go_wp2_with fail
          refine hs.out.mono ?_
          rintro e w8 ⟨rfl, k8⟩
          have K8 := Lib.hid (K7.out.trans k8)
          replace k8 := Lib.hid k8
          go_wp2
          go_ret
          exact ⟨rfl, K8.out⟩
    · have hfew2 := rfew_fn _ 2 2 _ _ RL.out false ⟨fun h => (by cases h), fun h => absurd h hg⟩
      replace hg := Lib.hid hg
      replace hfew2 := Lib.hid hfew2
      go_wp2_with fail
      refine hfew2.out.mono ?_
      rintro e w2 ⟨rfl, rfl⟩
      go_wp2_with fail
      refine (again.out _ K2.out).mono ?_
      rintro e w3 ⟨rfl, K3⟩
      replace K3 := Lib.hid K3
      go_wp2
      go_ret
      exact ⟨rfl, K3.out⟩
  · have hfew := rfew_fn A n c P w1 R1.out false ⟨fun h => (by cases h), fun h => absurd h hf⟩
    replace hf := Lib.hid hf
    replace hfew := Lib.hid hfew
    go_wp2_with fail
    refine hfew.out.mono ?_
    rintro e w2 ⟨rfl, rfl⟩
    go_wp2_with fail
    refine (again.out _ K1.out).mono ?_
    rintro e w3 ⟨rfl, K3⟩
    replace K3 := Lib.hid K3
    go_wp2
    go_ret
    exact ⟨rfl, K3.out⟩
end Go.Proofs.Ytflheiodaklceaa
