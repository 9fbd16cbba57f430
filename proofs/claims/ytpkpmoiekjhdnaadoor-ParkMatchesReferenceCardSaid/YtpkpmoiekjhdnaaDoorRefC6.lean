/-
  The reference's Few, Compare, SamePod, Same. Conditions: as each says.
-/
import Derived.Test.YtpkpmoiekjhdnaaDoorRowP6
import Derived.Test.YtpkpmoiekjhdnaaDoorVec6
namespace Go.Proofs.YtpkpmoiekjhdnaaDoor
open Go.RowKit Go.Sort Go.Shelf

def FewP (P : Nat → PodV) (n : Nat) : Prop := n ≤ 100 ∧ ∀ j, j < n → -1073741824 ≤ (P j).p ∧ (P j).p ≤ 1073741824 ∧ (P j).m ≤ 20
set_option maxRecDepth 100000 in
set_option maxHeartbeats 4000000 in
theorem rfew_fn (A : Option Addr) (n c : Nat) (P : Nat → PodV) (w : World) (hR : RdPods w A n P) (b : Bool) (hb : b = true ↔ FewP P n) :
    Calls Tryd.prog 19 #[.slice A n c] w fun e w' => e = .returned (.bool b) ∧ w = w' := by
  have hn := hR.small
  replace hR := Lib.hid hR
  replace hb := Lib.hid hb
  go_enter Tryd.func19, Tryd.ntmps19
  go_wp2
  go_loopg [3] n (fun gx s3 wr => ∃ j : Nat, j ≤ n ∧ gx = n - j ∧ s3 = .int .i64 j ∧ Hid (w = wr) ∧ Hid (∀ t, t < j → -1073741824 ≤ (P t).p ∧ (P t).p ≤ 1073741824 ∧ (P t).m ≤ 20))
  case atStart => exact ⟨0, Nat.zero_le _, rfl, rfl, rfl, fun t ht => absurd ht (Nat.not_lt_zero _)⟩
  case round =>
    obtain ⟨j, hj, rfl, rfl, G, I⟩ := hrel
    have G := G.out
    subst G
    by_cases hlt : j < n
    · obtain ⟨bb, off, hA, ca⟩ := hR.out.adr (by omega)
      subst hA
      have q1 := pods_at bb off n c j hlt
      have X := ca j hlt
      clear ca
      obtain ⟨x, hx⟩ : ∃ x, x = P j := ⟨_, rfl⟩
      rw [← hx] at X
      have no : Hid (¬ (-1073741824 ≤ x.p ∧ x.p ≤ 1073741824 ∧ x.m ≤ 20) → b = false) := fun h => by
        cases hc : b with
        | false => rfl
        | true => exact absurd ((hb.out.1 hc).2 j hlt) (by rw [← hx]; exact h)
      have x1 := X.e1
      have x4 := X.e4
      clear X
      have yes : Hid ((-1073741824 ≤ x.p ∧ x.p ≤ 1073741824 ∧ x.m ≤ 20) → ∀ t, t < j + 1 → -1073741824 ≤ (P t).p ∧ (P t).p ≤ 1073741824 ∧ (P t).m ≤ 20) := fun h t ht => by
        by_cases e : t = j
        · rw [e, ← hx]; exact h
        · exact I.out t (by omega)
      replace hx := Lib.hid hx
      by_cases h1 : x.p < -1073741824
      · have e := Lib.hid (no.out (by omega))
        go_wp2
        go_ret
        exact ⟨by rw [e.out]; rfl, rfl⟩
      · by_cases h2 : 1073741824 < x.p
        · have e := Lib.hid (no.out (by omega))
          go_wp2
          go_ret
          exact ⟨by rw [e.out]; rfl, rfl⟩
        · by_cases h3 : 20 < x.m
          · have e := Lib.hid (no.out (by omega))
            have h3z : (20 : Int) < (x.m : Int) := by omega
            go_wp2
            go_ret
            exact ⟨by rw [e.out]; rfl, rfl⟩
          · have e := Lib.hid (yes.out ⟨by omega, by omega, by omega⟩)
            have h3z : ¬ (20 : Int) < (x.m : Int) := by omega
            go_wp2
            go_roundg (n - (j + 1))
            case measure => omega
            case rel => exact ⟨j + 1, hlt, rfl, by go_num, rfl, e⟩
    · obtain rfl : j = n := by omega
      by_cases h1 : j ≤ 100
      · have e : Hid (b = true) := hb.out.2 ⟨h1, I.out⟩
        have hz : (j : Int) ≤ 100 := by omega
        go_wp2
        go_ret
        exact ⟨by rw [e.out]; rfl, rfl⟩
      · have e : Hid (b = false) := by
          cases hc : b with
          | false => exact rfl
          | true => exact absurd (hb.out.1 hc).1 h1
        have hz : ¬ (j : Int) ≤ 100 := by omega
        go_wp2
        go_ret
        exact ⟨by rw [e.out]; rfl, rfl⟩

theorem cmpP_of (x y : PodV) : cmpP x y = if -x.p < -y.p then -1 else if -y.p < -x.p then 1 else if x.a < y.a then -1 else if y.a < x.a then 1 else if x.k < y.k then -1 else if y.k < x.k then 1 else 0 := by
  unfold cmpP or3 cmpI
  repeat' split
  all_goals omega

set_option maxRecDepth 100000 in
set_option maxHeartbeats 8000000 in
theorem rcompare_fn (x y : PodV) (w : World) (hx : -1073741824 ≤ x.p ∧ x.p ≤ 1073741824) (hy : -1073741824 ≤ y.p ∧ y.p ≤ 1073741824) :
    Calls Tryd.prog 36 #[x.val, y.val] w fun e w' => e = .returned (.int .i64 (cmpP x y)) ∧ Gr w w' := by
  have mixed : Tryd.prog.follows .mixedOrders = true := by kernel_rfl
  obtain ⟨r, hr⟩ : ∃ r, r = cmpP x y := ⟨_, rfl⟩
  rw [← hr]
  rw [cmpP_of] at hr
  replace hr := Lib.hid hr
  have w1 : IntKind.i64.wrap (-x.p) = -x.p := by rw [IntKind.wrap_i64]; omega
  have w2 : IntKind.i64.wrap (-y.p) = -y.p := by rw [IntKind.wrap_i64]; omega
  unfold PodV.val
  go_enter Tryd.func36, Tryd.ntmps36
  go_upto_region 3 with fail
  have g0 := ((((Gr.refl w).alloc (.cells #[.int .i64 x.k, .int .i64 x.p, .bool x.f, .int .i64 x.g, .slice x.A x.m x.c, .int .i64 x.a, .int .i64 x.h, .int .i64 x.d, .int .i64 x.t] 35)).alloc (.cells #[.int .i64 y.k, .int .i64 y.p, .bool y.f, .int .i64 y.g, .slice y.A y.m y.c, .int .i64 y.a, .int .i64 y.h, .int .i64 y.d, .int .i64 y.t] 35)).alloc (.cells #[.int .i64 (-x.p), .int .i64 x.a, .int .i64 x.k] 3)).alloc (.cells #[.int .i64 (-y.p), .int .i64 y.a, .int .i64 y.k] 3)
  obtain ⟨w0, hw0⟩ : ∃ w0, w0 = (((w.alloc (.cells #[.int .i64 x.k, .int .i64 x.p, .bool x.f, .int .i64 x.g, .slice x.A x.m x.c, .int .i64 x.a, .int .i64 x.h, .int .i64 x.d, .int .i64 x.t] 35)).alloc (.cells #[.int .i64 y.k, .int .i64 y.p, .bool y.f, .int .i64 y.g, .slice y.A y.m y.c, .int .i64 y.a, .int .i64 y.h, .int .i64 y.d, .int .i64 y.t] 35)).alloc (.cells #[.int .i64 (-x.p), .int .i64 x.a, .int .i64 x.k] 3)).alloc (.cells #[.int .i64 (-y.p), .int .i64 y.a, .int .i64 y.k] 3) := ⟨_, rfl⟩
  have c0 : w0.cell? ⟨w.heap.size + 1 + 1, 0, none⟩ = some (.int .i64 (-x.p)) := by rw [hw0]; simp (maxDischargeDepth := 12) [go_sem]
  have c1 : w0.cell? ⟨w.heap.size + 1 + 1, 1, none⟩ = some (.int .i64 x.a) := by rw [hw0]; simp (maxDischargeDepth := 12) [go_sem]
  have c2 : w0.cell? ⟨w.heap.size + 1 + 1, 2, none⟩ = some (.int .i64 x.k) := by rw [hw0]; simp (maxDischargeDepth := 12) [go_sem]
  have d0 : w0.cell? ⟨w.heap.size + 1 + 1 + 1, 0, none⟩ = some (.int .i64 (-y.p)) := by rw [hw0]; simp (maxDischargeDepth := 12) [go_sem]
  have d1 : w0.cell? ⟨w.heap.size + 1 + 1 + 1, 1, none⟩ = some (.int .i64 y.a) := by rw [hw0]; simp (maxDischargeDepth := 12) [go_sem]
  have d2 : w0.cell? ⟨w.heap.size + 1 + 1 + 1, 2, none⟩ = some (.int .i64 y.k) := by rw [hw0]; simp (maxDischargeDepth := 12) [go_sem]
  rw [← hw0] at g0 ⊢
  replace g0 := Lib.hid g0
  replace hw0 := Lib.hid hw0
  obtain ⟨u, hu⟩ : ∃ u, u = -x.p := ⟨_, rfl⟩
  obtain ⟨v, hv⟩ : ∃ v, v = -y.p := ⟨_, rfl⟩
  rw [← hu] at c0
  rw [← hv] at d0
  have hr2 : Hid (r = if u < v then -1 else if v < u then 1 else if x.a < y.a then -1 else if y.a < x.a then 1 else if x.k < y.k then -1 else if y.k < x.k then 1 else 0) := by show _ = _; rw [hu, hv]; exact hr.out
  clear hr
  have hr := hr2
  have huv : Hid (u = v → x.p = y.p) := fun h => by omega
  have hvu : Hid (x.p = y.p → u = v) := fun h => by omega
  replace hu := Lib.hid hu
  replace hv := Lib.hid hv
  go_wp2
  go_loopg [7] 3 (fun gx s7 wr => ∃ j : Nat, j ≤ 3 ∧ gx = 3 - j ∧ s7 = .int .i64 j ∧ Hid (Drawn w0 wr) ∧ Hid ((0 < j → x.p = y.p) ∧ (1 < j → x.a = y.a) ∧ (2 < j → x.k = y.k)))
  case atStart => exact ⟨0, by omega, rfl, rfl, Drawn.refl _, ⟨fun h => by omega, fun h => by omega, fun h => by omega⟩⟩
  case round =>
    obtain ⟨j, hj, rfl, rfl, D, I⟩ := hrel
    have e0 := D.out.keep.cell c0
    have e1 := D.out.keep.cell c1
    have e2 := D.out.keep.cell c2
    have f0 := D.out.keep.cell d0
    have f1 := D.out.keep.cell d1
    have f2 := D.out.keep.cell d2
    have gg : Hid (∀ q, Gr w (wr.drewN q)) := fun q => by
      obtain ⟨p, hp⟩ := D.out
      rw [hp]
      exact (g0.out.drewN p).drewN q
    have gg2 : Hid (∀ p q, Gr w ((wr.drewN p).drewN q)) := fun p q => (gg.out p).drewN q
    have dd : Hid (∀ q, Drawn w0 (wr.drewN q)) := fun q => D.out.drewN q
    have dd2 : Hid (∀ p q, Drawn w0 ((wr.drewN p).drewN q)) := fun p q => (dd.out p).drewN q
    have gr0 : Hid (Gr w wr) := by
      obtain ⟨p, hp⟩ := D.out
      rw [hp]
      exact g0.out.drewN p
    obtain rfl | rfl | rfl | rfl : j = 0 ∨ j = 1 ∨ j = 2 ∨ j = 3 := by omega
    · by_cases hlt : u < v
      · have e : Hid (r = -1) := by show _ = _; rw [hr.out, if_pos hlt]
        have hd : decide (u < v) = true := decide_eq_true hlt
        replace hlt := Lib.hid hlt
        go_wp2
        go_quiet (fail)
        go_wp2
        go_ret
        exact ⟨by rw [e.out]; rfl, gg.out _⟩
      · by_cases hgt : v < u
        · have e : Hid (r = 1) := by show _ = _; rw [hr.out, if_neg hlt, if_pos hgt]
          have hd : decide (u < v) = false := decide_eq_false hlt
          have hd2 : decide (v < u) = true := decide_eq_true hgt
          replace hlt := Lib.hid hlt
          replace hgt := Lib.hid hgt
          go_wp2
          go_quiet (fail)
          go_wp2
          go_quiet (fail)
          go_wp2
          go_ret
          exact ⟨by rw [e.out]; rfl, by first | exact gg.out _ | exact gg2.out _ _⟩
        · have e : Hid (x.p = y.p) := huv.out (by omega)
          have hd : decide (u < v) = false := decide_eq_false hlt
          have hd2 : decide (v < u) = false := decide_eq_false hgt
          replace hlt := Lib.hid hlt
          replace hgt := Lib.hid hgt
          go_wp2
          go_quiet (fail)
          go_wp2
          go_quiet (fail)
          go_wp2
          go_roundg 2
          case measure => omega
          case rel => exact ⟨1, by omega, rfl, by go_num, by first | exact dd.out _ | exact dd2.out _ _, ⟨fun _ => e.out, fun h => by omega, fun h => by omega⟩⟩
    · by_cases hlt : x.a < y.a
      · have e : Hid (r = -1) := by show _ = _; rw [hr.out, if_neg (by have := hvu.out (I.out.1 (by omega)); omega), if_neg (by have := hvu.out (I.out.1 (by omega)); omega), if_pos hlt]
        have hd : decide (x.a < y.a) = true := decide_eq_true hlt
        replace hlt := Lib.hid hlt
        go_wp2
        go_quiet (fail)
        go_wp2
        go_ret
        exact ⟨by rw [e.out]; rfl, gg.out _⟩
      · by_cases hgt : y.a < x.a
        · have e : Hid (r = 1) := by show _ = _; rw [hr.out, if_neg (by have := hvu.out (I.out.1 (by omega)); omega), if_neg (by have := hvu.out (I.out.1 (by omega)); omega), if_neg hlt, if_pos hgt]
          have hd : decide (x.a < y.a) = false := decide_eq_false hlt
          have hd2 : decide (y.a < x.a) = true := decide_eq_true hgt
          replace hlt := Lib.hid hlt
          replace hgt := Lib.hid hgt
          go_wp2
          go_quiet (fail)
          go_wp2
          go_quiet (fail)
          go_wp2
          go_ret
          exact ⟨by rw [e.out]; rfl, by first | exact gg.out _ | exact gg2.out _ _⟩
        · have e : Hid (x.a = y.a) := by show _ = _; omega
          have hd : decide (x.a < y.a) = false := decide_eq_false hlt
          have hd2 : decide (y.a < x.a) = false := decide_eq_false hgt
          replace hlt := Lib.hid hlt
          replace hgt := Lib.hid hgt
          go_wp2
          go_quiet (fail)
          go_wp2
          go_quiet (fail)
          go_wp2
          go_roundg 1
          case measure => omega
          case rel => exact ⟨2, by omega, rfl, by go_num, by first | exact dd.out _ | exact dd2.out _ _, ⟨fun _ => I.out.1 (by omega), fun _ => e.out, fun h => by omega⟩⟩
    · by_cases hlt : x.k < y.k
      · have e : Hid (r = -1) := by show _ = _; rw [hr.out, if_neg (by have := hvu.out (I.out.1 (by omega)); omega), if_neg (by have := hvu.out (I.out.1 (by omega)); omega), if_neg (by have := I.out.2.1 (by omega); omega), if_neg (by have := I.out.2.1 (by omega); omega), if_pos hlt]
        have hd : decide (x.k < y.k) = true := decide_eq_true hlt
        replace hlt := Lib.hid hlt
        go_wp2
        go_quiet (fail)
        go_wp2
        go_ret
        exact ⟨by rw [e.out]; rfl, gg.out _⟩
      · by_cases hgt : y.k < x.k
        · have e : Hid (r = 1) := by show _ = _; rw [hr.out, if_neg (by have := hvu.out (I.out.1 (by omega)); omega), if_neg (by have := hvu.out (I.out.1 (by omega)); omega), if_neg (by have := I.out.2.1 (by omega); omega), if_neg (by have := I.out.2.1 (by omega); omega), if_neg hlt, if_pos hgt]
          have hd : decide (x.k < y.k) = false := decide_eq_false hlt
          have hd2 : decide (y.k < x.k) = true := decide_eq_true hgt
          replace hlt := Lib.hid hlt
          replace hgt := Lib.hid hgt
          go_wp2
          go_quiet (fail)
          go_wp2
          go_quiet (fail)
          go_wp2
          go_ret
          exact ⟨by rw [e.out]; rfl, by first | exact gg.out _ | exact gg2.out _ _⟩
        · have e : Hid (x.k = y.k) := by show _ = _; omega
          have hd : decide (x.k < y.k) = false := decide_eq_false hlt
          have hd2 : decide (y.k < x.k) = false := decide_eq_false hgt
          replace hlt := Lib.hid hlt
          replace hgt := Lib.hid hgt
          go_wp2
          go_quiet (fail)
          go_wp2
          go_quiet (fail)
          go_wp2
          go_roundg 0
          case measure => omega
          case rel => exact ⟨3, by omega, rfl, by go_num, by first | exact dd.out _ | exact dd2.out _ _, ⟨fun _ => I.out.1 (by omega), fun _ => I.out.2.1 (by omega), fun _ => e.out⟩⟩
    · have e : Hid (r = 0) := by show _ = _; rw [hr.out, if_neg (by have := hvu.out (I.out.1 (by omega)); omega), if_neg (by have := hvu.out (I.out.1 (by omega)); omega), if_neg (by have := I.out.2.1 (by omega); omega), if_neg (by have := I.out.2.1 (by omega); omega), if_neg (by have := I.out.2.2 (by omega); omega), if_neg (by have := I.out.2.2 (by omega); omega)]
      go_wp2
      go_ret
      exact ⟨by rw [e.out]; rfl, gr0.out⟩

set_option maxRecDepth 100000 in
set_option maxHeartbeats 8000000 in
theorem rsamepod_fn (x y : PodV) (w : World) (h : SameV x y) (hx : PodIs w x) (hy : PodIs w y) : Calls Tryd.prog 28 #[x.val, y.val] w fun e w' => e = .returned (.bool true) ∧ Gr w w' := by
  obtain ⟨A', c', rfl⟩ := h
  have hs := fun W (K : Keep w W) => rsame_is A' y.A y.m y.m c' y.c y.Z y.Z W (hx.rd.keep K) (hy.rd.keep K) true (decide_eq_true ⟨rfl, fun _ _ => rfl⟩)
  replace hs := Lib.hid hs
  clear hx hy
  unfold PodV.at PodV.val
  go_enter Tryd.func28, Tryd.ntmps28
  go_wp2_with fail
  refine (hs.out _ (((Keep.refl w).alloc _).alloc _)).mono ?_
  rintro e w1 ⟨rfl, q, rfl⟩
  go_wp2
  go_ret
  exact ⟨rfl, (((Gr.refl w).alloc _).alloc _).drewN q⟩

set_option maxRecDepth 100000 in
set_option maxHeartbeats 8000000 in
theorem rsame6_fn (A B : Option Addr) (n c d : Nat) (P Q : Nat → PodV) (w : World) (hP : RdPods w A n P) (hQ : RdPods w B n Q) (hs : ∀ j, j < n → SameV (P j) (Q j)) :
    Calls Tryd.prog 12 #[.slice A n c, .slice B n d] w fun e w' => e = .returned (.bool true) ∧ Keep w w' := by
  have mixed : Tryd.prog.follows .mixedOrders = true := by kernel_rfl
  have hn := hP.small
  replace hP := Lib.hid hP
  replace hQ := Lib.hid hQ
  replace hs := Lib.hid hs
  go_enter Tryd.func12, Tryd.ntmps12
  go_wp2
  go_loopg [5] n (fun gx s5 wr => ∃ j : Nat, j ≤ n ∧ gx = n - j ∧ s5 = .int .i64 j ∧ Hid (Gr w wr))
  case atStart => exact ⟨0, Nat.zero_le _, rfl, rfl, Gr.refl _⟩
  case round =>
    obtain ⟨j, hj, rfl, rfl, G⟩ := hrel
    by_cases hlt : j < n
    · have R1 := hP.out.keep G.out.keep
      have R2 := hQ.out.keep G.out.keep
      obtain ⟨b, off, hA, ca⟩ := R1.adr (by omega)
      subst hA
      obtain ⟨b', off', hB, cb⟩ := R2.adr (by omega)
      subst hB
      have q1 := pods_at b off n c j hlt
      have q2 := pods_at b' off' n d j hlt
      have X := ca j hlt
      have Y := cb j hlt
      have hk : ∀ (n : Nat) (os : Array Obj), Calls Tryd.prog 28 #[(P j).val, (Q j).val] (grow (wr.drewN n) os) fun e w' => e = .returned (.bool true) ∧ ∃ q os', w' = grow ((grow (wr.drewN n) os).drewN q) os' :=
        fun n os => rsamepod_fn (P j) (Q j) _ (hs.out j hlt) ((R1.is j hlt).keep (Gr.keep ⟨n, os, rfl⟩)) ((R2.is j hlt).keep (Gr.keep ⟨n, os, rfl⟩))
      clear ca cb
      replace R1 := Lib.hid R1
      replace R2 := Lib.hid R2
      obtain ⟨x, hx⟩ : ∃ x, x = P j := ⟨_, rfl⟩
      obtain ⟨y, hy⟩ : ∃ y, y = Q j := ⟨_, rfl⟩
      rw [← hx] at X hk
      rw [← hy] at Y hk
      unfold PodV.val at hk
      replace hx := Lib.hid hx
      replace hy := Lib.hid hy
      have x0 := grows X.e0; have x1 := grows X.e1; have x2 := grows X.e2; have x3 := grows X.e3; have x4 := grows X.e4; have x5 := grows X.e5; have x6 := grows X.e6; have x7 := grows X.e7; have x8 := grows X.e8
      have y0 := grows Y.e0; have y1 := grows Y.e1; have y2 := grows Y.e2; have y3 := grows Y.e3; have y4 := grows Y.e4; have y5 := grows Y.e5; have y6 := grows Y.e6; have y7 := grows Y.e7; have y8 := grows Y.e8
      clear X Y
      go_wp2_with fail
      go_quiet_grown (first | (go_at_call 28; refine Calls.grown_of (hk _ _)))
      clear x0 x1 x2 x3 x4 x5 x6 x7 x8 y0 y1 y2 y3 y4 y5 y6 y7 y8 hk
      have G2 : Hid (Gr w (grow (wr.drewN nq) osq)) := G.out.trans ⟨nq, osq, rfl⟩
      generalize grow (wr.drewN nq) osq = w2 at G2 ⊢
      go_wp2
      go_roundg (n - (j + 1))
      case measure => omega
      case rel => exact ⟨j + 1, hlt, rfl, by go_num, G2⟩
    · obtain rfl : j = n := by omega
      go_wp2
      go_ret
      exact ⟨rfl, G.out.keep⟩
end Go.Proofs.YtpkpmoiekjhdnaaDoor
