/-
  The walks of RankLower, RankAdds. No condition.
-/
import Derived.Test.YtflheiodaklceaaLawMath6
namespace Go.Proofs.Ytflheiodaklceaa
open Go.RowKit Go.Sort Go.Lib Go.Shelf

theorem few_small {P : Nat → PodV} {n : Nat} (h : FewP P n) : Small P n := fun j hj => ⟨(h.2 j hj).1, (h.2 j hj).2.1⟩
theorem same_p {x y : PodV} (h : SameV x y) : x.p = y.p := by
  obtain ⟨A, c, rfl⟩ := h
  rfl

set_option maxRecDepth 100000 in
set_option maxHeartbeats 8000000 in
theorem lower_walk (A : Option Addr) (n c : Nat) (P : Nat → PodV) (q : Int) (w : World) (hR : RdPods w A n P) : Calls Try.prog 4 #[.slice A n c, .int .i64 q] w fun e w' => e = .returned (.bool true) ∧ Keep w w' := by
  have aw := Lib.hid awake_true
  replace hR := Lib.hid hR
  go_enter Try.func4, Try.ntmps4
  go_wp2_with fail
  refine (aw.out _).mono ?_
  rintro e w1 ⟨rfl, k1⟩
  have R1 := Lib.hid (hR.out.keep k1)
  replace k1 := Lib.hid k1
  by_cases hf : FewP P n
  · have hfew := rfew_fn A n c P w1 R1.out true ⟨fun _ => hf, fun _ => rfl⟩
    replace hf := Lib.hid hf
    go_wp2_with fail
    refine hfew.mono ?_
    rintro e w2 ⟨rfl, rfl⟩
    clear hfew
    have hn := hf.out.1
    go_wp2_with fail
    refine (ksums_fn A n c P _ R1.out (few_small hf.out) (by omega)).mono ?_
    rintro e w2 ⟨rfl, k2⟩
    have R2 := Lib.hid (R1.out.keep k2)
    have K2 := Lib.hid (k1.out.trans k2)
    replace k2 := Lib.hid k2
    have hs := Lib.hid (rsums_fn A n c P w2 R2.out (few_small hf.out) (by omega))
    generalize hiP P n = hh at *
    generalize smP P n = ss at *
    go_wp2_with fail
    refine hs.out.mono ?_
    rintro e w3 ⟨rfl, rfl⟩
    clear hs
    go_wp2_with fail
    refine (klower_fn A n c P q _ R2.out (by omega) (fun j hj => by have := (hf.out.2 j hj).2.2; omega)).mono ?_
    rintro e w3 ⟨v3, rfl, k3, A3, c3, S3, rfl, R3, V3⟩
    have R2' := Lib.hid (R2.out.keep k3)
    have K3 := Lib.hid (K2.out.trans k3)
    replace k3 := Lib.hid k3
    replace R3 := Lib.hid R3
    replace V3 := Lib.hid V3
    go_wp2_with fail
    refine (rlower_fn A n c P q _ R2'.out (by omega)).mono ?_
    rintro e w4 ⟨v4, rfl, k4, A4, c4, S4, rfl, R4, V4⟩
    have K4 := Lib.hid (K3.out.trans k4)
    have R3' := Lib.hid (R3.out.keep k4)
    have hsame := rsame6_fn A3 A4 (lowL P q n).length c3 c4 S3 S4 w4 R3'.out R4 (fun j hj => (V3.out j hj).trans (V4 j hj).symm)
    replace k4 := Lib.hid k4
    replace R4 := Lib.hid R4
    replace V4 := Lib.hid V4
    replace hsame := Lib.hid hsame
    generalize (lowL P q n).length = ll at *
    go_wp2_with fail
    refine hsame.out.mono ?_
    rintro e w5 ⟨rfl, k5⟩
    have K5 := Lib.hid (K4.out.trans k5)
    replace k5 := Lib.hid k5
    go_wp2
    go_ret
    exact ⟨rfl, K5.out⟩
  · have hfew := rfew_fn A n c P w1 R1.out false ⟨fun h => (by cases h), fun h => absurd h hf⟩
    replace hf := Lib.hid hf
    go_wp2_with fail
    refine hfew.mono ?_
    rintro e w2 ⟨rfl, rfl⟩
    go_wp2_with fail
    refine (aw.out _).mono ?_
    rintro e w3 ⟨rfl, k3⟩
    have K3 := Lib.hid (k1.out.trans k3)
    replace k3 := Lib.hid k3
    go_wp2
    go_ret
    exact ⟨rfl, K3.out⟩

theorem highL_len (P : Nat → PodV) (q : Int) : ∀ n, (highL P q n).length ≤ n
  | 0 => Nat.le_refl _
  | n + 1 => by
    have := highL_len P q n
    unfold highL
    split
    · omega
    · rw [List.length_append]; exact Nat.succ_le_succ this

set_option maxRecDepth 100000 in
set_option maxHeartbeats 8000000 in
theorem adds_walk (A : Option Addr) (n c : Nat) (P : Nat → PodV) (q : Int) (w : World) (hR : RdPods w A n P) : Calls Try.prog 7 #[.slice A n c, .int .i64 q] w fun e w' => e = .returned (.bool true) ∧ Keep w w' := by
  have aw := Lib.hid awake_true
  replace hR := Lib.hid hR
  go_enter Try.func7, Try.ntmps7
  go_wp2_with fail
  refine (aw.out _).mono ?_
  rintro e w1 ⟨rfl, k1⟩
  have R1 := Lib.hid (hR.out.keep k1)
  replace k1 := Lib.hid k1
  by_cases hf : FewP P n
  · have hfew := rfew_fn A n c P w1 R1.out true ⟨fun _ => hf, fun _ => rfl⟩
    replace hf := Lib.hid hf
    go_wp2_with fail
    refine hfew.mono ?_
    rintro e w2 ⟨rfl, rfl⟩
    clear hfew
    have hn := hf.out.1
    go_wp2_with fail
    refine (klower_fn A n c P q _ R1.out (by omega) (fun j hj => by have := (hf.out.2 j hj).2.2; omega)).mono ?_
    rintro e w2 ⟨v2, rfl, k2, A2, c2, S2, rfl, RL, V2⟩
    have R2 := Lib.hid (R1.out.keep k2)
    have K2 := Lib.hid (k1.out.trans k2)
    replace k2 := Lib.hid k2
    replace RL := Lib.hid RL
    replace V2 := Lib.hid V2
    obtain ⟨nl, hnl⟩ : ∃ nl, nl = (lowL P q n).length := ⟨_, rfl⟩
    have hll := lowL_len P q n
    rw [← hnl] at RL V2 hll ⊢
    replace hnl := Lib.hid hnl
    obtain ⟨i0, hi0, hz0, hz1, hz2⟩ := info_parts Try.infoPod
    go_wp2
    go_loopg [6, 7] n (fun gx s6 s7 wr => ∃ j : Nat, j ≤ n ∧ gx = n - j ∧ s7 = .int .i64 j ∧ Hid (Keep w2 wr) ∧ Hid (wr.ownsRow w2.heap.size 25 9 s6 (highL P q j).length (podCs (pick P (highL P q j)) (highL P q j).length)))
    case atStart => exact ⟨0, Nat.zero_le _, rfl, rfl, Keep.refl _, World.ownsRow_nil _ _ _ _⟩
    case round =>
      obtain ⟨j, hj, rfl, rfl, G, RW⟩ := hrel
      have R3 := Lib.hid (R2.out.keep G.out)
      by_cases hlt : j < n
      · obtain ⟨b, off, hA, ca⟩ := R3.out.adr (by omega)
        subst hA
        have q1 := pods_at b off n c j hlt
        have X := ca j hlt
        have hhl := highL_len P q j
        clear ca
        obtain ⟨x, hx⟩ : ∃ x, x = P j := ⟨_, rfl⟩
        have hL : Hid (highL P q (j + 1) = if x.p < q then highL P q j else highL P q j ++ [j]) := by show _ = _; rw [hx]; rfl
        rw [← hx] at X
        replace hx := Lib.hid hx
        generalize highL P q j = L at *
        have x0 := X.e0; have x1 := X.e1; have x2 := X.e2; have x3 := X.e3; have x4 := X.e4; have x5 := X.e5; have x6 := X.e6; have x7 := X.e7; have x8 := X.e8
        clear X
        have hg1 : w2.heap.size ≤ wr.heap.size := G.out.size
        by_cases hp : x.p < q
        · have hL2 : Hid (highL P q (j + 1) = L) := hL.out.trans (if_pos hp)
          have hpz : ¬ q ≤ x.p := by omega
          go_wp2
          go_roundg (n - (j + 1))
          case measure => omega
          case rel => exact ⟨j + 1, hlt, rfl, by go_num, G, by rw [hL2.out]; exact RW⟩
        · have hL2 : Hid (highL P q (j + 1) = L ++ [j]) := hL.out.trans (if_neg hp)
          have hpz : q ≤ x.p := by omega
          have N1 : Hid (SrcP (wr.alloc (.cells #[.int .i64 x.k, .int .i64 x.p, .bool x.f, .int .i64 x.g, .slice x.A x.m x.c, .int .i64 x.a, .int .i64 x.h, .int .i64 x.d, .int .i64 x.t] 25)) (.slice (some ⟨wr.heap.size, 0, none⟩) 1 1) 1 x.cells) := src_one (heap_alloc_new _ _)
          go_wp2_with (at_builtin; refine wpl_own rfl _ _ rfl w2.heap.size u6 L.length (podCs (pick P L) L.length) (by simp [Act.eval]) (own_keep RW.out (Keep.one _ _)) (.slice (some ⟨wr.heap.size, 0, none⟩) 1 1) 1 x.cells (by simp [Act.eval]) N1.out (cells_one _) (by omega) (by simp; omega) _ rfl ?_; intro v4 w4 hr4 hg4)
          have RW4 : Hid (w4.ownsRow w2.heap.size 25 9 v4 (highL P q (j + 1)).length (podCs (pick P (highL P q (j + 1))) (highL P q (j + 1)).length)) := by
            rw [hL2.out, List.length_append]
            show World.ownsRow _ _ _ _ _ (L.length + 1) (podCs _ L.length ++ (P ((L ++ [j]).getD L.length 0)).cells)
            rw [getD_snoc, if_neg (Nat.lt_irrefl _), if_pos rfl, ← hx.out, podCs_congr (R := pick P L) L.length (fun t ht => by unfold pick; rw [getD_snoc, if_pos ht])]
            exact hr4
          have G4 : Hid (Keep w2 w4) := keep_grown (G.out.trans (Keep.one _ _)) hg4 (fun g hq => (RW.out.lt g hq).1)
          replace hr4 := Lib.hid hr4
          replace hg4 := Lib.hid hg4
          clear x0 x1 x2 x3 x4 x5 x6 x7 x8
          go_roundg (n - (j + 1))
          case measure => omega
          case rel => exact ⟨j + 1, hlt, rfl, by go_num, G4, RW4⟩
      · obtain rfl : j = n := by omega
        have ps := parts_sum P q j
        have hhl := highL_len P q j
        have pt := parts_top P q j
        obtain ⟨B, d, hB, h0⟩ := own_form RW.out
        subst hB
        have RH : Hid (RdPods wr B (highL P q j).length (pick P (highL P q j))) := ⟨by omega, fun hp => by
          obtain ⟨g, cap, e, _, _⟩ := RW.out.form hp
          have e' := e
          simp only [Value.slice.injEq] at e'
          obtain ⟨rfl, _, rfl⟩ := e'
          exact ⟨g, 0, rfl, fun t ht => row_cel RW.out ht⟩, fun t ht => (R2.out.is _ ((highL_mem P q j _).1 (getD_mem ht)).1).keep G.out⟩
        have sh : Hid (Small (pick P (highL P q j)) (highL P q j).length) := fun t ht => few_small hf.out _ ((highL_mem P q j _).1 (getD_mem ht)).1
        have sl : Hid (Small S2 nl) := fun t ht => by
          rw [same_p (V2.out t ht)]
          exact few_small hf.out _ (lowL_lt P q j t (by rw [← hnl.out]; exact ht))
        have el : Hid (smP S2 nl = smP (pick P (lowL P q j)) nl) := smP_congr nl (fun t ht => same_p (V2.out t ht))
        rw [← hnl.out] at ps
        rw [← el.out] at ps
        have RL2 := Lib.hid (RL.out.keep G.out)
        have R3' := R3
        have sa : Hid (Small P j) := few_small hf.out
        have rgl := smP_range S2 nl sl.out
        have rgh := smP_range (pick P (highL P q j)) _ sh.out
        have c1 := fun W (k : Keep wr W) => ksums_fn A2 nl c2 S2 W (RL2.out.keep k) sl.out (by omega)
        have c2' := fun W (k : Keep wr W) => ksums_fn B (highL P q j).length d (pick P (highL P q j)) W (RH.out.keep k) sh.out (by omega)
        have c3 := fun W (k : Keep wr W) => ksums_fn A j c P W (R3'.out.keep k) sa.out (by omega)
        generalize smP S2 nl = s1 at *
        generalize hiP S2 nl = h1 at *
        generalize smP (pick P (highL P q j)) (highL P q j).length = s2 at *
        generalize hiP (pick P (highL P q j)) (highL P q j).length = h2 at *
        generalize smP P j = s3 at *
        generalize hiP P j = h3 at *
        generalize (highL P q j).length = nh at *
        replace c1 := Lib.hid c1
        replace c2' := Lib.hid c2'
        replace c3 := Lib.hid c3
        have ew : IntKind.i64.wrap (s1 + s2) = s3 := by rw [ps.2, IntKind.wrap_i64]; omega
        have el2 : IntKind.i64.wrap ((nl : Int) + (nh : Int)) = (j : Int) := by rw [IntKind.wrap_i64]; omega
        have GK := Lib.hid (K2.out.trans G.out)
        replace ps := Lib.hid ps
        go_wp2_with fail
        refine (c1.out _ (Keep.refl _)).mono ?_
        rintro e w3 ⟨rfl, k3⟩
        replace k3 := Lib.hid k3
        go_wp2_with fail
        refine (c2'.out _ k3.out).mono ?_
        rintro e w4 ⟨rfl, k4⟩
        have k4 := Lib.hid (k3.out.trans k4)
        go_wp2_with fail
        refine (c3.out _ k4.out).mono ?_
        rintro e w5 ⟨rfl, k5⟩
        have k5 := Lib.hid (k4.out.trans k5)
        go_wp2_with fail
        refine (c2'.out _ k5.out).mono ?_
        rintro e w6 ⟨rfl, k6⟩
        have k6 := Lib.hid (k5.out.trans k6)
        by_cases hz : nh = 0
        · have hzb : ((nh : Int) == 0) = true := beq_iff_eq.2 (by omega)
          replace hz := Lib.hid hz
          go_wp2
          go_ret
          exact ⟨rfl, GK.out.trans k6.out⟩
        · have hzb : ((nh : Int) == 0) = false := beq_eq_false_iff_ne.2 (by omega)
          have e23 := pt (by omega)
          subst e23
          replace hz := Lib.hid hz
          go_wp2
          go_ret
          exact ⟨rfl, GK.out.trans k6.out⟩
  · have hfew := rfew_fn A n c P w1 R1.out false ⟨fun h => (by cases h), fun h => absurd h hf⟩
    replace hf := Lib.hid hf
    go_wp2_with fail
    refine hfew.mono ?_
    rintro e w2 ⟨rfl, rfl⟩
    go_wp2_with fail
    refine (aw.out _).mono ?_
    rintro e w3 ⟨rfl, k3⟩
    have K3 := Lib.hid (k1.out.trans k3)
    replace k3 := Lib.hid k3
    go_wp2
    go_ret
    exact ⟨rfl, K3.out⟩
end Go.Proofs.Ytflheiodaklceaa
