/-
  The walk of PodPhases. Condition: errors.errorType holds its own.
-/
import Derived.Test.YtfidlljhmebpmaaDoorWalk13
namespace Go.Proofs.YtfidlljhmebpmaaDoor.T13
open Go.RowKit Go.Sort Go.Lib V12

set_option maxRecDepth 100000 in
set_option maxHeartbeats 8000000 in
theorem phases_walk {OS : Pred} (C : Con OS) (A : Option Addr) (n c : Nat) (P : Nat → OpV) (w : World) (hR : RdO w A n P) (hg : ErrT w) : Calls Tryd.prog 4 #[.slice A n c] w fun e w' => e = .returned (.bool true) ∧ Keep w w' := by
  have hs := hR.small
  obtain ⟨fb, hfb⟩ := few_or P n
  have cF : Hid (∀ W, Keep w W → Calls Tryd.prog 10 #[.slice A n c] W fun e w' => e = .returned (.bool fb) ∧ Keep W w') := fun W k => few_fn A n c P W (hR.keep k) fb hfb
  have aw : Hid (∀ W, Keep w W → Calls Tryd.prog 9 #[] W fun e w' => e = .returned (.bool true) ∧ Keep W w') := fun W k => awake_true C W (hg.keep k)
  have cN : Hid (Calls Tryd.prog 8 #[.int .i64 100] w fun e w' => ∃ q, e = .returned (.pointer (some ⟨q, 0, none⟩)) ∧ OS w 100 q [] (fun _ => False) w' ∧ Keep w w') := C.new 100 w w (Keep.refl w) (by unfold I64; omega)
  replace hfb := Lib.hid hfb
  replace hg := Lib.hid hg
  replace hR := Lib.hid hR
  go_enter Tryd.func4, Tryd.ntmps4
  go_wp2_with fail
  refine cN.out.mono ?_
  rintro e w1 ⟨q, rfl, o1, _⟩
  have K1 := Lib.hid (C.kp o1)
  replace o1 := Lib.hid o1
  go_wp2_with fail
  refine (aw.out _ K1.out).mono ?_
  rintro e w2 ⟨rfl, k2⟩
  replace o1 := Lib.hid (C.keep o1.out k2)
  replace K1 := Lib.hid (C.kp o1.out)
  replace k2 := Lib.hid k2
  go_wp2_with fail
  refine (cF.out w2 K1.out).mono ?_
  rintro e w3 ⟨rfl, k3⟩
  replace o1 := Lib.hid (C.keep o1.out k3)
  replace K1 := Lib.hid (C.kp o1.out)
  replace k3 := Lib.hid k3
  cases fb with
  | false =>
    go_wp2_with fail
    refine (aw.out _ K1.out).mono ?_
    rintro e w4 ⟨rfl, k4⟩
    go_wp2
    go_ret
    exact ⟨rfl, K1.out.trans k4⟩
  | true =>
  have hf := hfb.out.1 rfl
  have hn := hf.1
  replace hf := Lib.hid hf
  clear cN aw cF
  go_wp2
  go_loopg [4, 5] n (fun gx s4 s5 wr => ∃ (i m : Nat) (B : Option Addr) (d : Nat) (Q : Nat → PodV) (M : List PodV) (X : Nat → Prop), i ≤ n ∧ gx = n - i ∧ s5 = .int .i64 i ∧ s4 = .slice B m d ∧ m ≤ i ∧ Hid (St OS w 100 q M X wr B d m Q))
  case atStart => exact ⟨0, 0, none, 0, _, [], _, Nat.zero_le _, rfl, rfl, rfl, Nat.le_refl _, St.new o1.out⟩
  case round =>
    clear o1 K1 k2 k3
    obtain ⟨i, m, B, d, Q, M, X, hi, rfl, rfl, rfl, hmi, SS⟩ := hrel
    by_cases hlt : i < n
    · have KR := Lib.hid (C.kp SS.out.o)
      have RP := hR.out.keep KR.out
      obtain ⟨b, off, hA, ca⟩ := RP.adr (by omega)
      subst hA
      have q1 := atO b off n c i hlt
      have X0 := ca i hlt
      have ox := hR.out.is i hlt
      have hnx := (hf.out.2 i hlt).m
      clear ca RP
      obtain ⟨x, hx⟩ : ∃ x, x = P i := ⟨_, rfl⟩
      rw [← hx] at X0 ox hnx
      replace hx := Lib.hid hx
      have x_e := X0.e; have x_n := X0.n; have x_d := X0.d
      have y0 := X0.x.e0; have y1 := X0.x.e1; have y2 := X0.x.e2; have y3 := X0.x.e3; have y4 := X0.x.e4; have y5 := X0.x.e5; have y6 := X0.x.e6; have y7 := X0.x.e7; have y8 := X0.x.e8
      clear X0
      have cP := st_play C SS.out hg.out x ox hnx (by omega)
      unfold OpV.val at cP
      replace cP := Lib.hid cP
      replace ox := Lib.hid ox
      replace hnx := Lib.hid hnx
      go_wp2_with fail
      refine cP.out.mono ?_
      rintro e w4 ⟨B4, d4, m4, Q4, X4, rfl, hm4, S4⟩
      replace S4 := Lib.hid S4
      clear x_e x_n x_d y0 y1 y2 y3 y4 y5 y6 y7 y8 cP
      go_wp2
      go_roundg (n - (i + 1))
      case measure => omega
      case rel => exact ⟨i + 1, m4, B4, d4, Q4, _, X4, hlt, rfl, by go_num, rfl, by omega, S4⟩
    · obtain rfl : i = n := by omega
      obtain ⟨wo, hwo⟩ : ∃ wo, wo = wr := ⟨_, rfl⟩
      subst hwo
      have KR := Lib.hid (C.kp SS.out.o)
      have hlen := SS.out.len
      have hok := C.ok SS.out.o
      have hall := sumW_all hok
      replace hall := Lib.hid hall
      replace hok := Lib.hid hok
      replace hlen := Lib.hid hlen
      have hm60 : m ≤ 60 := by omega
      go_wp2
      go_loopg [6, 7] 8 (fun gx s6 s7 wr2 => ∃ (k : Nat), k ≤ 8 ∧ gx = 8 - k ∧ s7 = .int .i64 ((k : Int) - 1) ∧ s6 = .int .i64 (sumW M k) ∧ Hid (Keep wo wr2))
      case atStart => exact ⟨0, Nat.zero_le _, rfl, rfl, rfl, Keep.refl _⟩
      case round =>
        obtain ⟨k, hk, rfl, rfl, rfl, KQ⟩ := hrel
        have S5 := Lib.hid (SS.out.keep C KQ.out)
        have hsum := sumW_le M k
        rw [hlen.out] at hsum
        have hsum2 : sumW M k ≤ 480 := Nat.le_trans hsum (Nat.mul_le_mul hk hm60)
        clear hsum
        by_cases hlk : k < 8
        · have cW := C.withP ((k : Int) - 1) S5.out.o S5.out.m3 (by rw [hlen.out]; omega)
          have hsame := Lib.hid (st_fil S5.out (b := withB ((k : Int) - 1)) (withB_nm _))
          have hfl : Hid (((lst Q m).filter (withB ((k : Int) - 1))).length = (M.filter (withB ((k : Int) - 1))).length) := st_flen S5.out (withB_nm _)
          have hle : (M.filter (withB ((k : Int) - 1))).length ≤ m := by rw [← hlen.out]; exact List.length_filter_le _ _
          have hss : sumW M (k + 1) = sumW M k + (M.filter (withB ((k : Int) - 1))).length := rfl
          have cR : Hid (∀ W, Keep wo W → Calls Tryd.prog 21 #[.slice B m d, .int .i64 ((k : Int) - 1)] W (FilPost W m ((lst Q m).filter (withB ((k : Int) - 1))))) := fun W kw => rwith_fn B m d Q _ W (SS.out.keep C kw).r.rd (by omega)
          have cC : Hid (∀ W, Keep wo W → Calls Tryd.prog 22 #[.pointer (some ⟨q, 0, none⟩), .int .i64 ((k : Int) - 1)] W fun e w' => e = .returned (.int .i64 (M.filter (withB ((k : Int) - 1))).length) ∧ Keep W w') := fun W kw => C.count _ (SS.out.keep C kw).o SS.out.m3 (by rw [hlen.out]; omega)
          obtain ⟨F, hF⟩ : ∃ F, F = M.filter (withB ((k : Int) - 1)) := ⟨_, rfl⟩
          obtain ⟨G, hG⟩ : ∃ G, G = (lst Q m).filter (withB ((k : Int) - 1)) := ⟨_, rfl⟩
          rw [← hF] at cW hsame hfl hle hss cC
          rw [← hG] at hsame hfl cR
          replace hF := Lib.hid hF
          replace hG := Lib.hid hG
          obtain ⟨f, hf2⟩ : ∃ f, f = F.length := ⟨_, rfl⟩
          rw [← hf2] at cW hfl hle hss cC
          replace hf2 := Lib.hid hf2
          replace cW := Lib.hid cW
          replace hss := Lib.hid hss
          go_wp2_with fail
          refine cW.out.mono ?_
          rintro e w5 ⟨v, S, rfl, R5, E5, k5⟩
          obtain ⟨A5, d5, rfl, D5⟩ := R5.rd (by omega)
          have K5 : Hid (Keep wo w5) := KQ.out.trans k5
          replace R5 := Lib.hid R5
          replace D5 := Lib.hid D5
          replace E5 := Lib.hid E5
          replace k5 := Lib.hid k5
          clear cW
          go_wp2_with fail
          refine (cR.out w5 K5.out).mono ?_
          rintro e w6 ⟨B6, d6, rfl, k6, R6, _⟩
          have K6 : Hid (Keep wo w6) := K5.out.trans k6
          have cS := st_same (c := d5) (d := d6) hsame.out (m := f) (by rw [hfl.out]) E5.out (D5.out.keep k6) (hfl.out ▸ R6)
          rw [hfl.out]
          replace cS := Lib.hid cS
          replace R6 := Lib.hid R6
          replace k6 := Lib.hid k6
          clear cR
          go_wp2_with fail
          refine (cS.out).mono ?_
          rintro e w7 ⟨rfl, k7⟩
          have K7 : Hid (Keep wo w7) := K6.out.trans k7
          replace k7 := Lib.hid k7
          clear cS
          go_wp2_with fail
          refine (cC.out w7 K7.out).mono ?_
          rintro e w8 ⟨rfl, k8⟩
          have K8 : Hid (Keep wo w8) := K7.out.trans k8
          replace k8 := Lib.hid k8
          clear cC
          go_wp2
          go_roundg (8 - (k + 1))
          case measure => omega
          case rel => exact ⟨k + 1, hlk, rfl, by go_num, by rw [hss.out]; go_num, K8⟩
        · obtain rfl : k = 8 := by omega
          rw [hall.out, hlen.out] at hsum2 ⊢
          have cL := C.len S5.out.o (by rw [hlen.out]; omega)
          rw [hlen.out] at cL
          replace cL := Lib.hid cL
          have KR5 : Hid (Keep w wr) := KR.out.trans KQ.out
          go_wp2_with fail
          refine cL.out.mono ?_
          rintro e w5 ⟨rfl, k5⟩
          go_wp2
          go_ret
          exact ⟨by simp, KR5.out.trans k5⟩
end Go.Proofs.YtfidlljhmebpmaaDoor.T13
