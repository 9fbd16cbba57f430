/-
  container/heap's down over a heap's timers. Condition: the place lies in the list.
-/
import Derived.Test.YtdjakljkcjadhaaUp9
namespace Go.Proofs.Ytdjakljkcjadhaa.T9
open Go.RowKit Go.Sort Go.Lib

theorem par_two {k i : Nat} (h1 : 0 < k) (h2 : par k = i) : k = 2 * i + 1 ∨ k = 2 * i + 2 := by unfold par at h2; omega
theorem par_c1 (i : Nat) : par (2 * i + 1) = i := by unfold par; omega
theorem par_c2 (i : Nat) : par (2 * i + 2) = i := by unfold par; omega

set_option maxRecDepth 100000 in
set_option maxHeartbeats 16000000 in
theorem down_fn {bq : Nat} {M : (Nat → Prop) → World → Nat → (Nat → TmV) → Prop} (HC : HeapC bq M) {D : Nat → Prop} {w : World} {N : Nat} {Q : Nat → TmV} (h : M D w N Q) (n i0 : Nat) (hi0 : i0 ≤ N) (hn : n ≤ N) (hD : DnI Q n i0 i0) :
    Calls Try.prog 37 #[.iface 62 (.pointer (some ⟨bq, 0, none⟩)), .int .i64 i0, .int .i64 n] w fun e w' => ∃ m : Bool, e = .returned (.bool m) ∧ ∃ Q', M D w' N Q' ∧ Fr D w w' ∧ (lst Q' n).Perm (lst Q n) ∧ (∀ t, n ≤ t → Q' t = Q t) ∧ (m = true → HeapQ Q' n) ∧ (m = false → UpI Q' n i0) := by
  have H := Lib.hid h
  have hlim : N ≤ 1000 := HC.lim h
  have DD := Lib.hid hD
  clear h hD
  have m1 := Try.tLess
  have m2 := Try.tSwap
  go_enter Try.func37, Try.ntmps37
  go_wp2
  go_loopg [7, 8, 9, 10] (N + 1 - i0) (fun gx s7 _ _ _ wr => ∃ (i : Nat) (R : Nat → TmV), s7 = .int .i64 i ∧ i0 ≤ i ∧ i ≤ N ∧ N + 1 - i ≤ gx ∧ Hid (M D wr N R) ∧ Hid (Fr D w wr) ∧ Hid (DnI R n i i0) ∧ Hid ((lst R n).Perm (lst Q n)) ∧ Hid (∀ t, n ≤ t → R t = Q t))
  case atStart => exact ⟨i0, Q, rfl, Nat.le_refl _, hi0, Nat.le_refl _, H, Fr.refl _ _, DD, List.Perm.refl _, fun _ _ => rfl⟩
  case round =>
    clear H DD
    obtain ⟨i, R, rfl, hii, hiN, hgx, HR, FR, DR, PR, TR⟩ := hrel
    have fin : Hid (∀ (m : Bool), (m = true ↔ i0 < i) → ∀ W, Keep wr W → (∀ k, 0 < k → k < n → par k = i → befT (R k) (R i) = false) → ∃ Q', M D W N Q' ∧ Fr D w W ∧ (lst Q' n).Perm (lst Q n) ∧ (∀ t, n ≤ t → Q' t = Q t) ∧ (m = true → HeapQ Q' n) ∧ (m = false → UpI Q' n i0)) := fun m hm W kW hc => by
      have hd := dn_done DR.out hc
      refine ⟨R, HC.keep HR.out kW, FR.out.keep kW, PR.out, TR.out, fun h => hd.2 (by have := hm.1 h; omega), fun h => ?_⟩
      have h : ¬ i0 < i := fun e => by rw [hm.2 e] at h; cases h
      obtain rfl : i = i0 := by omega
      exact dn_up DR.out hd.1
    have cL : Hid (∀ W, M D W N R → ∀ a b : Nat, a < N → b < N → Calls Try.prog 72 #[.pointer (some ⟨bq, 0, none⟩), .int .i64 (a : Nat), .int .i64 (b : Nat)] W fun e w' => e = .returned (.bool (befT (R a) (R b))) ∧ Keep W w') := fun W hW a b ha hb => (HC.less hW a b ha hb).mono fun e w' h => ⟨h.1, h.2⟩
    have cS : Hid (∀ W, M D W N R → ∀ b : Nat, i < N → b < N → Calls Try.prog 75 #[.pointer (some ⟨bq, 0, none⟩), .int .i64 i, .int .i64 (b : Nat)] W fun e w' => e = .returned (.tuple #[]) ∧ M D w' N (swq R i b) ∧ Fr D W w') := fun W hW b ha hb => HC.swap hW i b ha hb
    by_cases h1 : n ≤ 2 * i + 1
    · have h1z : (n : Int) ≤ 2 * (i : Int) + 1 := by omega
      clear cL cS
      go_wp2
      go_ret
      exact ⟨_, rfl, fin.out _ (by simp) _ (by repeat (first | exact Keep.refl _ | apply Keep.drew)) fun k k1 k2 k3 => by rcases par_two k1 k3 with h | h <;> omega⟩
    · have h1z : 2 * (i : Int) + 1 < (n : Int) := by omega
      by_cases h2 : n ≤ 2 * i + 2
      · have h2z : (n : Int) ≤ 2 * (i : Int) + 1 + 1 := by omega
        have kW : Hid (Keep wr wr) := Keep.refl _
        obtain ⟨ch, hch⟩ : ∃ ch, ch = 2 * i + 1 := ⟨_, rfl⟩
        have hpar : Hid (par ch = i) := by rw [hch]; exact par_c1 i
        have hmin : Hid (∀ k, 0 < k → k < n → par k = i → befT (R k) (R ch) = false) := by
          rw [hch]
          intro k k1 k2 k3
          rcases par_two k1 k3 with h | h
          · rw [h]; exact bef_irrefl _
          · omega
        have hchn : ch < n := by omega
        have hich : i < ch := by omega
        have q2 := cL.out wr (HC.keep HR.out kW.out) ch i (by omega) (by omega)
        have e2 : ((ch : Nat) : Int) = 2 * (i : Int) + 1 := by omega
        rw [e2] at q2
        obtain ⟨r2, hr2⟩ : ∃ r2, r2 = befT (R ch) (R i) := ⟨_, rfl⟩
        rw [← hr2] at q2
        replace hr2 := Lib.hid hr2
        replace q2 := Lib.hid q2
        have cS2 := fun W hW => cS.out W hW ch (by omega) (by omega)
        rw [e2] at cS2
        replace cS2 := Lib.hid cS2
        replace e2 := Lib.hid e2
        replace hch := Lib.hid hch
        clear cS cL
        cases r2 with
        | false =>
          go_wp2_with fail
          refine q2.out.mono ?_
          rintro e w3 ⟨rfl, g3⟩
          replace g3 := Lib.hid g3
          clear q2 cS2
          go_wp2
          go_ret
          exact ⟨_, rfl, fin.out _ (by simp) _ (kW.out.trans g3.out) fun k k1 k2 k3 => bef_ntrans (hmin.out k k1 k2 k3) hr2.out.symm⟩
        | true =>
          go_wp2_with fail
          refine q2.out.mono ?_
          rintro e w3 ⟨rfl, g3⟩
          have k3 := Lib.hid (kW.out.trans g3)
          replace g3 := Lib.hid g3
          clear q2
          go_wp2_with fail
          refine (cS2.out _ (HC.keep HR.out k3.out)).mono ?_
          rintro e w4 ⟨rfl, H4, F4⟩
          have F5 := Lib.hid ((FR.out.keep k3.out).same F4)
          replace H4 := Lib.hid H4
          replace F4 := Lib.hid F4
          have D4 := Lib.hid (dn_step DR.out (by omega : 0 < ch) hchn hpar.out hmin.out hr2.out.symm hchn)
          have P4 : Hid ((lst (swq R i ch) n).Perm (lst Q n)) := (lst_swap R (by omega) hchn).trans PR.out
          have T4 : Hid (∀ t, n ≤ t → swq R i ch t = Q t) := fun t ht => by rw [sw_o R (by omega) (by omega)]; exact TR.out t ht
          go_wp2
          go_roundg (N + 1 - ch)
          case measure => omega
          case rel => exact ⟨ch, swq R i ch, by rw [e2.out], by omega, by omega, Nat.le_refl _, H4, F5, D4, P4, T4⟩
      · have h2z : 2 * (i : Int) + 1 + 1 < (n : Int) := by omega
        have q1 := cL.out wr HR.out (2 * i + 2) (2 * i + 1) (by omega) (by omega)
        have e1 : (((2 * i + 2 : Nat)) : Int) = 2 * (i : Int) + 1 + 1 := by omega
        have e0 : (((2 * i + 1 : Nat)) : Int) = 2 * (i : Int) + 1 := by omega
        rw [e1, e0] at q1
        clear e1 e0
        obtain ⟨r1, hr1⟩ : ∃ r1, r1 = befT (R (2 * i + 2)) (R (2 * i + 1)) := ⟨_, rfl⟩
        rw [← hr1] at q1
        replace hr1 := Lib.hid hr1
        replace q1 := Lib.hid q1
        cases r1 with
        | false =>
          go_wp2_with fail
          refine q1.out.mono ?_
          rintro e w1 ⟨rfl, g1⟩
          have kW : Hid (Keep wr w1) := g1
          replace g1 := Lib.hid g1
          clear q1
          obtain ⟨ch, hch⟩ : ∃ ch, ch = 2 * i + 1 := ⟨_, rfl⟩
          have hpar : Hid (par ch = i) := by rw [hch]; exact par_c1 i
          have hmin : Hid (∀ k, 0 < k → k < n → par k = i → befT (R k) (R ch) = false) := by
            rw [hch]
            intro k k1 k2 k3
            rcases par_two k1 k3 with h | h
            · rw [h]; exact bef_irrefl _
            · rw [h]; exact hr1.out.symm
          have hchn : ch < n := by omega
          have hich : i < ch := by omega
          have q2 := cL.out w1 (HC.keep HR.out kW.out) ch i (by omega) (by omega)
          have e2 : ((ch : Nat) : Int) = 2 * (i : Int) + 1 := by omega
          rw [e2] at q2
          obtain ⟨r2, hr2⟩ : ∃ r2, r2 = befT (R ch) (R i) := ⟨_, rfl⟩
          rw [← hr2] at q2
          replace hr2 := Lib.hid hr2
          replace q2 := Lib.hid q2
          have cS2 := fun W hW => cS.out W hW ch (by omega) (by omega)
          rw [e2] at cS2
          replace cS2 := Lib.hid cS2
          replace e2 := Lib.hid e2
          replace hch := Lib.hid hch
          clear cS cL
          cases r2 with
          | false =>
            go_wp2_with fail
            refine q2.out.mono ?_
            rintro e w3 ⟨rfl, g3⟩
            replace g3 := Lib.hid g3
            clear q2 cS2
            go_wp2
            go_ret
            exact ⟨_, rfl, fin.out _ (by simp) _ (kW.out.trans g3.out) fun k k1 k2 k3 => bef_ntrans (hmin.out k k1 k2 k3) hr2.out.symm⟩
          | true =>
            go_wp2_with fail
            refine q2.out.mono ?_
            rintro e w3 ⟨rfl, g3⟩
            have k3 := Lib.hid (kW.out.trans g3)
            replace g3 := Lib.hid g3
            clear q2
            go_wp2_with fail
            refine (cS2.out _ (HC.keep HR.out k3.out)).mono ?_
            rintro e w4 ⟨rfl, H4, F4⟩
            have F5 := Lib.hid ((FR.out.keep k3.out).same F4)
            replace H4 := Lib.hid H4
            replace F4 := Lib.hid F4
            have D4 := Lib.hid (dn_step DR.out (by omega : 0 < ch) hchn hpar.out hmin.out hr2.out.symm hchn)
            have P4 : Hid ((lst (swq R i ch) n).Perm (lst Q n)) := (lst_swap R (by omega) hchn).trans PR.out
            have T4 : Hid (∀ t, n ≤ t → swq R i ch t = Q t) := fun t ht => by rw [sw_o R (by omega) (by omega)]; exact TR.out t ht
            go_wp2
            go_roundg (N + 1 - ch)
            case measure => omega
            case rel => exact ⟨ch, swq R i ch, by rw [e2.out], by omega, by omega, Nat.le_refl _, H4, F5, D4, P4, T4⟩
        | true =>
          go_wp2_with fail
          refine q1.out.mono ?_
          rintro e w1 ⟨rfl, g1⟩
          have kW : Hid (Keep wr w1) := g1
          replace g1 := Lib.hid g1
          clear q1
          obtain ⟨ch, hch⟩ : ∃ ch, ch = 2 * i + 2 := ⟨_, rfl⟩
          have hpar : Hid (par ch = i) := by rw [hch]; exact par_c2 i
          have hmin : Hid (∀ k, 0 < k → k < n → par k = i → befT (R k) (R ch) = false) := by
            rw [hch]
            intro k k1 k2 k3
            rcases par_two k1 k3 with h | h
            · rw [h]; exact bef_asymm hr1.out.symm
            · rw [h]; exact bef_irrefl _
          have hchn : ch < n := by omega
          have hich : i < ch := by omega
          have q2 := cL.out w1 (HC.keep HR.out kW.out) ch i (by omega) (by omega)
          have e2 : ((ch : Nat) : Int) = 2 * (i : Int) + 1 + 1 := by omega
          rw [e2] at q2
          obtain ⟨r2, hr2⟩ : ∃ r2, r2 = befT (R ch) (R i) := ⟨_, rfl⟩
          rw [← hr2] at q2
          replace hr2 := Lib.hid hr2
          replace q2 := Lib.hid q2
          have cS2 := fun W hW => cS.out W hW ch (by omega) (by omega)
          rw [e2] at cS2
          replace cS2 := Lib.hid cS2
          replace e2 := Lib.hid e2
          replace hch := Lib.hid hch
          clear cS cL
          cases r2 with
          | false =>
            go_wp2_with fail
            refine q2.out.mono ?_
            rintro e w3 ⟨rfl, g3⟩
            replace g3 := Lib.hid g3
            clear q2 cS2
            go_wp2
            go_ret
            exact ⟨_, rfl, fin.out _ (by simp) _ (kW.out.trans g3.out) fun k k1 k2 k3 => bef_ntrans (hmin.out k k1 k2 k3) hr2.out.symm⟩
          | true =>
            go_wp2_with fail
            refine q2.out.mono ?_
            rintro e w3 ⟨rfl, g3⟩
            have k3 := Lib.hid (kW.out.trans g3)
            replace g3 := Lib.hid g3
            clear q2
            go_wp2_with fail
            refine (cS2.out _ (HC.keep HR.out k3.out)).mono ?_
            rintro e w4 ⟨rfl, H4, F4⟩
            have F5 := Lib.hid ((FR.out.keep k3.out).same F4)
            replace H4 := Lib.hid H4
            replace F4 := Lib.hid F4
            have D4 := Lib.hid (dn_step DR.out (by omega : 0 < ch) hchn hpar.out hmin.out hr2.out.symm hchn)
            have P4 : Hid ((lst (swq R i ch) n).Perm (lst Q n)) := (lst_swap R (by omega) hchn).trans PR.out
            have T4 : Hid (∀ t, n ≤ t → swq R i ch t = Q t) := fun t ht => by rw [sw_o R (by omega) (by omega)]; exact TR.out t ht
            go_wp2
            go_roundg (N + 1 - ch)
            case measure => omega
            case rel => exact ⟨ch, swq R i ch, by rw [e2.out], by omega, by omega, Nat.le_refl _, H4, F5, D4, P4, T4⟩
end Go.Proofs.Ytdjakljkcjadhaa.T9
