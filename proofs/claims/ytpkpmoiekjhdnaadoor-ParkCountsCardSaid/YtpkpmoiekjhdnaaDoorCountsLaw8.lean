/-
  The walk of ParkCounts. Condition: the table of names holds its own.
-/
import Derived.Test.YtpkpmoiekjhdnaaDoorWakesLaw8
import Derived.Test.YtpkpmoiekjhdnaaDoorRow8
import Derived.StillTailTactics
namespace Go.Proofs.YtpkpmoiekjhdnaaDoor
open Go.RowKit Go.Sort Go.Lib Go.Shelf

def sumN (L : List (PodV × Int)) : Nat → Nat
  | 0 => 0
  | t + 1 => sumN L t + (if t = 0 then 0 else cntE (t : Int) L)
theorem sumN_le (L : List (PodV × Int)) : ∀ j, sumN L j ≤ j * L.length
  | 0 => Nat.zero_le _
  | t + 1 => by
    have := sumN_le L t
    have h2 := cnt_le (t : Int) L
    rw [sumN, Nat.succ_mul]
    split <;> omega
theorem sumN_five (L : List (PodV × Int)) (h : ∀ y ∈ L, 1 ≤ y.2 ∧ y.2 ≤ 4) : sumN L 5 = L.length := by
  induction L with
  | nil => rfl
  | cons y L ih =>
    have ih := ih fun z hz => h z (List.mem_cons_of_mem _ hz)
    have hy := h y List.mem_cons_self
    obtain ⟨x, q⟩ := y
    simp only [sumN, cnt_cons] at ih ⊢
    rw [List.length_cons, ← ih]
    have : q = 1 ∨ q = 2 ∨ q = 3 ∨ q = 4 := by simp only at hy; omega
    rcases this with rfl | rfl | rfl | rfl <;> simp <;> omega

set_option maxRecDepth 100000 in
set_option maxHeartbeats 8000000 in
theorem counts_walk {A : Option Addr} {n c : Nat} {P : Nat → PodV} {A2 : Option Addr} {n2 c2 : Nat} {Z : Nat → Int} {w : World} (hR : RdPods w A n P) (hR2 : Rd w A2 n2 Z) (hv : V8 w) : Calls Tryd.prog 7 #[.slice A n c, .slice A2 n2 c2] w fun e w' => e = .returned (.bool true) ∧ Keep w w' := by
  have mixed : Tryd.prog.follows .mixedOrders = true := by kernel_rfl
  have hv := Lib.hid hv
  have aw := Lib.hid awake_true
  have hn2 := hR2.small
  replace hR := Lib.hid hR
  replace hR2 := Lib.hid hR2
  go_enter Tryd.func7, Tryd.ntmps7
  go_wp2_with fail
  refine (pnew_fn _).mono ?_
  rintro e w1 ⟨bl, rfl, k1, hQ⟩
  have hQ := Lib.hid hQ
  replace k1 := Lib.hid k1
  go_wp2_with fail
  refine (aw.out _ (hv.out.keep k1.out)).mono ?_
  rintro e w2 ⟨rfl, k2⟩
  have K2 := Lib.hid (k1.out.trans k2)
  have R2 := Lib.hid (hR.out.keep K2.out)
  have hfew : ∀ b : Bool, (b = true ↔ FewP P n) → Calls Tryd.prog 19 #[.slice A n c] w2 fun e w' => e = .returned (.bool b) ∧ w2 = w' := fun b hb => rfew_fn A n c P w2 R2.out b hb
  replace hfew := Lib.hid hfew
  by_cases hf : FewP P n
  rotate_left
  · have hfew2 := Lib.hid (hfew.out false (by simp only [Bool.false_eq_true, false_iff]; exact hf))
    clear hfew
    replace hf := Lib.hid hf
    replace k2 := Lib.hid k2
    go_wp2_with fail
    refine hfew2.out.mono ?_
    rintro e w3 ⟨rfl, rfl⟩
    clear hfew2
    go_wp2_with fail
    refine (aw.out _ (hv.out.keep K2.out)).mono ?_
    rintro e w4 ⟨rfl, k4⟩
    go_wp2
    go_ret
    exact ⟨rfl, K2.out.trans k4⟩
  have hfew2 := Lib.hid (hfew.out true ⟨fun _ => hf, fun _ => rfl⟩)
  clear hfew
  have hn := hf.1
  have hf := Lib.hid hf
  obtain ⟨D, Q2, hD⟩ := hQ.out w.heap.size w2 (Nat.le_refl _) k2 K2.out.size
  have loD := Lib.hid (fun k hk => (Q2.lo k hk).1)
  replace Q2 := Lib.hid Q2
  replace hD := Lib.hid hD
  replace k2 := Lib.hid k2
  go_wp2_with fail
  refine hfew2.out.mono ?_
  rintro e w3 ⟨rfl, rfl⟩
  clear hfew2
  go_wp2
  go_loopg [6, 7] n (fun gx s6 s7 wr => ∃ (i : Nat) (m : Nat) (L : List (PodV × Int)), i ≤ n ∧ gx = n - i ∧ s6 = .int .i64 m ∧ s7 = .int .i64 i ∧ m ≤ i ∧ Hid (m = L.length) ∧ Hid (Keep w wr) ∧ Hid (LInv wr w.heap.size w.heap.size bl D L) ∧ Hid (∀ y ∈ L, 1 ≤ y.2 ∧ y.2 ≤ 4))
  case atStart => exact ⟨0, 0, [], Nat.zero_le _, rfl, rfl, rfl, Nat.le_refl _, rfl, K2, Q2, fun y h => by cases h⟩
  case round =>
    clear Q2
    obtain ⟨i, m, L, hi, rfl, rfl, rfl, hmi, hm, K, QL, RL⟩ := hrel
    by_cases hlt : i < n ∧ i < n2
    · obtain ⟨hl1, hl2⟩ := hlt
      obtain ⟨b, off, hA, ca⟩ := hR.out.adr (by omega)
      obtain ⟨bz, oz, hA2, cz⟩ := hR2.out.adr (by omega)
      subst hA
      subst hA2
      have q1 := pods_at b off n c i hl1
      have q2 := ints_at bz oz n2 c2 i hl2
      have X := (ca i hl1).keep K.out
      have Xi := (hR.out.is i hl1).keep K.out
      have z0 := K.out.cell (cz i hl2)
      have hxm := (hf.out.2 i hl1).2.2
      clear ca cz
      obtain ⟨x, hx⟩ : ∃ x, x = P i := ⟨_, rfl⟩
      obtain ⟨z, hz⟩ : ∃ z, z = Z i := ⟨_, rfl⟩
      rw [← hx] at X Xi hxm
      rw [← hz] at z0
      replace hx := Lib.hid hx
      replace hz := Lib.hid hz
      have cA : Hid (Calls Tryd.prog 20 #[.pointer (some ⟨bl, 0, none⟩), .agg #[.int .i64 x.k, .int .i64 x.p, .bool x.f, .int .i64 x.g, .slice x.A x.m x.c, .int .i64 x.a, .int .i64 x.h, .int .i64 x.d, .int .i64 x.t], .int .i64 z] wr.drew fun e w' => ∃ (b : Bool) (L' : List (PodV × Int)), e = .returned (.bool b) ∧ Keep w w' ∧ LInv w' w.heap.size w.heap.size bl D L' ∧ (L'.length = m + (if b then 1 else 0)) ∧ ∀ y ∈ L', 1 ≤ y.2 ∧ y.2 ≤ 4) := by
        have Qd := QL.out.keep ((Keep.refl wr).drew)
        have Kd := K.out.drew
        by_cases hz : z < 1 ∨ 4 < z
        · exact (padd_wrong bl x z _ hz).mono fun e w' ⟨he, k⟩ => ⟨false, L, he, Kd.trans k, Qd.keep k, by rw [← hm.out]; rfl, RL.out⟩
        by_cases hk : x.k ∈ keysE L
        · exact (padd_there Qd x z (by omega) (by omega) hk).mono fun e w' ⟨he, k⟩ => ⟨false, L, he, Kd.trans k, Qd.keep k, by rw [← hm.out]; rfl, RL.out⟩
        · refine (padd_new Qd x z (by omega) (by omega) hk (Xi.keep ((Keep.refl wr).drew)) (by omega) (by have := hm.out; omega)).mono fun e w' ⟨he, q', F⟩ => ⟨true, _, he, F.low Kd loD.out, q', ?_, fun y hy => ?_⟩
          · rw [List.length_append, ← hm.out]; rfl
          · rcases List.mem_append.1 hy with h | h
            · exact RL.out y h
            · rw [List.mem_singleton.1 h]
              show 1 ≤ z ∧ z ≤ 4
              omega
      have x0 := X.e0; have x1 := X.e1; have x2 := X.e2; have x3 := X.e3; have x4 := X.e4; have x5 := X.e5; have x6 := X.e6; have x7 := X.e7; have x8 := X.e8
      replace Xi := Lib.hid Xi
      clear X
      go_wp2_with fail
      go_still_tail 9, (by kernel_rfl)
      change wpList _ _ _ _ _ wr.drew
      go_wp2_with fail
      refine cA.out.mono ?_
      rintro e w4 ⟨b4, L4, rfl, K4, Q4, l4, r4⟩
      replace K4 := Lib.hid K4
      replace Q4 := Lib.hid Q4
      replace r4 := Lib.hid r4
      clear cA x0 x1 x2 x3 x4 x5 x6 x7 x8 q1 q2 z0
      cases b4 with
      | true =>
        have l4' : Hid (m + 1 = L4.length) := l4.symm
        replace l4 := Lib.hid l4
        go_wp2
        go_roundg (n - (i + 1))
        case measure => omega
        case rel => exact ⟨i + 1, m + 1, L4, hl1, rfl, by go_num, by go_num, by omega, l4', K4, Q4, r4⟩
      | false =>
        have l4' : Hid (m = L4.length) := l4.symm
        replace l4 := Lib.hid l4
        go_wp2
        go_roundg (n - (i + 1))
        case measure => omega
        case rel => exact ⟨i + 1, m, L4, hl1, rfl, rfl, by go_num, by omega, l4', K4, Q4, r4⟩
    · have sl := Lib.hid (sumN_le L)
      have s5 := Lib.hid (sumN_five L RL.out)
      have cC : Hid (∀ W, Keep wr W → ∀ r : Int, Calls Tryd.prog 17 #[.pointer (some ⟨bl, 0, none⟩), .int .i64 r] W fun e w' => e = .returned (.int .i64 (cntE r L : Nat)) ∧ Keep W w') := fun W k r => pcount_fn (QL.out.keep k) r
      have hle : Hid (∀ r : Int, cntE r L ≤ m) := fun r => by rw [hm.out]; exact cnt_le r L
      have cAll : Hid (∀ W, Keep wr W → Calls Tryd.prog 13 #[.pointer (some ⟨bl, 0, none⟩)] W fun e w' => ∃ g, e = .returned (.slice (some ⟨g, 0, none⟩) m m) ∧ Keep W w') := fun W k => by
        have h := pall_fn (QL.out.keep k)
        rw [← hm.out] at h
        refine h.mono ?_
        rintro e w' ⟨v, S, rfl, AL⟩
        obtain ⟨g, rfl, _⟩ := AL.at_
        exact ⟨g, rfl, AL.keep⟩
      have cWk : Hid (∀ W, Keep wr W → Calls Tryd.prog 21 #[.pointer (some ⟨bl, 0, none⟩)] W fun e w' => ∃ g D', e = .returned (.slice (some ⟨g, 0, none⟩) m m) ∧ Keep w w' ∧ LInv w' w.heap.size w.heap.size bl D' []) := fun W k => by
        have h := pwake_fn (QL.out.keep k)
        rw [← hm.out] at h
        refine h.mono ?_
        rintro e w' ⟨g, S, rfl, WK⟩
        obtain ⟨D', q, _⟩ := WK.inv
        exact ⟨g, D', rfl, WK.fr.low (K.out.trans k) loD.out, q⟩
      have hcs : (i < n ∧ ¬ i < n2) ∨ ¬ i < n := by omega
      clear hlt
      have K0 := K
      rcases hcs with ⟨ha, hb⟩ | ha
      all_goals
        go_wp2
        go_loopg [8, 9] 4 (fun gx s8 s9 wx => ∃ (j k : Nat), j ≤ 5 ∧ 1 ≤ j ∧ gx = 5 - j ∧ s9 = .int .i64 j ∧ s8 = .int .i64 k ∧ k ≤ j * m ∧ Hid (k = sumN L j) ∧ Hid (Keep wr wx))
        case atStart => exact ⟨1, 0, by omega, Nat.le_refl _, rfl, rfl, rfl, Nat.zero_le _, rfl, Keep.refl _⟩
        case round =>
          obtain ⟨j, k, hj5, hj1, rfl, rfl, rfl, hkm, hk, KX⟩ := hrel
          by_cases hlt : j < 5
          · have c1 := cC.out _ KX.out (j : Int)
            have hl := hle.out (j : Int)
            have hs : sumN L (j + 1) = sumN L j + (if j = 0 then 0 else cntE (j : Int) L) := rfl
            rw [if_neg (by omega)] at hs
            generalize cntE (j : Int) L = q at c1 hl hs
            have hk2 : Hid (k + q = sumN L (j + 1)) := by show _ = _; rw [hs, ← hk.out]
            replace c1 := Lib.hid c1
            replace hs := Lib.hid hs
            have hb2 : k ≤ 500 := by
              have : j * m ≤ 5 * 100 := Nat.mul_le_mul (by omega) (by omega)
              omega
            have hj4 : (j : Int) ≤ 4 := by omega
            have hb3 : k + q ≤ (j + 1) * m := by rw [Nat.succ_mul]; omega
            replace hkm := Lib.hid hkm
            replace hb3 := Lib.hid hb3
            go_wp2_with fail
            refine c1.out.mono ?_
            rintro e w5 ⟨rfl, k5⟩
            have K5 := Lib.hid (KX.out.trans k5)
            replace k5 := Lib.hid k5
            clear c1
            go_wp2
            go_roundg (5 - (j + 1))
            case measure => omega
            case rel => exact ⟨j + 1, k + q, by omega, by omega, rfl, by go_num, by go_num, hb3.out, hk2, K5⟩
          · obtain rfl : j = 5 := by omega
            have e5 : k = m := by rw [hk.out, s5.out, hm.out]
            subst e5
            replace hkm := Lib.hid hkm
            have cA2 := Lib.hid (cAll.out _ KX.out)
            go_wp2_with fail
            refine cA2.out.mono ?_
            rintro e w5 ⟨g5, rfl, k5⟩
            have cW2 := Lib.hid (cWk.out _ (KX.out.trans k5))
            replace k5 := Lib.hid k5
            clear cA2
            go_wp2_with fail
            refine cW2.out.mono ?_
            rintro e w6 ⟨g6, D6, rfl, K6, Q6⟩
            have c7 : Hid (∀ W, Keep w6 W → ∀ r : Int, Calls Tryd.prog 17 #[.pointer (some ⟨bl, 0, none⟩), .int .i64 r] W fun e w' => e = .returned (.int .i64 0) ∧ Keep w6 w') := fun W k r => (pcount_fn (Q6.keep k) r).mono fun e w' ⟨he, k'⟩ => ⟨he, k.trans k'⟩
            replace K6 := Lib.hid K6
            replace Q6 := Lib.hid Q6
            clear cW2
            go_wp2_with fail
            refine (c7.out _ (Keep.refl _) _).mono ?_
            rintro e w7 ⟨rfl, k7⟩
            replace k7 := Lib.hid k7
            go_wp2_with fail
            refine (c7.out _ k7.out _).mono ?_
            rintro e w8 ⟨rfl, k8⟩
            replace k8 := Lib.hid k8
            go_wp2_with fail
            refine (c7.out _ k8.out _).mono ?_
            rintro e w9 ⟨rfl, k9⟩
            replace k9 := Lib.hid k9
            go_wp2_with fail
            refine (c7.out _ k9.out _).mono ?_
            rintro e wa ⟨rfl, ka⟩
            replace ka := Lib.hid ka
            go_wp2
            go_ret
            exact ⟨rfl, K6.out.trans ka.out⟩
end Go.Proofs.YtpkpmoiekjhdnaaDoor
