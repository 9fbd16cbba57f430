/-
  The walk of ParkWakes. Condition: the table of names holds its own.
-/
import Derived.Test.YtpkpmoiekjhdnaaDoorAwake8
import Derived.Test.YtpkpmoiekjhdnaaDoorLMath8
import Derived.Test.YtpkpmoiekjhdnaaDoorRLot8
namespace Go.Proofs.YtpkpmoiekjhdnaaDoor
open Go.RowKit Go.Sort Go.Lib Go.Shelf

theorem addP_in {L : List PodV} {x : PodV} (h : x.k ∈ L.map (·.k)) : addP L x = L := if_pos h
theorem addP_out {L : List PodV} {x : PodV} (h : x.k ∉ L.map (·.k)) : addP L x = L ++ [nm x] := if_neg h
theorem and_three (r : Int) : 0 ≤ bits BinOp.and IntKind.i64 r 3 ∧ bits BinOp.and IntKind.i64 r 3 ≤ 3 := by
  have h : (BitVec.ofInt 64 r &&& BitVec.ofInt 64 3).toNat ≤ 3 := by
    rw [BitVec.toNat_and]
    exact Nat.and_le_right
  show 0 ≤ IntKind.i64.wrap ((BitVec.ofInt 64 r &&& BitVec.ofInt 64 3).toNat : Int) ∧ IntKind.i64.wrap ((BitVec.ofInt 64 r &&& BitVec.ofInt 64 3).toNat : Int) ≤ 3
  rw [IntKind.wrap_i64]
  generalize (BitVec.ofInt 64 r &&& BitVec.ofInt 64 3).toNat = m at h
  omega
theorem w64_in (n : Int) (h : -9223372036854775808 ≤ n ∧ n ≤ 9223372036854775807) : wrap64 n = n := by unfold wrap64; omega
theorem reason_in (r : Int) {i : Nat} (hi : i ≤ 100) : 1 ≤ wrap64 (1 + (wrap64 (bits BinOp.and IntKind.i64 r 3 + (i : Int))).tmod 4) ∧ wrap64 (1 + (wrap64 (bits BinOp.and IntKind.i64 r 3 + (i : Int))).tmod 4) ≤ 4 := by
  have h := and_three r
  generalize bits BinOp.and IntKind.i64 r 3 = q at h ⊢
  rw [w64_in (q + (i : Int)) (by omega)]
  have h1 := Int.tmod_nonneg (a := q + (i : Int)) 4 (by omega)
  have h2 := Int.tmod_lt_of_pos (q + (i : Int)) (b := 4) (by omega)
  rw [w64_in _ (by omega)]
  omega
set_option maxRecDepth 100000 in
set_option maxHeartbeats 8000000 in
theorem wakes_walk {A : Option Addr} {n c : Nat} {P : Nat → PodV} {r : Int} {w : World} (hR : RdPods w A n P) (hv : V8 w) (hr : I64 r) : Calls Tryd.prog 4 #[.slice A n c, .int .i64 r] w fun e w' => e = .returned (.bool true) ∧ Keep w w' := by
  have hv := Lib.hid hv
  have aw := Lib.hid awake_true
  replace hR := Lib.hid hR
  replace hr := Lib.hid hr
  go_enter Tryd.func4, Tryd.ntmps4
  go_wp2_with fail
  refine (pnew_fn _).mono ?_
  rintro e w1 ⟨bl, rfl, k1, hQ⟩
  have hQ := Lib.hid hQ
  replace k1 := Lib.hid k1
  go_wp2_with fail
  refine (aw.out _ (hv.out.keep k1.out)).mono ?_
  rintro e w2 ⟨rfl, k2⟩
  have K2 := Lib.hid (k1.out.trans k2)
  have R2 := Lib.hid (hR.out.keep K2.out)
  have hfew : ∀ b : Bool, (b = true ↔ FewP P n) → Calls Tryd.prog 19 #[.slice A n c] w2 fun e w' => e = .returned (.bool b) ∧ w2 = w' := fun b hb => rfew_fn A n c P w2 R2.out b hb
  replace hfew := Lib.hid hfew
  by_cases hf : FewP P n
  rotate_left
  · have hfew2 := Lib.hid (hfew.out false (by simp only [Bool.false_eq_true, false_iff]; exact hf))
    clear hfew
    replace hf := Lib.hid hf
    replace k2 := Lib.hid k2
    go_wp2_with fail
    refine hfew2.out.mono ?_
    rintro e w3 ⟨rfl, rfl⟩
    clear hfew2
    go_wp2_with fail
    refine (aw.out _ (hv.out.keep K2.out)).mono ?_
    rintro e w4 ⟨rfl, k4⟩
    go_wp2
    go_ret
    exact ⟨rfl, K2.out.trans k4⟩
  have hfew2 := Lib.hid (hfew.out true ⟨fun _ => hf, fun _ => rfl⟩)
  clear hfew
  have hn := hf.1
  have hf := Lib.hid hf
  obtain ⟨D, Q2, hD⟩ := hQ.out w.heap.size w2 (Nat.le_refl _) k2 K2.out.size
  have loD := Lib.hid (fun k hk => (Q2.lo k hk).1)
  replace Q2 := Lib.hid Q2
  replace hD := Lib.hid hD
  replace k2 := Lib.hid k2
  go_wp2_with fail
  refine hfew2.out.mono ?_
  rintro e w3 ⟨rfl, rfl⟩
  clear hfew2
  go_wp2
  go_loopg [6] n (fun gx s6 wr => ∃ (i : Nat) (L : List (PodV × Int)), i ≤ n ∧ gx = n - i ∧ s6 = .int .i64 i ∧ Hid (Keep w wr) ∧ Hid (LInv wr w.heap.size w.heap.size bl D L) ∧ Hid (podsE L = addN [] P i))
  case atStart => exact ⟨0, [], Nat.zero_le _, rfl, rfl, K2, Q2, rfl⟩
  case round =>
    clear Q2
    obtain ⟨i, L, hi, rfl, rfl, K, QL, EL⟩ := hrel
    by_cases hlt : i < n
    · obtain ⟨b, off, hA, ca⟩ := hR.out.adr (by omega)
      subst hA
      have q1 := pods_at b off n c i hlt
      have X := (ca i hlt).keep K.out
      have Xi := (hR.out.is i hlt).keep K.out
      have hxm := (hf.out.2 i hlt).2.2
      clear ca
      have ha : addN [] P (i + 1) = addP (addN [] P i) (P i) := rfl
      obtain ⟨x, hx⟩ : ∃ x, x = P i := ⟨_, rfl⟩
      rw [← hx] at X Xi hxm ha
      replace hx := Lib.hid hx
      have hlen : L.length ≤ i := by
        have h1 := (addN_len [] P i).2
        rw [← EL.out] at h1
        simp [podsE] at h1
        exact h1
      have cA : Hid (∀ q : Int, 1 ≤ q → q ≤ 4 → Calls Tryd.prog 20 #[.pointer (some ⟨bl, 0, none⟩), .agg #[.int .i64 x.k, .int .i64 x.p, .bool x.f, .int .i64 x.g, .slice x.A x.m x.c, .int .i64 x.a, .int .i64 x.h, .int .i64 x.d, .int .i64 x.t], .int .i64 q] wr fun e w' => ∃ (b : Bool) (L' : List (PodV × Int)), e = .returned (.bool b) ∧ Keep w w' ∧ LInv w' w.heap.size w.heap.size bl D L' ∧ podsE L' = addN [] P (i + 1)) := fun q h1 h4 => by
        by_cases hk : x.k ∈ keysE L
        · refine (padd_there QL.out x q h1 h4 hk).mono fun e w' ⟨he, k⟩ => ⟨false, L, he, K.out.trans k, QL.out.keep k, ?_⟩
          rw [ha, EL.out]
          refine (addP_in ?_).symm
          rw [← EL.out, pods_keys]
          exact hk
        · refine (padd_new QL.out x q h1 h4 hk Xi (by omega) (by omega)).mono fun e w' ⟨he, q', F⟩ => ⟨true, _, he, F.low K.out loD.out, q', ?_⟩
          have e1 : podsE (L ++ [(nm x, q)]) = podsE L ++ [nm x] := by unfold podsE; rw [List.map_append]; rfl
          rw [e1, ha, EL.out]
          refine (addP_out ?_).symm
          rw [← EL.out, pods_keys]
          exact hk
      have x0 := X.e0; have x1 := X.e1; have x2 := X.e2; have x3 := X.e3; have x4 := X.e4; have x5 := X.e5; have x6 := X.e6; have x7 := X.e7; have x8 := X.e8
      replace Xi := Lib.hid Xi
      replace ha := Lib.hid ha
      clear X
      have hq := Lib.hid (reason_in r (i := i) (by omega))
      go_wp2_with fail
      refine (cA.out _ hq.out.1 hq.out.2).mono ?_
      rintro e w4 ⟨b4, L4, rfl, K4, Q4, E4⟩
      replace K4 := Lib.hid K4
      replace Q4 := Lib.hid Q4
      replace E4 := Lib.hid E4
      clear cA x0 x1 x2 x3 x4 x5 x6 x7 x8 q1
      go_wp2
      go_roundg (n - (i + 1))
      case measure => omega
      case rel => exact ⟨i + 1, L4, hlt, rfl, by go_num, K4, Q4, E4⟩
    · obtain rfl : i = n := by omega
      have cW := pwake_fn QL.out
      have kQ := QL.out.keys
      rw [← pods_keys, EL.out] at kQ
      obtain ⟨m, hm⟩ : ∃ m, m = L.length := ⟨_, rfl⟩
      have hmE : m = (addN [] P i).length := by rw [hm, ← EL.out]; simp [podsE]
      rw [← hm] at cW
      replace cW := Lib.hid cW
      replace kQ := Lib.hid kQ
      replace hm := Lib.hid hm
      replace hmE := Lib.hid hmE
      go_wp2_with fail
      refine cW.out.mono ?_
      rintro e w4 ⟨g, S, rfl, W4⟩
      have K4 : Hid (Keep w w4) := W4.fr.low K.out loD.out
      obtain ⟨D4, Q4, N4⟩ := W4.inv
      have rd4 := Lib.hid W4.rd
      have pm4 := W4.perm
      rw [EL.out] at pm4
      have pm4 := Lib.hid pm4
      have so4 := Lib.hid W4.sort
      have lo4 := Lib.hid (fun k hk => (Q4.lo k hk).1)
      rw [← hm.out] at rd4 pm4 so4
      have cR := rpush_fn none 0 0 (fun _ => zpod) A i c P w4 (RdPods.nil _ _ _) (fun _ => ⟨rfl, rfl⟩) (hR.out.keep K4.out) (by omega) (fun j h => absurd h (Nat.not_lt_zero _)) (fun j hj => ⟨(hf.out.2 j hj).1, (hf.out.2 j hj).2.1⟩)
      have eL0 : (lst (fun _ => zpod) 0).map nm = [] := rfl
      rw [eL0, ← hmE.out] at cR
      replace cR := Lib.hid cR
      replace Q4 := Lib.hid Q4
      replace N4 := Lib.hid N4
      replace W4 := Lib.hid W4
      replace eL0 := Lib.hid eL0
      clear cW
      go_wp2_with fail
      refine cR.out.mono ?_
      rintro e w5 ⟨B5, d5, S5, rfl, RL, _, _⟩
      have same := both_same pm4.out so4.out RL.perm RL.sort kQ.out
      have cS := Lib.hid (rsame6_fn (some ⟨g, 0, none⟩) B5 m m d5 S S5 w5 (rd4.out.keep RL.keep) RL.rd same.2)
      have K5 := Lib.hid (K4.out.trans RL.keep)
      have Q5 := Lib.hid (Q4.out.keep RL.keep)
      replace RL := Lib.hid RL
      replace same := Lib.hid same
      clear cR
      go_wp2_with fail
      refine cS.out.mono ?_
      rintro e w6 ⟨rfl, k6⟩
      have K6 := Lib.hid (K5.out.trans k6)
      have Q6 := Q5.out.keep k6
      have c6 : Hid (Calls Tryd.prog 21 #[.pointer (some ⟨bl, 0, none⟩)] w6 fun e w' => ∃ g S, e = .returned (.slice (some ⟨g, 0, none⟩) 0 0) ∧ Woke w6 w' w.heap.size w.heap.size bl D4 [] g S) := pwake_fn Q6
      replace Q6 := Lib.hid Q6
      replace k6 := Lib.hid k6
      clear cS
      go_wp2_with fail
      refine c6.out.mono ?_
      rintro e w7 ⟨g7, S7, rfl, W7⟩
      have K7 : Hid (Keep w w7) := W7.fr.low K6.out lo4.out
      obtain ⟨D7, Q7, N7⟩ := W7.inv
      have c7 : Hid (Calls Tryd.prog 13 #[.pointer (some ⟨bl, 0, none⟩)] w7 fun e w' => ∃ v S, e = .returned v ∧ AllIs w7 w' [] 0 v S) := pall_fn Q7
      replace Q7 := Lib.hid Q7
      replace N7 := Lib.hid N7
      replace W7 := Lib.hid W7
      clear c6
      go_wp2_with fail
      refine c7.out.mono ?_
      rintro e w8 ⟨v, T, rfl, AL⟩
      obtain ⟨g8, rfl, _⟩ := AL.at_
      have K8 := Lib.hid (K7.out.trans AL.keep)
      have Q8 := Q7.out.keep AL.keep
      have c8 : Hid (Calls Tryd.prog 17 #[.pointer (some ⟨bl, 0, none⟩), .int .i64 1] w8 fun e w' => e = .returned (.int .i64 0) ∧ Keep w8 w') := pcount_fn Q8 1
      replace Q8 := Lib.hid Q8
      replace AL := Lib.hid AL
      clear c7
      go_wp2_with fail
      refine c8.out.mono ?_
      rintro e w9 ⟨rfl, k9⟩
      have K9 := Lib.hid (K8.out.trans k9)
      replace k9 := Lib.hid k9
      clear c8
      go_wp2
      go_ret
      exact ⟨rfl, K9.out⟩
end Go.Proofs.YtpkpmoiekjhdnaaDoor
