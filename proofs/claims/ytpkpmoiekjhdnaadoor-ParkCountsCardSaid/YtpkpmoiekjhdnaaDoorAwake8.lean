/-
  The law's awake returns true. Condition: the table of names holds its own.
-/
import Derived.Test.YtpkpmoiekjhdnaaDoorMet8
import Derived.Test.YtpkpmoiekjhdnaaDoorCnt8
import Derived.Test.YtpkpmoiekjhdnaaDoorAdd8
import Derived.Test.YtpkpmoiekjhdnaaDoorName8
namespace Go.Proofs.YtpkpmoiekjhdnaaDoor
open Go.RowKit Go.Sort Go.Lib Go.Shelf

def pz (k p : Int) : PodV := ⟨k, p, false, 0, none, 0, 0, fun _ => 0, 0, 0, 0, 0⟩
theorem i64_zero : I64 0 := by unfold I64; decide
theorem pz_is (w : World) {k p : Int} (h1 : I64 k) (h2 : I64 p) : PodIs w (pz k p) := ⟨Rd.nil _ _ _, fun _ => ⟨rfl, rfl⟩, h1, h2, i64_zero, i64_zero, i64_zero, i64_zero, i64_zero⟩
theorem aw_first {S : Nat → PodV} (hp : ((lst S 2).map nm).Perm [pz 1 1, pz 2 5]) (hs : ((lst S 2).map nm).Pairwise leP) : (S 0).k = 2 := by
  have e : (lst S 2).map nm = [nm (S 0), nm (S 1)] := rfl
  rw [e] at hp hs
  have h := (List.pairwise_cons.1 hs).1 (nm (S 1)) (by simp)
  have h0 : nm (S 0) ∈ [pz 1 1, pz 2 5] := hp.mem_iff.1 (by simp)
  simp only [List.mem_cons, List.not_mem_nil, or_false] at h0
  rcases h0 with h0 | h0
  · have h1 : pz 2 5 ∈ [nm (S 0), nm (S 1)] := hp.mem_iff.2 (by simp)
    rw [h0] at h1 h
    simp only [List.mem_cons, List.not_mem_nil, or_false] at h1
    rcases h1 with h1 | h1
    · exact absurd (congrArg PodV.k h1) (by decide)
    · rw [← h1] at h
      exact absurd h (by unfold leP; decide +kernel)
  · exact congrArg PodV.k h0

set_option maxRecDepth 100000 in
set_option maxHeartbeats 16000000 in
theorem awake_true (w : World) (hv : V8 w) : Calls Tryd.prog 9 #[] w fun e w' => e = .returned (.bool true) ∧ Keep w w' := by
  have hv := Lib.hid hv
  go_enter Tryd.func9, Tryd.ntmps9
  go_wp2_with fail
  refine (pnew_fn _).mono ?_
  rintro e w1 ⟨bl, rfl, k1, hQ⟩
  obtain ⟨D, Q1, hD⟩ := hQ w.heap.size w1 (Nat.le_refl _) (Keep.refl _) k1.size
  have loD := Lib.hid (fun k hk => (Q1.lo k hk).1)
  have c1 : Hid (Calls Tryd.prog 20 #[.pointer (some ⟨bl, 0, none⟩), .agg #[.int .i64 1, .int .i64 1, .bool false, .int .i64 0, .slice none 0 0, .int .i64 0, .int .i64 0, .int .i64 0, .int .i64 0], .int .i64 1] w1 fun e w' => e = .returned (.bool true) ∧ LInv w' w.heap.size w.heap.size bl D [(pz 1 1, 1)] ∧ Fr D w1 w') := padd_new Q1 (pz 1 1) 1 (by decide) (by decide) (by decide) (pz_is _ (by unfold I64; decide) (by unfold I64; decide)) (by decide) (by decide)
  have k1 := Lib.hid k1
  replace hQ := Lib.hid hQ
  replace Q1 := Lib.hid Q1
  replace hD := Lib.hid hD
  go_wp2_with fail
  refine c1.out.mono ?_
  rintro e w2 ⟨rfl, Q2, F2⟩
  have K2 : Hid (Keep w w2) := F2.low k1.out loD.out
  have c2 : Hid (Calls Tryd.prog 20 #[.pointer (some ⟨bl, 0, none⟩), .agg #[.int .i64 2, .int .i64 5, .bool false, .int .i64 0, .slice none 0 0, .int .i64 0, .int .i64 0, .int .i64 0, .int .i64 0], .int .i64 2] w2 fun e w' => e = .returned (.bool true) ∧ LInv w' w.heap.size w.heap.size bl D [(pz 1 1, 1), (pz 2 5, 2)] ∧ Fr D w2 w') := padd_new Q2 (pz 2 5) 2 (by decide) (by decide) (by decide) (pz_is _ (by unfold I64; decide) (by unfold I64; decide)) (by decide) (by decide)
  replace Q2 := Lib.hid Q2
  replace F2 := Lib.hid F2
  clear c1
  go_wp2_with fail
  refine c2.out.mono ?_
  rintro e w3 ⟨rfl, Q3, F3⟩
  have K3 : Hid (Keep w w3) := F3.low K2.out loD.out
  have c3 : Hid (Calls Tryd.prog 20 #[.pointer (some ⟨bl, 0, none⟩), .agg #[.int .i64 2, .int .i64 0, .bool false, .int .i64 0, .slice none 0 0, .int .i64 0, .int .i64 0, .int .i64 0, .int .i64 0], .int .i64 2] w3 fun e w' => e = .returned (.bool false) ∧ Keep w3 w') := padd_there Q3 (pz 2 0) 2 (by decide) (by decide) (by decide)
  replace Q3 := Lib.hid Q3
  replace F3 := Lib.hid F3
  clear c2
  go_wp2_with fail
  refine c3.out.mono ?_
  rintro e w4 ⟨rfl, k4⟩
  have K4 := Lib.hid (K3.out.trans k4)
  have Q4 := Lib.hid (Q3.out.keep k4)
  replace k4 := Lib.hid k4
  clear c3
  have c4 := Lib.hid (preason_fn Q4.out 2 2 true (fun _ => ⟨(pz 2 5, 2), by simp, rfl, rfl⟩) (fun h => by cases h))
  go_wp2_with fail
  refine c4.out.mono ?_
  rintro e w5 ⟨rfl, k5⟩
  have K5 := Lib.hid (K4.out.trans k5)
  have Q5 := Lib.hid (Q4.out.keep k5)
  replace k5 := Lib.hid k5
  clear c4
  have c5 := pcount_fn Q5.out 2
  rw [show ((cntE 2 [(pz 1 1, 1), (pz 2 5, 2)] : Nat) : Int) = 1 from by decide] at c5
  replace c5 := Lib.hid c5
  go_wp2_with fail
  refine c5.out.mono ?_
  rintro e w6 ⟨rfl, k6⟩
  have K6 := Lib.hid (K5.out.trans k6)
  have Q6 := Q5.out.keep k6
  replace k6 := Lib.hid k6
  clear c5
  have c6 : Hid (Calls Tryd.prog 21 #[.pointer (some ⟨bl, 0, none⟩)] w6 fun e w' => ∃ g S, e = .returned (.slice (some ⟨g, 0, none⟩) 2 2) ∧ Woke w6 w' w.heap.size w.heap.size bl D [(pz 1 1, 1), (pz 2 5, 2)] g S) := pwake_fn Q6
  replace Q6 := Lib.hid Q6
  go_wp2_with fail
  refine c6.out.mono ?_
  rintro e w7 ⟨g, S, rfl, W7⟩
  have K7 : Hid (Keep w w7) := W7.fr.low K6.out loD.out
  obtain ⟨D7, Q7, _⟩ := W7.inv
  have ek : (S 0).k = 2 := aw_first W7.perm W7.sort
  obtain ⟨gb, off, eg, hc⟩ := W7.rd.adr (by decide)
  simp only [Option.some.injEq, Addr.mk.injEq, and_true] at eg
  obtain ⟨rfl, rfl⟩ := eg
  have y0 := (hc 0 (by decide)).e0
  rw [ek, Nat.zero_mul, Nat.add_zero] at y0
  have c7 : Hid (Calls Tryd.prog 13 #[.pointer (some ⟨bl, 0, none⟩)] w7 fun e w' => ∃ v S, e = .returned v ∧ AllIs w7 w' [] 0 v S) := pall_fn Q7
  replace Q7 := Lib.hid Q7
  replace W7 := Lib.hid W7
  replace hc := Lib.hid hc
  replace ek := Lib.hid ek
  clear c6
  go_wp2_with fail
  refine c7.out.mono ?_
  rintro e w8 ⟨v, T, rfl, AL⟩
  obtain ⟨g8, rfl, _⟩ := AL.at_
  have K8 := Lib.hid (K7.out.trans AL.keep)
  replace AL := Lib.hid AL
  clear c7
  have c8 : Hid (∀ W, Calls Tryd.prog 20 #[.pointer none, .agg #[.int .i64 0, .int .i64 0, .bool false, .int .i64 0, .slice none 0 0, .int .i64 0, .int .i64 0, .int .i64 0, .int .i64 0], .int .i64 1] W fun e w' => e = .returned (.bool false) ∧ Keep W w') := fun W => padd_nil zpod 1 W
  go_wp2_with fail
  refine (c8.out _).mono ?_
  rintro e w9 ⟨rfl, k9⟩
  have K9 := Lib.hid (K8.out.trans k9)
  replace k9 := Lib.hid k9
  clear c8
  have cw := Lib.hid (pwake_nil w9)
  go_wp2_with fail
  refine cw.out.mono ?_
  rintro e wa ⟨rfl, rfl⟩
  clear cw
  have cn : Hid (Calls Tryd.prog 23 #[.int .i64 4] w9 fun e w' => e = .returned (.string ⟨#[119, 97, 105, 116, 105, 110, 103]⟩) ∧ w9 = w') := pname_fn 4 w9 (hv.out.keep K9.out)
  go_wp2_with fail
  refine cn.out.mono ?_
  rintro e wb ⟨rfl, rfl⟩
  clear cn
  go_wp2
  go_ret
  exact ⟨rfl, K9.out⟩
end Go.Proofs.YtpkpmoiekjhdnaaDoor
