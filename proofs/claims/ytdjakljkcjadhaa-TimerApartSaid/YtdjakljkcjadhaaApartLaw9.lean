/-
  The walk of TimerApart. No condition but the contracts.
-/
import Derived.Test.YtdjakljkcjadhaaSide9
namespace Go.Proofs.Ytdjakljkcjadhaa.T9
open Go.RowKit Go.Sort Go.Lib

/-- The times of a row, whatever they are. -/
def SpT (w : World) (g o m : Nat) : Prop := ∀ j, j < m → (∃ z, w.cell? ⟨g, o + j * 3 + 1, none⟩ = some (.int .i64 z)) ∧ w.frozen? ⟨g, o + j * 3 + 1, none⟩ = false
theorem SpT.set {w : World} {g o m : Nat} (h : SpT w g o m) {i : Nat} (hi : i < m) (v : Int) : SpT (w.setCell ⟨g, o + i * 3 + 1, none⟩ (.int .i64 v)) g o m := fun j hj => by
  obtain ⟨⟨z, h1⟩, h2⟩ := h j hj
  refine ⟨?_, by rw [World.frozen?_setCell]; exact h2⟩
  by_cases e : j = i
  · subst e
    exact ⟨v, World.cell?_setCell_same _ _ _ h1⟩
  · refine ⟨z, (World.cell?_setCell_other _ _ _ _ (fun e2 => ?_)).trans h1⟩
    simp only [Addr.mk.injEq, and_true, true_and] at e2
    omega
theorem spt_own {w : World} {base m c : Nat} {A : Option Addr} {Q : Nat → TmV} (h : w.ownsRow base 33 3 (.slice A m c) m (tmCs Q m)) : ∃ g o, (0 < m → A = some ⟨g, o, none⟩ ∧ base ≤ g) ∧ SpT w g o m := by
  by_cases hm : 0 < m
  · obtain ⟨g, cap, e, _, _⟩ := h.form hm
    simp only [Value.slice.injEq] at e
    obtain ⟨rfl, _, rfl⟩ := e
    refine ⟨g, 0, fun _ => ⟨rfl, (h.lt g rfl).1⟩, fun j hj => ⟨⟨_, (row_cel h hj).e1⟩, h.frozenAt _⟩⟩
  · exact ⟨0, 0, fun h => absurd h hm, fun j hj => absurd hj (by omega)⟩

set_option maxRecDepth 100000 in
set_option maxHeartbeats 8000000 in
theorem apart_walk {TI : World → Nat → Nat → (Nat → Prop) → List TmV → Prop} (C : Con TI) (A : Option Addr) (n c : Nat) (P : Nat → TmV) (w : World) (hR : RdT w A n P) : Calls Try.prog 5 #[.slice A n c] w fun e w' => e = .returned (.bool true) ∧ Keep w w' := by
  have hs := hR.small
  have C := Lib.hid C
  have aw := Lib.hid (awake_true C.out)
  replace hR := Lib.hid hR
  go_enter Try.func5, Try.ntmps5
  go_wp2_with fail
  refine (C.out.new _).mono ?_
  rintro e w1 ⟨bq, rfl, k1, D1, T1⟩
  replace T1 := Lib.hid T1
  replace k1 := Lib.hid k1
  go_wp2_with fail
  refine (C.out.new _).mono ?_
  rintro e w1' ⟨by_, rfl, k1', E, U1⟩
  have j1 : Hid (∀ k, D1 k → ¬ E k) := fun k h h2 => by
    have h3 := (C.out.lo T1.out k h).2
    have h4 := (C.out.lo U1 k h2).1
    omega
  have U1 := Lib.hid (C.out.base U1 k1.out.size)
  have T1' := Lib.hid (C.out.keep T1.out k1')
  replace k1' := Lib.hid k1'
  go_wp2_with fail
  refine (aw.out _).mono ?_
  rintro e w2 ⟨rfl, k2⟩
  have K2 := Lib.hid ((k1.out.trans k1'.out).trans k2)
  have T2 := Lib.hid (side_new (C.out.keep T1'.out k2))
  have U2 := Lib.hid (C.out.keep U1.out k2)
  replace k2 := Lib.hid k2
  by_cases hn : n ≤ 100
  rotate_left
  · go_wp2_with fail
    refine (aw.out _).mono ?_
    rintro e w4 ⟨rfl, k4⟩
    go_wp2
    go_ret
    exact ⟨rfl, K2.out.trans k4⟩
  go_wp2
  go_loopg [5, 6] n (fun gx s6 s7 wr => ∃ (i : Nat) (D : Nat → Prop) (L : List TmV) (B : Option Addr) (d : Nat), i ≤ n ∧ gx = n - i ∧ s7 = .int .i64 i ∧ s6 = .slice B L.length d ∧ L.length ≤ i ∧ Hid (Keep w wr) ∧ Hid (Side TI wr w.heap.size bq D B d L) ∧ Hid (TI wr w.heap.size by_ E []) ∧ Hid (∀ k, D k → ¬ E k))
  case atStart => exact ⟨0, D1, [], none, 0, Nat.zero_le _, rfl, rfl, rfl, Nat.le_refl _, K2, T2, U2, j1⟩
  case round =>
    clear T1 T1' T2 K2 k1 k2 k1' U1 U2 j1
    obtain ⟨i, D, L, B, d, hi, rfl, rfl, rfl, hLi, KR, TR, UR, JR⟩ := hrel
    have lo : Hid (∀ k, D k → w.heap.size ≤ k) := fun k h => (C.out.lo TR.out.t k h).1
    by_cases hlt : i < n
    · obtain ⟨b, off, hA, ca⟩ := (hR.out.keep KR.out).adr (by omega)
      subst hA
      have q1 := atR b off n c i hlt
      have X := ca i hlt
      have ox := hR.out.ok i hlt
      clear ca
      obtain ⟨x, hx⟩ : ∃ x, x = P i := ⟨_, rfl⟩
      rw [← hx] at X ox
      replace hx := Lib.hid hx
      have x0 := X.e0; have x1 := X.e1; have x2 := X.e2
      have cR := Lib.hid (TR.out.rset C.out ox (by omega))
      have sl2 := set_len L x
      have X := Lib.hid X
      have cS : Hid (∀ W, Keep wr W → Calls Try.prog 15 #[.pointer (some ⟨bq, 0, none⟩), x.val] W fun e w' => (∃ s, e = .returned (.bool s)) ∧ ∃ D', TI w' w.heap.size bq D' (setL L x) ∧ Fr D W w' ∧ ∀ k, D' k → D k ∨ W.heap.size ≤ k) := fun W k => by
        refine (C.out.set (C.out.keep TR.out.t k) ox (by omega)).mono ?_
        rintro e w9 ⟨rfl, h⟩
        exact ⟨⟨_, rfl⟩, h⟩
      unfold TmV.val at cR cS
      obtain ⟨M, hM⟩ : ∃ M, M = setL L x := ⟨_, rfl⟩
      rw [← hM] at cR cS sl2
      replace hM := Lib.hid hM
      replace ox := Lib.hid ox
      go_wp2_with fail
      refine cR.out.mono ?_
      rintro e w4 ⟨B', d', rfl, r4⟩
      have k4 : Keep wr w4 := r4.keep
      have cS4 := Lib.hid (cS.out w4 k4)
      clear x0 x1 x2 cR cS
      have x0 := k4.cell X.out.e0; have x1 := k4.cell X.out.e1; have x2 := k4.cell X.out.e2
      replace k4 := Lib.hid k4
      replace r4 := Lib.hid r4
      go_wp2_with fail
      refine cS4.out.mono ?_
      rintro e w5 ⟨⟨s, rfl⟩, D5, T5, F5, N5⟩
      have K5 : Hid (Keep w w5) := F5.low (KR.out.trans k4.out) lo.out
      have S5 : Hid (Side TI w5 w.heap.size bq D5 B' d' M) := by
        have r := r4.out
        rw [hM.out] at r T5
        rw [hM.out]
        exact TR.out.set C.out r T5 F5 N5
      have U5 : Hid (TI w5 w.heap.size by_ E []) := C.out.fr (C.out.keep UR.out k4.out) F5 (fun k h h2 => JR.out k h2 h)
      have J5 : Hid (∀ k, D5 k → ¬ E k) := fun k h h2 => by
        rcases N5 k h with h3 | h3
        · exact JR.out k h3 h2
        · have := (C.out.lo UR.out k h2).2
          have := k4.out.size
          omega
      replace T5 := Lib.hid T5
      replace F5 := Lib.hid F5
      replace N5 := Lib.hid N5
      clear cS4 x0 x1 x2
      go_wp2
      go_roundg (n - (i + 1))
      case measure => omega
      case rel => exact ⟨i + 1, D5, M, B', d', hlt, rfl, by go_num, rfl, by omega, K5, S5, U5, J5⟩
    · obtain rfl : i = n := by omega
      have ltD : Hid (∀ k, D k → k < wr.heap.size) := fun k h => (C.out.lo TR.out.t k h).2
      have okL := Lib.hid (C.out.ok TR.out.t)
      have cA := C.out.all TR.out.t
      obtain ⟨m, hm⟩ : ∃ m, m = L.length := ⟨_, rfl⟩
      rw [← hm] at cA hLi ⊢
      replace cA := Lib.hid cA
      replace hm := Lib.hid hm
      go_wp2_with fail
      refine cA.out.mono ?_
      rintro e w5 ⟨A', c', rfl, k5, R5⟩
      obtain ⟨g, o, hgo, S5⟩ := spt_own R5
      replace R5 := Lib.hid R5
      replace k5 := Lib.hid k5
      replace S5 := Lib.hid S5
      replace hgo := Lib.hid hgo
      clear cA
      obtain ⟨wo, hwo⟩ : ∃ wo, wo = wr := ⟨_, rfl⟩
      rw [← hwo] at k5 R5 KR TR UR ltD hgo
      clear hwo
      go_wp2
      go_loopg [8] m (fun gx s8 wr => ∃ j : Nat, j ≤ m ∧ gx = m - j ∧ s8 = .int .i64 j ∧ Hid (Keep wo wr) ∧ Hid (SpT wr g o m))
      case atStart => exact ⟨0, Nat.zero_le _, rfl, rfl, k5, S5⟩
      case round =>
        clear S5
        obtain ⟨j, hjm, rfl, rfl, KQ, SQ⟩ := hrel
        by_cases hlt : j < m
        · obtain ⟨rfl, hg⟩ := hgo.out (by omega)
          have q1 := atT g o m c' j hlt
          obtain ⟨⟨z, x1⟩, f1⟩ := SQ.out j hlt
          replace hg := Lib.hid hg
          go_wp2
          go_roundg (m - (j + 1))
          case measure => omega
          case rel => exact ⟨j + 1, hlt, rfl, by go_num, KQ.out.set hg.out _, SQ.out.set hlt _⟩
        · have SD := TR.out.keep C.out KQ.out
          have K6 : Hid (Keep w wr) := KR.out.trans KQ.out
          have U6 := C.out.keep UR.out KQ.out
          have cA := C.out.all SD.t
          have cQ : Hid (∀ (w' : World) (A' : Option Addr) (c' : Nat), Keep wr w' → w'.ownsRow wr.heap.size 33 3 (.slice A' m c') m (tmCs (row L) m) → Calls Try.prog 12 #[.slice A' m c', .slice B m d] w' fun e w9 => e = .returned (.bool true) ∧ Keep w' w9) := fun w' A' c' k h => by
            have hmm := hm.out
            subst hmm
            exact SD.same2 C.out k h (by omega)
          rw [← hm.out] at cA
          replace cA := Lib.hid cA
          replace SD := Lib.hid SD
          replace U6 := Lib.hid U6
          go_wp2_with fail
          refine cA.out.mono ?_
          rintro e w8 ⟨A8, c8, rfl, k8, R8⟩
          have cQ8 := Lib.hid (cQ.out w8 A8 c8 k8 R8)
          have K8 : Hid (Keep w w8) := K6.out.trans k8
          replace R8 := Lib.hid R8
          replace k8 := Lib.hid k8
          clear cA
          go_wp2_with fail
          refine cQ8.out.mono ?_
          rintro e w9 ⟨rfl, k9⟩
          have cL := Lib.hid (C.out.len (C.out.keep U6.out (k8.out.trans k9)))
          have K9 : Hid (Keep w w9) := K8.out.trans k9
          replace k9 := Lib.hid k9
          clear cQ8
          go_wp2_with fail
          refine cL.out.mono ?_
          rintro e wa ⟨rfl, rfl⟩
          go_wp2
          go_ret
          exact ⟨rfl, K9.out⟩
end Go.Proofs.Ytdjakljkcjadhaa.T9
