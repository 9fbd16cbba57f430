/-
  The walk of TimerOnce. No condition but the contracts.
-/
import Derived.Test.YtdjakljkcjadhaaSide9
namespace Go.Proofs.Ytdjakljkcjadhaa.T9
open Go.RowKit Go.Sort Go.Lib

theorem due_add {a b : Int} (h : a ≤ b) : ∀ L : List TmV, dueN b L = dueN a L + dueN b (L.drop (dueN a L))
  | [] => rfl
  | y :: L => by
    by_cases e : y.t ≤ a
    · have e1 : dueN a (y :: L) = dueN a L + 1 := by rw [dueN, if_pos e]
      rw [e1, List.drop_succ_cons]
      have := due_add h L
      rw [dueN, if_pos (by omega)]
      omega
    · have e1 : dueN a (y :: L) = 0 := by rw [dueN, if_neg e]
      rw [e1, List.drop_zero, Nat.zero_add]
theorem due_zero (a : Int) : ∀ L : List TmV, dueN a (L.drop (dueN a L)) = 0
  | [] => rfl
  | y :: L => by
    by_cases e : y.t ≤ a
    · have e1 : dueN a (y :: L) = dueN a L + 1 := by rw [dueN, if_pos e]
      rw [e1, List.drop_succ_cons]
      exact due_zero a L
    · have e1 : dueN a (y :: L) = 0 := by rw [dueN, if_neg e]
      rw [e1, List.drop_zero, e1]
theorem due_less {a b : Int} (h : a ≤ b) {L : List TmV} (e : dueN b L = 0) : dueN a L = 0 := by
  cases L with
  | nil => rfl
  | cons y L =>
    rw [dueN] at e ⊢
    split at e
    · omega
    · rw [if_neg (by omega)]
theorem own_off {w : World} {base n z c : Nat} {e : TypeId} {A : Option Addr} {xs : List Value} {E : Nat → Prop} (h : w.ownsRow base e z (.slice A n c) n xs) (hE : ∀ k, E k → k < base) : Off E A n := fun b off e hn hd => by
  have hv : (Value.slice A n c).ownBlock = some b := by rw [e]; rfl
  have h1 := (h.lt b hv).1
  have := hE b hd
  omega
theorem row_at {L : List TmV} {j : Nat} (h : j < L.length) : L[j]? = some (row L j) := by
  unfold row
  rw [List.getD_eq_getElem?_getD, List.getElem?_eq_getElem h]
  rfl

set_option maxRecDepth 100000 in
set_option maxHeartbeats 8000000 in
theorem once_walk {TI : World → Nat → Nat → (Nat → Prop) → List TmV → Prop} (C : Con TI) (A : Option Addr) (n c : Nat) (P : Nat → TmV) (now q : Int) (hnow : I64 now) (hq : 0 ≤ q ∧ q ≤ 65535) (w : World) (hR : RdT w A n P) : Calls Try.prog 4 #[.slice A n c, .int .i64 now, .int .u16 q] w fun e w' => e = .returned (.bool true) ∧ Keep w w' := by
  have mixed : Try.prog.follows .mixedOrders = true := by kernel_rfl
  have hs := hR.small
  have C := Lib.hid C
  have aw := Lib.hid (awake_true C.out)
  replace hR := Lib.hid hR
  go_enter Try.func4, Try.ntmps4
  go_wp2_with fail
  refine (C.out.new _).mono ?_
  rintro e w1 ⟨bq, rfl, k1, D1, T1⟩
  replace T1 := Lib.hid T1
  replace k1 := Lib.hid k1
  go_wp2_with fail
  refine (C.out.new _).mono ?_
  rintro e w1' ⟨by_, rfl, k1', E, U1⟩
  have j1 : Hid (∀ k, D1 k → ¬ E k) := fun k h h2 => by
    have h3 := (C.out.lo T1.out k h).2
    have h4 := (C.out.lo U1 k h2).1
    omega
  have U1 := Lib.hid (C.out.base U1 k1.out.size)
  have T1' := Lib.hid (C.out.keep T1.out k1')
  replace k1' := Lib.hid k1'
  go_wp2_with fail
  refine (aw.out _).mono ?_
  rintro e w2 ⟨rfl, k2⟩
  have K2 := Lib.hid ((k1.out.trans k1'.out).trans k2)
  have T2 := Lib.hid (C.out.keep T1'.out k2)
  have U2 := Lib.hid (C.out.keep U1.out k2)
  replace k2 := Lib.hid k2
  by_cases hn : n ≤ 100
  rotate_left
  · go_wp2_with fail
    refine (aw.out _).mono ?_
    rintro e w4 ⟨rfl, k4⟩
    go_wp2
    go_ret
    exact ⟨rfl, K2.out.trans k4⟩
  by_cases hb : now ≤ 1152921504606846976
  rotate_left
  · go_wp2_with fail
    refine (aw.out _).mono ?_
    rintro e w4 ⟨rfl, k4⟩
    go_wp2
    go_ret
    exact ⟨rfl, K2.out.trans k4⟩
  have hwq : IntKind.i64.wrap q = q := by rw [IntKind.wrap_i64]; omega
  have hwn : IntKind.i64.wrap (now + q) = now + q := by unfold I64 at hnow; rw [IntKind.wrap_i64]; omega
  have i2 : Hid (I64 (now + q)) := by unfold I64 at hnow; show I64 _; unfold I64; omega
  have nle : Hid (now ≤ now + q) := by show _ ≤ _; omega
  replace hnow := Lib.hid hnow
  go_wp2
  go_loopg [9] n (fun gx s7 wr => ∃ (i : Nat) (D E : Nat → Prop) (L : List TmV), i ≤ n ∧ gx = n - i ∧ s7 = .int .i64 i ∧ L.length ≤ i ∧ Hid (Keep w wr) ∧ Hid (TI wr w.heap.size bq D L) ∧ Hid (TI wr w.heap.size by_ E L) ∧ Hid (∀ k, D k → ¬ E k))
  case atStart => exact ⟨0, D1, E, [], Nat.zero_le _, rfl, rfl, Nat.le_refl _, K2, T2, U2, j1⟩
  case round =>
    clear T1 T1' T2 K2 k1 k2 k1' U1 U2 j1
    obtain ⟨i, D, E, L, hi, rfl, rfl, hLi, KR, TR, UR, JR⟩ := hrel
    have lo : Hid (∀ k, D k → w.heap.size ≤ k) := fun k h => (C.out.lo TR.out k h).1
    have lo2 : Hid (∀ k, E k → w.heap.size ≤ k) := fun k h => (C.out.lo UR.out k h).1
    have ltE : Hid (∀ k, E k → k < wr.heap.size) := fun k h => (C.out.lo UR.out k h).2
    by_cases hlt : i < n
    · have R2 := hR.out.keep KR.out
      obtain ⟨b, off, hA, ca⟩ := R2.adr (by omega)
      subst hA
      have q1 := atR b off n c i hlt
      have X := ca i hlt
      have ox := hR.out.ok i hlt
      obtain ⟨b', off', e', ca'⟩ := hR.out.adr (by omega)
      have hbw : b < w.heap.size := by
        have e2 := Option.some.inj e'
        simp only [Addr.mk.injEq, and_true] at e2
        rw [e2.1]
        exact cell_lt (ca' 0 (by omega)).e0
      replace R2 := Lib.hid R2
      clear ca ca' e'
      obtain ⟨x, hx⟩ : ∃ x, x = P i := ⟨_, rfl⟩
      rw [← hx] at X ox
      replace hx := Lib.hid hx
      have x0 := X.e0; have x1 := X.e1; have x2 := X.e2
      have sl2 := set_len L x
      have X := Lib.hid X
      have cS : Hid (Calls Try.prog 15 #[.pointer (some ⟨bq, 0, none⟩), x.val] wr fun e w' => (∃ s, e = .returned (.bool s)) ∧ ∃ D', TI w' w.heap.size bq D' (setL L x) ∧ Fr D wr w' ∧ ∀ k, D' k → D k ∨ wr.heap.size ≤ k) := by
        refine (C.out.set TR.out ox (by omega)).mono ?_
        rintro e w9 ⟨rfl, h⟩
        exact ⟨⟨_, rfl⟩, h⟩
      have cS2 : Hid (∀ W, TI W w.heap.size by_ E L → Calls Try.prog 15 #[.pointer (some ⟨by_, 0, none⟩), x.val] W fun e w' => (∃ s, e = .returned (.bool s)) ∧ ∃ D', TI w' w.heap.size by_ D' (setL L x) ∧ Fr E W w' ∧ ∀ k, D' k → E k ∨ W.heap.size ≤ k) := fun W h => by
        refine (C.out.set h ox (by omega)).mono ?_
        rintro e w9 ⟨rfl, h⟩
        exact ⟨⟨_, rfl⟩, h⟩
      unfold TmV.val at cS cS2
      obtain ⟨M, hM⟩ : ∃ M, M = setL L x := ⟨_, rfl⟩
      rw [← hM] at cS cS2 sl2
      replace hM := Lib.hid hM
      replace ox := Lib.hid ox
      go_wp2_with fail
      refine cS.out.mono ?_
      rintro e w4 ⟨⟨s, rfl⟩, D4, T4, F4, N4⟩
      have K4 : Hid (Keep w w4) := F4.low KR.out lo.out
      have U4 := C.out.fr UR.out F4 (fun k h h2 => JR.out k h2 h)
      have J4 : Hid (∀ k, D4 k → ¬ E k) := fun k h h2 => by
        rcases N4 k h with h3 | h3
        · exact JR.out k h3 h2
        · have := ltE.out k h2
          omega
      have lt4 : Hid (∀ k, D4 k → k < w4.heap.size) := fun k h => (C.out.lo T4 k h).2
      have X4 : Cel3 w4 b (off + i * 3) x := by
        have hnb : ¬ D b := fun h => by have := lo.out b h; omega
        exact ⟨F4.cell X.out.e0 hnb, F4.cell X.out.e1 hnb, F4.cell X.out.e2 hnb⟩
      have cS4 := Lib.hid (cS2.out w4 U4)
      replace U4 := Lib.hid U4
      replace T4 := Lib.hid T4
      replace F4 := Lib.hid F4
      replace N4 := Lib.hid N4
      replace hbw := Lib.hid hbw
      clear x0 x1 x2 cS cS2
      have x0 := X4.e0; have x1 := X4.e1; have x2 := X4.e2
      replace X4 := Lib.hid X4
      go_wp2_with fail
      refine cS4.out.mono ?_
      rintro e w5 ⟨⟨s2, rfl⟩, E5, U5, F5, N5⟩
      have K5 : Hid (Keep w w5) := F5.low K4.out lo2.out
      have T5 : Hid (TI w5 w.heap.size bq D4 M) := C.out.fr T4.out F5 J4.out
      have J5 : Hid (∀ k, D4 k → ¬ E5 k) := fun k h h2 => by
        rcases N5 k h2 with h3 | h3
        · exact J4.out k h h3
        · have := lt4.out k h
          omega
      replace U5 := Lib.hid U5
      replace F5 := Lib.hid F5
      replace N5 := Lib.hid N5
      clear cS4 x0 x1 x2
      go_wp2
      go_roundg (n - (i + 1))
      case measure => omega
      case rel => exact ⟨i + 1, D4, E5, M, hlt, rfl, by go_num, by omega, K5, T5, U5, J5⟩
    · obtain rfl : i = n := by omega
      have okL := Lib.hid (C.out.ok TR.out)
      have sL := Lib.hid (C.out.srt TR.out)
      have da := due_add nle.out L
      have dz := due_less nle.out (due_zero (now + q) (L.drop (dueN now L)))
      have dl := due_le now L
      have dl2 := due_le (now + q) L
      obtain ⟨m1, hm1⟩ : ∃ m, m = dueN now L := ⟨_, rfl⟩
      obtain ⟨m3, hm3⟩ : ∃ m, m = dueN (now + q) L := ⟨_, rfl⟩
      obtain ⟨m2, hm2⟩ : ∃ m, m = dueN (now + q) (L.drop m1) := ⟨_, rfl⟩
      have cD := Lib.hid (C.out.due_to TR.out now hnow.out hm1.symm (M := L.drop m1) rfl)
      rw [← hm1] at da dz dl
      rw [← hm2] at da dz
      rw [← hm3] at da dl2
      have r1 : Hid (∀ j, j < m1 → (row L j).t ≤ now) := fun j hj => due_lt (by rw [← hm1]; exact hj) (row_at (by omega))
      have r2 : Hid (∀ j, m1 ≤ j → j < m3 → now < (row L j).t) := fun j h1 hj => due_ge sL.out (by rw [← hm1]; exact h1) (row_at (by omega))
      replace hm1 := Lib.hid hm1
      replace hm2 := Lib.hid hm2
      replace hm3 := Lib.hid hm3
      replace dz := Lib.hid dz
      have okr : Hid (∀ j, j < L.length → TmOk (row L j)) := fun j hj => okL.out _ (row_mem hj)
      go_wp2_with fail
      refine cD.out.mono ?_
      rintro e w5 ⟨B1, d1, rfl, R5, D5, T5, F5, N5, O5⟩
      have K5 : Hid (Keep w w5) := F5.low KR.out lo.out
      have lo5 : Hid (∀ k, D5 k → w.heap.size ≤ k) := fun k h => (C.out.lo T5 k h).1
      have U5 := C.out.fr UR.out F5 (fun k h h2 => JR.out k h2 h)
      have J5 : Hid (∀ k, D5 k → ¬ E k) := fun k h h2 => by
        rcases N5 k h with h3 | h3
        · exact JR.out k h3 h2
        · have := ltE.out k h2
          omega
      have Q5 : Hid (RdT w5 B1 m1 (row L)) := rows_rd R5 (by omega) (fun j hj => okr.out j (by omega))
      have O5E : Hid (Off E B1 m1) := own_off R5 ltE.out
      have z5 : Hid (wr.heap.size ≤ w5.heap.size) := F5.size
      have cD2 := Lib.hid (C.out.due_to T5 (now + q) i2.out hm2.out.symm (M := (L.drop m1).drop m2) rfl)
      replace O5 := Lib.hid O5
      replace T5 := Lib.hid T5
      replace U5 := Lib.hid U5
      replace F5 := Lib.hid F5
      replace N5 := Lib.hid N5
      replace R5 := Lib.hid R5
      clear cD
      go_wp2_with fail
      refine cD2.out.mono ?_
      rintro e w6 ⟨B2, d2, rfl, R6, D6, T6, F6, N6, O6⟩
      have K6 : Hid (Keep w w6) := F6.low K5.out lo5.out
      have U6 := C.out.fr U5.out F6 (fun k h h2 => J5.out k h2 h)
      have J6 : Hid (∀ k, D6 k → ¬ E k) := fun k h h2 => by
        rcases N6 k h with h3 | h3
        · exact J5.out k h3 h2
        · have h1 := ltE.out k h2
          have h4 := z5.out
          omega
      have Q6 : Hid (RdT w6 B1 m1 (row L)) := Q5.out.fr F6 O5.out
      have V6 : Hid (RdT w6 B2 m2 (row (L.drop m1))) := rows_rd R6 (by omega) (fun j hj => by rw [row_drop]; exact okr.out _ (by omega))
      have O6E : Hid (Off E B2 m2) := own_off R6 (fun k h => Nat.lt_of_lt_of_le (ltE.out k h) z5.out)
      have O6D : Hid (Off D6 B1 m1) := O5.out.more Q5.out (Nat.le_refl _) N6
      have cD3 := Lib.hid (C.out.due_to U6 (now + q) i2.out hm3.out.symm (M := L.drop m3) rfl)
      replace U6 := Lib.hid U6
      replace T6 := Lib.hid T6
      replace O6 := Lib.hid O6
      replace F6 := Lib.hid F6
      replace N6 := Lib.hid N6
      replace R6 := Lib.hid R6
      clear cD2
      go_wp2_with fail
      refine cD3.out.mono ?_
      rintro e w7 ⟨B3, d3, rfl, R7, E7, U7, F7, N7, O7⟩
      have K7 : Hid (Keep w w7) := F7.low K6.out lo2.out
      have lo7 : Hid (∀ k, D6 k → w.heap.size ≤ k) := fun k h => (C.out.lo T6.out k h).1
      have lt6 : Hid (∀ k, D6 k → k < w6.heap.size) := fun k h => (C.out.lo T6.out k h).2
      have T7 := C.out.fr T6.out F7 J6.out
      have J7 : Hid (∀ k, D6 k → ¬ E7 k) := fun k h h2 => by
        rcases N7 k h2 with h3 | h3
        · exact J6.out k h h3
        · have := lt6.out k h
          omega
      have Q7 := Q6.out.fr F7 O5E.out
      have V7 := V6.out.fr F7 O6E.out
      have Y7 : RdT w7 B3 m3 (row L) := rows_rd R7 (by omega) (fun j hj => okr.out j (by omega))
      have O7D : Hid (Off D6 B3 m3) := own_off R7 lt6.out
      have cL1 := Lib.hid (C.out.len T7)
      have cL2 := Lib.hid (C.out.len U7)
      have e1 : ((L.drop m1).drop m2).length = (L.drop m3).length := by simp; omega
      rw [e1] at cL1
      obtain ⟨ml, hml⟩ : ∃ ml, ml = (L.drop m3).length := ⟨_, rfl⟩
      rw [← hml] at cL1 cL2
      have cD4 := Lib.hid (C.out.due_to T7 now hnow.out (m := 0) dz.out (M := (L.drop m1).drop m2) rfl)
      replace hml := Lib.hid hml
      replace e1 := Lib.hid e1
      replace U7 := Lib.hid U7
      replace T7 := Lib.hid T7
      replace O7 := Lib.hid O7
      replace F7 := Lib.hid F7
      replace N7 := Lib.hid N7
      replace R7 := Lib.hid R7
      replace Q7 := Lib.hid Q7
      replace V7 := Lib.hid V7
      replace Y7 := Lib.hid Y7
      have hw3 : IntKind.i64.wrap ((m1 : Int) + (m2 : Int)) = (m3 : Int) := by rw [IntKind.wrap_i64]; omega
      clear cD3
      go_wp2_with fail
      refine cL1.out.mono ?_
      rintro e w8 ⟨rfl, rfl⟩
      clear cL1
      go_wp2_with fail
      refine cL2.out.mono ?_
      rintro e w8 ⟨rfl, rfl⟩
      clear cL2
      go_wp2_with fail
      refine cD4.out.mono ?_
      rintro e w8 ⟨B4, d4, rfl, R8, D8, T8, F8, N8, O8⟩
      have K8 : Hid (Keep w w8) := F8.low K7.out lo7.out
      have Q8 : Hid (RdT w8 B1 m1 (row L)) := Q7.out.fr F8 O6D.out
      have V8 : Hid (RdT w8 B2 m2 (row (L.drop m1))) := V7.out.fr F8 O6.out
      have Y8 : Hid (RdT w8 B3 m3 (row L)) := Y7.out.fr F8 O7D.out
      replace O8 := Lib.hid O8
      replace T8 := Lib.hid T8
      replace F8 := Lib.hid F8
      replace N8 := Lib.hid N8
      replace R8 := Lib.hid R8
      clear cD4
      obtain ⟨wo, hwo⟩ : ∃ wo, wo = wr := ⟨_, rfl⟩
      rw [← hwo] at F5 KR TR UR N5 R5 ltE z5
      clear hwo
      go_wp2
      go_loopg [13] m3 (fun gx s7 wr => ∃ j : Nat, j ≤ m3 ∧ gx = m3 - j ∧ s7 = .int .i64 j ∧ Hid (Gr w8 wr))
      case atStart => exact ⟨0, Nat.zero_le _, rfl, rfl, Gr.refl _⟩
      case round =>
        obtain ⟨j, hjm, rfl, rfl, GQ⟩ := hrel
        by_cases hlt2 : j < m3
        · obtain ⟨g3, o3, hB3, cb3⟩ := (Y8.out.keep GQ.out.keep).adr (by omega)
          subst hB3
          have q3 := atT g3 o3 m3 d3 j hlt2
          have Y := cb3 j hlt2
          clear cb3
          by_cases h1 : j < m1
          · obtain ⟨g1, o1, hB1, cb1⟩ := (Q8.out.keep GQ.out.keep).adr (by omega)
            subst hB1
            have q1 := atT g1 o1 m1 d1 j h1
            have X := cb1 j h1
            clear cb1
            have ht := r1.out j h1
            obtain ⟨y, hy⟩ : ∃ y, y = row L j := ⟨_, rfl⟩
            rw [← hy] at X Y ht
            replace hy := Lib.hid hy
            have y0 := grows Y.e0; have y1 := grows Y.e1; have y2 := grows Y.e2
            have x0 := grows X.e0; have x1 := grows X.e1; have x2 := grows X.e2
            clear X Y
            have g1' : decide (j < m1) = true := decide_eq_true h1
            have g2' : decide (m1 ≤ j) = false := decide_eq_false (by omega)
            have g3' : decide (now < y.t) = false := decide_eq_false (by omega)
            go_wp2_with fail
            refine wp_region_quiet_grown (by assumption) (by kernel_rfl) ?_
            repeat (go_big_quiet_step (fail))
            refine wpQuiet_nil ?_
            intro _ hw'
            obtain ⟨⟨nq, osq⟩, hw''⟩ := hw'
            subst hw''
            clear x0 x1 x2 y0 y1 y2
            have G2 : Hid (Gr w8 (grow (wr.drewN nq) osq)) := GQ.out.trans ⟨nq, osq, rfl⟩
            generalize grow (wr.drewN nq) osq = w9 at G2 ⊢
            go_wp2
            go_roundg (m3 - (j + 1))
            case measure => omega
            case rel => exact ⟨j + 1, hlt2, rfl, by go_num, G2⟩
          · obtain ⟨jp, hjp⟩ : ∃ jp, j = m1 + jp := ⟨j - m1, by omega⟩
            obtain ⟨g1, o1, hB1, cb1⟩ := (V8.out.keep GQ.out.keep).adr (by omega)
            subst hB1
            have q1 := atT g1 o1 m2 d2 jp (by omega)
            have X := cb1 jp (by omega)
            clear cb1
            rw [row_drop, ← hjp] at X
            have ht := r2.out j (by omega) hlt2
            obtain ⟨y, hy⟩ : ∃ y, y = row L j := ⟨_, rfl⟩
            rw [← hy] at X Y ht
            replace hy := Lib.hid hy
            have y0 := grows Y.e0; have y1 := grows Y.e1; have y2 := grows Y.e2
            have x0 := grows X.e0; have x1 := grows X.e1; have x2 := grows X.e2
            clear X Y
            have hwp : IntKind.i64.wrap ((j : Int) - (m1 : Int)) = (jp : Int) := by rw [IntKind.wrap_i64]; omega
            have jpl : jp < m2 := by omega
            replace hjp := Lib.hid hjp
            have g1' : decide (j < m1) = false := decide_eq_false (by omega)
            have g2' : decide (m1 ≤ j) = true := decide_eq_true (by omega)
            have g3' : decide (y.t ≤ now) = false := decide_eq_false (by omega)
            go_wp2_with fail
            refine wp_region_quiet_grown (by assumption) (by kernel_rfl) ?_
            repeat (go_big_quiet_step (fail))
            refine wpQuiet_nil ?_
            intro _ hw'
            obtain ⟨⟨nq, osq⟩, hw''⟩ := hw'
            subst hw''
            clear x0 x1 x2 y0 y1 y2
            have G2 : Hid (Gr w8 (grow (wr.drewN nq) osq)) := GQ.out.trans ⟨nq, osq, rfl⟩
            generalize grow (wr.drewN nq) osq = w9 at G2 ⊢
            go_wp2
            go_roundg (m3 - (j + 1))
            case measure => omega
            case rel => exact ⟨j + 1, hlt2, rfl, by go_num, G2⟩
        · have hge : ¬ (j : Int) < (m3 : Int) := by omega
          go_wp2
          go_ret
          exact ⟨rfl, K8.out.trans GQ.out.keep⟩
end Go.Proofs.Ytdjakljkcjadhaa.T9
