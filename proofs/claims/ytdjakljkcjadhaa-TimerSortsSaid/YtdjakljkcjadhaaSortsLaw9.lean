/-
  The walk of TimerSorts. No condition but the contracts.
-/
import Derived.Test.YtdjakljkcjadhaaLMath9
namespace Go.Proofs.Ytdjakljkcjadhaa.T9
open Go.RowKit Go.Sort Go.Lib

set_option maxRecDepth 100000 in
set_option maxHeartbeats 8000000 in
theorem sorts_walk {TI : World → Nat → Nat → (Nat → Prop) → List TmV → Prop} (C : Con TI) (A : Option Addr) (n c : Nat) (P : Nat → TmV) (w : World) (hR : RdT w A n P) : Calls Try.prog 7 #[.slice A n c] w fun e w' => e = .returned (.bool true) ∧ Keep w w' := by
  have mixed : Try.prog.follows .mixedOrders = true := by kernel_rfl
  have hs := hR.small
  have C := Lib.hid C
  have aw := Lib.hid (awake_true C.out)
  replace hR := Lib.hid hR
  go_enter Try.func7, Try.ntmps7
  go_wp2_with fail
  refine (C.out.new _).mono ?_
  rintro e w1 ⟨bq, rfl, k1, D1, T1⟩
  replace T1 := Lib.hid T1
  replace k1 := Lib.hid k1
  go_wp2_with fail
  refine (aw.out _).mono ?_
  rintro e w2 ⟨rfl, k2⟩
  have K2 := Lib.hid (k1.out.trans k2)
  have T2 := Lib.hid (C.out.keep T1.out k2)
  replace k2 := Lib.hid k2
  by_cases hn : n ≤ 100
  rotate_left
  · go_wp2_with fail
    refine (aw.out _).mono ?_
    rintro e w4 ⟨rfl, k4⟩
    go_wp2
    go_ret
    exact ⟨rfl, K2.out.trans k4⟩
  go_wp2
  go_loopg [4, 5] n (fun gx s4 s5 wr => ∃ (i : Nat) (D : Nat → Prop) (L : List TmV), i ≤ n ∧ gx = n - i ∧ s5 = .int .i64 i ∧ s4 = .int .i64 L.length ∧ L.length ≤ i ∧ Hid (Keep w wr) ∧ Hid (TI wr w.heap.size bq D L))
  case atStart => exact ⟨0, D1, [], Nat.zero_le _, rfl, rfl, rfl, Nat.le_refl _, K2, T2⟩
  case round =>
    clear T1 T2 K2 k1 k2
    obtain ⟨i, D, L, hi, rfl, rfl, rfl, hLi, KR, TR⟩ := hrel
    have lo : Hid (∀ k, D k → w.heap.size ≤ k) := fun k h => (C.out.lo TR.out k h).1
    by_cases hlt : i < n
    · obtain ⟨b, off, hA, ca⟩ := (hR.out.keep KR.out).adr (by omega)
      subst hA
      have q1 := atR b off n c i hlt
      have X := ca i hlt
      have ox := hR.out.ok i hlt
      clear ca
      obtain ⟨x, hx⟩ : ∃ x, x = P i := ⟨_, rfl⟩
      rw [← hx] at X ox
      replace hx := Lib.hid hx
      have x0 := X.e0; have x1 := X.e1; have x2 := X.e2
      clear X
      have cS := C.out.set TR.out ox (by omega)
      have sl := set_lt L x
      have sl2 := set_len L x
      obtain ⟨s, hs9⟩ : ∃ s, s = decide (x.k ∉ keys L) := ⟨_, rfl⟩
      rw [← hs9] at cS
      unfold TmV.val at cS
      obtain ⟨M, hM⟩ : ∃ M, M = setL L x := ⟨_, rfl⟩
      rw [← hM] at cS sl sl2
      replace hM := Lib.hid hM
      replace cS := Lib.hid cS
      replace ox := Lib.hid ox
      cases s with
      | true =>
        have hl : M.length = L.length + 1 := by
          have := sl.2 (of_decide_eq_true hs9.symm)
          omega
        replace hs9 := Lib.hid hs9
        replace sl := Lib.hid sl
        go_wp2_with fail
        refine cS.out.mono ?_
        rintro e w5 ⟨rfl, D5, T5, F5, N5⟩
        have K5 : Hid (Keep w w5) := F5.low KR.out lo.out
        replace T5 := Lib.hid T5
        replace F5 := Lib.hid F5
        replace N5 := Lib.hid N5
        clear cS x0 x1 x2
        go_wp2
        go_roundg (n - (i + 1))
        case measure => omega
        case rel => exact ⟨i + 1, D5, M, hlt, rfl, by go_num, by rw [hl]; go_num, by omega, K5, T5⟩
      | false =>
        have hl : M.length = L.length := by
          have : ¬ L.length < M.length := fun h => of_decide_eq_false hs9.symm (sl.1 h)
          omega
        replace hs9 := Lib.hid hs9
        replace sl := Lib.hid sl
        go_wp2_with fail
        refine cS.out.mono ?_
        rintro e w5 ⟨rfl, D5, T5, F5, N5⟩
        have K5 : Hid (Keep w w5) := F5.low KR.out lo.out
        replace T5 := Lib.hid T5
        replace F5 := Lib.hid F5
        replace N5 := Lib.hid N5
        clear cS x0 x1 x2
        go_wp2
        go_roundg (n - (i + 1))
        case measure => omega
        case rel => exact ⟨i + 1, D5, M, hlt, rfl, by go_num, by rw [hl], by omega, K5, T5⟩
    · obtain rfl : i = n := by omega
      have okL := Lib.hid (C.out.ok TR.out)
      have sL := Lib.hid (C.out.srt TR.out)
      have cD := C.out.due 9223372036854775807 TR.out i64_max
      rw [due_max okL.out, List.drop_length] at cD
      obtain ⟨m, hm⟩ : ∃ m, m = L.length := ⟨_, rfl⟩
      rw [← hm] at cD hLi ⊢
      replace hm := Lib.hid hm
      replace cD := Lib.hid cD
      go_wp2_with fail
      refine cD.out.mono ?_
      rintro e w5 ⟨B, d, rfl, R5, D5, T5, F5, N5, O5⟩
      have K5 : Hid (Keep w w5) := F5.low KR.out lo.out
      have Q5 : Hid (RdT w5 B m (row L)) := rows_rd R5 (by omega) (fun j hj => okL.out _ (row_mem (by rw [← hm.out]; exact hj)))
      replace T5 := Lib.hid T5
      replace F5 := Lib.hid F5
      replace N5 := Lib.hid N5
      replace O5 := Lib.hid O5
      replace R5 := Lib.hid R5
      clear cD
      obtain ⟨wo, hwo⟩ : ∃ wo, wo = wr := ⟨_, rfl⟩
      rw [← hwo] at F5 KR TR N5 R5
      clear hwo
      go_wp2
      go_loopg [7] m (fun gx s7 wr => ∃ j : Nat, 1 ≤ j ∧ j ≤ m + 1 ∧ gx = m + 1 - j ∧ s7 = .int .i64 j ∧ Hid (Gr w5 wr))
      case atStart => exact ⟨1, Nat.le_refl _, by omega, by omega, rfl, Gr.refl _⟩
      case round =>
        obtain ⟨j, hj1, hjm, rfl, rfl, GQ⟩ := hrel
        by_cases hlt2 : j < m
        · obtain ⟨jp, rfl⟩ : ∃ jp, j = jp + 1 := ⟨j - 1, by omega⟩
          have hwp : IntKind.i64.wrap (jp : Int) = (jp : Int) := by rw [IntKind.wrap_i64]; omega
          obtain ⟨g, o, hB, cb⟩ := (Q5.out.keep GQ.out.keep).adr (by omega)
          subst hB
          have q1 := atT g o m d jp (by omega)
          have q2 : ∀ W, (Instr.indexAt 37 (.slice (some ⟨g, o, none⟩) m d) (.int .i64 ((jp : Int) + 1))).run Try.prog W = .ok (.pointer (some ⟨g, o + (jp + 1) * 3, none⟩)) W := fun W => atT g o m d (jp + 1) hlt2 W
          have X := cb jp (by omega)
          have Y := cb (jp + 1) hlt2
          clear cb
          have hb := srt_at sL.out (i := jp) (j := jp + 1) (by omega) (by rw [← hm.out]; exact hlt2)
          obtain ⟨x, hx⟩ : ∃ x, x = row L jp := ⟨_, rfl⟩
          obtain ⟨y, hy⟩ : ∃ y, y = row L (jp + 1) := ⟨_, rfl⟩
          rw [← hx] at X hb
          rw [← hy] at Y hb
          have hc9 : ∀ (n : Nat) (os : Array Obj), Calls Try.prog 20 #[x.val, y.val] (grow (wr.drewN n) os) fun e w' => e = .returned (.bool true) ∧ ∃ q os', w' = grow ((grow (wr.drewN n) os).drewN q) os' := fun n os => by
            have := rbefore_fn x y (grow (wr.drewN n) os)
            rw [hb] at this
            exact this
          unfold TmV.val at hc9
          replace hx := Lib.hid hx
          replace hy := Lib.hid hy
          replace hb := Lib.hid hb
          have x0 := grows X.e0; have x1 := grows X.e1; have x2 := grows X.e2
          have y0 := grows Y.e0; have y1 := grows Y.e1; have y2 := grows Y.e2
          clear X Y
          go_wp2_with fail
          go_quiet_grown (first | (go_at_call 20; refine Calls.grown_of (hc9 _ _)))
          clear x0 x1 x2 y0 y1 y2 hc9
          have G2 : Hid (Gr w5 (grow (wr.drewN nq) osq)) := GQ.out.trans ⟨nq, osq, rfl⟩
          generalize grow (wr.drewN nq) osq = w7 at G2 ⊢
          go_wp2
          go_roundg (m + 1 - (jp + 1 + 1))
          case measure => omega
          case rel => exact ⟨jp + 1 + 1, by omega, by omega, rfl, by go_num, G2⟩
        · have T6 := C.out.keep T5.out GQ.out.keep
          have cN := Lib.hid (C.out.next_to T6 0 0 0 rfl (s := false) rfl)
          have hge : ¬ (j : Int) < (m : Int) := by omega
          go_wp2_with fail
          refine cN.out.mono ?_
          rintro e w7 ⟨rfl, k7⟩
          have cL := Lib.hid (C.out.len (C.out.keep T6 (k7.trans (Keep.one w7 (.cells #[.int .i64 0, .int .i64 0, .int .i64 0] 33)))))
          have K7 : Hid (Keep w (w7.alloc (.cells #[.int .i64 0, .int .i64 0, .int .i64 0] 33))) := (K5.out.trans GQ.out.keep).trans (k7.trans (Keep.one _ _))
          replace k7 := Lib.hid k7
          replace T6 := Lib.hid T6
          clear cN
          go_wp2_with fail
          refine cL.out.mono ?_
          rintro e w8 ⟨rfl, rfl⟩
          go_wp2
          go_ret
          exact ⟨rfl, K7.out⟩
end Go.Proofs.Ytdjakljkcjadhaa.T9
