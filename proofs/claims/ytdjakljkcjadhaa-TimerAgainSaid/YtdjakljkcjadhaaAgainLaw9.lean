/-
  The walk of TimerAgain. No condition but the contracts.
-/
import Derived.Test.YtdjakljkcjadhaaSide9
namespace Go.Proofs.Ytdjakljkcjadhaa.T9
open Go.RowKit Go.Sort Go.Lib

set_option maxRecDepth 100000 in
set_option maxHeartbeats 8000000 in
theorem again_walk {TI : World → Nat → Nat → (Nat → Prop) → List TmV → Prop} (C : Con TI) (A : Option Addr) (n c : Nat) (P : Nat → TmV) (id : Int) (hid9 : I64 id) (w : World) (hR : RdT w A n P) : Calls Try.prog 6 #[.slice A n c, .int .i64 id] w fun e w' => e = .returned (.bool true) ∧ Keep w w' := by
  have hs := hR.small
  have C := Lib.hid C
  have aw := Lib.hid (awake_true C.out)
  replace hR := Lib.hid hR
  replace hid9 := Lib.hid hid9
  go_enter Try.func6, Try.ntmps6
  go_wp2_with fail
  refine (C.out.new _).mono ?_
  rintro e w1 ⟨bq, rfl, k1, D1, T1⟩
  replace T1 := Lib.hid T1
  replace k1 := Lib.hid k1
  go_wp2_with fail
  refine (aw.out _).mono ?_
  rintro e w2 ⟨rfl, k2⟩
  have K2 := Lib.hid (k1.out.trans k2)
  have T2 := Lib.hid (side_new (C.out.keep T1.out k2))
  replace k2 := Lib.hid k2
  by_cases hn : n ≤ 100
  rotate_left
  · go_wp2_with fail
    refine (aw.out _).mono ?_
    rintro e w4 ⟨rfl, k4⟩
    go_wp2
    go_ret
    exact ⟨rfl, K2.out.trans k4⟩
  go_wp2
  go_loopg [6, 7] n (fun gx s6 s7 wr => ∃ (i : Nat) (D : Nat → Prop) (L : List TmV) (B : Option Addr) (d : Nat), i ≤ n ∧ gx = n - i ∧ s7 = .int .i64 i ∧ s6 = .slice B L.length d ∧ L.length ≤ i ∧ Hid (Keep w wr) ∧ Hid (Side TI wr w.heap.size bq D B d L))
  case atStart => exact ⟨0, D1, [], none, 0, Nat.zero_le _, rfl, rfl, rfl, Nat.le_refl _, K2, T2⟩
  case round =>
    clear T1 T2 K2 k1 k2
    obtain ⟨i, D, L, B, d, hi, rfl, rfl, rfl, hLi, KR, TR⟩ := hrel
    have lo : Hid (∀ k, D k → w.heap.size ≤ k) := fun k h => (C.out.lo TR.out.t k h).1
    by_cases hlt : i < n
    · obtain ⟨b, off, hA, ca⟩ := (hR.out.keep KR.out).adr (by omega)
      subst hA
      have q1 := atR b off n c i hlt
      have X := ca i hlt
      have ox := hR.out.ok i hlt
      clear ca
      obtain ⟨x, hx⟩ : ∃ x, x = P i := ⟨_, rfl⟩
      rw [← hx] at X ox
      replace hx := Lib.hid hx
      have x0 := X.e0; have x1 := X.e1; have x2 := X.e2
      have cR := Lib.hid (TR.out.rset C.out ox (by omega))
      have sl2 := set_len L x
      have X := Lib.hid X
      have cS : Hid (∀ W, Keep wr W → Calls Try.prog 15 #[.pointer (some ⟨bq, 0, none⟩), x.val] W fun e w' => (∃ s, e = .returned (.bool s)) ∧ ∃ D', TI w' w.heap.size bq D' (setL L x) ∧ Fr D W w' ∧ ∀ k, D' k → D k ∨ W.heap.size ≤ k) := fun W k => by
        refine (C.out.set (C.out.keep TR.out.t k) ox (by omega)).mono ?_
        rintro e w9 ⟨rfl, h⟩
        exact ⟨⟨_, rfl⟩, h⟩
      unfold TmV.val at cR cS
      obtain ⟨M, hM⟩ : ∃ M, M = setL L x := ⟨_, rfl⟩
      rw [← hM] at cR cS sl2
      replace hM := Lib.hid hM
      replace ox := Lib.hid ox
      go_wp2_with fail
      refine cR.out.mono ?_
      rintro e w4 ⟨B', d', rfl, r4⟩
      have k4 : Keep wr w4 := r4.keep
      have cS4 := Lib.hid (cS.out w4 k4)
      clear x0 x1 x2 cR cS
      have x0 := k4.cell X.out.e0; have x1 := k4.cell X.out.e1; have x2 := k4.cell X.out.e2
      replace k4 := Lib.hid k4
      replace r4 := Lib.hid r4
      go_wp2_with fail
      refine cS4.out.mono ?_
      rintro e w5 ⟨⟨s, rfl⟩, D5, T5, F5, N5⟩
      have K5 : Hid (Keep w w5) := F5.low (KR.out.trans k4.out) lo.out
      have S5 : Hid (Side TI w5 w.heap.size bq D5 B' d' M) := by
        have r := r4.out
        rw [hM.out] at r T5
        rw [hM.out]
        exact TR.out.set C.out r T5 F5 N5
      replace T5 := Lib.hid T5
      replace F5 := Lib.hid F5
      replace N5 := Lib.hid N5
      clear cS4 x0 x1 x2
      go_wp2
      go_roundg (n - (i + 1))
      case measure => omega
      case rel => exact ⟨i + 1, D5, M, B', d', hlt, rfl, by go_num, rfl, by omega, K5, S5⟩
    · obtain rfl : i = n := by omega
      have ltD : Hid (∀ k, D k → k < wr.heap.size) := fun k h => (C.out.lo TR.out.t k h).2
      have cO := C.out.cancel id TR.out.t hid9.out
      have srt := Lib.hid (C.out.srt TR.out.t)
      have kys := Lib.hid (C.out.keys TR.out.t)
      have okL := Lib.hid (C.out.ok TR.out.t)
      have fr9 := find_row L id
      obtain ⟨r, hr⟩ : ∃ r, r = findN (row L) id L.length := ⟨_, rfl⟩
      rw [← hr] at fr9
      obtain ⟨y, hy⟩ : ∃ y, y = getL L id := ⟨_, rfl⟩
      rw [← hy] at cO
      by_cases hin : id ∈ keys L
      · have hb : decide (id ∈ keys L) = true := decide_eq_true hin
        rw [hb] at cO
        obtain ⟨ws1, ws2, ws3⟩ := wo_set srt.out kys.out hin
        have oky : Hid (TmOk y) := by rw [hy]; exact okL.out _ (get_some hin).1
        rw [← hy] at ws1 ws2
        have hr0 : 0 ≤ r := fr9.2 hin
        obtain ⟨M, hM⟩ : ∃ M, M = woL L id := ⟨_, rfl⟩
        rw [← hM] at cO ws1 ws2 ws3
        obtain ⟨m, hm⟩ : ∃ m, m = L.length := ⟨_, rfl⟩
        have cF9 : Hid (∀ W, RdT W B L.length (row L) → Calls Try.prog 19 #[.slice B m d, .int .i64 id] W fun e w' => e = .returned (.int .i64 r) ∧ W = w') := fun W h => by
          rw [hr, hm]; exact rfind_fn B L.length d (row L) id W h
        rw [← hm] at ws3 hLi ⊢
        unfold TmV.val at cO
        replace cO := Lib.hid cO
        replace hb := Lib.hid hb
        replace hin := Lib.hid hin
        replace fr9 := Lib.hid fr9
        replace hr := Lib.hid hr
        replace hy := Lib.hid hy
        replace hM := Lib.hid hM
        replace ws1 := Lib.hid ws1
        replace ws2 := Lib.hid ws2
        replace hm := Lib.hid hm
        go_wp2_with fail
        refine cO.out.mono ?_
        rintro e w5 ⟨rfl, D5, T5, F5, N5⟩
        obtain ⟨W5, hW5⟩ : ∃ W, W = w5.alloc (.cells #[.int .i64 y.k, .int .i64 y.t, .int .i64 y.a] 33) := ⟨_, rfl⟩
        have k5 : Hid (Keep w5 W5) := by rw [hW5]; exact Keep.one _ _
        have K5 : Hid (Keep w W5) := (F5.low KR.out lo.out).trans k5.out
        have b5 : Hid (∀ k, D5 k → w.heap.size ≤ k) := fun k h => (C.out.lo T5 k h).1
        have Y : Cel3 W5 w5.heap.size 0 y := by rw [hW5]; exact cel_laid w5 y _ _ rfl
        have rd5 : Hid (RdT W5 B L.length (row L)) := (TR.out.rd.fr F5 TR.out.off).keep k5.out
        have of5 : Hid (Off D5 B L.length) := TR.out.off.more TR.out.rd (Nat.le_refl _) N5
        have T6 := Lib.hid (C.out.keep T5 k5.out)
        have cF := Lib.hid (cF9.out W5 rd5.out)
        have cL := Lib.hid (C.out.len T6.out)
        have cS : Hid (Calls Try.prog 15 #[.pointer (some ⟨bq, 0, none⟩), y.val] W5 fun e w' => e = .returned (.bool true) ∧ ∃ D', TI w' w.heap.size bq D' L ∧ Fr D5 W5 w' ∧ ∀ k, D' k → D5 k ∨ W5.heap.size ≤ k) := by
          have := C.out.set T6.out oky.out (by omega)
          rwa [ws1.out, decide_eq_true ws2.out] at this
        unfold TmV.val at cS
        have y0 := Y.e0; have y1 := Y.e1; have y2 := Y.e2
        obtain ⟨ml, hml⟩ : ∃ ml, ml = M.length := ⟨_, rfl⟩
        rw [← hml] at ws3 cL
        replace hml := Lib.hid hml
        replace T5 := Lib.hid T5
        replace F5 := Lib.hid F5
        replace N5 := Lib.hid N5
        replace Y := Lib.hid Y
        have hwp : IntKind.i64.wrap ((m : Int) - 1) = (ml : Int) := by rw [IntKind.wrap_i64]; omega
        clear cO cF9
        go_wp2_with fail
        rw [← hW5]
        replace hW5 := Lib.hid hW5
        refine cF.out.mono ?_
        rintro e w6 ⟨rfl, rfl⟩
        clear cF
        go_wp2_with fail
        refine cL.out.mono ?_
        rintro e w6 ⟨rfl, rfl⟩
        clear cL
        go_wp2_with fail
        refine cS.out.mono ?_
        rintro e w7 ⟨rfl, D7, T7, F7, N7⟩
        have K7 : Hid (Keep w w7) := F7.low K5.out b5.out
        have S7 : Hid (Side TI w7 w.heap.size bq D7 B d L) := ⟨T7, rd5.out.fr F7 of5.out, TR.out.pl, TR.out.cap, of5.out.more rd5.out (Nat.le_refl _) N7⟩
        have cA := C.out.all T7
        have cQ : Hid (∀ (w' : World) (A' : Option Addr) (c' : Nat), Keep w7 w' → w'.ownsRow w7.heap.size 33 3 (.slice A' m c') m (tmCs (row L) m) → Calls Try.prog 12 #[.slice A' m c', .slice B m d] w' fun e w9 => e = .returned (.bool true) ∧ Keep w' w9) := fun w' A' c' k h => by
          have hmm := hm.out
          subst hmm
          exact S7.out.same2 C.out k h (by omega)
        rw [← hm.out] at cA
        replace cA := Lib.hid cA
        replace T7 := Lib.hid T7
        replace F7 := Lib.hid F7
        replace N7 := Lib.hid N7
        clear cS y0 y1 y2
        go_wp2_with fail
        refine cA.out.mono ?_
        rintro e w8 ⟨A', c', rfl, k8, R8⟩
        have cQ8 := Lib.hid (cQ.out w8 A' c' k8 R8)
        have K8 : Hid (Keep w w8) := K7.out.trans k8
        replace R8 := Lib.hid R8
        replace k8 := Lib.hid k8
        clear cA
        go_wp2_with fail
        refine cQ8.out.mono ?_
        rintro e w9 ⟨rfl, k9⟩
        go_wp2
        go_ret
        exact ⟨rfl, K8.out.trans k9⟩
      · have hb : decide (id ∈ keys L) = false := decide_eq_false hin
        rw [hb, wo_none hin] at cO
        have hr0 : r < 0 := by
          have : ¬ 0 ≤ r := fun h => hin (fr9.1 h)
          omega
        obtain ⟨m, hm⟩ : ∃ m, m = L.length := ⟨_, rfl⟩
        have cF9 : Hid (∀ W, RdT W B L.length (row L) → Calls Try.prog 19 #[.slice B m d, .int .i64 id] W fun e w' => e = .returned (.int .i64 r) ∧ W = w') := fun W h => by
          rw [hr, hm]; exact rfind_fn B L.length d (row L) id W h
        rw [← hm] at hLi ⊢
        unfold TmV.val at cO
        replace cO := Lib.hid cO
        replace hb := Lib.hid hb
        replace hin := Lib.hid hin
        replace fr9 := Lib.hid fr9
        replace hr := Lib.hid hr
        replace hy := Lib.hid hy
        replace hm := Lib.hid hm
        go_wp2_with fail
        refine cO.out.mono ?_
        rintro e w5 ⟨rfl, D5, T5, F5, N5⟩
        obtain ⟨W5, hW5⟩ : ∃ W, W = w5.alloc (.cells #[.int .i64 y.k, .int .i64 y.t, .int .i64 y.a] 33) := ⟨_, rfl⟩
        have k5 : Hid (Keep w5 W5) := by rw [hW5]; exact Keep.one _ _
        have K5 : Hid (Keep w W5) := (F5.low KR.out lo.out).trans k5.out
        have rd5 : Hid (RdT W5 B L.length (row L)) := (TR.out.rd.fr F5 TR.out.off).keep k5.out
        have of5 : Hid (Off D5 B L.length) := TR.out.off.more TR.out.rd (Nat.le_refl _) N5
        have T6 := Lib.hid (C.out.keep T5 k5.out)
        have cF := Lib.hid (cF9.out W5 rd5.out)
        have S7 : Hid (Side TI W5 w.heap.size bq D5 B d L) := ⟨T6.out, rd5.out, TR.out.pl, TR.out.cap, of5.out⟩
        have cA := C.out.all T6.out
        have cQ : Hid (∀ (w' : World) (A' : Option Addr) (c' : Nat), Keep W5 w' → w'.ownsRow W5.heap.size 33 3 (.slice A' m c') m (tmCs (row L) m) → Calls Try.prog 12 #[.slice A' m c', .slice B m d] w' fun e w9 => e = .returned (.bool true) ∧ Keep w' w9) := fun w' A' c' k h => by
          have hmm := hm.out
          subst hmm
          exact S7.out.same2 C.out k h (by omega)
        rw [← hm.out] at cA
        replace cA := Lib.hid cA
        replace T5 := Lib.hid T5
        replace F5 := Lib.hid F5
        replace N5 := Lib.hid N5
        clear cO cF9
        go_wp2_with fail
        rw [← hW5]
        replace hW5 := Lib.hid hW5
        refine cF.out.mono ?_
        rintro e w6 ⟨rfl, rfl⟩
        clear cF
        go_wp2_with fail
        refine cA.out.mono ?_
        rintro e w8 ⟨A', c', rfl, k8, R8⟩
        have cQ8 := Lib.hid (cQ.out w8 A' c' k8 R8)
        have K8 : Hid (Keep w w8) := K5.out.trans k8
        replace R8 := Lib.hid R8
        replace k8 := Lib.hid k8
        clear cA
        go_wp2_with fail
        refine cQ8.out.mono ?_
        rintro e w9 ⟨rfl, k9⟩
        go_wp2
        go_ret
        exact ⟨rfl, K8.out.trans k9⟩
end Go.Proofs.Ytdjakljkcjadhaa.T9
