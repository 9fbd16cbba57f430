/-
  The walk of ClassPods. Condition: errors.errorType holds its own.
-/
import Derived.Test.YtmbeghngnnpmlaaDoorHighLaw11
import Derived.Test.YtmbeghngnnpmlaaDoorSame11
namespace Go.Proofs.YtmbeghngnnpmlaaDoor.T11
open Go.RowKit Go.Sort Go.Lib Go.Shelf

set_option maxRecDepth 100000 in
set_option maxHeartbeats 16000000 in
theorem pods_walk (A : Option Addr) (n c : Nat) (P : Nat → ClV) (o : OpW) (ar : Int) (w : World) (hR : RdC w A n P) (ho : OpIs w o) (har : I64 ar) (hv : ErrT w) : Calls Tryd.prog 4 #[.slice A n c, o.val, .int .i64 ar] w fun e w' => e = .returned (.bool true) ∧ Keep w w' := by
  have mixed : Tryd.prog.follows .mixedOrders = true := by kernel_rfl
  have hs := hR.small
  obtain ⟨fb, hfb⟩ := few_or P n
  have cF : Hid (∀ W, Keep w W → Calls Tryd.prog 9 #[.slice A n c] W fun e w' => e = .returned (.bool fb) ∧ W = w') := fun W k => rfew_fn A n c P W (hR.keep k) fb hfb
  replace hfb := Lib.hid hfb
  replace hv := Lib.hid hv
  replace hR := Lib.hid hR
  replace ho := Lib.hid ho
  replace har := Lib.hid har
  obtain ⟨W0, hW0⟩ : ∃ W, W = w.alloc (.cells #[.int .i64 o.k, .int .i64 o.i, .int .i64 o.x, .int .i64 o.n, .bool o.f, .slice o.A o.m o.c] 45) := ⟨_, rfl⟩
  have K0 : Hid (Keep w W0) := by rw [hW0]; exact Keep.one _ _
  have O0 : Hid (W0.heap[w.heap.size]? = some (.cells #[.int .i64 o.k, .int .i64 o.i, .int .i64 o.x, .int .i64 o.n, .bool o.f, .slice o.A o.m o.c] 45 (0, 0))) := by rw [hW0]; exact heap_alloc_new _ _
  have cn := csnew_fn (n : Int) ⟨by omega, by omega⟩ W0
  have e0 : (if 0 ≤ (n : Int) then (n : Int) else 0) = (n : Int) := if_pos (by omega)
  rw [e0] at cn
  replace cn := Lib.hid cn
  clear e0
  unfold OpW.val
  go_enter Tryd.func4, Tryd.ntmps4
  go_wp2_with fail
  rw [← hW0]
  replace hW0 := Lib.hid hW0
  refine cn.out.mono ?_
  rintro e w1 ⟨q, rfl, p, m, T1, k1, lq, lp, lm⟩
  have O1 : Hid (w1.heap[w.heap.size]? = some (.cells #[.int .i64 o.k, .int .i64 o.i, .int .i64 o.x, .int .i64 o.n, .bool o.f, .slice o.A o.m o.c] 45 (0, 0))) := k1.block O0.out
  have olt : Hid (w.heap.size < W0.heap.size) := lt_of_block O0.out
  have K1 : Hid (Keep w w1) := K0.out.trans k1
  have mlo : Hid (w.heap.size ≤ m ∧ ¬ w.heap.size = m) := ⟨by have := olt.out; omega, by have := olt.out; omega⟩
  replace T1 := Lib.hid T1
  replace k1 := Lib.hid k1
  replace lm := Lib.hid lm
  replace lp := Lib.hid lp
  replace lq := Lib.hid lq
  obtain ⟨ob, hob⟩ : ∃ ob, ob = w.heap.size := ⟨_, rfl⟩
  rw [← hob] at O1 mlo ⊢
  have mlo2 : Hid (w.heap.size ≤ m) := by rw [← hob]; exact mlo.out.1
  replace hob := Lib.hid hob
  have aw1 := Lib.hid (awake_true w1 (hv.out.keep K1.out))
  go_wp2_with fail
  refine aw1.out.mono ?_
  rintro e w2 ⟨rfl, k2⟩
  have K2 := Lib.hid (K1.out.trans k2)
  have T2 := Lib.hid (T1.out.keep k2)
  have O2 : Hid (w2.heap[ob]? = some (.cells #[.int .i64 o.k, .int .i64 o.i, .int .i64 o.x, .int .i64 o.n, .bool o.f, .slice o.A o.m o.c] 45 (0, 0))) := k2.block O1.out
  replace k2 := Lib.hid k2
  clear aw1
  go_wp2_with fail
  refine (cF.out w2 K2.out).mono ?_
  rintro e w2' ⟨rfl, rfl⟩
  have o5 : w2.cell? ⟨ob, 5, none⟩ = some (.slice o.A o.m o.c) := by rw [cell_of_row w2 _ _ _ _ _ O2.out]; rfl
  by_cases hgo : fb = true ∧ o.m ≤ 20
  rotate_left
  · have aw2 := Lib.hid (awake_true w2 (hv.out.keep K2.out))
    by_cases hf : fb = true
    · subst hf
      have h20n : ¬ o.m ≤ 20 := fun h => hgo ⟨rfl, h⟩
      have h20 : decide ((20 : Int) < (o.m : Int)) = true := decide_eq_true (by omega)
      have h20' : (20 : Int) < (o.m : Int) := by omega
      replace hgo := Lib.hid hgo
      replace h20n := Lib.hid h20n
      go_wp2_with fail
      refine aw2.out.mono ?_
      rintro e w4 ⟨rfl, k4⟩
      go_wp2
      go_ret
      exact ⟨rfl, K2.out.trans k4⟩
    · have hf' : fb = false := by simpa using hf
      subst hf'
      replace hgo := Lib.hid hgo
      clear hf
      go_wp2_with fail
      refine aw2.out.mono ?_
      rintro e w4 ⟨rfl, k4⟩
      go_wp2
      go_ret
      exact ⟨rfl, K2.out.trans k4⟩
  obtain ⟨hfb1, h20⟩ := hgo
  subst hfb1
  have h20' : ¬ (20 : Int) < (o.m : Int) := by omega
  have h20d : decide ((20 : Int) < (o.m : Int)) = false := decide_eq_false h20'
  replace h20 := Lib.hid h20
  have hf := hfb.out.1 rfl
  have hn := hf.1
  replace hf := Lib.hid hf
  go_wp2
  go_loopg [8, 9] n (fun gx s8 s9 wr => ∃ (i : Nat) (L : List ClV) (B : Option Addr) (d : Nat), i ≤ n ∧ gx = n - i ∧ s9 = .int .i64 i ∧ s8 = .slice B L.length d ∧ L.length ≤ i ∧ Hid (Keep w wr) ∧ Hid (SI wr n q p m L) ∧ Hid (RL wr B d L) ∧ Hid (wr.heap[ob]? = some (.cells #[.int .i64 o.k, .int .i64 o.i, .int .i64 o.x, .int .i64 o.n, .bool o.f, .slice o.A o.m o.c] 45 (0, 0))))
  case atStart => exact ⟨0, [], none, 0, Nat.zero_le _, rfl, rfl, rfl, Nat.le_refl _, K2, T2, rl_nil _, O2⟩
  case round =>
    clear T1 T2 K2 k1 k2 O2 o5 h20' h20d
    obtain ⟨i, L, B, d, hi, rfl, rfl, rfl, hLi, KR, TR, RR, OR⟩ := hrel
    by_cases hlt : i < n
    · obtain ⟨b, off, hA, ca⟩ := (hR.out.keep KR.out).adr (by omega)
      subst hA
      have q1 := atC b off n c i hlt
      have X := ca i hlt
      have ox := hR.out.ok i hlt
      clear ca
      obtain ⟨x, hx⟩ : ∃ x, x = P i := ⟨_, rfl⟩
      rw [← hx] at X ox
      replace hx := Lib.hid hx
      have cR := radd_fn (n : Int) (by omega) RR.out TR.out.t.srt (by omega) TR.out.t.len x ox
      have hol := add_len L n x
      have cT : Hid (∀ W, Keep wr W → Calls Tryd.prog 11 #[.pointer (some ⟨q, 0, none⟩), x.val] W fun e w' => e = .returned (fltC (addC L n x)) ∧ SI w' n q p m (addL L n x) ∧ Fr (· = m) W w') := fun W k => csadd_fn (TR.out.keep k) x ox (hv.out.keep (KR.out.trans k))
      obtain ⟨M, hM⟩ : ∃ M, M = addL L n x := ⟨_, rfl⟩
      obtain ⟨cc, hcc⟩ : ∃ cc, cc = addC L n x := ⟨_, rfl⟩
      rw [← hM, ← hcc] at cR cT
      rw [← hM] at hol
      replace hM := Lib.hid hM
      replace hcc := Lib.hid hcc
      obtain ⟨l0, hl0⟩ : ∃ l0, l0 = M.length := ⟨_, rfl⟩
      rw [← hl0] at cR hol
      replace hl0 := Lib.hid hl0
      obtain ⟨fv, hfv⟩ : ∃ fv, fv = fltC cc := ⟨_, rfl⟩
      rw [← hfv] at cT
      replace hfv := Lib.hid hfv
      unfold ClV.val at cR cT
      replace cR := Lib.hid cR
      have x0 := X.e0; have x1 := X.e1; have x2 := X.e2
      replace X := Lib.hid X
      replace ox := Lib.hid ox
      go_wp2_with fail
      refine cR.out.mono ?_
      rintro e w3 ⟨B3, d3, rfl, k3, R3⟩
      have K3 : Hid (Keep w w3) := KR.out.trans k3
      have T3 : Hid (SI w3 n q p m L) := TR.out.keep k3
      have O3 : Hid (w3.heap[ob]? = some (.cells #[.int .i64 o.k, .int .i64 o.i, .int .i64 o.x, .int .i64 o.n, .bool o.f, .slice o.A o.m o.c] 45 (0, 0))) := k3.block OR.out
      have X3 := X.out.keep k3
      have x0 := X3.e0; have x1 := X3.e1; have x2 := X3.e2
      have cT3 := Lib.hid (cT.out w3 k3)
      replace k3 := Lib.hid k3
      replace R3 := Lib.hid R3
      clear cR cT
      go_wp2_with fail
      refine cT3.out.mono ?_
      rintro e w4 ⟨rfl, T4, F4⟩
      have K4 : Hid (Keep w w4) := F4.low K3.out (by rintro i rfl; exact mlo2.out)
      have R4 : Hid (RL w4 B3 d3 M) := R3.out.fr T3.out.t F4
      have O4 : Hid (w4.heap[ob]? = some (.cells #[.int .i64 o.k, .int .i64 o.i, .int .i64 o.x, .int .i64 o.n, .bool o.f, .slice o.A o.m o.c] 45 (0, 0))) := (F4.block _ (lt_of_block O3.out) mlo.out.2).trans O3.out
      replace F4 := Lib.hid F4
      replace T4 := Lib.hid T4
      clear cT3 x0 x1 x2 X3
      go_wp2
      go_roundg (n - (i + 1))
      case measure => omega
      case rel => exact ⟨i + 1, M, B3, d3, hlt, rfl, by go_num, by rw [← hl0.out], by rw [← hl0.out]; omega, K4, T4, R4, O4⟩
    · have hin : ¬ (i : Int) < (n : Int) := by omega
      obtain ⟨wo, hwo⟩ : ∃ wo, wo = wr := ⟨_, rfl⟩
      rw [← hwo] at TR RR KR OR ⊢
      clear hwo
      have rM : Hid (∀ W, Keep wo W → RdC W B L.length (row L)) := fun W k => RR.out.rd.keep k
      have cN : Hid (∀ W, Keep wo W → Calls Tryd.prog 16 #[.slice B L.length d, .int .i64 o.x] W fun e w' => e = .returned (.int .i64 (findN (row L) o.x L.length)) ∧ W = w') := fun W k => rfind_fn B L.length d (row L) o.x W (RR.out.rd.keep k)
      have q0 : wo.cell? ⟨ob, 0, none⟩ = some (.int .i64 o.k) := by rw [cell_of_row wo _ _ _ _ _ OR.out]; rfl
      have q1 : wo.cell? ⟨ob, 1, none⟩ = some (.int .i64 o.i) := by rw [cell_of_row wo _ _ _ _ _ OR.out]; rfl
      have q2 : wo.cell? ⟨ob, 2, none⟩ = some (.int .i64 o.x) := by rw [cell_of_row wo _ _ _ _ _ OR.out]; rfl
      have q3 : wo.cell? ⟨ob, 3, none⟩ = some (.int .i64 o.n) := by rw [cell_of_row wo _ _ _ _ _ OR.out]; rfl
      have q4 : wo.cell? ⟨ob, 4, none⟩ = some (.bool o.f) := by rw [cell_of_row wo _ _ _ _ _ OR.out]; rfl
      have q5 : wo.cell? ⟨ob, 5, none⟩ = some (.slice o.A o.m o.c) := by rw [cell_of_row wo _ _ _ _ _ OR.out]; rfl
      rcases find_row L o.x with ⟨h1, h2⟩ | ⟨j, h1, h2, h3, h4⟩
      · have cP := cspod_none TR.out o ar h2
        rw [h1] at cN
        obtain ⟨l0, hl0⟩ : ∃ l0, l0 = L.length := ⟨_, rfl⟩
        rw [← hl0] at cN rM hLi ⊢
        replace hl0 := Lib.hid hl0
        have cS : Hid (∀ W, Calls Tryd.prog 20 #[zpod.val, zpod.val] W fun e w' => e = .returned (.bool true) ∧ Gr W w') := fun W => by
          have zi : PodIs W zpod := ⟨Rd.nil _ _ _, fun _ => ⟨rfl, rfl⟩, by unfold I64 zpod; simp⟩
          exact rsamepod_fn zpod zpod W (SameV.refl _) zi zi
        obtain ⟨v5, hv5⟩ : ∃ v, v = flt 5 1 := ⟨_, rfl⟩
        have cW : Hid (∀ W, Keep w W → Calls Tryd.prog 12 #[v5, .int .i64 5, .int .i64 1] W fun e w' => e = .returned (.bool true) ∧ Keep W w') := fun W k => by rw [hv5]; exact wrong_yes 5 1 W (hv.out.keep k)
        rw [← hv5] at cP
        replace hv5 := Lib.hid hv5
        unfold OpW.val at cP
        unfold zpod PodV.val at cP cS
        replace cP := Lib.hid cP
        replace h1 := Lib.hid h1
        replace h2 := Lib.hid h2
        go_wp2_with fail
        refine cP.out.mono ?_
        rintro e w8 ⟨rfl, k8⟩
        have q2 := k8.cell q2
        obtain ⟨w9, hw9⟩ : ∃ W, W = w8.alloc (.cells #[.int .i64 0, .int .i64 0, .bool false, .int .i64 0, .slice none 0 0, .int .i64 0, .int .i64 0, .int .i64 0, .int .i64 0] 47) := ⟨_, rfl⟩
        have B9 : Hid (w9.heap[w8.heap.size]? = some (.cells (podB zpod) 47 (0, 0))) := by rw [hw9]; exact heap_alloc_new _ _
        have K9 : Hid (Keep wo w9) := by rw [hw9]; exact k8.alloc _
        replace k8 := Lib.hid k8
        have hbl := cell_lt q2
        go_wp2_with fail
        rw [← hw9]
        replace hw9 := Lib.hid hw9
        refine (cN.out _ K9.out).mono ?_
        rintro e w10 ⟨rfl, rfl⟩
        obtain ⟨d0, d1, d2, d3, d4, d5, d6, d7, d8, _⟩ := blk9 B9.out
        unfold zpod at d0 d1 d2 d3 d4 d5 d6 d7 d8
        clear q0 q1 q2 q3 q4 q5 hbl
        go_wp2_with fail
        refine (cS.out _).mono ?_
        rintro e w11 ⟨rfl, g11⟩
        have K11 : Hid (Keep w w11) := KR.out.trans (K9.out.trans g11.keep)
        replace g11 := Lib.hid g11
        clear d0 d1 d2 d3 d4 d5 d6 d7 d8
        go_wp2_with fail
        refine (cW.out _ K11.out).mono ?_
        rintro e w12 ⟨rfl, k12⟩
        have K12 : Hid (Keep w w12) := K11.out.trans k12
        replace k12 := Lib.hid k12
        go_wp2
        go_ret
        exact ⟨rfl, K12.out⟩
      · have cA := cspod_ok TR.out o ar h3 (ho.out.keep KR.out) (by have := h20.out; omega)
        rw [h2] at cN
        rw [h4] at cA
        have oy : Hid (ClOk (row L j)) := TR.out.t.ok _ (row_mem h1)
        obtain ⟨y, hy⟩ : ∃ y, y = row L j := ⟨_, rfl⟩
        rw [← hy] at cA oy
        obtain ⟨l0, hl0⟩ : ∃ l0, l0 = L.length := ⟨_, rfl⟩
        rw [← hl0] at cN rM hLi h1 ⊢
        replace hl0 := Lib.hid hl0
        replace hy := Lib.hid hy
        have cP : Hid (∀ W, Keep wo W → Calls Tryd.prog 21 #[y.val, o.val, .int .i64 ar] W fun e w' => e = .returned (podV y o ar o.A o.c).val ∧ Gr W w') := fun W _ => rpod_fn y o ar W
        unfold podV PodV.val OpW.val at cA cP
        unfold ClV.val at cP
        replace cA := Lib.hid cA
        replace h2 := Lib.hid h2
        replace h3 := Lib.hid h3
        replace h4 := Lib.hid h4
        go_wp2_with fail
        refine cA.out.mono ?_
        rintro e w8 ⟨A8, d8, rfl, k8, O8⟩
        have pI : PodIs w8 (podV y o ar A8 d8) := ⟨rd_own O8 ho.out.rd.small ho.out.rd.range, fun h => (by
          obtain ⟨A9, c9, e9, h9⟩ := own_form O8
          simp only [Value.slice.injEq] at e9
          obtain ⟨rfl, _, rfl⟩ := e9
          exact h9 h), ⟨ho.out.rng.2.1, oy.out.p, ho.out.rng.2.2.2, har.out, by show I64 1; unfold I64; omega, by show I64 (-1); unfold I64; omega, by show I64 (-1); unfold I64; omega⟩⟩
        have pI2 : PodIs wo (podV y o ar o.A o.c) := ⟨(ho.out.keep KR.out).rd, ho.out.nil, ⟨ho.out.rng.2.1, oy.out.p, ho.out.rng.2.2.2, har.out, by show I64 1; unfold I64; omega, by show I64 (-1); unfold I64; omega, by show I64 (-1); unfold I64; omega⟩⟩
        have q0 := k8.cell q0
        have q1 := k8.cell q1
        have q2 := k8.cell q2
        have q3 := k8.cell q3
        have q4 := k8.cell q4
        have q5 := k8.cell q5
        obtain ⟨w9, hw9⟩ : ∃ W, W = w8.alloc (.cells #[.int .i64 o.i, .int .i64 y.p, .bool y.f, .int .i64 o.n, .slice A8 o.m d8, .int .i64 ar, .int .i64 1, .int .i64 (-1), .int .i64 (-1)] 47) := ⟨_, rfl⟩
        have B9 : Hid (w9.heap[w8.heap.size]? = some (.cells (podB (podV y o ar A8 d8)) 47 (0, 0))) := by rw [hw9]; exact heap_alloc_new _ _
        have k89 : Keep w8 w9 := by rw [hw9]; exact Keep.one _ _
        have K9 : Hid (Keep wo w9) := k8.trans k89
        have cS : Hid (∀ W, Keep w9 W → Calls Tryd.prog 20 #[(podV y o ar A8 d8).val, (podV y o ar o.A o.c).val] W fun e w' => e = .returned (.bool true) ∧ Gr W w') := fun W k => rsamepod_fn _ _ W ⟨A8, d8, rfl⟩ ((pI.keep k89).keep k) ((pI2.keep K9.out).keep k)
        have k89' := Lib.hid k89
        unfold podV PodV.val at cS
        replace k8 := Lib.hid k8
        replace O8 := Lib.hid O8
        have hbl := cell_lt q2
        clear pI pI2 k89
        go_wp2_with fail
        rw [← hw9]
        replace hw9 := Lib.hid hw9
        refine (cN.out _ K9.out).mono ?_
        rintro e w10 ⟨rfl, rfl⟩
        obtain ⟨p0, p1, p2, p3, p4, p5, p6, p7, p8, _⟩ := blk9 B9.out
        unfold podV at p0 p1 p2 p3 p4 p5 p6 p7 p8
        have q0 := k89'.out.cell q0
        have q1 := k89'.out.cell q1
        have q2 := k89'.out.cell q2
        have q3 := k89'.out.cell q3
        have q4 := k89'.out.cell q4
        have q5 := k89'.out.cell q5
        obtain ⟨pb, hpb⟩ : ∃ pb, pb = w8.heap.size := ⟨_, rfl⟩
        rw [← hpb] at p0 p1 p2 p3 p4 p5 p6 p7 p8 ⊢
        replace hpb := Lib.hid hpb
        obtain ⟨gb, g0, hB3, cb⟩ := (rM.out w9 K9.out).adr (by omega)
        subst hB3
        have qa := atC gb g0 l0 d j h1
        obtain ⟨go, hgo⟩ : ∃ go, go = g0 + j * 3 := ⟨_, rfl⟩
        have Y := cb j h1
        rw [← hy.out, ← hgo] at Y
        rw [← hgo] at qa
        clear cb
        replace hgo := Lib.hid hgo
        have y0 := Y.e0; have y1 := Y.e1; have y2 := Y.e2
        clear Y hbl
        replace cP : Hid (∀ W, Keep w9 W → _) := fun W k => cP.out W (K9.out.trans k)
        go_wp2_with fail
        have HELD : ∀ Wz, Keep w9 Wz → (Wz.cell? ⟨pb, 0, none⟩ = some (.int .i64 o.i) ∧ Wz.cell? ⟨pb, 1, none⟩ = some (.int .i64 y.p) ∧ Wz.cell? ⟨pb, 2, none⟩ = some (.bool y.f) ∧ Wz.cell? ⟨pb, 3, none⟩ = some (.int .i64 o.n) ∧ Wz.cell? ⟨pb, 4, none⟩ = some (.slice A8 o.m d8) ∧ Wz.cell? ⟨pb, 5, none⟩ = some (.int .i64 ar) ∧ Wz.cell? ⟨pb, 6, none⟩ = some (.int .i64 1) ∧ Wz.cell? ⟨pb, 7, none⟩ = some (.int .i64 (-1)) ∧ Wz.cell? ⟨pb, 8, none⟩ = some (.int .i64 (-1)) ∧ Wz.cell? ⟨ob, 0, none⟩ = some (.int .i64 o.k) ∧ Wz.cell? ⟨ob, 1, none⟩ = some (.int .i64 o.i) ∧ Wz.cell? ⟨ob, 2, none⟩ = some (.int .i64 o.x) ∧ Wz.cell? ⟨ob, 3, none⟩ = some (.int .i64 o.n) ∧ Wz.cell? ⟨ob, 4, none⟩ = some (.bool o.f) ∧ Wz.cell? ⟨ob, 5, none⟩ = some (.slice o.A o.m o.c) ∧ Wz.cell? ⟨gb, go, none⟩ = some (.int .i64 y.k) ∧ Wz.cell? ⟨gb, go + 1, none⟩ = some (.int .i64 y.p) ∧ Wz.cell? ⟨gb, go + 2, none⟩ = some (.bool y.f)) := fun Wz KK => ⟨KK.cell p0, KK.cell p1, KK.cell p2, KK.cell p3, KK.cell p4, KK.cell p5, KK.cell p6, KK.cell p7, KK.cell p8, KK.cell q0, KK.cell q1, KK.cell q2, KK.cell q3, KK.cell q4, KK.cell q5, KK.cell y0, KK.cell y1, KK.cell y2⟩
        refine wp_region_held_drew (S := fun w' => w'.cell? ⟨pb, 0, none⟩ = some (.int .i64 o.i) ∧ w'.cell? ⟨pb, 1, none⟩ = some (.int .i64 y.p) ∧ w'.cell? ⟨pb, 2, none⟩ = some (.bool y.f) ∧ w'.cell? ⟨pb, 3, none⟩ = some (.int .i64 o.n) ∧ w'.cell? ⟨pb, 4, none⟩ = some (.slice A8 o.m d8) ∧ w'.cell? ⟨pb, 5, none⟩ = some (.int .i64 ar) ∧ w'.cell? ⟨pb, 6, none⟩ = some (.int .i64 1) ∧ w'.cell? ⟨pb, 7, none⟩ = some (.int .i64 (-1)) ∧ w'.cell? ⟨pb, 8, none⟩ = some (.int .i64 (-1)) ∧ w'.cell? ⟨ob, 0, none⟩ = some (.int .i64 o.k) ∧ w'.cell? ⟨ob, 1, none⟩ = some (.int .i64 o.i) ∧ w'.cell? ⟨ob, 2, none⟩ = some (.int .i64 o.x) ∧ w'.cell? ⟨ob, 3, none⟩ = some (.int .i64 o.n) ∧ w'.cell? ⟨ob, 4, none⟩ = some (.bool o.f) ∧ w'.cell? ⟨ob, 5, none⟩ = some (.slice o.A o.m o.c) ∧ w'.cell? ⟨gb, go, none⟩ = some (.int .i64 y.k) ∧ w'.cell? ⟨gb, go + 1, none⟩ = some (.int .i64 y.p) ∧ w'.cell? ⟨gb, go + 2, none⟩ = some (.bool y.f)) (by kernel_rfl) ?_ (fun hHeld => ?_)
        · exact HELD _ (by repeat (with_reducible first | exact Keep.refl w9 | apply Keep.alloc | apply Keep.drew | apply Keep.drewN | (refine Keep.trans ?_ (Gr.keep g10.out)) | (refine Keep.trans ?_ (Gr.keep g11.out))))
        refine wpAnyH_take (i := 0) (v := .nilIface) rfl (by kernel_rfl) (by kernel_rfl) (by kernel_rfl) (fun _ _ _ h => h) (Or.inl ⟨by rfl, fun Wz hW => by obtain ⟨s0, s1, s2, s3, s4, s5, s6, s7, s8, s9, s10, s11, s12, s13, s14, s15, s16, s17⟩ := hW; go_simp⟩) hHeld ?_
        simp only [Act.put, List.getElem_toArray, List.getElem_cons_zero, List.setIfInBounds_toArray, List.set_cons_zero, List.set_cons_succ]
        refine wpAnyH_take (i := 1) (v := .bool true) rfl (by kernel_rfl) (by kernel_rfl) (by kernel_rfl) (fun _ _ _ h => h) (Or.inl ⟨by rfl, fun Wz hW => by obtain ⟨s0, s1, s2, s3, s4, s5, s6, s7, s8, s9, s10, s11, s12, s13, s14, s15, s16, s17⟩ := hW; go_simp⟩) hHeld ?_
        simp only [Act.put, List.getElem_toArray, List.getElem_cons_succ, List.getElem_cons_zero, List.setIfInBounds_toArray, List.set_cons_zero, List.set_cons_succ]
        refine wpAnyH_take (i := 2) (v := .bool true) rfl (by kernel_rfl) (by kernel_rfl) (by kernel_rfl) (fun _ _ _ h => h) (Or.inl ⟨by rfl, fun Wz hW => by obtain ⟨s0, s1, s2, s3, s4, s5, s6, s7, s8, s9, s10, s11, s12, s13, s14, s15, s16, s17⟩ := hW; go_simp⟩) hHeld ?_
        simp only [Act.put, List.getElem_toArray, List.getElem_cons_succ, List.getElem_cons_zero, List.setIfInBounds_toArray, List.set_cons_zero, List.set_cons_succ]
        refine wpAnyH_take (i := 3) (v := .agg #[.int .i64 o.i, .int .i64 y.p, .bool y.f, .int .i64 o.n, .slice A8 o.m d8, .int .i64 ar, .int .i64 1, .int .i64 (-1), .int .i64 (-1)]) rfl (by kernel_rfl) (by kernel_rfl) (by kernel_rfl) (fun _ _ _ h => h) (Or.inl ⟨by rfl, fun Wz hW => by obtain ⟨s0, s1, s2, s3, s4, s5, s6, s7, s8, s9, s10, s11, s12, s13, s14, s15, s16, s17⟩ := hW; go_simp⟩) hHeld ?_
        simp only [Act.put, List.getElem_toArray, List.getElem_cons_succ, List.getElem_cons_zero, List.setIfInBounds_toArray, List.set_cons_zero, List.set_cons_succ]
        refine wpAnyH_take (i := 4) (v := .slice (some ⟨gb, g0, none⟩) l0 d) rfl (by kernel_rfl) (by kernel_rfl) (by kernel_rfl) (fun _ _ _ h => h) (Or.inl ⟨by rfl, fun Wz hW => by obtain ⟨s0, s1, s2, s3, s4, s5, s6, s7, s8, s9, s10, s11, s12, s13, s14, s15, s16, s17⟩ := hW; go_simp⟩) hHeld ?_
        simp only [Act.put, List.getElem_toArray, List.getElem_cons_succ, List.getElem_cons_zero, List.setIfInBounds_toArray, List.set_cons_zero, List.set_cons_succ]
        refine wpAnyH_take (i := 5) (v := .int .i64 j) rfl (by kernel_rfl) (by kernel_rfl) (by kernel_rfl) (fun _ _ _ h => h) (Or.inl ⟨by rfl, fun Wz hW => by obtain ⟨s0, s1, s2, s3, s4, s5, s6, s7, s8, s9, s10, s11, s12, s13, s14, s15, s16, s17⟩ := hW; go_simp⟩) hHeld ?_
        simp only [Act.put, List.getElem_toArray, List.getElem_cons_succ, List.getElem_cons_zero, List.setIfInBounds_toArray, List.set_cons_zero, List.set_cons_succ]
        refine wpAnyH_take (i := 6) (v := .pointer (some ⟨gb, go, none⟩)) rfl (by kernel_rfl) (by kernel_rfl) (by kernel_rfl) (fun _ _ _ h => h) (Or.inl ⟨by rfl, fun Wz hW => by obtain ⟨s0, s1, s2, s3, s4, s5, s6, s7, s8, s9, s10, s11, s12, s13, s14, s15, s16, s17⟩ := hW; go_simp⟩) hHeld ?_
        simp only [Act.put, List.getElem_toArray, List.getElem_cons_succ, List.getElem_cons_zero, List.setIfInBounds_toArray, List.set_cons_zero, List.set_cons_succ]
        refine wpAnyH_take (i := 7) (v := .agg #[.int .i64 y.k, .int .i64 y.p, .bool y.f]) rfl (by kernel_rfl) (by kernel_rfl) (by kernel_rfl) (fun _ _ _ h => h) (Or.inl ⟨by rfl, fun Wz hW => by obtain ⟨s0, s1, s2, s3, s4, s5, s6, s7, s8, s9, s10, s11, s12, s13, s14, s15, s16, s17⟩ := hW; go_simp⟩) hHeld ?_
        simp only [Act.put, List.getElem_toArray, List.getElem_cons_succ, List.getElem_cons_zero, List.setIfInBounds_toArray, List.set_cons_zero, List.set_cons_succ]
        refine wpAnyH_take (i := 8) (v := .agg #[.int .i64 o.k, .int .i64 o.i, .int .i64 o.x, .int .i64 o.n, .bool o.f, .slice o.A o.m o.c]) rfl (by kernel_rfl) (by kernel_rfl) (by kernel_rfl) (fun _ _ _ h => h) (Or.inl ⟨by rfl, fun Wz hW => by obtain ⟨s0, s1, s2, s3, s4, s5, s6, s7, s8, s9, s10, s11, s12, s13, s14, s15, s16, s17⟩ := hW; go_simp⟩) hHeld ?_
        simp only [Act.put, List.getElem_toArray, List.getElem_cons_succ, List.getElem_cons_zero, List.setIfInBounds_toArray, List.set_cons_zero, List.set_cons_succ]
        refine wpAnyH_take (i := 9) (v := .int .i64 ar) rfl (by kernel_rfl) (by kernel_rfl) (by kernel_rfl) (fun _ _ _ h => h) (Or.inl ⟨by rfl, fun Wz hW => by obtain ⟨s0, s1, s2, s3, s4, s5, s6, s7, s8, s9, s10, s11, s12, s13, s14, s15, s16, s17⟩ := hW; go_simp⟩) hHeld ?_
        simp only [Act.put, List.getElem_toArray, List.getElem_cons_succ, List.getElem_cons_zero, List.setIfInBounds_toArray, List.set_cons_zero, List.set_cons_succ]
        refine wpAnyH_ready (rs := [10]) (by kernel_rfl) (by simp) ?_
        refine AllReadyH.cons rfl (fun K hK => ?_) AllReadyH.nil
        simp only [List.getElem_toArray, List.getElem_cons_succ, List.getElem_cons_zero]
        rw [if_pos (by rfl)]
        go_simp
        refine (cP.out _ (by repeat (with_reducible first | exact Keep.refl w9 | apply Keep.alloc | apply Keep.drew | apply Keep.drewN | (refine Keep.trans ?_ (Gr.keep g10.out)) | (refine Keep.trans ?_ (Gr.keep g11.out))))).mono ?_
        rintro e w10 ⟨rfl, g10⟩; replace g10 := Lib.hid g10
        go_wp2_with fail
        refine hK.out _ _ ?_ (fun hHeld => ?_)
        · exact HELD _ (by repeat (with_reducible first | exact Keep.refl w9 | apply Keep.alloc | apply Keep.drew | apply Keep.drewN | (refine Keep.trans ?_ (Gr.keep g10.out)) | (refine Keep.trans ?_ (Gr.keep g11.out))))
        clear hK K
        try simp only [Act.put, List.getElem_toArray, List.getElem_cons_succ, List.getElem_cons_zero, List.setIfInBounds_toArray, List.set_cons_zero, List.set_cons_succ]
        refine wpAnyH_ready (rs := [11]) (by kernel_rfl) (by simp) ?_
        refine AllReadyH.cons rfl (fun K hK => ?_) AllReadyH.nil
        simp only [List.getElem_toArray, List.getElem_cons_succ, List.getElem_cons_zero]
        rw [if_pos (by rfl)]
        go_simp
        refine (cS.out _ (by repeat (with_reducible first | exact Keep.refl w9 | apply Keep.alloc | apply Keep.drew | apply Keep.drewN | (refine Keep.trans ?_ (Gr.keep g10.out)) | (refine Keep.trans ?_ (Gr.keep g11.out))))).mono ?_
        rintro e w11 ⟨rfl, g11⟩; replace g11 := Lib.hid g11
        go_wp2_with fail
        refine hK.out _ _ ?_ (fun hHeld => ?_)
        · exact HELD _ (by repeat (with_reducible first | exact Keep.refl w9 | apply Keep.alloc | apply Keep.drew | apply Keep.drewN | (refine Keep.trans ?_ (Gr.keep g10.out)) | (refine Keep.trans ?_ (Gr.keep g11.out))))
        clear hK K
        try simp only [Act.put, List.getElem_toArray, List.getElem_cons_succ, List.getElem_cons_zero, List.setIfInBounds_toArray, List.set_cons_zero, List.set_cons_succ]
        refine wpAnyH_take (i := 12) (v := .bool true) rfl (by kernel_rfl) (by kernel_rfl) (by kernel_rfl) (fun _ _ _ h => h) (Or.inl ⟨by rfl, fun Wz hW => by obtain ⟨s0, s1, s2, s3, s4, s5, s6, s7, s8, s9, s10, s11, s12, s13, s14, s15, s16, s17⟩ := hW; go_simp⟩) hHeld ?_
        simp only [Act.put, List.getElem_toArray, List.getElem_cons_succ, List.getElem_cons_zero, List.setIfInBounds_toArray, List.set_cons_zero, List.set_cons_succ]
        refine wpAnyH_take (i := 13) (v := .bool true) rfl (by kernel_rfl) (by kernel_rfl) (by kernel_rfl) (fun _ _ _ h => h) (Or.inl ⟨by rfl, fun Wz hW => by obtain ⟨s0, s1, s2, s3, s4, s5, s6, s7, s8, s9, s10, s11, s12, s13, s14, s15, s16, s17⟩ := hW; go_simp⟩) hHeld ?_
        simp only [Act.put, List.getElem_toArray, List.getElem_cons_succ, List.getElem_cons_zero, List.setIfInBounds_toArray, List.set_cons_zero, List.set_cons_succ]
        refine wpAnyH_done (by kernel_rfl) ?_ _
        go_wp2
        go_ret
        exact ⟨rfl, KR.out.trans (K9.out.trans (by repeat (with_reducible first | exact Keep.refl w9 | apply Keep.drew | (refine Keep.trans ?_ g10.out.keep) | (refine Keep.trans ?_ g11.out.keep))))⟩
end Go.Proofs.YtmbeghngnnpmlaaDoor.T11
