/-
  The walk of ClassMatchesReference. Condition: errors.errorType holds its own.
-/
import Derived.Test.YtmbeghngnnpmlaaDoorSide11
namespace Go.Proofs.YtmbeghngnnpmlaaDoor.T11
open Go.RowKit Go.Sort Go.Lib Go.Shelf

theorem few_or (P : Nat → ClV) (n : Nat) : ∃ b, b = true ↔ FewC P n := ⟨@decide (FewC P n) (Classical.propDecidable _), by simp⟩
set_option maxRecDepth 100000 in
set_option maxHeartbeats 16000000 in
theorem matches_walk (sz : Int) (hz : I64 sz) (A : Option Addr) (n c : Nat) (P : Nat → ClV) (w : World) (hR : RdC w A n P) (hv : ErrT w) : Calls Tryd.prog 3 #[.int .i64 sz, .slice A n c] w fun e w' => e = .returned (.bool true) ∧ Keep w w' := by
  have mixed : Tryd.prog.follows .mixedOrders = true := by kernel_rfl
  have hs := hR.small
  obtain ⟨fb, hfb⟩ := few_or P n
  have cF : Hid (∀ W, Keep w W → Calls Tryd.prog 9 #[.slice A n c] W fun e w' => e = .returned (.bool fb) ∧ W = w') := fun W k => rfew_fn A n c P W (hR.keep k) fb hfb
  replace hfb := Lib.hid hfb
  replace hv := Lib.hid hv
  replace hR := Lib.hid hR
  have cn := csnew_fn sz hz w
  have e0 : (if 0 ≤ sz then sz else 0) = max sz 0 := by split <;> omega
  rw [e0] at cn
  obtain ⟨S, hS⟩ : ∃ S, S = max sz 0 := ⟨_, rfl⟩
  rw [← hS] at cn
  replace hS := Lib.hid hS
  replace cn := Lib.hid cn
  clear e0
  replace hz := Lib.hid hz
  go_enter Tryd.func3, Tryd.ntmps3
  go_wp2_with fail
  refine cn.out.mono ?_
  rintro e w1 ⟨q, rfl, p, m, T1, k1, lq, lp, lm⟩
  replace T1 := Lib.hid T1
  replace k1 := Lib.hid k1
  replace lm := Lib.hid lm
  replace lp := Lib.hid lp
  replace lq := Lib.hid lq
  have aw1 := Lib.hid (awake_true w1 (hv.out.keep k1.out))
  go_wp2_with fail
  refine aw1.out.mono ?_
  rintro e w2 ⟨rfl, k2⟩
  have K2 := Lib.hid (k1.out.trans k2)
  have T2 := Lib.hid (T1.out.keep k2)
  replace k2 := Lib.hid k2
  clear aw1
  go_wp2_with fail
  refine (cF.out w2 K2.out).mono ?_
  rintro e w2' ⟨rfl, rfl⟩
  cases fb with
  | false =>
    have aw2 := Lib.hid (awake_true w2 (hv.out.keep K2.out))
    go_wp2_with fail
    refine aw2.out.mono ?_
    rintro e w4 ⟨rfl, k4⟩
    go_wp2
    go_ret
    exact ⟨rfl, K2.out.trans k4⟩
  | true =>
  have hf := hfb.out.1 rfl
  have hn := hf.1
  replace hf := Lib.hid hf
  go_wp2
  go_loopg [6, 7, 8] n (fun gx s6 s7 s8 wr => ∃ (i : Nat) (L : List ClV) (B : Option Addr) (d : Nat) (z : Int), i ≤ n ∧ gx = n - i ∧ s8 = .int .i64 i ∧ s7 = .int .i64 z ∧ s6 = .slice B L.length d ∧ L.length ≤ i ∧ Hid (Keep w wr) ∧ Hid (SI wr S q p m L) ∧ Hid (RL wr B d L))
  case atStart => exact ⟨0, [], none, 0, 0, Nat.zero_le _, rfl, rfl, rfl, rfl, Nat.le_refl _, K2, T2, rl_nil _⟩
  case round =>
    clear T1 T2 K2 k1 k2
    obtain ⟨i, L, B, d, z, hi, rfl, rfl, rfl, rfl, hLi, KR, TR, RR⟩ := hrel
    by_cases hlt : i < n
    · obtain ⟨b, off, hA, ca⟩ := (hR.out.keep KR.out).adr (by omega)
      subst hA
      have q1 := atC b off n c i hlt
      have X := ca i hlt
      have ox := hR.out.ok i hlt
      clear ca
      obtain ⟨x, hx⟩ : ∃ x, x = P i := ⟨_, rfl⟩
      rw [← hx] at X ox
      replace hx := Lib.hid hx
      have cR := radd_fn sz hS.out RR.out TR.out.t.srt (by omega) TR.out.t.len x ox
      have hol := add_len L S x
      have cT : Hid (∀ W, Keep wr W → Calls Tryd.prog 11 #[.pointer (some ⟨q, 0, none⟩), x.val] W fun e w' => e = .returned (fltC (addC L S x)) ∧ SI w' S q p m (addL L S x) ∧ Fr (· = m) W w') := fun W k => csadd_fn (TR.out.keep k) x ox (hv.out.keep (KR.out.trans k))
      obtain ⟨M, hM⟩ : ∃ M, M = addL L S x := ⟨_, rfl⟩
      obtain ⟨cc, hcc⟩ : ∃ cc, cc = addC L S x := ⟨_, rfl⟩
      rw [← hM, ← hcc] at cR cT
      rw [← hM] at hol
      replace hM := Lib.hid hM
      obtain ⟨l0, hl0⟩ : ∃ l0, l0 = M.length := ⟨_, rfl⟩
      rw [← hl0] at cR hol
      replace hl0 := Lib.hid hl0
      replace hcc := Lib.hid hcc
      unfold ClV.val at cR cT
      replace cR := Lib.hid cR
      have x0 := X.e0; have x1 := X.e1; have x2 := X.e2
      replace X := Lib.hid X
      replace ox := Lib.hid ox
      go_wp2_with fail
      refine cR.out.mono ?_
      rintro e w3 ⟨B3, d3, rfl, k3, R3⟩
      have K3 : Hid (Keep w w3) := KR.out.trans k3
      have T3 : Hid (SI w3 S q p m L) := TR.out.keep k3
      have g3 : Hid (ErrT w3) := hv.out.keep K3.out
      have X3 := X.out.keep k3
      have x0 := X3.e0; have x1 := X3.e1; have x2 := X3.e2
      have cT3 := Lib.hid (cT.out w3 k3)
      replace k3 := Lib.hid k3
      replace R3 := Lib.hid R3
      clear cR cT
      go_wp2_with fail
      refine cT3.out.mono ?_
      rintro e w4 ⟨rfl, T4, F4⟩
      have K4 : Hid (Keep w w4) := F4.low K3.out (by rintro i rfl; exact lm.out)
      have R4 : Hid (RL w4 B3 d3 M) := R3.out.fr T3.out.t F4
      have g4 : Hid (ErrT w4) := errT_si g3.out T3.out F4
      have nx : ¬ b = m := T3.out.t.off_block x0
      have X4 : Hid (Cel3 w4 b (off + i * 3) x) := ⟨F4.cell x0 nx, F4.cell x1 nx, F4.cell x2 nx⟩
      replace F4 := Lib.hid F4
      replace T4 := Lib.hid T4
      replace nx := Lib.hid nx
      clear cT3 x0 x1 x2 X3
      have sL := T4.out.t.len
      have cA : Hid (∀ W, Keep w4 W → Calls Tryd.prog 14 #[.pointer (some ⟨q, 0, none⟩)] W fun e w' => ∃ B d, e = .returned (.slice B l0 d) ∧ Keep W w' ∧ RdC w' B l0 (row M)) := fun W k => by
        rw [hl0.out]
        exact (csall_fn (T4.out.keep k) (by rw [← hl0.out]; omega)).mono fun e w' ⟨B, d, he, k2, O⟩ => ⟨B, d, he, k2, all_rd O (by rw [← hl0.out]; omega) T4.out.t.ok⟩
      have cG : Hid (∀ W, Keep w4 W → Calls Tryd.prog 15 #[.pointer (some ⟨q, 0, none⟩), .int .i64 x.k] W fun e w' => e = .returned (.tuple #[(getL M x.k).val, .bool (decide (x.k ∈ keys M))]) ∧ Keep W w') := fun W k => csget_fn (T4.out.keep k) x.k
      have cN : Hid (∀ W, Keep w4 W → Calls Tryd.prog 16 #[.slice B3 l0 d3, .int .i64 x.k] W fun e w' => e = .returned (.int .i64 (findN (row M) x.k l0)) ∧ W = w') := fun W k => by
        rw [hl0.out]
        exact rfind_fn B3 M.length d3 (row M) x.k W (R4.out.rd.keep k)
      have rM : Hid (∀ W, Keep w4 W → RdC W B3 l0 (row M)) := fun W k => by rw [hl0.out]; exact R4.out.rd.keep k
      by_cases h0 : cc = 0
      · obtain ⟨fv, hfv⟩ : ∃ fv, fv = fltC cc := ⟨_, rfl⟩
        rw [← hfv]
        have hfn : fv = .nilIface := by rw [hfv, h0]; rfl
        subst hfn
        replace hfv := Lib.hid hfv
        subst h0
        have K5 : Hid (Keep w4 w4) := Keep.refl _
        go_wp2_with fail
        refine (cA.out _ K5.out).mono ?_
        rintro e w6 ⟨B6, d6, rfl, k6, R6⟩
        have K6 : Hid (Keep w4 w6) := K5.out.trans k6
        have cS := Lib.hid (rsame_fn B6 B3 l0 d6 d3 (row M) w6 R6 (rM.out w6 K6.out))
        replace k6 := Lib.hid k6
        replace R6 := Lib.hid R6
        go_wp2_with fail
        refine cS.out.mono ?_
        rintro e w7 ⟨rfl, D7⟩
        have K7 : Hid (Keep w4 w7) := K6.out.trans D7.keep
        replace D7 := Lib.hid D7
        have X7 := X4.out.keep K7.out
        have x0 := X7.e0
        clear X7 cS
        go_wp2_with fail
        refine (cG.out _ K7.out).mono ?_
        rintro e w9 ⟨rfl, k9⟩
        have K9 : Hid (Keep w4 w9) := K7.out.trans k9
        replace k9 := Lib.hid k9
        clear x0
        rcases find_row M x.k with ⟨h1, h2⟩ | ⟨j, h1, h2, h3, h4⟩
        · have cG0 := Lib.hid cG
          have e1 : decide (x.k ∈ keys M) = false := decide_eq_false h2
          have e2 : getL M x.k = zp := get_none h2
          rw [← hl0.out] at h1
          rw [e1, e2]
          unfold zp ClV.val
          obtain ⟨w10, hw10⟩ : ∃ W, W = w9.alloc (.cells #[.int .i64 0, .int .i64 0, .bool false] 30) := ⟨_, rfl⟩
          have B10 : Hid (w10.heap[w9.heap.size]? = some (.cells #[.int .i64 0, .int .i64 0, .bool false] 30 (0, 0))) := by rw [hw10]; exact heap_alloc_new _ _
          have K10 : Hid (Keep w4 w10) := by rw [hw10]; exact K9.out.alloc _
          have X10 := X4.out.keep K9.out
          have x0 := X10.e0
          have hbl := cell_lt x0
          clear X10
          have cN1 := cN.out w10 K10.out
          rw [h1] at cN1
          replace cN1 := Lib.hid cN1
          replace h1 := Lib.hid h1
          replace h2 := Lib.hid h2
          replace e1 := Lib.hid e1
          replace e2 := Lib.hid e2
          go_wp2_with fail
          rw [← hw10]
          replace hw10 := Lib.hid hw10
          refine cN1.out.mono ?_
          rintro e w11 ⟨rfl, rfl⟩
          obtain ⟨v0, v1, v2⟩ := cel_block (x := zp) B10.out
          unfold zp at v0 v1 v2
          clear x0 hbl
          go_wp2_with fail
          have HELD : ∀ Wz, Keep w10 Wz → (Wz.cell? ⟨w9.heap.size, 0, none⟩ = some (.int .i64 0) ∧ Wz.cell? ⟨w9.heap.size, 1, none⟩ = some (.int .i64 0) ∧ Wz.cell? ⟨w9.heap.size, 2, none⟩ = some (.bool false)) := fun Wz KK => ⟨KK.cell v0, KK.cell v1, KK.cell v2⟩
          refine wp_region_held_drew (S := fun w' => w'.cell? ⟨w9.heap.size, 0, none⟩ = some (.int .i64 0) ∧ w'.cell? ⟨w9.heap.size, 1, none⟩ = some (.int .i64 0) ∧ w'.cell? ⟨w9.heap.size, 2, none⟩ = some (.bool false)) (by kernel_rfl) ?_ (fun hHeld => ?_)
          · exact HELD _ (by repeat (with_reducible first | exact Keep.refl w10 | apply Keep.alloc | apply Keep.drew | apply Keep.drewN))
          refine wpAnyH_take (i := 0) (v := .bool false) rfl (by kernel_rfl) (by kernel_rfl) (by kernel_rfl) (fun _ _ _ h => h) (Or.inl ⟨by rfl, fun Wz hW => by obtain ⟨p0, p1, p2⟩ := hW; go_simp⟩) hHeld ?_
          simp only [Act.put, List.getElem_toArray, List.getElem_cons_zero, List.setIfInBounds_toArray, List.set_cons_zero, List.set_cons_succ]
          refine wpAnyH_take (i := 1) (v := .int .i64 (-1)) rfl (by kernel_rfl) (by kernel_rfl) (by kernel_rfl) (fun _ _ _ h => h) (Or.inl ⟨by rfl, fun Wz hW => by obtain ⟨p0, p1, p2⟩ := hW; go_simp⟩) hHeld ?_
          simp only [Act.put, List.getElem_toArray, List.getElem_cons_succ, List.getElem_cons_zero, List.setIfInBounds_toArray, List.set_cons_zero, List.set_cons_succ]
          refine wpAnyH_take (i := 2) (v := .bool false) rfl (by kernel_rfl) (by kernel_rfl) (by kernel_rfl) (fun _ _ _ h => h) (Or.inl ⟨by rfl, fun Wz hW => by obtain ⟨p0, p1, p2⟩ := hW; go_simp⟩) hHeld ?_
          simp only [Act.put, List.getElem_toArray, List.getElem_cons_succ, List.getElem_cons_zero, List.setIfInBounds_toArray, List.set_cons_zero, List.set_cons_succ]
          refine wpAnyH_take (i := 3) (v := .bool false) rfl (by kernel_rfl) (by kernel_rfl) (by kernel_rfl) (fun _ _ _ h => h) (Or.inl ⟨by rfl, fun Wz hW => by obtain ⟨p0, p1, p2⟩ := hW; go_simp⟩) hHeld ?_
          simp only [Act.put, List.getElem_toArray, List.getElem_cons_succ, List.getElem_cons_zero, List.setIfInBounds_toArray, List.set_cons_zero, List.set_cons_succ]
          refine wpAnyH_take (i := 4) (v := .bool false) rfl (by kernel_rfl) (by kernel_rfl) (by kernel_rfl) (fun _ _ _ h => h) (Or.inl ⟨by rfl, fun Wz hW => by obtain ⟨p0, p1, p2⟩ := hW; go_simp⟩) hHeld ?_
          simp only [Act.put, List.getElem_toArray, List.getElem_cons_succ, List.getElem_cons_zero, List.setIfInBounds_toArray, List.set_cons_zero, List.set_cons_succ]
          refine wpAnyH_take (i := 5) (v := .bool false) rfl (by kernel_rfl) (by kernel_rfl) (by kernel_rfl) (fun _ _ _ h => h) (Or.inl ⟨by rfl, fun Wz hW => by obtain ⟨p0, p1, p2⟩ := hW; go_simp⟩) hHeld ?_
          simp only [Act.put, List.getElem_toArray, List.getElem_cons_succ, List.getElem_cons_zero, List.setIfInBounds_toArray, List.set_cons_zero, List.set_cons_succ]
          refine wpAnyH_take (i := 6) (v := .bool false) rfl (by kernel_rfl) (by kernel_rfl) (by kernel_rfl) (fun _ _ _ h => h) (Or.inl ⟨by rfl, fun Wz hW => by obtain ⟨p0, p1, p2⟩ := hW; go_simp⟩) hHeld ?_
          simp only [Act.put, List.getElem_toArray, List.getElem_cons_succ, List.getElem_cons_zero, List.setIfInBounds_toArray, List.set_cons_zero, List.set_cons_succ]
          refine wpAnyH_take (i := 7) (v := undef) rfl (by kernel_rfl) (by kernel_rfl) (by kernel_rfl) (fun _ _ _ h => h) (Or.inr ⟨by rfl, rfl⟩) hHeld ?_
          simp only [Act.put, List.getElem_toArray, List.getElem_cons_succ, List.getElem_cons_zero, List.setIfInBounds_toArray, List.set_cons_zero, List.set_cons_succ]
          refine wpAnyH_take (i := 8) (v := undef) rfl (by kernel_rfl) (by kernel_rfl) (by kernel_rfl) (fun _ _ _ h => h) (Or.inr ⟨by rfl, rfl⟩) hHeld ?_
          simp only [Act.put, List.getElem_toArray, List.getElem_cons_succ, List.getElem_cons_zero, List.setIfInBounds_toArray, List.set_cons_zero, List.set_cons_succ]
          refine wpAnyH_take (i := 9) (v := undef) rfl (by kernel_rfl) (by kernel_rfl) (by kernel_rfl) (fun _ _ _ h => h) (Or.inr ⟨by rfl, rfl⟩) hHeld ?_
          simp only [Act.put, List.getElem_toArray, List.getElem_cons_succ, List.getElem_cons_zero, List.setIfInBounds_toArray, List.set_cons_zero, List.set_cons_succ]
          refine wpAnyH_take (i := 10) (v := undef) rfl (by kernel_rfl) (by kernel_rfl) (by kernel_rfl) (fun _ _ _ h => h) (Or.inr ⟨by rfl, rfl⟩) hHeld ?_
          simp only [Act.put, List.getElem_toArray, List.getElem_cons_succ, List.getElem_cons_zero, List.setIfInBounds_toArray, List.set_cons_zero, List.set_cons_succ]
          refine wpAnyH_take (i := 11) (v := undef) rfl (by kernel_rfl) (by kernel_rfl) (by kernel_rfl) (fun _ _ _ h => h) (Or.inr ⟨by rfl, rfl⟩) hHeld ?_
          simp only [Act.put, List.getElem_toArray, List.getElem_cons_succ, List.getElem_cons_zero, List.setIfInBounds_toArray, List.set_cons_zero, List.set_cons_succ]
          refine wpAnyH_take (i := 12) (v := undef) rfl (by kernel_rfl) (by kernel_rfl) (by kernel_rfl) (fun _ _ _ h => h) (Or.inr ⟨by rfl, rfl⟩) hHeld ?_
          simp only [Act.put, List.getElem_toArray, List.getElem_cons_succ, List.getElem_cons_zero, List.setIfInBounds_toArray, List.set_cons_zero, List.set_cons_succ]
          refine wpAnyH_take (i := 13) (v := .bool false) rfl (by kernel_rfl) (by kernel_rfl) (by kernel_rfl) (fun _ _ _ h => h) (Or.inl ⟨by rfl, fun Wz hW => by obtain ⟨p0, p1, p2⟩ := hW; go_simp⟩) hHeld ?_
          simp only [Act.put, List.getElem_toArray, List.getElem_cons_succ, List.getElem_cons_zero, List.setIfInBounds_toArray, List.set_cons_zero, List.set_cons_succ]
          refine wpAnyH_take (i := 14) (v := .bool false) rfl (by kernel_rfl) (by kernel_rfl) (by kernel_rfl) (fun _ _ _ h => h) (Or.inl ⟨by rfl, fun Wz hW => by obtain ⟨p0, p1, p2⟩ := hW; go_simp⟩) hHeld ?_
          simp only [Act.put, List.getElem_toArray, List.getElem_cons_succ, List.getElem_cons_zero, List.setIfInBounds_toArray, List.set_cons_zero, List.set_cons_succ]
          refine wpAnyH_take (i := 15) (v := .bool false) rfl (by kernel_rfl) (by kernel_rfl) (by kernel_rfl) (fun _ _ _ h => h) (Or.inl ⟨by rfl, fun Wz hW => by obtain ⟨p0, p1, p2⟩ := hW; go_simp⟩) hHeld ?_
          simp only [Act.put, List.getElem_toArray, List.getElem_cons_succ, List.getElem_cons_zero, List.setIfInBounds_toArray, List.set_cons_zero, List.set_cons_succ]
          refine wpAnyH_take (i := 16) (v := .bool false) rfl (by kernel_rfl) (by kernel_rfl) (by kernel_rfl) (fun _ _ _ h => h) (Or.inl ⟨by rfl, fun Wz hW => by obtain ⟨p0, p1, p2⟩ := hW; go_simp⟩) hHeld ?_
          simp only [Act.put, List.getElem_toArray, List.getElem_cons_succ, List.getElem_cons_zero, List.setIfInBounds_toArray, List.set_cons_zero, List.set_cons_succ]
          refine wpAnyH_take (i := 17) (v := .bool true) rfl (by kernel_rfl) (by kernel_rfl) (by kernel_rfl) (fun _ _ _ h => h) (Or.inl ⟨by rfl, fun Wz hW => by obtain ⟨p0, p1, p2⟩ := hW; go_simp⟩) hHeld ?_
          simp only [Act.put, List.getElem_toArray, List.getElem_cons_succ, List.getElem_cons_zero, List.setIfInBounds_toArray, List.set_cons_zero, List.set_cons_succ]
          refine wpAnyH_take (i := 18) (v := .bool true) rfl (by kernel_rfl) (by kernel_rfl) (by kernel_rfl) (fun _ _ _ h => h) (Or.inl ⟨by rfl, fun Wz hW => by obtain ⟨p0, p1, p2⟩ := hW; go_simp⟩) hHeld ?_
          simp only [Act.put, List.getElem_toArray, List.getElem_cons_succ, List.getElem_cons_zero, List.setIfInBounds_toArray, List.set_cons_zero, List.set_cons_succ]
          refine wpAnyH_take (i := 19) (v := .agg #[.int .i64 0, .int .i64 0, .bool false]) rfl (by kernel_rfl) (by kernel_rfl) (by kernel_rfl) (fun _ _ _ h => h) (Or.inl ⟨by rfl, fun Wz hW => by obtain ⟨p0, p1, p2⟩ := hW; go_simp⟩) hHeld ?_
          simp only [Act.put, List.getElem_toArray, List.getElem_cons_succ, List.getElem_cons_zero, List.setIfInBounds_toArray, List.set_cons_zero, List.set_cons_succ]
          refine wpAnyH_take (i := 20) (v := .agg #[.int .i64 0, .int .i64 0, .bool false]) rfl (by kernel_rfl) (by kernel_rfl) (by kernel_rfl) (fun _ _ _ h => h) (Or.inl ⟨by rfl, fun Wz hW => by obtain ⟨p0, p1, p2⟩ := hW; go_simp⟩) hHeld ?_
          simp only [Act.put, List.getElem_toArray, List.getElem_cons_succ, List.getElem_cons_zero, List.setIfInBounds_toArray, List.set_cons_zero, List.set_cons_succ]
          refine wpAnyH_take (i := 21) (v := .bool false) rfl (by kernel_rfl) (by kernel_rfl) (by kernel_rfl) (fun _ _ _ h => h) (Or.inl ⟨by rfl, fun Wz hW => by obtain ⟨p0, p1, p2⟩ := hW; go_simp⟩) hHeld ?_
          simp only [Act.put, List.getElem_toArray, List.getElem_cons_succ, List.getElem_cons_zero, List.setIfInBounds_toArray, List.set_cons_zero, List.set_cons_succ]
          refine wpAnyH_take (i := 22) (v := .bool false) rfl (by kernel_rfl) (by kernel_rfl) (by kernel_rfl) (fun _ _ _ h => h) (Or.inl ⟨by rfl, fun Wz hW => by obtain ⟨p0, p1, p2⟩ := hW; go_simp⟩) hHeld ?_
          simp only [Act.put, List.getElem_toArray, List.getElem_cons_succ, List.getElem_cons_zero, List.setIfInBounds_toArray, List.set_cons_zero, List.set_cons_succ]
          refine wpAnyH_take (i := 23) (v := .bool false) rfl (by kernel_rfl) (by kernel_rfl) (by kernel_rfl) (fun _ _ _ h => h) (Or.inl ⟨by rfl, fun Wz hW => by obtain ⟨p0, p1, p2⟩ := hW; go_simp⟩) hHeld ?_
          simp only [Act.put, List.getElem_toArray, List.getElem_cons_succ, List.getElem_cons_zero, List.setIfInBounds_toArray, List.set_cons_zero, List.set_cons_succ]
          refine wpAnyH_done (by kernel_rfl) ?_ _
          have KF : Hid (Keep w w10.drew) := (K4.out.trans K10.out).drew
          have TF : Hid (SI w10.drew S q p m M) := T4.out.keep K10.out.drew
          have RF : Hid (RL w10.drew B3 d3 M) := R4.out.keep K10.out.drew
          go_wp2
          go_roundg (n - (i + 1))
          case measure => omega
          case rel => exact ⟨i + 1, M, B3, d3, 0, hlt, rfl, by go_num, rfl, by rw [← hl0.out], by rw [← hl0.out]; omega, KF, TF, RF⟩
        · have e1 : decide (x.k ∈ keys M) = true := decide_eq_true h3
          obtain ⟨y, hy⟩ : ∃ y, y = row M j := ⟨_, rfl⟩
          rw [← hl0.out] at h1 h2
          rw [e1, h4, ← hy]
          unfold ClV.val
          obtain ⟨w10, hw10⟩ : ∃ W, W = w9.alloc (.cells #[.int .i64 y.k, .int .i64 y.p, .bool y.f] 30) := ⟨_, rfl⟩
          have B10 : Hid (w10.heap[w9.heap.size]? = some (.cells #[.int .i64 y.k, .int .i64 y.p, .bool y.f] 30 (0, 0))) := by rw [hw10]; exact heap_alloc_new _ _
          have K10 : Hid (Keep w4 w10) := by rw [hw10]; exact K9.out.alloc _
          have X10 := X4.out.keep K9.out
          have x0 := X10.e0
          have hbl := cell_lt x0
          clear X10
          have cN1 := cN.out w10 K10.out
          rw [h2] at cN1
          replace cN1 := Lib.hid cN1
          obtain ⟨gb, g0, hB3, cb⟩ := (rM.out w10 K10.out).adr (by omega)
          subst hB3
          have q2 := atC gb g0 l0 d3 j h1
          obtain ⟨go, hgo⟩ : ∃ go, go = g0 + j * 3 := ⟨_, rfl⟩
          have Y := cb j h1
          rw [← hy, ← hgo] at Y
          rw [← hgo] at q2
          clear cb
          replace hgo := Lib.hid hgo
          replace hy := Lib.hid hy
          replace h2 := Lib.hid h2
          replace h3 := Lib.hid h3
          replace h4 := Lib.hid h4
          replace e1 := Lib.hid e1
          go_wp2_with fail
          rw [← hw10]
          replace hw10 := Lib.hid hw10
          refine cN1.out.mono ?_
          rintro e w11 ⟨rfl, rfl⟩
          obtain ⟨v0, v1, v2⟩ := cel_block (x := y) B10.out
          have y0 := Y.e0; have y1 := Y.e1; have y2 := Y.e2
          clear x0 Y hbl
          go_wp2_with fail
          have HELD : ∀ Wz, Keep w10 Wz → (Wz.cell? ⟨w9.heap.size, 0, none⟩ = some (.int .i64 y.k) ∧ Wz.cell? ⟨w9.heap.size, 1, none⟩ = some (.int .i64 y.p) ∧ Wz.cell? ⟨w9.heap.size, 2, none⟩ = some (.bool y.f) ∧ Wz.cell? ⟨gb, go, none⟩ = some (.int .i64 y.k) ∧ Wz.cell? ⟨gb, go + 1, none⟩ = some (.int .i64 y.p) ∧ Wz.cell? ⟨gb, go + 2, none⟩ = some (.bool y.f)) := fun Wz KK => ⟨KK.cell v0, KK.cell v1, KK.cell v2, KK.cell y0, KK.cell y1, KK.cell y2⟩
          refine wp_region_held_drew (S := fun w' => w'.cell? ⟨w9.heap.size, 0, none⟩ = some (.int .i64 y.k) ∧ w'.cell? ⟨w9.heap.size, 1, none⟩ = some (.int .i64 y.p) ∧ w'.cell? ⟨w9.heap.size, 2, none⟩ = some (.bool y.f) ∧ w'.cell? ⟨gb, go, none⟩ = some (.int .i64 y.k) ∧ w'.cell? ⟨gb, go + 1, none⟩ = some (.int .i64 y.p) ∧ w'.cell? ⟨gb, go + 2, none⟩ = some (.bool y.f)) (by kernel_rfl) ?_ (fun hHeld => ?_)
          · exact HELD _ (by repeat (with_reducible first | exact Keep.refl w10 | apply Keep.alloc | apply Keep.drew | apply Keep.drewN))
          refine wpAnyH_take (i := 0) (v := .bool true) rfl (by kernel_rfl) (by kernel_rfl) (by kernel_rfl) (fun _ _ _ h => h) (Or.inl ⟨by rfl, fun Wz hW => by obtain ⟨p0, p1, p2, r0, r1, r2⟩ := hW; go_simp⟩) hHeld ?_
          simp only [Act.put, List.getElem_toArray, List.getElem_cons_zero, List.setIfInBounds_toArray, List.set_cons_zero, List.set_cons_succ]
          refine wpAnyH_take (i := 1) (v := .int .i64 j) rfl (by kernel_rfl) (by kernel_rfl) (by kernel_rfl) (fun _ _ _ h => h) (Or.inl ⟨by rfl, fun Wz hW => by obtain ⟨p0, p1, p2, r0, r1, r2⟩ := hW; go_simp⟩) hHeld ?_
          simp only [Act.put, List.getElem_toArray, List.getElem_cons_succ, List.getElem_cons_zero, List.setIfInBounds_toArray, List.set_cons_zero, List.set_cons_succ]
          refine wpAnyH_take (i := 2) (v := .bool true) rfl (by kernel_rfl) (by kernel_rfl) (by kernel_rfl) (fun _ _ _ h => h) (Or.inl ⟨by rfl, fun Wz hW => by obtain ⟨p0, p1, p2, r0, r1, r2⟩ := hW; go_simp⟩) hHeld ?_
          simp only [Act.put, List.getElem_toArray, List.getElem_cons_succ, List.getElem_cons_zero, List.setIfInBounds_toArray, List.set_cons_zero, List.set_cons_succ]
          refine wpAnyH_take (i := 3) (v := .bool false) rfl (by kernel_rfl) (by kernel_rfl) (by kernel_rfl) (fun _ _ _ h => h) (Or.inl ⟨by rfl, fun Wz hW => by obtain ⟨p0, p1, p2, r0, r1, r2⟩ := hW; go_simp⟩) hHeld ?_
          simp only [Act.put, List.getElem_toArray, List.getElem_cons_succ, List.getElem_cons_zero, List.setIfInBounds_toArray, List.set_cons_zero, List.set_cons_succ]
          refine wpAnyH_take (i := 4) (v := .bool false) rfl (by kernel_rfl) (by kernel_rfl) (by kernel_rfl) (fun _ _ _ h => h) (Or.inl ⟨by rfl, fun Wz hW => by obtain ⟨p0, p1, p2, r0, r1, r2⟩ := hW; go_simp⟩) hHeld ?_
          simp only [Act.put, List.getElem_toArray, List.getElem_cons_succ, List.getElem_cons_zero, List.setIfInBounds_toArray, List.set_cons_zero, List.set_cons_succ]
          refine wpAnyH_take (i := 5) (v := .bool true) rfl (by kernel_rfl) (by kernel_rfl) (by kernel_rfl) (fun _ _ _ h => h) (Or.inl ⟨by rfl, fun Wz hW => by obtain ⟨p0, p1, p2, r0, r1, r2⟩ := hW; go_simp⟩) hHeld ?_
          simp only [Act.put, List.getElem_toArray, List.getElem_cons_succ, List.getElem_cons_zero, List.setIfInBounds_toArray, List.set_cons_zero, List.set_cons_succ]
          refine wpAnyH_take (i := 6) (v := .bool true) rfl (by kernel_rfl) (by kernel_rfl) (by kernel_rfl) (fun _ _ _ h => h) (Or.inl ⟨by rfl, fun Wz hW => by obtain ⟨p0, p1, p2, r0, r1, r2⟩ := hW; go_simp⟩) hHeld ?_
          simp only [Act.put, List.getElem_toArray, List.getElem_cons_succ, List.getElem_cons_zero, List.setIfInBounds_toArray, List.set_cons_zero, List.set_cons_succ]
          refine wpAnyH_take (i := 7) (v := .agg #[.int .i64 y.k, .int .i64 y.p, .bool y.f]) rfl (by kernel_rfl) (by kernel_rfl) (by kernel_rfl) (fun _ _ _ h => h) (Or.inl ⟨by rfl, fun Wz hW => by obtain ⟨p0, p1, p2, r0, r1, r2⟩ := hW; go_simp⟩) hHeld ?_
          simp only [Act.put, List.getElem_toArray, List.getElem_cons_succ, List.getElem_cons_zero, List.setIfInBounds_toArray, List.set_cons_zero, List.set_cons_succ]
          refine wpAnyH_take (i := 8) (v := .slice (some ⟨gb, g0, none⟩) l0 d3) rfl (by kernel_rfl) (by kernel_rfl) (by kernel_rfl) (fun _ _ _ h => h) (Or.inl ⟨by rfl, fun Wz hW => by obtain ⟨p0, p1, p2, r0, r1, r2⟩ := hW; go_simp⟩) hHeld ?_
          simp only [Act.put, List.getElem_toArray, List.getElem_cons_succ, List.getElem_cons_zero, List.setIfInBounds_toArray, List.set_cons_zero, List.set_cons_succ]
          refine wpAnyH_take (i := 9) (v := .int .i64 j) rfl (by kernel_rfl) (by kernel_rfl) (by kernel_rfl) (fun _ _ _ h => h) (Or.inl ⟨by rfl, fun Wz hW => by obtain ⟨p0, p1, p2, r0, r1, r2⟩ := hW; go_simp⟩) hHeld ?_
          simp only [Act.put, List.getElem_toArray, List.getElem_cons_succ, List.getElem_cons_zero, List.setIfInBounds_toArray, List.set_cons_zero, List.set_cons_succ]
          refine wpAnyH_take (i := 10) (v := .pointer (some ⟨gb, go, none⟩)) rfl (by kernel_rfl) (by kernel_rfl) (by kernel_rfl) (fun _ _ _ h => h) (Or.inl ⟨by rfl, fun Wz hW => by obtain ⟨p0, p1, p2, r0, r1, r2⟩ := hW; go_simp⟩) hHeld ?_
          simp only [Act.put, List.getElem_toArray, List.getElem_cons_succ, List.getElem_cons_zero, List.setIfInBounds_toArray, List.set_cons_zero, List.set_cons_succ]
          refine wpAnyH_take (i := 11) (v := .agg #[.int .i64 y.k, .int .i64 y.p, .bool y.f]) rfl (by kernel_rfl) (by kernel_rfl) (by kernel_rfl) (fun _ _ _ h => h) (Or.inl ⟨by rfl, fun Wz hW => by obtain ⟨p0, p1, p2, r0, r1, r2⟩ := hW; go_simp⟩) hHeld ?_
          simp only [Act.put, List.getElem_toArray, List.getElem_cons_succ, List.getElem_cons_zero, List.setIfInBounds_toArray, List.set_cons_zero, List.set_cons_succ]
          refine wpAnyH_take (i := 12) (v := .bool false) rfl (by kernel_rfl) (by kernel_rfl) (by kernel_rfl) (fun _ _ _ h => h) (Or.inl ⟨by rfl, fun Wz hW => by obtain ⟨p0, p1, p2, r0, r1, r2⟩ := hW; go_simp⟩) hHeld ?_
          simp only [Act.put, List.getElem_toArray, List.getElem_cons_succ, List.getElem_cons_zero, List.setIfInBounds_toArray, List.set_cons_zero, List.set_cons_succ]
          refine wpAnyH_take (i := 13) (v := .bool false) rfl (by kernel_rfl) (by kernel_rfl) (by kernel_rfl) (fun _ _ _ h => h) (Or.inl ⟨by rfl, fun Wz hW => by obtain ⟨p0, p1, p2, r0, r1, r2⟩ := hW; go_simp⟩) hHeld ?_
          simp only [Act.put, List.getElem_toArray, List.getElem_cons_succ, List.getElem_cons_zero, List.setIfInBounds_toArray, List.set_cons_zero, List.set_cons_succ]
          refine wpAnyH_take (i := 14) (v := .bool false) rfl (by kernel_rfl) (by kernel_rfl) (by kernel_rfl) (fun _ _ _ h => h) (Or.inl ⟨by rfl, fun Wz hW => by obtain ⟨p0, p1, p2, r0, r1, r2⟩ := hW; go_simp⟩) hHeld ?_
          simp only [Act.put, List.getElem_toArray, List.getElem_cons_succ, List.getElem_cons_zero, List.setIfInBounds_toArray, List.set_cons_zero, List.set_cons_succ]
          refine wpAnyH_take (i := 15) (v := .bool false) rfl (by kernel_rfl) (by kernel_rfl) (by kernel_rfl) (fun _ _ _ h => h) (Or.inl ⟨by rfl, fun Wz hW => by obtain ⟨p0, p1, p2, r0, r1, r2⟩ := hW; go_simp⟩) hHeld ?_
          simp only [Act.put, List.getElem_toArray, List.getElem_cons_succ, List.getElem_cons_zero, List.setIfInBounds_toArray, List.set_cons_zero, List.set_cons_succ]
          refine wpAnyH_take (i := 16) (v := .bool true) rfl (by kernel_rfl) (by kernel_rfl) (by kernel_rfl) (fun _ _ _ h => h) (Or.inl ⟨by rfl, fun Wz hW => by obtain ⟨p0, p1, p2, r0, r1, r2⟩ := hW; go_simp⟩) hHeld ?_
          simp only [Act.put, List.getElem_toArray, List.getElem_cons_succ, List.getElem_cons_zero, List.setIfInBounds_toArray, List.set_cons_zero, List.set_cons_succ]
          refine wpAnyH_take (i := 17) (v := .bool false) rfl (by kernel_rfl) (by kernel_rfl) (by kernel_rfl) (fun _ _ _ h => h) (Or.inl ⟨by rfl, fun Wz hW => by obtain ⟨p0, p1, p2, r0, r1, r2⟩ := hW; go_simp⟩) hHeld ?_
          simp only [Act.put, List.getElem_toArray, List.getElem_cons_succ, List.getElem_cons_zero, List.setIfInBounds_toArray, List.set_cons_zero, List.set_cons_succ]
          refine wpAnyH_take (i := 18) (v := .bool false) rfl (by kernel_rfl) (by kernel_rfl) (by kernel_rfl) (fun _ _ _ h => h) (Or.inl ⟨by rfl, fun Wz hW => by obtain ⟨p0, p1, p2, r0, r1, r2⟩ := hW; go_simp⟩) hHeld ?_
          simp only [Act.put, List.getElem_toArray, List.getElem_cons_succ, List.getElem_cons_zero, List.setIfInBounds_toArray, List.set_cons_zero, List.set_cons_succ]
          refine wpAnyH_take (i := 19) (v := undef) rfl (by kernel_rfl) (by kernel_rfl) (by kernel_rfl) (fun _ _ _ h => h) (Or.inr ⟨by rfl, rfl⟩) hHeld ?_
          simp only [Act.put, List.getElem_toArray, List.getElem_cons_succ, List.getElem_cons_zero, List.setIfInBounds_toArray, List.set_cons_zero, List.set_cons_succ]
          refine wpAnyH_take (i := 20) (v := undef) rfl (by kernel_rfl) (by kernel_rfl) (by kernel_rfl) (fun _ _ _ h => h) (Or.inr ⟨by rfl, rfl⟩) hHeld ?_
          simp only [Act.put, List.getElem_toArray, List.getElem_cons_succ, List.getElem_cons_zero, List.setIfInBounds_toArray, List.set_cons_zero, List.set_cons_succ]
          refine wpAnyH_take (i := 21) (v := undef) rfl (by kernel_rfl) (by kernel_rfl) (by kernel_rfl) (fun _ _ _ h => h) (Or.inr ⟨by rfl, rfl⟩) hHeld ?_
          simp only [Act.put, List.getElem_toArray, List.getElem_cons_succ, List.getElem_cons_zero, List.setIfInBounds_toArray, List.set_cons_zero, List.set_cons_succ]
          refine wpAnyH_take (i := 22) (v := .bool false) rfl (by kernel_rfl) (by kernel_rfl) (by kernel_rfl) (fun _ _ _ h => h) (Or.inl ⟨by rfl, fun Wz hW => by obtain ⟨p0, p1, p2, r0, r1, r2⟩ := hW; go_simp⟩) hHeld ?_
          simp only [Act.put, List.getElem_toArray, List.getElem_cons_succ, List.getElem_cons_zero, List.setIfInBounds_toArray, List.set_cons_zero, List.set_cons_succ]
          refine wpAnyH_take (i := 23) (v := .bool false) rfl (by kernel_rfl) (by kernel_rfl) (by kernel_rfl) (fun _ _ _ h => h) (Or.inl ⟨by rfl, fun Wz hW => by obtain ⟨p0, p1, p2, r0, r1, r2⟩ := hW; go_simp⟩) hHeld ?_
          simp only [Act.put, List.getElem_toArray, List.getElem_cons_succ, List.getElem_cons_zero, List.setIfInBounds_toArray, List.set_cons_zero, List.set_cons_succ]
          refine wpAnyH_done (by kernel_rfl) ?_ _
          have KF : Hid (Keep w w10.drew) := (K4.out.trans K10.out).drew
          have TF : Hid (SI w10.drew S q p m M) := T4.out.keep K10.out.drew
          have RF : Hid (RL w10.drew (some ⟨gb, g0, none⟩) d3 M) := R4.out.keep K10.out.drew
          go_wp2
          go_roundg (n - (i + 1))
          case measure => omega
          case rel => exact ⟨i + 1, M, some ⟨gb, g0, none⟩, d3, 0, hlt, rfl, by go_num, rfl, by rw [← hl0.out], by rw [← hl0.out]; omega, KF, TF, RF⟩
      · have hwr : Hid (∀ W, Keep w4 W → Calls Tryd.prog 12 #[fltC cc, .int .i64 cc, .int .i64 0] W fun e w' => e = .returned (.bool true) ∧ Keep W w') := fun W k => by
          have := wrong_yes cc 0 W (g4.out.keep k)
          unfold fltC
          rw [if_neg h0]
          exact this
        obtain ⟨cv, hcv⟩ : ∃ cv, fltC cc = .iface 79 cv := ⟨_, by unfold fltC; rw [if_neg h0]; rfl⟩
        rw [hcv] at hwr ⊢
        replace hcv := Lib.hid hcv
        go_wp2_with fail
        refine (hwr.out w4 (Keep.refl _)).mono ?_
        rintro e w5 ⟨rfl, k5⟩
        have K5 : Hid (Keep w4 w5) := k5
        replace k5 := Lib.hid k5
        go_wp2_with fail
        refine (cA.out _ K5.out).mono ?_
        rintro e w6 ⟨B6, d6, rfl, k6, R6⟩
        have K6 : Hid (Keep w4 w6) := K5.out.trans k6
        have cS := Lib.hid (rsame_fn B6 B3 l0 d6 d3 (row M) w6 R6 (rM.out w6 K6.out))
        replace k6 := Lib.hid k6
        replace R6 := Lib.hid R6
        go_wp2_with fail
        refine cS.out.mono ?_
        rintro e w7 ⟨rfl, D7⟩
        have K7 : Hid (Keep w4 w7) := K6.out.trans D7.keep
        replace D7 := Lib.hid D7
        have X7 := X4.out.keep K7.out
        have x0 := X7.e0
        clear X7 cS
        go_wp2_with fail
        refine (cG.out _ K7.out).mono ?_
        rintro e w9 ⟨rfl, k9⟩
        have K9 : Hid (Keep w4 w9) := K7.out.trans k9
        replace k9 := Lib.hid k9
        clear x0
        rcases find_row M x.k with ⟨h1, h2⟩ | ⟨j, h1, h2, h3, h4⟩
        · have cG0 := Lib.hid cG
          have e1 : decide (x.k ∈ keys M) = false := decide_eq_false h2
          have e2 : getL M x.k = zp := get_none h2
          rw [← hl0.out] at h1
          rw [e1, e2]
          unfold zp ClV.val
          obtain ⟨w10, hw10⟩ : ∃ W, W = w9.alloc (.cells #[.int .i64 0, .int .i64 0, .bool false] 30) := ⟨_, rfl⟩
          have B10 : Hid (w10.heap[w9.heap.size]? = some (.cells #[.int .i64 0, .int .i64 0, .bool false] 30 (0, 0))) := by rw [hw10]; exact heap_alloc_new _ _
          have K10 : Hid (Keep w4 w10) := by rw [hw10]; exact K9.out.alloc _
          have X10 := X4.out.keep K9.out
          have x0 := X10.e0
          have hbl := cell_lt x0
          clear X10
          have cN1 := cN.out w10 K10.out
          rw [h1] at cN1
          replace cN1 := Lib.hid cN1
          replace h1 := Lib.hid h1
          replace h2 := Lib.hid h2
          replace e1 := Lib.hid e1
          replace e2 := Lib.hid e2
          go_wp2_with fail
          rw [← hw10]
          replace hw10 := Lib.hid hw10
          refine cN1.out.mono ?_
          rintro e w11 ⟨rfl, rfl⟩
          obtain ⟨v0, v1, v2⟩ := cel_block (x := zp) B10.out
          unfold zp at v0 v1 v2
          clear x0 hbl
          go_wp2_with fail
          have HELD : ∀ Wz, Keep w10 Wz → (Wz.cell? ⟨w9.heap.size, 0, none⟩ = some (.int .i64 0) ∧ Wz.cell? ⟨w9.heap.size, 1, none⟩ = some (.int .i64 0) ∧ Wz.cell? ⟨w9.heap.size, 2, none⟩ = some (.bool false)) := fun Wz KK => ⟨KK.cell v0, KK.cell v1, KK.cell v2⟩
          refine wp_region_held_drew (S := fun w' => w'.cell? ⟨w9.heap.size, 0, none⟩ = some (.int .i64 0) ∧ w'.cell? ⟨w9.heap.size, 1, none⟩ = some (.int .i64 0) ∧ w'.cell? ⟨w9.heap.size, 2, none⟩ = some (.bool false)) (by kernel_rfl) ?_ (fun hHeld => ?_)
          · exact HELD _ (by repeat (with_reducible first | exact Keep.refl w10 | apply Keep.alloc | apply Keep.drew | apply Keep.drewN))
          refine wpAnyH_take (i := 0) (v := .bool false) rfl (by kernel_rfl) (by kernel_rfl) (by kernel_rfl) (fun _ _ _ h => h) (Or.inl ⟨by rfl, fun Wz hW => by obtain ⟨p0, p1, p2⟩ := hW; go_simp⟩) hHeld ?_
          simp only [Act.put, List.getElem_toArray, List.getElem_cons_zero, List.setIfInBounds_toArray, List.set_cons_zero, List.set_cons_succ]
          refine wpAnyH_take (i := 1) (v := .int .i64 (-1)) rfl (by kernel_rfl) (by kernel_rfl) (by kernel_rfl) (fun _ _ _ h => h) (Or.inl ⟨by rfl, fun Wz hW => by obtain ⟨p0, p1, p2⟩ := hW; go_simp⟩) hHeld ?_
          simp only [Act.put, List.getElem_toArray, List.getElem_cons_succ, List.getElem_cons_zero, List.setIfInBounds_toArray, List.set_cons_zero, List.set_cons_succ]
          refine wpAnyH_take (i := 2) (v := .bool false) rfl (by kernel_rfl) (by kernel_rfl) (by kernel_rfl) (fun _ _ _ h => h) (Or.inl ⟨by rfl, fun Wz hW => by obtain ⟨p0, p1, p2⟩ := hW; go_simp⟩) hHeld ?_
          simp only [Act.put, List.getElem_toArray, List.getElem_cons_succ, List.getElem_cons_zero, List.setIfInBounds_toArray, List.set_cons_zero, List.set_cons_succ]
          refine wpAnyH_take (i := 3) (v := .bool false) rfl (by kernel_rfl) (by kernel_rfl) (by kernel_rfl) (fun _ _ _ h => h) (Or.inl ⟨by rfl, fun Wz hW => by obtain ⟨p0, p1, p2⟩ := hW; go_simp⟩) hHeld ?_
          simp only [Act.put, List.getElem_toArray, List.getElem_cons_succ, List.getElem_cons_zero, List.setIfInBounds_toArray, List.set_cons_zero, List.set_cons_succ]
          refine wpAnyH_take (i := 4) (v := .bool false) rfl (by kernel_rfl) (by kernel_rfl) (by kernel_rfl) (fun _ _ _ h => h) (Or.inl ⟨by rfl, fun Wz hW => by obtain ⟨p0, p1, p2⟩ := hW; go_simp⟩) hHeld ?_
          simp only [Act.put, List.getElem_toArray, List.getElem_cons_succ, List.getElem_cons_zero, List.setIfInBounds_toArray, List.set_cons_zero, List.set_cons_succ]
          refine wpAnyH_take (i := 5) (v := .bool false) rfl (by kernel_rfl) (by kernel_rfl) (by kernel_rfl) (fun _ _ _ h => h) (Or.inl ⟨by rfl, fun Wz hW => by obtain ⟨p0, p1, p2⟩ := hW; go_simp⟩) hHeld ?_
          simp only [Act.put, List.getElem_toArray, List.getElem_cons_succ, List.getElem_cons_zero, List.setIfInBounds_toArray, List.set_cons_zero, List.set_cons_succ]
          refine wpAnyH_take (i := 6) (v := .bool false) rfl (by kernel_rfl) (by kernel_rfl) (by kernel_rfl) (fun _ _ _ h => h) (Or.inl ⟨by rfl, fun Wz hW => by obtain ⟨p0, p1, p2⟩ := hW; go_simp⟩) hHeld ?_
          simp only [Act.put, List.getElem_toArray, List.getElem_cons_succ, List.getElem_cons_zero, List.setIfInBounds_toArray, List.set_cons_zero, List.set_cons_succ]
          refine wpAnyH_take (i := 7) (v := undef) rfl (by kernel_rfl) (by kernel_rfl) (by kernel_rfl) (fun _ _ _ h => h) (Or.inr ⟨by rfl, rfl⟩) hHeld ?_
          simp only [Act.put, List.getElem_toArray, List.getElem_cons_succ, List.getElem_cons_zero, List.setIfInBounds_toArray, List.set_cons_zero, List.set_cons_succ]
          refine wpAnyH_take (i := 8) (v := undef) rfl (by kernel_rfl) (by kernel_rfl) (by kernel_rfl) (fun _ _ _ h => h) (Or.inr ⟨by rfl, rfl⟩) hHeld ?_
          simp only [Act.put, List.getElem_toArray, List.getElem_cons_succ, List.getElem_cons_zero, List.setIfInBounds_toArray, List.set_cons_zero, List.set_cons_succ]
          refine wpAnyH_take (i := 9) (v := undef) rfl (by kernel_rfl) (by kernel_rfl) (by kernel_rfl) (fun _ _ _ h => h) (Or.inr ⟨by rfl, rfl⟩) hHeld ?_
          simp only [Act.put, List.getElem_toArray, List.getElem_cons_succ, List.getElem_cons_zero, List.setIfInBounds_toArray, List.set_cons_zero, List.set_cons_succ]
          refine wpAnyH_take (i := 10) (v := undef) rfl (by kernel_rfl) (by kernel_rfl) (by kernel_rfl) (fun _ _ _ h => h) (Or.inr ⟨by rfl, rfl⟩) hHeld ?_
          simp only [Act.put, List.getElem_toArray, List.getElem_cons_succ, List.getElem_cons_zero, List.setIfInBounds_toArray, List.set_cons_zero, List.set_cons_succ]
          refine wpAnyH_take (i := 11) (v := undef) rfl (by kernel_rfl) (by kernel_rfl) (by kernel_rfl) (fun _ _ _ h => h) (Or.inr ⟨by rfl, rfl⟩) hHeld ?_
          simp only [Act.put, List.getElem_toArray, List.getElem_cons_succ, List.getElem_cons_zero, List.setIfInBounds_toArray, List.set_cons_zero, List.set_cons_succ]
          refine wpAnyH_take (i := 12) (v := undef) rfl (by kernel_rfl) (by kernel_rfl) (by kernel_rfl) (fun _ _ _ h => h) (Or.inr ⟨by rfl, rfl⟩) hHeld ?_
          simp only [Act.put, List.getElem_toArray, List.getElem_cons_succ, List.getElem_cons_zero, List.setIfInBounds_toArray, List.set_cons_zero, List.set_cons_succ]
          refine wpAnyH_take (i := 13) (v := .bool false) rfl (by kernel_rfl) (by kernel_rfl) (by kernel_rfl) (fun _ _ _ h => h) (Or.inl ⟨by rfl, fun Wz hW => by obtain ⟨p0, p1, p2⟩ := hW; go_simp⟩) hHeld ?_
          simp only [Act.put, List.getElem_toArray, List.getElem_cons_succ, List.getElem_cons_zero, List.setIfInBounds_toArray, List.set_cons_zero, List.set_cons_succ]
          refine wpAnyH_take (i := 14) (v := .bool false) rfl (by kernel_rfl) (by kernel_rfl) (by kernel_rfl) (fun _ _ _ h => h) (Or.inl ⟨by rfl, fun Wz hW => by obtain ⟨p0, p1, p2⟩ := hW; go_simp⟩) hHeld ?_
          simp only [Act.put, List.getElem_toArray, List.getElem_cons_succ, List.getElem_cons_zero, List.setIfInBounds_toArray, List.set_cons_zero, List.set_cons_succ]
          refine wpAnyH_take (i := 15) (v := .bool false) rfl (by kernel_rfl) (by kernel_rfl) (by kernel_rfl) (fun _ _ _ h => h) (Or.inl ⟨by rfl, fun Wz hW => by obtain ⟨p0, p1, p2⟩ := hW; go_simp⟩) hHeld ?_
          simp only [Act.put, List.getElem_toArray, List.getElem_cons_succ, List.getElem_cons_zero, List.setIfInBounds_toArray, List.set_cons_zero, List.set_cons_succ]
          refine wpAnyH_take (i := 16) (v := .bool false) rfl (by kernel_rfl) (by kernel_rfl) (by kernel_rfl) (fun _ _ _ h => h) (Or.inl ⟨by rfl, fun Wz hW => by obtain ⟨p0, p1, p2⟩ := hW; go_simp⟩) hHeld ?_
          simp only [Act.put, List.getElem_toArray, List.getElem_cons_succ, List.getElem_cons_zero, List.setIfInBounds_toArray, List.set_cons_zero, List.set_cons_succ]
          refine wpAnyH_take (i := 17) (v := .bool true) rfl (by kernel_rfl) (by kernel_rfl) (by kernel_rfl) (fun _ _ _ h => h) (Or.inl ⟨by rfl, fun Wz hW => by obtain ⟨p0, p1, p2⟩ := hW; go_simp⟩) hHeld ?_
          simp only [Act.put, List.getElem_toArray, List.getElem_cons_succ, List.getElem_cons_zero, List.setIfInBounds_toArray, List.set_cons_zero, List.set_cons_succ]
          refine wpAnyH_take (i := 18) (v := .bool true) rfl (by kernel_rfl) (by kernel_rfl) (by kernel_rfl) (fun _ _ _ h => h) (Or.inl ⟨by rfl, fun Wz hW => by obtain ⟨p0, p1, p2⟩ := hW; go_simp⟩) hHeld ?_
          simp only [Act.put, List.getElem_toArray, List.getElem_cons_succ, List.getElem_cons_zero, List.setIfInBounds_toArray, List.set_cons_zero, List.set_cons_succ]
          refine wpAnyH_take (i := 19) (v := .agg #[.int .i64 0, .int .i64 0, .bool false]) rfl (by kernel_rfl) (by kernel_rfl) (by kernel_rfl) (fun _ _ _ h => h) (Or.inl ⟨by rfl, fun Wz hW => by obtain ⟨p0, p1, p2⟩ := hW; go_simp⟩) hHeld ?_
          simp only [Act.put, List.getElem_toArray, List.getElem_cons_succ, List.getElem_cons_zero, List.setIfInBounds_toArray, List.set_cons_zero, List.set_cons_succ]
          refine wpAnyH_take (i := 20) (v := .agg #[.int .i64 0, .int .i64 0, .bool false]) rfl (by kernel_rfl) (by kernel_rfl) (by kernel_rfl) (fun _ _ _ h => h) (Or.inl ⟨by rfl, fun Wz hW => by obtain ⟨p0, p1, p2⟩ := hW; go_simp⟩) hHeld ?_
          simp only [Act.put, List.getElem_toArray, List.getElem_cons_succ, List.getElem_cons_zero, List.setIfInBounds_toArray, List.set_cons_zero, List.set_cons_succ]
          refine wpAnyH_take (i := 21) (v := .bool false) rfl (by kernel_rfl) (by kernel_rfl) (by kernel_rfl) (fun _ _ _ h => h) (Or.inl ⟨by rfl, fun Wz hW => by obtain ⟨p0, p1, p2⟩ := hW; go_simp⟩) hHeld ?_
          simp only [Act.put, List.getElem_toArray, List.getElem_cons_succ, List.getElem_cons_zero, List.setIfInBounds_toArray, List.set_cons_zero, List.set_cons_succ]
          refine wpAnyH_take (i := 22) (v := .bool false) rfl (by kernel_rfl) (by kernel_rfl) (by kernel_rfl) (fun _ _ _ h => h) (Or.inl ⟨by rfl, fun Wz hW => by obtain ⟨p0, p1, p2⟩ := hW; go_simp⟩) hHeld ?_
          simp only [Act.put, List.getElem_toArray, List.getElem_cons_succ, List.getElem_cons_zero, List.setIfInBounds_toArray, List.set_cons_zero, List.set_cons_succ]
          refine wpAnyH_take (i := 23) (v := .bool false) rfl (by kernel_rfl) (by kernel_rfl) (by kernel_rfl) (fun _ _ _ h => h) (Or.inl ⟨by rfl, fun Wz hW => by obtain ⟨p0, p1, p2⟩ := hW; go_simp⟩) hHeld ?_
          simp only [Act.put, List.getElem_toArray, List.getElem_cons_succ, List.getElem_cons_zero, List.setIfInBounds_toArray, List.set_cons_zero, List.set_cons_succ]
          refine wpAnyH_done (by kernel_rfl) ?_ _
          have KF : Hid (Keep w w10.drew) := (K4.out.trans K10.out).drew
          have TF : Hid (SI w10.drew S q p m M) := T4.out.keep K10.out.drew
          have RF : Hid (RL w10.drew B3 d3 M) := R4.out.keep K10.out.drew
          go_wp2
          go_roundg (n - (i + 1))
          case measure => omega
          case rel => exact ⟨i + 1, M, B3, d3, cc, hlt, rfl, by go_num, rfl, by rw [← hl0.out], by rw [← hl0.out]; omega, KF, TF, RF⟩
        · have e1 : decide (x.k ∈ keys M) = true := decide_eq_true h3
          obtain ⟨y, hy⟩ : ∃ y, y = row M j := ⟨_, rfl⟩
          rw [← hl0.out] at h1 h2
          rw [e1, h4, ← hy]
          unfold ClV.val
          obtain ⟨w10, hw10⟩ : ∃ W, W = w9.alloc (.cells #[.int .i64 y.k, .int .i64 y.p, .bool y.f] 30) := ⟨_, rfl⟩
          have B10 : Hid (w10.heap[w9.heap.size]? = some (.cells #[.int .i64 y.k, .int .i64 y.p, .bool y.f] 30 (0, 0))) := by rw [hw10]; exact heap_alloc_new _ _
          have K10 : Hid (Keep w4 w10) := by rw [hw10]; exact K9.out.alloc _
          have X10 := X4.out.keep K9.out
          have x0 := X10.e0
          have hbl := cell_lt x0
          clear X10
          have cN1 := cN.out w10 K10.out
          rw [h2] at cN1
          replace cN1 := Lib.hid cN1
          obtain ⟨gb, g0, hB3, cb⟩ := (rM.out w10 K10.out).adr (by omega)
          subst hB3
          have q2 := atC gb g0 l0 d3 j h1
          obtain ⟨go, hgo⟩ : ∃ go, go = g0 + j * 3 := ⟨_, rfl⟩
          have Y := cb j h1
          rw [← hy, ← hgo] at Y
          rw [← hgo] at q2
          clear cb
          replace hgo := Lib.hid hgo
          replace hy := Lib.hid hy
          replace h2 := Lib.hid h2
          replace h3 := Lib.hid h3
          replace h4 := Lib.hid h4
          replace e1 := Lib.hid e1
          go_wp2_with fail
          rw [← hw10]
          replace hw10 := Lib.hid hw10
          refine cN1.out.mono ?_
          rintro e w11 ⟨rfl, rfl⟩
          obtain ⟨v0, v1, v2⟩ := cel_block (x := y) B10.out
          have y0 := Y.e0; have y1 := Y.e1; have y2 := Y.e2
          clear x0 Y hbl
          go_wp2_with fail
          have HELD : ∀ Wz, Keep w10 Wz → (Wz.cell? ⟨w9.heap.size, 0, none⟩ = some (.int .i64 y.k) ∧ Wz.cell? ⟨w9.heap.size, 1, none⟩ = some (.int .i64 y.p) ∧ Wz.cell? ⟨w9.heap.size, 2, none⟩ = some (.bool y.f) ∧ Wz.cell? ⟨gb, go, none⟩ = some (.int .i64 y.k) ∧ Wz.cell? ⟨gb, go + 1, none⟩ = some (.int .i64 y.p) ∧ Wz.cell? ⟨gb, go + 2, none⟩ = some (.bool y.f)) := fun Wz KK => ⟨KK.cell v0, KK.cell v1, KK.cell v2, KK.cell y0, KK.cell y1, KK.cell y2⟩
          refine wp_region_held_drew (S := fun w' => w'.cell? ⟨w9.heap.size, 0, none⟩ = some (.int .i64 y.k) ∧ w'.cell? ⟨w9.heap.size, 1, none⟩ = some (.int .i64 y.p) ∧ w'.cell? ⟨w9.heap.size, 2, none⟩ = some (.bool y.f) ∧ w'.cell? ⟨gb, go, none⟩ = some (.int .i64 y.k) ∧ w'.cell? ⟨gb, go + 1, none⟩ = some (.int .i64 y.p) ∧ w'.cell? ⟨gb, go + 2, none⟩ = some (.bool y.f)) (by kernel_rfl) ?_ (fun hHeld => ?_)
          · exact HELD _ (by repeat (with_reducible first | exact Keep.refl w10 | apply Keep.alloc | apply Keep.drew | apply Keep.drewN))
          refine wpAnyH_take (i := 0) (v := .bool true) rfl (by kernel_rfl) (by kernel_rfl) (by kernel_rfl) (fun _ _ _ h => h) (Or.inl ⟨by rfl, fun Wz hW => by obtain ⟨p0, p1, p2, r0, r1, r2⟩ := hW; go_simp⟩) hHeld ?_
          simp only [Act.put, List.getElem_toArray, List.getElem_cons_zero, List.setIfInBounds_toArray, List.set_cons_zero, List.set_cons_succ]
          refine wpAnyH_take (i := 1) (v := .int .i64 j) rfl (by kernel_rfl) (by kernel_rfl) (by kernel_rfl) (fun _ _ _ h => h) (Or.inl ⟨by rfl, fun Wz hW => by obtain ⟨p0, p1, p2, r0, r1, r2⟩ := hW; go_simp⟩) hHeld ?_
          simp only [Act.put, List.getElem_toArray, List.getElem_cons_succ, List.getElem_cons_zero, List.setIfInBounds_toArray, List.set_cons_zero, List.set_cons_succ]
          refine wpAnyH_take (i := 2) (v := .bool true) rfl (by kernel_rfl) (by kernel_rfl) (by kernel_rfl) (fun _ _ _ h => h) (Or.inl ⟨by rfl, fun Wz hW => by obtain ⟨p0, p1, p2, r0, r1, r2⟩ := hW; go_simp⟩) hHeld ?_
          simp only [Act.put, List.getElem_toArray, List.getElem_cons_succ, List.getElem_cons_zero, List.setIfInBounds_toArray, List.set_cons_zero, List.set_cons_succ]
          refine wpAnyH_take (i := 3) (v := .bool false) rfl (by kernel_rfl) (by kernel_rfl) (by kernel_rfl) (fun _ _ _ h => h) (Or.inl ⟨by rfl, fun Wz hW => by obtain ⟨p0, p1, p2, r0, r1, r2⟩ := hW; go_simp⟩) hHeld ?_
          simp only [Act.put, List.getElem_toArray, List.getElem_cons_succ, List.getElem_cons_zero, List.setIfInBounds_toArray, List.set_cons_zero, List.set_cons_succ]
          refine wpAnyH_take (i := 4) (v := .bool false) rfl (by kernel_rfl) (by kernel_rfl) (by kernel_rfl) (fun _ _ _ h => h) (Or.inl ⟨by rfl, fun Wz hW => by obtain ⟨p0, p1, p2, r0, r1, r2⟩ := hW; go_simp⟩) hHeld ?_
          simp only [Act.put, List.getElem_toArray, List.getElem_cons_succ, List.getElem_cons_zero, List.setIfInBounds_toArray, List.set_cons_zero, List.set_cons_succ]
          refine wpAnyH_take (i := 5) (v := .bool true) rfl (by kernel_rfl) (by kernel_rfl) (by kernel_rfl) (fun _ _ _ h => h) (Or.inl ⟨by rfl, fun Wz hW => by obtain ⟨p0, p1, p2, r0, r1, r2⟩ := hW; go_simp⟩) hHeld ?_
          simp only [Act.put, List.getElem_toArray, List.getElem_cons_succ, List.getElem_cons_zero, List.setIfInBounds_toArray, List.set_cons_zero, List.set_cons_succ]
          refine wpAnyH_take (i := 6) (v := .bool true) rfl (by kernel_rfl) (by kernel_rfl) (by kernel_rfl) (fun _ _ _ h => h) (Or.inl ⟨by rfl, fun Wz hW => by obtain ⟨p0, p1, p2, r0, r1, r2⟩ := hW; go_simp⟩) hHeld ?_
          simp only [Act.put, List.getElem_toArray, List.getElem_cons_succ, List.getElem_cons_zero, List.setIfInBounds_toArray, List.set_cons_zero, List.set_cons_succ]
          refine wpAnyH_take (i := 7) (v := .agg #[.int .i64 y.k, .int .i64 y.p, .bool y.f]) rfl (by kernel_rfl) (by kernel_rfl) (by kernel_rfl) (fun _ _ _ h => h) (Or.inl ⟨by rfl, fun Wz hW => by obtain ⟨p0, p1, p2, r0, r1, r2⟩ := hW; go_simp⟩) hHeld ?_
          simp only [Act.put, List.getElem_toArray, List.getElem_cons_succ, List.getElem_cons_zero, List.setIfInBounds_toArray, List.set_cons_zero, List.set_cons_succ]
          refine wpAnyH_take (i := 8) (v := .slice (some ⟨gb, g0, none⟩) l0 d3) rfl (by kernel_rfl) (by kernel_rfl) (by kernel_rfl) (fun _ _ _ h => h) (Or.inl ⟨by rfl, fun Wz hW => by obtain ⟨p0, p1, p2, r0, r1, r2⟩ := hW; go_simp⟩) hHeld ?_
          simp only [Act.put, List.getElem_toArray, List.getElem_cons_succ, List.getElem_cons_zero, List.setIfInBounds_toArray, List.set_cons_zero, List.set_cons_succ]
          refine wpAnyH_take (i := 9) (v := .int .i64 j) rfl (by kernel_rfl) (by kernel_rfl) (by kernel_rfl) (fun _ _ _ h => h) (Or.inl ⟨by rfl, fun Wz hW => by obtain ⟨p0, p1, p2, r0, r1, r2⟩ := hW; go_simp⟩) hHeld ?_
          simp only [Act.put, List.getElem_toArray, List.getElem_cons_succ, List.getElem_cons_zero, List.setIfInBounds_toArray, List.set_cons_zero, List.set_cons_succ]
          refine wpAnyH_take (i := 10) (v := .pointer (some ⟨gb, go, none⟩)) rfl (by kernel_rfl) (by kernel_rfl) (by kernel_rfl) (fun _ _ _ h => h) (Or.inl ⟨by rfl, fun Wz hW => by obtain ⟨p0, p1, p2, r0, r1, r2⟩ := hW; go_simp⟩) hHeld ?_
          simp only [Act.put, List.getElem_toArray, List.getElem_cons_succ, List.getElem_cons_zero, List.setIfInBounds_toArray, List.set_cons_zero, List.set_cons_succ]
          refine wpAnyH_take (i := 11) (v := .agg #[.int .i64 y.k, .int .i64 y.p, .bool y.f]) rfl (by kernel_rfl) (by kernel_rfl) (by kernel_rfl) (fun _ _ _ h => h) (Or.inl ⟨by rfl, fun Wz hW => by obtain ⟨p0, p1, p2, r0, r1, r2⟩ := hW; go_simp⟩) hHeld ?_
          simp only [Act.put, List.getElem_toArray, List.getElem_cons_succ, List.getElem_cons_zero, List.setIfInBounds_toArray, List.set_cons_zero, List.set_cons_succ]
          refine wpAnyH_take (i := 12) (v := .bool false) rfl (by kernel_rfl) (by kernel_rfl) (by kernel_rfl) (fun _ _ _ h => h) (Or.inl ⟨by rfl, fun Wz hW => by obtain ⟨p0, p1, p2, r0, r1, r2⟩ := hW; go_simp⟩) hHeld ?_
          simp only [Act.put, List.getElem_toArray, List.getElem_cons_succ, List.getElem_cons_zero, List.setIfInBounds_toArray, List.set_cons_zero, List.set_cons_succ]
          refine wpAnyH_take (i := 13) (v := .bool false) rfl (by kernel_rfl) (by kernel_rfl) (by kernel_rfl) (fun _ _ _ h => h) (Or.inl ⟨by rfl, fun Wz hW => by obtain ⟨p0, p1, p2, r0, r1, r2⟩ := hW; go_simp⟩) hHeld ?_
          simp only [Act.put, List.getElem_toArray, List.getElem_cons_succ, List.getElem_cons_zero, List.setIfInBounds_toArray, List.set_cons_zero, List.set_cons_succ]
          refine wpAnyH_take (i := 14) (v := .bool false) rfl (by kernel_rfl) (by kernel_rfl) (by kernel_rfl) (fun _ _ _ h => h) (Or.inl ⟨by rfl, fun Wz hW => by obtain ⟨p0, p1, p2, r0, r1, r2⟩ := hW; go_simp⟩) hHeld ?_
          simp only [Act.put, List.getElem_toArray, List.getElem_cons_succ, List.getElem_cons_zero, List.setIfInBounds_toArray, List.set_cons_zero, List.set_cons_succ]
          refine wpAnyH_take (i := 15) (v := .bool false) rfl (by kernel_rfl) (by kernel_rfl) (by kernel_rfl) (fun _ _ _ h => h) (Or.inl ⟨by rfl, fun Wz hW => by obtain ⟨p0, p1, p2, r0, r1, r2⟩ := hW; go_simp⟩) hHeld ?_
          simp only [Act.put, List.getElem_toArray, List.getElem_cons_succ, List.getElem_cons_zero, List.setIfInBounds_toArray, List.set_cons_zero, List.set_cons_succ]
          refine wpAnyH_take (i := 16) (v := .bool true) rfl (by kernel_rfl) (by kernel_rfl) (by kernel_rfl) (fun _ _ _ h => h) (Or.inl ⟨by rfl, fun Wz hW => by obtain ⟨p0, p1, p2, r0, r1, r2⟩ := hW; go_simp⟩) hHeld ?_
          simp only [Act.put, List.getElem_toArray, List.getElem_cons_succ, List.getElem_cons_zero, List.setIfInBounds_toArray, List.set_cons_zero, List.set_cons_succ]
          refine wpAnyH_take (i := 17) (v := .bool false) rfl (by kernel_rfl) (by kernel_rfl) (by kernel_rfl) (fun _ _ _ h => h) (Or.inl ⟨by rfl, fun Wz hW => by obtain ⟨p0, p1, p2, r0, r1, r2⟩ := hW; go_simp⟩) hHeld ?_
          simp only [Act.put, List.getElem_toArray, List.getElem_cons_succ, List.getElem_cons_zero, List.setIfInBounds_toArray, List.set_cons_zero, List.set_cons_succ]
          refine wpAnyH_take (i := 18) (v := .bool false) rfl (by kernel_rfl) (by kernel_rfl) (by kernel_rfl) (fun _ _ _ h => h) (Or.inl ⟨by rfl, fun Wz hW => by obtain ⟨p0, p1, p2, r0, r1, r2⟩ := hW; go_simp⟩) hHeld ?_
          simp only [Act.put, List.getElem_toArray, List.getElem_cons_succ, List.getElem_cons_zero, List.setIfInBounds_toArray, List.set_cons_zero, List.set_cons_succ]
          refine wpAnyH_take (i := 19) (v := undef) rfl (by kernel_rfl) (by kernel_rfl) (by kernel_rfl) (fun _ _ _ h => h) (Or.inr ⟨by rfl, rfl⟩) hHeld ?_
          simp only [Act.put, List.getElem_toArray, List.getElem_cons_succ, List.getElem_cons_zero, List.setIfInBounds_toArray, List.set_cons_zero, List.set_cons_succ]
          refine wpAnyH_take (i := 20) (v := undef) rfl (by kernel_rfl) (by kernel_rfl) (by kernel_rfl) (fun _ _ _ h => h) (Or.inr ⟨by rfl, rfl⟩) hHeld ?_
          simp only [Act.put, List.getElem_toArray, List.getElem_cons_succ, List.getElem_cons_zero, List.setIfInBounds_toArray, List.set_cons_zero, List.set_cons_succ]
          refine wpAnyH_take (i := 21) (v := undef) rfl (by kernel_rfl) (by kernel_rfl) (by kernel_rfl) (fun _ _ _ h => h) (Or.inr ⟨by rfl, rfl⟩) hHeld ?_
          simp only [Act.put, List.getElem_toArray, List.getElem_cons_succ, List.getElem_cons_zero, List.setIfInBounds_toArray, List.set_cons_zero, List.set_cons_succ]
          refine wpAnyH_take (i := 22) (v := .bool false) rfl (by kernel_rfl) (by kernel_rfl) (by kernel_rfl) (fun _ _ _ h => h) (Or.inl ⟨by rfl, fun Wz hW => by obtain ⟨p0, p1, p2, r0, r1, r2⟩ := hW; go_simp⟩) hHeld ?_
          simp only [Act.put, List.getElem_toArray, List.getElem_cons_succ, List.getElem_cons_zero, List.setIfInBounds_toArray, List.set_cons_zero, List.set_cons_succ]
          refine wpAnyH_take (i := 23) (v := .bool false) rfl (by kernel_rfl) (by kernel_rfl) (by kernel_rfl) (fun _ _ _ h => h) (Or.inl ⟨by rfl, fun Wz hW => by obtain ⟨p0, p1, p2, r0, r1, r2⟩ := hW; go_simp⟩) hHeld ?_
          simp only [Act.put, List.getElem_toArray, List.getElem_cons_succ, List.getElem_cons_zero, List.setIfInBounds_toArray, List.set_cons_zero, List.set_cons_succ]
          refine wpAnyH_done (by kernel_rfl) ?_ _
          have KF : Hid (Keep w w10.drew) := (K4.out.trans K10.out).drew
          have TF : Hid (SI w10.drew S q p m M) := T4.out.keep K10.out.drew
          have RF : Hid (RL w10.drew (some ⟨gb, g0, none⟩) d3 M) := R4.out.keep K10.out.drew
          go_wp2
          go_roundg (n - (i + 1))
          case measure => omega
          case rel => exact ⟨i + 1, M, some ⟨gb, g0, none⟩, d3, cc, hlt, rfl, by go_num, rfl, by rw [← hl0.out], by rw [← hl0.out]; omega, KF, TF, RF⟩
    · obtain ⟨wo, hwo⟩ : ∃ wo, wo = wr := ⟨_, rfl⟩
      rw [← hwo] at TR RR KR ⊢
      clear hwo
      have hin : ¬ (i : Int) < (n : Int) := by omega
      have hl100 : L.length ≤ 100 := by omega
      have cH := cshigh_fn TR.out (by omega)
      have cI : Hid (∀ W, Keep wo W → Calls Tryd.prog 18 #[.slice B L.length d] W fun e w' => e = .returned (.int .i64 (if L.length = 0 then -1 else (bst (row L) L.length : Int))) ∧ Drawn W w') := fun W k => rhigh_fn B L.length d (row L) W (RR.out.rd.keep k)
      have rM : Hid (∀ W, Keep wo W → RdC W B L.length (row L)) := fun W k => RR.out.rd.keep k
      have hhi : hiL L = if L.length = 0 then zp else row L (bst (row L) L.length) := rfl
      obtain ⟨l0, hl0⟩ : ∃ l0, l0 = L.length := ⟨_, rfl⟩
      rw [← hl0] at cH cI rM hhi hl100 hLi ⊢
      replace hl0 := Lib.hid hl0
      by_cases h0 : l0 = 0
      · rw [if_pos h0] at hhi cI
        rw [hhi, decide_eq_false (by omega)] at cH
        unfold zp ClV.val at cH
        replace cH := Lib.hid cH
        replace hhi := Lib.hid hhi
        replace h0 := Lib.hid h0
        go_wp2_with fail
        refine cH.out.mono ?_
        rintro e w5 ⟨rfl, k5⟩
        obtain ⟨w6, hw6⟩ : ∃ W, W = w5.alloc (.cells #[.int .i64 0, .int .i64 0, .bool false] 30) := ⟨_, rfl⟩
        have B6 : Hid (w6.heap[w5.heap.size]? = some (.cells #[.int .i64 0, .int .i64 0, .bool false] 30 (0, 0))) := by rw [hw6]; exact heap_alloc_new _ _
        have K6 : Hid (Keep wo w6) := by rw [hw6]; exact k5.alloc _
        replace k5 := Lib.hid k5
        go_wp2_with fail
        rw [← hw6]
        replace hw6 := Lib.hid hw6
        refine (cI.out _ K6.out).mono ?_
        rintro e w7 ⟨rfl, D7⟩
        have B7 := D7.keep.block B6.out
        have K7 : Hid (Keep wo w7) := K6.out.trans D7.keep
        replace D7 := Lib.hid D7
        obtain ⟨v0, v1, v2⟩ := cel_block (x := zp) B7
        unfold zp at v0 v1 v2
        replace B7 := Lib.hid B7
        go_wp2_with fail
        have HELD : ∀ Wz, Keep w7 Wz → (Wz.cell? ⟨w5.heap.size, 0, none⟩ = some (.int .i64 0) ∧ Wz.cell? ⟨w5.heap.size, 1, none⟩ = some (.int .i64 0) ∧ Wz.cell? ⟨w5.heap.size, 2, none⟩ = some (.bool false)) := fun Wz KK => ⟨KK.cell v0, KK.cell v1, KK.cell v2⟩
        refine wp_region_held_drew (S := fun w' => w'.cell? ⟨w5.heap.size, 0, none⟩ = some (.int .i64 0) ∧ w'.cell? ⟨w5.heap.size, 1, none⟩ = some (.int .i64 0) ∧ w'.cell? ⟨w5.heap.size, 2, none⟩ = some (.bool false)) (by kernel_rfl) ?_ (fun hHeld => ?_)
        · exact HELD _ (by repeat (with_reducible first | exact Keep.refl w7 | apply Keep.alloc | apply Keep.drew | apply Keep.drewN))
        refine wpAnyH_take (i := 0) (v := .bool false) rfl (by kernel_rfl) (by kernel_rfl) (by kernel_rfl) (fun _ _ _ h => h) (Or.inl ⟨by rfl, fun Wz hW => by obtain ⟨p0, p1, p2⟩ := hW; go_simp⟩) hHeld ?_
        simp only [Act.put, List.getElem_toArray, List.getElem_cons_zero, List.setIfInBounds_toArray, List.set_cons_zero, List.set_cons_succ]
        refine wpAnyH_take (i := 1) (v := .int .i64 (-1)) rfl (by kernel_rfl) (by kernel_rfl) (by kernel_rfl) (fun _ _ _ h => h) (Or.inl ⟨by rfl, fun Wz hW => by obtain ⟨p0, p1, p2⟩ := hW; go_simp⟩) hHeld ?_
        simp only [Act.put, List.getElem_toArray, List.getElem_cons_succ, List.getElem_cons_zero, List.setIfInBounds_toArray, List.set_cons_zero, List.set_cons_succ]
        refine wpAnyH_take (i := 2) (v := .bool false) rfl (by kernel_rfl) (by kernel_rfl) (by kernel_rfl) (fun _ _ _ h => h) (Or.inl ⟨by rfl, fun Wz hW => by obtain ⟨p0, p1, p2⟩ := hW; go_simp⟩) hHeld ?_
        simp only [Act.put, List.getElem_toArray, List.getElem_cons_succ, List.getElem_cons_zero, List.setIfInBounds_toArray, List.set_cons_zero, List.set_cons_succ]
        refine wpAnyH_take (i := 3) (v := .bool true) rfl (by kernel_rfl) (by kernel_rfl) (by kernel_rfl) (fun _ _ _ h => h) (Or.inl ⟨by rfl, fun Wz hW => by obtain ⟨p0, p1, p2⟩ := hW; go_simp⟩) hHeld ?_
        simp only [Act.put, List.getElem_toArray, List.getElem_cons_succ, List.getElem_cons_zero, List.setIfInBounds_toArray, List.set_cons_zero, List.set_cons_succ]
        refine wpAnyH_take (i := 4) (v := .bool true) rfl (by kernel_rfl) (by kernel_rfl) (by kernel_rfl) (fun _ _ _ h => h) (Or.inl ⟨by rfl, fun Wz hW => by obtain ⟨p0, p1, p2⟩ := hW; go_simp⟩) hHeld ?_
        simp only [Act.put, List.getElem_toArray, List.getElem_cons_succ, List.getElem_cons_zero, List.setIfInBounds_toArray, List.set_cons_zero, List.set_cons_succ]
        refine wpAnyH_take (i := 5) (v := .bool false) rfl (by kernel_rfl) (by kernel_rfl) (by kernel_rfl) (fun _ _ _ h => h) (Or.inl ⟨by rfl, fun Wz hW => by obtain ⟨p0, p1, p2⟩ := hW; go_simp⟩) hHeld ?_
        simp only [Act.put, List.getElem_toArray, List.getElem_cons_succ, List.getElem_cons_zero, List.setIfInBounds_toArray, List.set_cons_zero, List.set_cons_succ]
        refine wpAnyH_take (i := 6) (v := .bool true) rfl (by kernel_rfl) (by kernel_rfl) (by kernel_rfl) (fun _ _ _ h => h) (Or.inl ⟨by rfl, fun Wz hW => by obtain ⟨p0, p1, p2⟩ := hW; go_simp⟩) hHeld ?_
        simp only [Act.put, List.getElem_toArray, List.getElem_cons_succ, List.getElem_cons_zero, List.setIfInBounds_toArray, List.set_cons_zero, List.set_cons_succ]
        refine wpAnyH_take (i := 7) (v := .bool true) rfl (by kernel_rfl) (by kernel_rfl) (by kernel_rfl) (fun _ _ _ h => h) (Or.inl ⟨by rfl, fun Wz hW => by obtain ⟨p0, p1, p2⟩ := hW; go_simp⟩) hHeld ?_
        simp only [Act.put, List.getElem_toArray, List.getElem_cons_succ, List.getElem_cons_zero, List.setIfInBounds_toArray, List.set_cons_zero, List.set_cons_succ]
        refine wpAnyH_take (i := 8) (v := .agg #[.int .i64 0, .int .i64 0, .bool false]) rfl (by kernel_rfl) (by kernel_rfl) (by kernel_rfl) (fun _ _ _ h => h) (Or.inl ⟨by rfl, fun Wz hW => by obtain ⟨p0, p1, p2⟩ := hW; go_simp⟩) hHeld ?_
        simp only [Act.put, List.getElem_toArray, List.getElem_cons_succ, List.getElem_cons_zero, List.setIfInBounds_toArray, List.set_cons_zero, List.set_cons_succ]
        refine wpAnyH_take (i := 9) (v := .agg #[.int .i64 0, .int .i64 0, .bool false]) rfl (by kernel_rfl) (by kernel_rfl) (by kernel_rfl) (fun _ _ _ h => h) (Or.inl ⟨by rfl, fun Wz hW => by obtain ⟨p0, p1, p2⟩ := hW; go_simp⟩) hHeld ?_
        simp only [Act.put, List.getElem_toArray, List.getElem_cons_succ, List.getElem_cons_zero, List.setIfInBounds_toArray, List.set_cons_zero, List.set_cons_succ]
        refine wpAnyH_take (i := 10) (v := .bool true) rfl (by kernel_rfl) (by kernel_rfl) (by kernel_rfl) (fun _ _ _ h => h) (Or.inl ⟨by rfl, fun Wz hW => by obtain ⟨p0, p1, p2⟩ := hW; go_simp⟩) hHeld ?_
        simp only [Act.put, List.getElem_toArray, List.getElem_cons_succ, List.getElem_cons_zero, List.setIfInBounds_toArray, List.set_cons_zero, List.set_cons_succ]
        refine wpAnyH_take (i := 11) (v := .bool true) rfl (by kernel_rfl) (by kernel_rfl) (by kernel_rfl) (fun _ _ _ h => h) (Or.inl ⟨by rfl, fun Wz hW => by obtain ⟨p0, p1, p2⟩ := hW; go_simp⟩) hHeld ?_
        simp only [Act.put, List.getElem_toArray, List.getElem_cons_succ, List.getElem_cons_zero, List.setIfInBounds_toArray, List.set_cons_zero, List.set_cons_succ]
        refine wpAnyH_take (i := 12) (v := .bool true) rfl (by kernel_rfl) (by kernel_rfl) (by kernel_rfl) (fun _ _ _ h => h) (Or.inl ⟨by rfl, fun Wz hW => by obtain ⟨p0, p1, p2⟩ := hW; go_simp⟩) hHeld ?_
        simp only [Act.put, List.getElem_toArray, List.getElem_cons_succ, List.getElem_cons_zero, List.setIfInBounds_toArray, List.set_cons_zero, List.set_cons_succ]
        refine wpAnyH_take (i := 13) (v := undef) rfl (by kernel_rfl) (by kernel_rfl) (by kernel_rfl) (fun _ _ _ h => h) (Or.inr ⟨by rfl, rfl⟩) hHeld ?_
        simp only [Act.put, List.getElem_toArray, List.getElem_cons_succ, List.getElem_cons_zero, List.setIfInBounds_toArray, List.set_cons_zero, List.set_cons_succ]
        refine wpAnyH_take (i := 14) (v := undef) rfl (by kernel_rfl) (by kernel_rfl) (by kernel_rfl) (fun _ _ _ h => h) (Or.inr ⟨by rfl, rfl⟩) hHeld ?_
        simp only [Act.put, List.getElem_toArray, List.getElem_cons_succ, List.getElem_cons_zero, List.setIfInBounds_toArray, List.set_cons_zero, List.set_cons_succ]
        refine wpAnyH_take (i := 15) (v := undef) rfl (by kernel_rfl) (by kernel_rfl) (by kernel_rfl) (fun _ _ _ h => h) (Or.inr ⟨by rfl, rfl⟩) hHeld ?_
        simp only [Act.put, List.getElem_toArray, List.getElem_cons_succ, List.getElem_cons_zero, List.setIfInBounds_toArray, List.set_cons_zero, List.set_cons_succ]
        refine wpAnyH_take (i := 16) (v := undef) rfl (by kernel_rfl) (by kernel_rfl) (by kernel_rfl) (fun _ _ _ h => h) (Or.inr ⟨by rfl, rfl⟩) hHeld ?_
        simp only [Act.put, List.getElem_toArray, List.getElem_cons_succ, List.getElem_cons_zero, List.setIfInBounds_toArray, List.set_cons_zero, List.set_cons_succ]
        refine wpAnyH_take (i := 17) (v := undef) rfl (by kernel_rfl) (by kernel_rfl) (by kernel_rfl) (fun _ _ _ h => h) (Or.inr ⟨by rfl, rfl⟩) hHeld ?_
        simp only [Act.put, List.getElem_toArray, List.getElem_cons_succ, List.getElem_cons_zero, List.setIfInBounds_toArray, List.set_cons_zero, List.set_cons_succ]
        refine wpAnyH_take (i := 18) (v := undef) rfl (by kernel_rfl) (by kernel_rfl) (by kernel_rfl) (fun _ _ _ h => h) (Or.inr ⟨by rfl, rfl⟩) hHeld ?_
        simp only [Act.put, List.getElem_toArray, List.getElem_cons_succ, List.getElem_cons_zero, List.setIfInBounds_toArray, List.set_cons_zero, List.set_cons_succ]
        refine wpAnyH_take (i := 19) (v := undef) rfl (by kernel_rfl) (by kernel_rfl) (by kernel_rfl) (fun _ _ _ h => h) (Or.inr ⟨by rfl, rfl⟩) hHeld ?_
        simp only [Act.put, List.getElem_toArray, List.getElem_cons_succ, List.getElem_cons_zero, List.setIfInBounds_toArray, List.set_cons_zero, List.set_cons_succ]
        refine wpAnyH_take (i := 20) (v := undef) rfl (by kernel_rfl) (by kernel_rfl) (by kernel_rfl) (fun _ _ _ h => h) (Or.inr ⟨by rfl, rfl⟩) hHeld ?_
        simp only [Act.put, List.getElem_toArray, List.getElem_cons_succ, List.getElem_cons_zero, List.setIfInBounds_toArray, List.set_cons_zero, List.set_cons_succ]
        refine wpAnyH_take (i := 21) (v := undef) rfl (by kernel_rfl) (by kernel_rfl) (by kernel_rfl) (fun _ _ _ h => h) (Or.inr ⟨by rfl, rfl⟩) hHeld ?_
        simp only [Act.put, List.getElem_toArray, List.getElem_cons_succ, List.getElem_cons_zero, List.setIfInBounds_toArray, List.set_cons_zero, List.set_cons_succ]
        refine wpAnyH_take (i := 22) (v := .bool true) rfl (by kernel_rfl) (by kernel_rfl) (by kernel_rfl) (fun _ _ _ h => h) (Or.inl ⟨by rfl, fun Wz hW => by obtain ⟨p0, p1, p2⟩ := hW; go_simp⟩) hHeld ?_
        simp only [Act.put, List.getElem_toArray, List.getElem_cons_succ, List.getElem_cons_zero, List.setIfInBounds_toArray, List.set_cons_zero, List.set_cons_succ]
        refine wpAnyH_take (i := 23) (v := .bool true) rfl (by kernel_rfl) (by kernel_rfl) (by kernel_rfl) (fun _ _ _ h => h) (Or.inl ⟨by rfl, fun Wz hW => by obtain ⟨p0, p1, p2⟩ := hW; go_simp⟩) hHeld ?_
        simp only [Act.put, List.getElem_toArray, List.getElem_cons_succ, List.getElem_cons_zero, List.setIfInBounds_toArray, List.set_cons_zero, List.set_cons_succ]
        refine wpAnyH_take (i := 24) (v := .bool true) rfl (by kernel_rfl) (by kernel_rfl) (by kernel_rfl) (fun _ _ _ h => h) (Or.inl ⟨by rfl, fun Wz hW => by obtain ⟨p0, p1, p2⟩ := hW; go_simp⟩) hHeld ?_
        simp only [Act.put, List.getElem_toArray, List.getElem_cons_succ, List.getElem_cons_zero, List.setIfInBounds_toArray, List.set_cons_zero, List.set_cons_succ]
        refine wpAnyH_done (by kernel_rfl) ?_ _
        go_wp2
        go_ret
        exact ⟨rfl, (KR.out.trans K7.out).drew⟩
      · rw [if_neg h0] at hhi cI
        obtain ⟨j, hj⟩ : ∃ j, j = bst (row L) l0 := ⟨_, rfl⟩
        have hjl : j < l0 := by rw [hj]; exact bst_lt _ (by omega)
        rw [← hj] at hhi cI
        obtain ⟨y, hy⟩ : ∃ y, y = row L j := ⟨_, rfl⟩
        rw [← hy] at hhi
        replace hy := Lib.hid hy
        rw [hhi, decide_eq_true (by omega)] at cH
        unfold ClV.val at cH
        replace cH := Lib.hid cH
        replace hhi := Lib.hid hhi
        replace h0 := Lib.hid h0
        replace hj := Lib.hid hj
        go_wp2_with fail
        refine cH.out.mono ?_
        rintro e w5 ⟨rfl, k5⟩
        obtain ⟨w6, hw6⟩ : ∃ W, W = w5.alloc (.cells #[.int .i64 y.k, .int .i64 y.p, .bool y.f] 30) := ⟨_, rfl⟩
        have B6 : Hid (w6.heap[w5.heap.size]? = some (.cells #[.int .i64 y.k, .int .i64 y.p, .bool y.f] 30 (0, 0))) := by rw [hw6]; exact heap_alloc_new _ _
        have K6 : Hid (Keep wo w6) := by rw [hw6]; exact k5.alloc _
        replace k5 := Lib.hid k5
        go_wp2_with fail
        rw [← hw6]
        replace hw6 := Lib.hid hw6
        refine (cI.out _ K6.out).mono ?_
        rintro e w7 ⟨rfl, D7⟩
        have B7 := D7.keep.block B6.out
        have K7 : Hid (Keep wo w7) := K6.out.trans D7.keep
        replace D7 := Lib.hid D7
        obtain ⟨v0, v1, v2⟩ := cel_block (x := y) B7
        replace B7 := Lib.hid B7
        obtain ⟨gb, g0, hB3, cb⟩ := (rM.out w7 K7.out).adr (by omega)
        subst hB3
        have q2 := atC gb g0 l0 d j hjl
        obtain ⟨go, hgo⟩ : ∃ go, go = g0 + j * 3 := ⟨_, rfl⟩
        have Y := cb j hjl
        rw [← hy.out, ← hgo] at Y
        rw [← hgo] at q2
        clear cb
        replace hgo := Lib.hid hgo
        have y0 := Y.e0; have y1 := Y.e1; have y2 := Y.e2
        clear Y
        go_wp2_with fail
        have HELD : ∀ Wz, Keep w7 Wz → (Wz.cell? ⟨w5.heap.size, 0, none⟩ = some (.int .i64 y.k) ∧ Wz.cell? ⟨w5.heap.size, 1, none⟩ = some (.int .i64 y.p) ∧ Wz.cell? ⟨w5.heap.size, 2, none⟩ = some (.bool y.f) ∧ Wz.cell? ⟨gb, go, none⟩ = some (.int .i64 y.k) ∧ Wz.cell? ⟨gb, go + 1, none⟩ = some (.int .i64 y.p) ∧ Wz.cell? ⟨gb, go + 2, none⟩ = some (.bool y.f)) := fun Wz KK => ⟨KK.cell v0, KK.cell v1, KK.cell v2, KK.cell y0, KK.cell y1, KK.cell y2⟩
        refine wp_region_held_drew (S := fun w' => w'.cell? ⟨w5.heap.size, 0, none⟩ = some (.int .i64 y.k) ∧ w'.cell? ⟨w5.heap.size, 1, none⟩ = some (.int .i64 y.p) ∧ w'.cell? ⟨w5.heap.size, 2, none⟩ = some (.bool y.f) ∧ w'.cell? ⟨gb, go, none⟩ = some (.int .i64 y.k) ∧ w'.cell? ⟨gb, go + 1, none⟩ = some (.int .i64 y.p) ∧ w'.cell? ⟨gb, go + 2, none⟩ = some (.bool y.f)) (by kernel_rfl) ?_ (fun hHeld => ?_)
        · exact HELD _ (by repeat (with_reducible first | exact Keep.refl w7 | apply Keep.alloc | apply Keep.drew | apply Keep.drewN))
        refine wpAnyH_take (i := 0) (v := .bool true) rfl (by kernel_rfl) (by kernel_rfl) (by kernel_rfl) (fun _ _ _ h => h) (Or.inl ⟨by rfl, fun Wz hW => by obtain ⟨p0, p1, p2, r0, r1, r2⟩ := hW; go_simp⟩) hHeld ?_
        simp only [Act.put, List.getElem_toArray, List.getElem_cons_zero, List.setIfInBounds_toArray, List.set_cons_zero, List.set_cons_succ]
        refine wpAnyH_take (i := 1) (v := .int .i64 j) rfl (by kernel_rfl) (by kernel_rfl) (by kernel_rfl) (fun _ _ _ h => h) (Or.inl ⟨by rfl, fun Wz hW => by obtain ⟨p0, p1, p2, r0, r1, r2⟩ := hW; go_simp⟩) hHeld ?_
        simp only [Act.put, List.getElem_toArray, List.getElem_cons_succ, List.getElem_cons_zero, List.setIfInBounds_toArray, List.set_cons_zero, List.set_cons_succ]
        refine wpAnyH_take (i := 2) (v := .bool true) rfl (by kernel_rfl) (by kernel_rfl) (by kernel_rfl) (fun _ _ _ h => h) (Or.inl ⟨by rfl, fun Wz hW => by obtain ⟨p0, p1, p2, r0, r1, r2⟩ := hW; go_simp⟩) hHeld ?_
        simp only [Act.put, List.getElem_toArray, List.getElem_cons_succ, List.getElem_cons_zero, List.setIfInBounds_toArray, List.set_cons_zero, List.set_cons_succ]
        refine wpAnyH_take (i := 3) (v := .bool true) rfl (by kernel_rfl) (by kernel_rfl) (by kernel_rfl) (fun _ _ _ h => h) (Or.inl ⟨by rfl, fun Wz hW => by obtain ⟨p0, p1, p2, r0, r1, r2⟩ := hW; go_simp⟩) hHeld ?_
        simp only [Act.put, List.getElem_toArray, List.getElem_cons_succ, List.getElem_cons_zero, List.setIfInBounds_toArray, List.set_cons_zero, List.set_cons_succ]
        refine wpAnyH_take (i := 4) (v := .bool true) rfl (by kernel_rfl) (by kernel_rfl) (by kernel_rfl) (fun _ _ _ h => h) (Or.inl ⟨by rfl, fun Wz hW => by obtain ⟨p0, p1, p2, r0, r1, r2⟩ := hW; go_simp⟩) hHeld ?_
        simp only [Act.put, List.getElem_toArray, List.getElem_cons_succ, List.getElem_cons_zero, List.setIfInBounds_toArray, List.set_cons_zero, List.set_cons_succ]
        refine wpAnyH_take (i := 5) (v := .bool true) rfl (by kernel_rfl) (by kernel_rfl) (by kernel_rfl) (fun _ _ _ h => h) (Or.inl ⟨by rfl, fun Wz hW => by obtain ⟨p0, p1, p2, r0, r1, r2⟩ := hW; go_simp⟩) hHeld ?_
        simp only [Act.put, List.getElem_toArray, List.getElem_cons_succ, List.getElem_cons_zero, List.setIfInBounds_toArray, List.set_cons_zero, List.set_cons_succ]
        refine wpAnyH_take (i := 6) (v := .bool false) rfl (by kernel_rfl) (by kernel_rfl) (by kernel_rfl) (fun _ _ _ h => h) (Or.inl ⟨by rfl, fun Wz hW => by obtain ⟨p0, p1, p2, r0, r1, r2⟩ := hW; go_simp⟩) hHeld ?_
        simp only [Act.put, List.getElem_toArray, List.getElem_cons_succ, List.getElem_cons_zero, List.setIfInBounds_toArray, List.set_cons_zero, List.set_cons_succ]
        refine wpAnyH_take (i := 7) (v := .bool false) rfl (by kernel_rfl) (by kernel_rfl) (by kernel_rfl) (fun _ _ _ h => h) (Or.inl ⟨by rfl, fun Wz hW => by obtain ⟨p0, p1, p2, r0, r1, r2⟩ := hW; go_simp⟩) hHeld ?_
        simp only [Act.put, List.getElem_toArray, List.getElem_cons_succ, List.getElem_cons_zero, List.setIfInBounds_toArray, List.set_cons_zero, List.set_cons_succ]
        refine wpAnyH_take (i := 8) (v := undef) rfl (by kernel_rfl) (by kernel_rfl) (by kernel_rfl) (fun _ _ _ h => h) (Or.inr ⟨by rfl, rfl⟩) hHeld ?_
        simp only [Act.put, List.getElem_toArray, List.getElem_cons_succ, List.getElem_cons_zero, List.setIfInBounds_toArray, List.set_cons_zero, List.set_cons_succ]
        refine wpAnyH_take (i := 9) (v := undef) rfl (by kernel_rfl) (by kernel_rfl) (by kernel_rfl) (fun _ _ _ h => h) (Or.inr ⟨by rfl, rfl⟩) hHeld ?_
        simp only [Act.put, List.getElem_toArray, List.getElem_cons_succ, List.getElem_cons_zero, List.setIfInBounds_toArray, List.set_cons_zero, List.set_cons_succ]
        refine wpAnyH_take (i := 10) (v := undef) rfl (by kernel_rfl) (by kernel_rfl) (by kernel_rfl) (fun _ _ _ h => h) (Or.inr ⟨by rfl, rfl⟩) hHeld ?_
        simp only [Act.put, List.getElem_toArray, List.getElem_cons_succ, List.getElem_cons_zero, List.setIfInBounds_toArray, List.set_cons_zero, List.set_cons_succ]
        refine wpAnyH_take (i := 11) (v := .bool false) rfl (by kernel_rfl) (by kernel_rfl) (by kernel_rfl) (fun _ _ _ h => h) (Or.inl ⟨by rfl, fun Wz hW => by obtain ⟨p0, p1, p2, r0, r1, r2⟩ := hW; go_simp⟩) hHeld ?_
        simp only [Act.put, List.getElem_toArray, List.getElem_cons_succ, List.getElem_cons_zero, List.setIfInBounds_toArray, List.set_cons_zero, List.set_cons_succ]
        refine wpAnyH_take (i := 12) (v := .bool false) rfl (by kernel_rfl) (by kernel_rfl) (by kernel_rfl) (fun _ _ _ h => h) (Or.inl ⟨by rfl, fun Wz hW => by obtain ⟨p0, p1, p2, r0, r1, r2⟩ := hW; go_simp⟩) hHeld ?_
        simp only [Act.put, List.getElem_toArray, List.getElem_cons_succ, List.getElem_cons_zero, List.setIfInBounds_toArray, List.set_cons_zero, List.set_cons_succ]
        refine wpAnyH_take (i := 13) (v := .bool true) rfl (by kernel_rfl) (by kernel_rfl) (by kernel_rfl) (fun _ _ _ h => h) (Or.inl ⟨by rfl, fun Wz hW => by obtain ⟨p0, p1, p2, r0, r1, r2⟩ := hW; go_simp⟩) hHeld ?_
        simp only [Act.put, List.getElem_toArray, List.getElem_cons_succ, List.getElem_cons_zero, List.setIfInBounds_toArray, List.set_cons_zero, List.set_cons_succ]
        refine wpAnyH_take (i := 14) (v := .bool true) rfl (by kernel_rfl) (by kernel_rfl) (by kernel_rfl) (fun _ _ _ h => h) (Or.inl ⟨by rfl, fun Wz hW => by obtain ⟨p0, p1, p2, r0, r1, r2⟩ := hW; go_simp⟩) hHeld ?_
        simp only [Act.put, List.getElem_toArray, List.getElem_cons_succ, List.getElem_cons_zero, List.setIfInBounds_toArray, List.set_cons_zero, List.set_cons_succ]
        refine wpAnyH_take (i := 15) (v := .agg #[.int .i64 y.k, .int .i64 y.p, .bool y.f]) rfl (by kernel_rfl) (by kernel_rfl) (by kernel_rfl) (fun _ _ _ h => h) (Or.inl ⟨by rfl, fun Wz hW => by obtain ⟨p0, p1, p2, r0, r1, r2⟩ := hW; go_simp⟩) hHeld ?_
        simp only [Act.put, List.getElem_toArray, List.getElem_cons_succ, List.getElem_cons_zero, List.setIfInBounds_toArray, List.set_cons_zero, List.set_cons_succ]
        refine wpAnyH_take (i := 16) (v := .slice (some ⟨gb, g0, none⟩) l0 d) rfl (by kernel_rfl) (by kernel_rfl) (by kernel_rfl) (fun _ _ _ h => h) (Or.inl ⟨by rfl, fun Wz hW => by obtain ⟨p0, p1, p2, r0, r1, r2⟩ := hW; go_simp⟩) hHeld ?_
        simp only [Act.put, List.getElem_toArray, List.getElem_cons_succ, List.getElem_cons_zero, List.setIfInBounds_toArray, List.set_cons_zero, List.set_cons_succ]
        refine wpAnyH_take (i := 17) (v := .int .i64 j) rfl (by kernel_rfl) (by kernel_rfl) (by kernel_rfl) (fun _ _ _ h => h) (Or.inl ⟨by rfl, fun Wz hW => by obtain ⟨p0, p1, p2, r0, r1, r2⟩ := hW; go_simp⟩) hHeld ?_
        simp only [Act.put, List.getElem_toArray, List.getElem_cons_succ, List.getElem_cons_zero, List.setIfInBounds_toArray, List.set_cons_zero, List.set_cons_succ]
        refine wpAnyH_take (i := 18) (v := .pointer (some ⟨gb, go, none⟩)) rfl (by kernel_rfl) (by kernel_rfl) (by kernel_rfl) (fun _ _ _ h => h) (Or.inl ⟨by rfl, fun Wz hW => by obtain ⟨p0, p1, p2, r0, r1, r2⟩ := hW; go_simp⟩) hHeld ?_
        simp only [Act.put, List.getElem_toArray, List.getElem_cons_succ, List.getElem_cons_zero, List.setIfInBounds_toArray, List.set_cons_zero, List.set_cons_succ]
        refine wpAnyH_take (i := 19) (v := .agg #[.int .i64 y.k, .int .i64 y.p, .bool y.f]) rfl (by kernel_rfl) (by kernel_rfl) (by kernel_rfl) (fun _ _ _ h => h) (Or.inl ⟨by rfl, fun Wz hW => by obtain ⟨p0, p1, p2, r0, r1, r2⟩ := hW; go_simp⟩) hHeld ?_
        simp only [Act.put, List.getElem_toArray, List.getElem_cons_succ, List.getElem_cons_zero, List.setIfInBounds_toArray, List.set_cons_zero, List.set_cons_succ]
        refine wpAnyH_take (i := 20) (v := .bool true) rfl (by kernel_rfl) (by kernel_rfl) (by kernel_rfl) (fun _ _ _ h => h) (Or.inl ⟨by rfl, fun Wz hW => by obtain ⟨p0, p1, p2, r0, r1, r2⟩ := hW; go_simp⟩) hHeld ?_
        simp only [Act.put, List.getElem_toArray, List.getElem_cons_succ, List.getElem_cons_zero, List.setIfInBounds_toArray, List.set_cons_zero, List.set_cons_succ]
        refine wpAnyH_take (i := 21) (v := .bool true) rfl (by kernel_rfl) (by kernel_rfl) (by kernel_rfl) (fun _ _ _ h => h) (Or.inl ⟨by rfl, fun Wz hW => by obtain ⟨p0, p1, p2, r0, r1, r2⟩ := hW; go_simp⟩) hHeld ?_
        simp only [Act.put, List.getElem_toArray, List.getElem_cons_succ, List.getElem_cons_zero, List.setIfInBounds_toArray, List.set_cons_zero, List.set_cons_succ]
        refine wpAnyH_take (i := 22) (v := .bool true) rfl (by kernel_rfl) (by kernel_rfl) (by kernel_rfl) (fun _ _ _ h => h) (Or.inl ⟨by rfl, fun Wz hW => by obtain ⟨p0, p1, p2, r0, r1, r2⟩ := hW; go_simp⟩) hHeld ?_
        simp only [Act.put, List.getElem_toArray, List.getElem_cons_succ, List.getElem_cons_zero, List.setIfInBounds_toArray, List.set_cons_zero, List.set_cons_succ]
        refine wpAnyH_take (i := 23) (v := .bool true) rfl (by kernel_rfl) (by kernel_rfl) (by kernel_rfl) (fun _ _ _ h => h) (Or.inl ⟨by rfl, fun Wz hW => by obtain ⟨p0, p1, p2, r0, r1, r2⟩ := hW; go_simp⟩) hHeld ?_
        simp only [Act.put, List.getElem_toArray, List.getElem_cons_succ, List.getElem_cons_zero, List.setIfInBounds_toArray, List.set_cons_zero, List.set_cons_succ]
        refine wpAnyH_take (i := 24) (v := .bool true) rfl (by kernel_rfl) (by kernel_rfl) (by kernel_rfl) (fun _ _ _ h => h) (Or.inl ⟨by rfl, fun Wz hW => by obtain ⟨p0, p1, p2, r0, r1, r2⟩ := hW; go_simp⟩) hHeld ?_
        simp only [Act.put, List.getElem_toArray, List.getElem_cons_succ, List.getElem_cons_zero, List.setIfInBounds_toArray, List.set_cons_zero, List.set_cons_succ]
        refine wpAnyH_done (by kernel_rfl) ?_ _
        go_wp2
        go_ret
        exact ⟨rfl, (KR.out.trans K7.out).drew⟩
end Go.Proofs.YtmbeghngnnpmlaaDoor.T11
