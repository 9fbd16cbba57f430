/-
  The walk of ClassHighest. Condition: errors.errorType holds its own.
-/
import Derived.Test.YtmbeghngnnpmlaaDoorMatchLaw11
namespace Go.Proofs.YtmbeghngnnpmlaaDoor.T11
open Go.RowKit Go.Sort Go.Lib Go.Shelf

theorem add_pos {L : List ClV} {s : Int} (h : 0 < s) (x : ClV) : 0 < (addL L s x).length := by
  unfold addL
  have h1 := ins_len x L
  split
  · rename_i hk
    cases L with
    | nil => cases hk
    | cons a r => simp
  · split
    · omega
    · omega
set_option maxRecDepth 100000 in
set_option maxHeartbeats 16000000 in
theorem high_walk (A : Option Addr) (n c : Nat) (P : Nat → ClV) (w : World) (hR : RdC w A n P) (hv : ErrT w) : Calls Tryd.prog 6 #[.slice A n c] w fun e w' => e = .returned (.bool true) ∧ Keep w w' := by
  have mixed : Tryd.prog.follows .mixedOrders = true := by kernel_rfl
  have hs := hR.small
  obtain ⟨fb, hfb⟩ := few_or P n
  have cF : Hid (∀ W, Keep w W → Calls Tryd.prog 9 #[.slice A n c] W fun e w' => e = .returned (.bool fb) ∧ W = w') := fun W k => rfew_fn A n c P W (hR.keep k) fb hfb
  replace hfb := Lib.hid hfb
  replace hv := Lib.hid hv
  replace hR := Lib.hid hR
  have cn := csnew_fn 100 (by unfold I64; omega) w
  rw [if_pos (by decide)] at cn
  replace cn := Lib.hid cn
  go_enter Tryd.func6, Tryd.ntmps6
  go_wp2_with fail
  refine cn.out.mono ?_
  rintro e w1 ⟨q, rfl, p, m, T1, k1, lq, lp, lm⟩
  replace T1 := Lib.hid T1
  replace k1 := Lib.hid k1
  replace lm := Lib.hid lm
  replace lp := Lib.hid lp
  replace lq := Lib.hid lq
  have aw1 := Lib.hid (awake_true w1 (hv.out.keep k1.out))
  go_wp2_with fail
  refine aw1.out.mono ?_
  rintro e w2 ⟨rfl, k2⟩
  have K2 := Lib.hid (k1.out.trans k2)
  have T2 := Lib.hid (T1.out.keep k2)
  replace k2 := Lib.hid k2
  clear aw1
  go_wp2_with fail
  refine (cF.out w2 K2.out).mono ?_
  rintro e w2' ⟨rfl, rfl⟩
  cases fb with
  | false =>
    have aw2 := Lib.hid (awake_true w2 (hv.out.keep K2.out))
    go_wp2_with fail
    refine aw2.out.mono ?_
    rintro e w4 ⟨rfl, k4⟩
    go_wp2
    go_ret
    exact ⟨rfl, K2.out.trans k4⟩
  | true =>
  have hf := hfb.out.1 rfl
  have hn := hf.1
  replace hf := Lib.hid hf
  go_wp2
  go_loopg [4] n (fun gx s4 wr => ∃ (i : Nat) (L : List ClV), i ≤ n ∧ gx = n - i ∧ s4 = .int .i64 i ∧ L.length ≤ i ∧ Hid (0 < i → 0 < L.length) ∧ Hid (Keep w wr) ∧ Hid (SI wr 100 q p m L))
  case atStart => exact ⟨0, [], Nat.zero_le _, rfl, rfl, Nat.le_refl _, fun h => absurd h (Nat.lt_irrefl _), K2, T2⟩
  case round =>
    clear T1 T2 K2 k1 k2
    obtain ⟨i, L, hi, rfl, rfl, hLi, hLp, KR, TR⟩ := hrel
    by_cases hlt : i < n
    · obtain ⟨b, off, hA, ca⟩ := (hR.out.keep KR.out).adr (by omega)
      subst hA
      have q1 := atC b off n c i hlt
      have X := ca i hlt
      have ox := hR.out.ok i hlt
      clear ca
      obtain ⟨x, hx⟩ : ∃ x, x = P i := ⟨_, rfl⟩
      rw [← hx] at X ox
      replace hx := Lib.hid hx
      have hol := add_len L 100 x
      have hpos := add_pos (L := L) (s := 100) (by decide) x
      have cT := csadd_fn TR.out x ox (hv.out.keep KR.out)
      obtain ⟨M, hM⟩ : ∃ M, M = addL L 100 x := ⟨_, rfl⟩
      obtain ⟨fv, hfv⟩ : ∃ fv, fv = fltC (addC L 100 x) := ⟨_, rfl⟩
      rw [← hM, ← hfv] at cT
      rw [← hM] at hol hpos
      replace hM := Lib.hid hM
      replace hfv := Lib.hid hfv
      unfold ClV.val at cT
      replace cT := Lib.hid cT
      have x0 := X.e0; have x1 := X.e1; have x2 := X.e2
      replace X := Lib.hid X
      replace ox := Lib.hid ox
      replace hpos := Lib.hid hpos
      go_wp2_with fail
      refine cT.out.mono ?_
      rintro e w4 ⟨rfl, T4, F4⟩
      have K4 : Hid (Keep w w4) := F4.low KR.out (by rintro i rfl; exact lm.out)
      replace F4 := Lib.hid F4
      replace T4 := Lib.hid T4
      clear cT x0 x1 x2
      go_wp2
      go_roundg (n - (i + 1))
      case measure => omega
      case rel => exact ⟨i + 1, M, hlt, rfl, by go_num, by omega, fun _ => hpos.out, K4, T4⟩
    · have hin : ¬ (i : Int) < (n : Int) := by omega
      obtain ⟨wo, hwo⟩ : ∃ wo, wo = wr := ⟨_, rfl⟩
      rw [← hwo] at TR KR ⊢
      clear hwo
      have cH := cshigh_fn TR.out (by omega)
      have cA : Hid (∀ W, Keep wo W → Calls Tryd.prog 14 #[.pointer (some ⟨q, 0, none⟩)] W fun e w' => ∃ B d, e = .returned (.slice B L.length d) ∧ Keep W w' ∧ RdC w' B L.length (row L)) := fun W k => (csall_fn (TR.out.keep k) (by omega)).mono fun e w' ⟨B, d, he, k2, O⟩ => ⟨B, d, he, k2, all_rd O (by omega) TR.out.t.ok⟩
      have hy1 : ∀ j, j < L.length → (row L j).p ≤ (hiL L).p ∧ ((row L j).p = (hiL L).p → (hiL L).k ≤ (row L j).k) := fun j hj => by
        have e : hiL L = row L (bst (row L) L.length) := by unfold hiL; rw [if_neg (by omega)]
        rw [e]
        refine ⟨bst_max _ hj, fun h => ?_⟩
        rcases Nat.lt_trichotomy j (bst (row L) L.length) with h1 | h1 | h1
        · have := bst_first (row L) h1; omega
        · rw [← h1]; exact Int.le_refl _
        · exact Int.le_of_lt (srt_at TR.out.t.srt h1 hj)
      have hb : decide (0 < L.length) = decide (0 < n) := by
        rw [decide_eq_decide]
        have := hLp.out
        omega
      rw [hb] at cH
      obtain ⟨bv, hbv⟩ : ∃ bv, bv = decide (0 < n) := ⟨_, rfl⟩
      rw [← hbv] at cH
      obtain ⟨y, hy⟩ : ∃ y, y = hiL L := ⟨_, rfl⟩
      rw [← hy] at cH hy1
      obtain ⟨l0, hl0⟩ : ∃ l0, l0 = L.length := ⟨_, rfl⟩
      rw [← hl0] at cA hy1 hLi
      replace hl0 := Lib.hid hl0
      replace hy := Lib.hid hy
      replace hbv := Lib.hid hbv
      replace hb := Lib.hid hb
      unfold ClV.val at cH
      replace cH := Lib.hid cH
      replace hy1 := Lib.hid hy1
      go_wp2_with fail
      refine cH.out.mono ?_
      rintro e w5 ⟨rfl, k5⟩
      obtain ⟨w6, hw6⟩ : ∃ W, W = w5.alloc (.cells #[.int .i64 y.k, .int .i64 y.p, .bool y.f] 30) := ⟨_, rfl⟩
      have B6 : Hid (w6.heap[w5.heap.size]? = some (.cells #[.int .i64 y.k, .int .i64 y.p, .bool y.f] 30 (0, 0))) := by rw [hw6]; exact heap_alloc_new _ _
      have K6 : Hid (Keep wo w6) := by rw [hw6]; exact k5.alloc _
      replace k5 := Lib.hid k5
      go_wp2_with fail
      rw [← hw6]
      replace hw6 := Lib.hid hw6
      refine (cA.out _ K6.out).mono ?_
      rintro e w7 ⟨B7, d7, rfl, k7, R7⟩
      have C7 : Hid (w7.heap[w5.heap.size]? = some (.cells #[.int .i64 y.k, .int .i64 y.p, .bool y.f] 30 (0, 0))) := k7.block B6.out
      have K7 : Hid (Keep w w7) := KR.out.trans (K6.out.trans k7)
      replace k7 := Lib.hid k7
      replace R7 := Lib.hid R7
      generalize w5.heap.size = hb' at C7 ⊢
      obtain ⟨hb, hhb⟩ : ∃ hb, hb = hb' := ⟨_, rfl⟩
      rw [← hhb] at C7 ⊢
      clear hhb
      go_wp2
      go_loopg [8] l0 (fun gx s8 wr => ∃ j : Nat, j ≤ l0 ∧ gx = l0 - j ∧ s8 = .int .i64 j ∧ Hid (Drawn w7 wr))
      case atStart => exact ⟨0, Nat.zero_le _, rfl, rfl, Drawn.refl _⟩
      case round =>
        obtain ⟨j, hj, rfl, rfl, D⟩ := hrel
        by_cases hlt2 : j < l0
        · obtain ⟨gb, g0, hB, cb⟩ := (R7.out.keep D.out.keep).adr (by omega)
          subst hB
          have q2 := atC gb g0 l0 d7 j hlt2
          obtain ⟨go, hgo⟩ : ∃ go, go = g0 + j * 3 := ⟨_, rfl⟩
          have X := cb j hlt2
          have hle := hy1.out j hlt2
          obtain ⟨x, hx⟩ : ∃ x, x = row L j := ⟨_, rfl⟩
          rw [← hx] at X hle
          rw [← hgo] at X q2
          replace hgo := Lib.hid hgo
          replace hx := Lib.hid hx
          have C8 := D.out.keep.block C7.out
          obtain ⟨y0, y1, _⟩ := cel_block C8
          have x0 := X.e0; have x1 := X.e1
          clear X cb
          replace C8 := Lib.hid C8
          obtain ⟨xk, hxk⟩ : ∃ z, z = x.k := ⟨_, rfl⟩
          obtain ⟨xp, hxp⟩ : ∃ z, z = x.p := ⟨_, rfl⟩
          obtain ⟨yk, hyk⟩ : ∃ z, z = y.k := ⟨_, rfl⟩
          obtain ⟨yp, hyp⟩ : ∃ z, z = y.p := ⟨_, rfl⟩
          rw [← hxk] at x0 hle
          rw [← hxp] at x1 hle
          rw [← hyk] at y0 hle
          rw [← hyp] at y1 hle
          replace hxk := Lib.hid hxk
          replace hxp := Lib.hid hxp
          replace hyk := Lib.hid hyk
          replace hyp := Lib.hid hyp
          have hd1 : decide (yp < xp) = false := decide_eq_false (by omega)
          have KD : Hid (∀ q, Drawn w7 (wr.drewN q)) := fun q => D.out.drewN q
          have KD1 : Hid (Drawn w7 wr.drew) := D.out.drew
          by_cases he : xp = yp
          · have hd2 : decide (xk < yk) = false := decide_eq_false (by have := hle.2 he; omega)
            subst he
            replace hle := Lib.hid hle
            go_wp2_with fail
            have HELD : ∀ Wz, Keep wr Wz → (Wz.cell? ⟨gb, go, none⟩ = some (.int .i64 xk) ∧ Wz.cell? ⟨gb, go + 1, none⟩ = some (.int .i64 xp) ∧ Wz.cell? ⟨hb, 0, none⟩ = some (.int .i64 yk) ∧ Wz.cell? ⟨hb, 1, none⟩ = some (.int .i64 xp)) := fun Wz KK => ⟨KK.cell x0, KK.cell x1, KK.cell y0, KK.cell y1⟩
            refine wp_region_held_drew (S := fun w' => w'.cell? ⟨gb, go, none⟩ = some (.int .i64 xk) ∧ w'.cell? ⟨gb, go + 1, none⟩ = some (.int .i64 xp) ∧ w'.cell? ⟨hb, 0, none⟩ = some (.int .i64 yk) ∧ w'.cell? ⟨hb, 1, none⟩ = some (.int .i64 xp)) (by kernel_rfl) ?_ (fun hHeld => ?_)
            · exact HELD _ (by repeat (with_reducible first | exact Keep.refl wr | apply Keep.alloc | apply Keep.drew | apply Keep.drewN))
            refine wpAnyH_take (i := 0) (v := .slice (some ⟨gb, g0, none⟩) l0 d7) rfl (by kernel_rfl) (by kernel_rfl) (by kernel_rfl) (fun _ _ _ h => h) (Or.inl ⟨by rfl, fun Wz hW => by obtain ⟨p0, p1, p2, p3⟩ := hW; go_simp⟩) hHeld ?_
            simp only [Act.put, List.getElem_toArray, List.getElem_cons_zero, List.setIfInBounds_toArray, List.set_cons_zero, List.set_cons_succ]
            refine wpAnyH_take (i := 1) (v := .int .i64 j) rfl (by kernel_rfl) (by kernel_rfl) (by kernel_rfl) (fun _ _ _ h => h) (Or.inl ⟨by rfl, fun Wz hW => by obtain ⟨p0, p1, p2, p3⟩ := hW; go_simp⟩) hHeld ?_
            simp only [Act.put, List.getElem_toArray, List.getElem_cons_succ, List.getElem_cons_zero, List.setIfInBounds_toArray, List.set_cons_zero, List.set_cons_succ]
            refine wpAnyH_take (i := 2) (v := .pointer (some ⟨gb, go, none⟩)) rfl (by kernel_rfl) (by kernel_rfl) (by kernel_rfl) (fun _ _ _ h => h) (Or.inl ⟨by rfl, fun Wz hW => by obtain ⟨p0, p1, p2, p3⟩ := hW; go_simp⟩) hHeld ?_
            simp only [Act.put, List.getElem_toArray, List.getElem_cons_succ, List.getElem_cons_zero, List.setIfInBounds_toArray, List.set_cons_zero, List.set_cons_succ]
            refine wpAnyH_take (i := 3) (v := .pointer (some ⟨gb, go + 1, none⟩)) rfl (by kernel_rfl) (by kernel_rfl) (by kernel_rfl) (fun _ _ _ h => h) (Or.inl ⟨by rfl, fun Wz hW => by obtain ⟨p0, p1, p2, p3⟩ := hW; go_simp⟩) hHeld ?_
            simp only [Act.put, List.getElem_toArray, List.getElem_cons_succ, List.getElem_cons_zero, List.setIfInBounds_toArray, List.set_cons_zero, List.set_cons_succ]
            refine wpAnyH_take (i := 4) (v := .int .i64 xp) rfl (by kernel_rfl) (by kernel_rfl) (by kernel_rfl) (fun _ _ _ h => h) (Or.inl ⟨by rfl, fun Wz hW => by obtain ⟨p0, p1, p2, p3⟩ := hW; go_simp⟩) hHeld ?_
            simp only [Act.put, List.getElem_toArray, List.getElem_cons_succ, List.getElem_cons_zero, List.setIfInBounds_toArray, List.set_cons_zero, List.set_cons_succ]
            refine wpAnyH_take (i := 5) (v := .pointer (some ⟨hb, 1, none⟩)) rfl (by kernel_rfl) (by kernel_rfl) (by kernel_rfl) (fun _ _ _ h => h) (Or.inl ⟨by rfl, fun Wz hW => by obtain ⟨p0, p1, p2, p3⟩ := hW; go_simp⟩) hHeld ?_
            simp only [Act.put, List.getElem_toArray, List.getElem_cons_succ, List.getElem_cons_zero, List.setIfInBounds_toArray, List.set_cons_zero, List.set_cons_succ]
            refine wpAnyH_take (i := 6) (v := .int .i64 xp) rfl (by kernel_rfl) (by kernel_rfl) (by kernel_rfl) (fun _ _ _ h => h) (Or.inl ⟨by rfl, fun Wz hW => by obtain ⟨p0, p1, p2, p3⟩ := hW; go_simp⟩) hHeld ?_
            simp only [Act.put, List.getElem_toArray, List.getElem_cons_succ, List.getElem_cons_zero, List.setIfInBounds_toArray, List.set_cons_zero, List.set_cons_succ]
            refine wpAnyH_take (i := 7) (v := .bool false) rfl (by kernel_rfl) (by kernel_rfl) (by kernel_rfl) (fun _ _ _ h => h) (Or.inl ⟨by rfl, fun Wz hW => by obtain ⟨p0, p1, p2, p3⟩ := hW; go_simp⟩) hHeld ?_
            simp only [Act.put, List.getElem_toArray, List.getElem_cons_succ, List.getElem_cons_zero, List.setIfInBounds_toArray, List.set_cons_zero, List.set_cons_succ]
            refine wpAnyH_take (i := 8) (v := .bool false) rfl (by kernel_rfl) (by kernel_rfl) (by kernel_rfl) (fun _ _ _ h => h) (Or.inl ⟨by rfl, fun Wz hW => by obtain ⟨p0, p1, p2, p3⟩ := hW; go_simp⟩) hHeld ?_
            simp only [Act.put, List.getElem_toArray, List.getElem_cons_succ, List.getElem_cons_zero, List.setIfInBounds_toArray, List.set_cons_zero, List.set_cons_succ]
            refine wpAnyH_take (i := 9) (v := .slice (some ⟨gb, g0, none⟩) l0 d7) rfl (by kernel_rfl) (by kernel_rfl) (by kernel_rfl) (fun _ _ _ h => h) (Or.inl ⟨by rfl, fun Wz hW => by obtain ⟨p0, p1, p2, p3⟩ := hW; go_simp⟩) hHeld ?_
            simp only [Act.put, List.getElem_toArray, List.getElem_cons_succ, List.getElem_cons_zero, List.setIfInBounds_toArray, List.set_cons_zero, List.set_cons_succ]
            refine wpAnyH_take (i := 10) (v := .int .i64 j) rfl (by kernel_rfl) (by kernel_rfl) (by kernel_rfl) (fun _ _ _ h => h) (Or.inl ⟨by rfl, fun Wz hW => by obtain ⟨p0, p1, p2, p3⟩ := hW; go_simp⟩) hHeld ?_
            simp only [Act.put, List.getElem_toArray, List.getElem_cons_succ, List.getElem_cons_zero, List.setIfInBounds_toArray, List.set_cons_zero, List.set_cons_succ]
            refine wpAnyH_take (i := 11) (v := .pointer (some ⟨gb, go, none⟩)) rfl (by kernel_rfl) (by kernel_rfl) (by kernel_rfl) (fun _ _ _ h => h) (Or.inl ⟨by rfl, fun Wz hW => by obtain ⟨p0, p1, p2, p3⟩ := hW; go_simp⟩) hHeld ?_
            simp only [Act.put, List.getElem_toArray, List.getElem_cons_succ, List.getElem_cons_zero, List.setIfInBounds_toArray, List.set_cons_zero, List.set_cons_succ]
            refine wpAnyH_take (i := 12) (v := .pointer (some ⟨gb, go + 1, none⟩)) rfl (by kernel_rfl) (by kernel_rfl) (by kernel_rfl) (fun _ _ _ h => h) (Or.inl ⟨by rfl, fun Wz hW => by obtain ⟨p0, p1, p2, p3⟩ := hW; go_simp⟩) hHeld ?_
            simp only [Act.put, List.getElem_toArray, List.getElem_cons_succ, List.getElem_cons_zero, List.setIfInBounds_toArray, List.set_cons_zero, List.set_cons_succ]
            refine wpAnyH_take (i := 13) (v := .int .i64 xp) rfl (by kernel_rfl) (by kernel_rfl) (by kernel_rfl) (fun _ _ _ h => h) (Or.inl ⟨by rfl, fun Wz hW => by obtain ⟨p0, p1, p2, p3⟩ := hW; go_simp⟩) hHeld ?_
            simp only [Act.put, List.getElem_toArray, List.getElem_cons_succ, List.getElem_cons_zero, List.setIfInBounds_toArray, List.set_cons_zero, List.set_cons_succ]
            refine wpAnyH_take (i := 14) (v := .pointer (some ⟨hb, 1, none⟩)) rfl (by kernel_rfl) (by kernel_rfl) (by kernel_rfl) (fun _ _ _ h => h) (Or.inl ⟨by rfl, fun Wz hW => by obtain ⟨p0, p1, p2, p3⟩ := hW; go_simp⟩) hHeld ?_
            simp only [Act.put, List.getElem_toArray, List.getElem_cons_succ, List.getElem_cons_zero, List.setIfInBounds_toArray, List.set_cons_zero, List.set_cons_succ]
            refine wpAnyH_take (i := 15) (v := .int .i64 xp) rfl (by kernel_rfl) (by kernel_rfl) (by kernel_rfl) (fun _ _ _ h => h) (Or.inl ⟨by rfl, fun Wz hW => by obtain ⟨p0, p1, p2, p3⟩ := hW; go_simp⟩) hHeld ?_
            simp only [Act.put, List.getElem_toArray, List.getElem_cons_succ, List.getElem_cons_zero, List.setIfInBounds_toArray, List.set_cons_zero, List.set_cons_succ]
            refine wpAnyH_take (i := 16) (v := .bool true) rfl (by kernel_rfl) (by kernel_rfl) (by kernel_rfl) (fun _ _ _ h => h) (Or.inl ⟨by rfl, fun Wz hW => by obtain ⟨p0, p1, p2, p3⟩ := hW; go_simp⟩) hHeld ?_
            simp only [Act.put, List.getElem_toArray, List.getElem_cons_succ, List.getElem_cons_zero, List.setIfInBounds_toArray, List.set_cons_zero, List.set_cons_succ]
            refine wpAnyH_take (i := 17) (v := .bool true) rfl (by kernel_rfl) (by kernel_rfl) (by kernel_rfl) (fun _ _ _ h => h) (Or.inl ⟨by rfl, fun Wz hW => by obtain ⟨p0, p1, p2, p3⟩ := hW; go_simp⟩) hHeld ?_
            simp only [Act.put, List.getElem_toArray, List.getElem_cons_succ, List.getElem_cons_zero, List.setIfInBounds_toArray, List.set_cons_zero, List.set_cons_succ]
            refine wpAnyH_take (i := 18) (v := .slice (some ⟨gb, g0, none⟩) l0 d7) rfl (by kernel_rfl) (by kernel_rfl) (by kernel_rfl) (fun _ _ _ h => h) (Or.inl ⟨by rfl, fun Wz hW => by obtain ⟨p0, p1, p2, p3⟩ := hW; go_simp⟩) hHeld ?_
            simp only [Act.put, List.getElem_toArray, List.getElem_cons_succ, List.getElem_cons_zero, List.setIfInBounds_toArray, List.set_cons_zero, List.set_cons_succ]
            refine wpAnyH_take (i := 19) (v := .int .i64 j) rfl (by kernel_rfl) (by kernel_rfl) (by kernel_rfl) (fun _ _ _ h => h) (Or.inl ⟨by rfl, fun Wz hW => by obtain ⟨p0, p1, p2, p3⟩ := hW; go_simp⟩) hHeld ?_
            simp only [Act.put, List.getElem_toArray, List.getElem_cons_succ, List.getElem_cons_zero, List.setIfInBounds_toArray, List.set_cons_zero, List.set_cons_succ]
            refine wpAnyH_take (i := 20) (v := .pointer (some ⟨gb, go, none⟩)) rfl (by kernel_rfl) (by kernel_rfl) (by kernel_rfl) (fun _ _ _ h => h) (Or.inl ⟨by rfl, fun Wz hW => by obtain ⟨p0, p1, p2, p3⟩ := hW; go_simp⟩) hHeld ?_
            simp only [Act.put, List.getElem_toArray, List.getElem_cons_succ, List.getElem_cons_zero, List.setIfInBounds_toArray, List.set_cons_zero, List.set_cons_succ]
            refine wpAnyH_take (i := 21) (v := .pointer (some ⟨gb, go, none⟩)) rfl (by kernel_rfl) (by kernel_rfl) (by kernel_rfl) (fun _ _ _ h => h) (Or.inl ⟨by rfl, fun Wz hW => by obtain ⟨p0, p1, p2, p3⟩ := hW; go_simp⟩) hHeld ?_
            simp only [Act.put, List.getElem_toArray, List.getElem_cons_succ, List.getElem_cons_zero, List.setIfInBounds_toArray, List.set_cons_zero, List.set_cons_succ]
            refine wpAnyH_take (i := 22) (v := .int .i64 xk) rfl (by kernel_rfl) (by kernel_rfl) (by kernel_rfl) (fun _ _ _ h => h) (Or.inl ⟨by rfl, fun Wz hW => by obtain ⟨p0, p1, p2, p3⟩ := hW; go_simp⟩) hHeld ?_
            simp only [Act.put, List.getElem_toArray, List.getElem_cons_succ, List.getElem_cons_zero, List.setIfInBounds_toArray, List.set_cons_zero, List.set_cons_succ]
            refine wpAnyH_take (i := 23) (v := .pointer (some ⟨hb, 0, none⟩)) rfl (by kernel_rfl) (by kernel_rfl) (by kernel_rfl) (fun _ _ _ h => h) (Or.inl ⟨by rfl, fun Wz hW => by obtain ⟨p0, p1, p2, p3⟩ := hW; go_simp⟩) hHeld ?_
            simp only [Act.put, List.getElem_toArray, List.getElem_cons_succ, List.getElem_cons_zero, List.setIfInBounds_toArray, List.set_cons_zero, List.set_cons_succ]
            refine wpAnyH_take (i := 24) (v := .int .i64 yk) rfl (by kernel_rfl) (by kernel_rfl) (by kernel_rfl) (fun _ _ _ h => h) (Or.inl ⟨by rfl, fun Wz hW => by obtain ⟨p0, p1, p2, p3⟩ := hW; go_simp⟩) hHeld ?_
            simp only [Act.put, List.getElem_toArray, List.getElem_cons_succ, List.getElem_cons_zero, List.setIfInBounds_toArray, List.set_cons_zero, List.set_cons_succ]
            refine wpAnyH_take (i := 25) (v := .bool false) rfl (by kernel_rfl) (by kernel_rfl) (by kernel_rfl) (fun _ _ _ h => h) (Or.inl ⟨by rfl, fun Wz hW => by obtain ⟨p0, p1, p2, p3⟩ := hW; go_simp⟩) hHeld ?_
            simp only [Act.put, List.getElem_toArray, List.getElem_cons_succ, List.getElem_cons_zero, List.setIfInBounds_toArray, List.set_cons_zero, List.set_cons_succ]
            refine wpAnyH_take (i := 26) (v := .bool false) rfl (by kernel_rfl) (by kernel_rfl) (by kernel_rfl) (fun _ _ _ h => h) (Or.inl ⟨by rfl, fun Wz hW => by obtain ⟨p0, p1, p2, p3⟩ := hW; go_simp⟩) hHeld ?_
            simp only [Act.put, List.getElem_toArray, List.getElem_cons_succ, List.getElem_cons_zero, List.setIfInBounds_toArray, List.set_cons_zero, List.set_cons_succ]
            refine wpAnyH_take (i := 27) (v := .bool false) rfl (by kernel_rfl) (by kernel_rfl) (by kernel_rfl) (fun _ _ _ h => h) (Or.inl ⟨by rfl, fun Wz hW => by obtain ⟨p0, p1, p2, p3⟩ := hW; go_simp⟩) hHeld ?_
            simp only [Act.put, List.getElem_toArray, List.getElem_cons_succ, List.getElem_cons_zero, List.setIfInBounds_toArray, List.set_cons_zero, List.set_cons_succ]
            refine wpAnyH_done (by kernel_rfl) ?_ _
            clear x0 x1 y0 y1
            go_wp2
            go_roundg (l0 - (j + 1))
            case measure => omega
            case rel => exact ⟨j + 1, hlt2, rfl, by go_num, KD1⟩
          · have hd2 : (xp == yp) = false := by simpa using he
            replace hle := Lib.hid hle
            replace he := Lib.hid he
            go_wp2_with fail
            have HELD : ∀ Wz, Keep wr Wz → (Wz.cell? ⟨gb, go, none⟩ = some (.int .i64 xk) ∧ Wz.cell? ⟨gb, go + 1, none⟩ = some (.int .i64 xp) ∧ Wz.cell? ⟨hb, 0, none⟩ = some (.int .i64 yk) ∧ Wz.cell? ⟨hb, 1, none⟩ = some (.int .i64 yp)) := fun Wz KK => ⟨KK.cell x0, KK.cell x1, KK.cell y0, KK.cell y1⟩
            refine wp_region_held_drew (S := fun w' => w'.cell? ⟨gb, go, none⟩ = some (.int .i64 xk) ∧ w'.cell? ⟨gb, go + 1, none⟩ = some (.int .i64 xp) ∧ w'.cell? ⟨hb, 0, none⟩ = some (.int .i64 yk) ∧ w'.cell? ⟨hb, 1, none⟩ = some (.int .i64 yp)) (by kernel_rfl) ?_ (fun hHeld => ?_)
            · exact HELD _ (by repeat (with_reducible first | exact Keep.refl wr | apply Keep.alloc | apply Keep.drew | apply Keep.drewN))
            refine wpAnyH_take (i := 0) (v := .slice (some ⟨gb, g0, none⟩) l0 d7) rfl (by kernel_rfl) (by kernel_rfl) (by kernel_rfl) (fun _ _ _ h => h) (Or.inl ⟨by rfl, fun Wz hW => by obtain ⟨p0, p1, p2, p3⟩ := hW; go_simp⟩) hHeld ?_
            simp only [Act.put, List.getElem_toArray, List.getElem_cons_zero, List.setIfInBounds_toArray, List.set_cons_zero, List.set_cons_succ]
            refine wpAnyH_take (i := 1) (v := .int .i64 j) rfl (by kernel_rfl) (by kernel_rfl) (by kernel_rfl) (fun _ _ _ h => h) (Or.inl ⟨by rfl, fun Wz hW => by obtain ⟨p0, p1, p2, p3⟩ := hW; go_simp⟩) hHeld ?_
            simp only [Act.put, List.getElem_toArray, List.getElem_cons_succ, List.getElem_cons_zero, List.setIfInBounds_toArray, List.set_cons_zero, List.set_cons_succ]
            refine wpAnyH_take (i := 2) (v := .pointer (some ⟨gb, go, none⟩)) rfl (by kernel_rfl) (by kernel_rfl) (by kernel_rfl) (fun _ _ _ h => h) (Or.inl ⟨by rfl, fun Wz hW => by obtain ⟨p0, p1, p2, p3⟩ := hW; go_simp⟩) hHeld ?_
            simp only [Act.put, List.getElem_toArray, List.getElem_cons_succ, List.getElem_cons_zero, List.setIfInBounds_toArray, List.set_cons_zero, List.set_cons_succ]
            refine wpAnyH_take (i := 3) (v := .pointer (some ⟨gb, go + 1, none⟩)) rfl (by kernel_rfl) (by kernel_rfl) (by kernel_rfl) (fun _ _ _ h => h) (Or.inl ⟨by rfl, fun Wz hW => by obtain ⟨p0, p1, p2, p3⟩ := hW; go_simp⟩) hHeld ?_
            simp only [Act.put, List.getElem_toArray, List.getElem_cons_succ, List.getElem_cons_zero, List.setIfInBounds_toArray, List.set_cons_zero, List.set_cons_succ]
            refine wpAnyH_take (i := 4) (v := .int .i64 xp) rfl (by kernel_rfl) (by kernel_rfl) (by kernel_rfl) (fun _ _ _ h => h) (Or.inl ⟨by rfl, fun Wz hW => by obtain ⟨p0, p1, p2, p3⟩ := hW; go_simp⟩) hHeld ?_
            simp only [Act.put, List.getElem_toArray, List.getElem_cons_succ, List.getElem_cons_zero, List.setIfInBounds_toArray, List.set_cons_zero, List.set_cons_succ]
            refine wpAnyH_take (i := 5) (v := .pointer (some ⟨hb, 1, none⟩)) rfl (by kernel_rfl) (by kernel_rfl) (by kernel_rfl) (fun _ _ _ h => h) (Or.inl ⟨by rfl, fun Wz hW => by obtain ⟨p0, p1, p2, p3⟩ := hW; go_simp⟩) hHeld ?_
            simp only [Act.put, List.getElem_toArray, List.getElem_cons_succ, List.getElem_cons_zero, List.setIfInBounds_toArray, List.set_cons_zero, List.set_cons_succ]
            refine wpAnyH_take (i := 6) (v := .int .i64 yp) rfl (by kernel_rfl) (by kernel_rfl) (by kernel_rfl) (fun _ _ _ h => h) (Or.inl ⟨by rfl, fun Wz hW => by obtain ⟨p0, p1, p2, p3⟩ := hW; go_simp⟩) hHeld ?_
            simp only [Act.put, List.getElem_toArray, List.getElem_cons_succ, List.getElem_cons_zero, List.setIfInBounds_toArray, List.set_cons_zero, List.set_cons_succ]
            refine wpAnyH_take (i := 7) (v := .bool false) rfl (by kernel_rfl) (by kernel_rfl) (by kernel_rfl) (fun _ _ _ h => h) (Or.inl ⟨by rfl, fun Wz hW => by obtain ⟨p0, p1, p2, p3⟩ := hW; go_simp⟩) hHeld ?_
            simp only [Act.put, List.getElem_toArray, List.getElem_cons_succ, List.getElem_cons_zero, List.setIfInBounds_toArray, List.set_cons_zero, List.set_cons_succ]
            refine wpAnyH_take (i := 8) (v := .bool false) rfl (by kernel_rfl) (by kernel_rfl) (by kernel_rfl) (fun _ _ _ h => h) (Or.inl ⟨by rfl, fun Wz hW => by obtain ⟨p0, p1, p2, p3⟩ := hW; go_simp⟩) hHeld ?_
            simp only [Act.put, List.getElem_toArray, List.getElem_cons_succ, List.getElem_cons_zero, List.setIfInBounds_toArray, List.set_cons_zero, List.set_cons_succ]
            refine wpAnyH_take (i := 9) (v := .slice (some ⟨gb, g0, none⟩) l0 d7) rfl (by kernel_rfl) (by kernel_rfl) (by kernel_rfl) (fun _ _ _ h => h) (Or.inl ⟨by rfl, fun Wz hW => by obtain ⟨p0, p1, p2, p3⟩ := hW; go_simp⟩) hHeld ?_
            simp only [Act.put, List.getElem_toArray, List.getElem_cons_succ, List.getElem_cons_zero, List.setIfInBounds_toArray, List.set_cons_zero, List.set_cons_succ]
            refine wpAnyH_take (i := 10) (v := .int .i64 j) rfl (by kernel_rfl) (by kernel_rfl) (by kernel_rfl) (fun _ _ _ h => h) (Or.inl ⟨by rfl, fun Wz hW => by obtain ⟨p0, p1, p2, p3⟩ := hW; go_simp⟩) hHeld ?_
            simp only [Act.put, List.getElem_toArray, List.getElem_cons_succ, List.getElem_cons_zero, List.setIfInBounds_toArray, List.set_cons_zero, List.set_cons_succ]
            refine wpAnyH_take (i := 11) (v := .pointer (some ⟨gb, go, none⟩)) rfl (by kernel_rfl) (by kernel_rfl) (by kernel_rfl) (fun _ _ _ h => h) (Or.inl ⟨by rfl, fun Wz hW => by obtain ⟨p0, p1, p2, p3⟩ := hW; go_simp⟩) hHeld ?_
            simp only [Act.put, List.getElem_toArray, List.getElem_cons_succ, List.getElem_cons_zero, List.setIfInBounds_toArray, List.set_cons_zero, List.set_cons_succ]
            refine wpAnyH_take (i := 12) (v := .pointer (some ⟨gb, go + 1, none⟩)) rfl (by kernel_rfl) (by kernel_rfl) (by kernel_rfl) (fun _ _ _ h => h) (Or.inl ⟨by rfl, fun Wz hW => by obtain ⟨p0, p1, p2, p3⟩ := hW; go_simp⟩) hHeld ?_
            simp only [Act.put, List.getElem_toArray, List.getElem_cons_succ, List.getElem_cons_zero, List.setIfInBounds_toArray, List.set_cons_zero, List.set_cons_succ]
            refine wpAnyH_take (i := 13) (v := .int .i64 xp) rfl (by kernel_rfl) (by kernel_rfl) (by kernel_rfl) (fun _ _ _ h => h) (Or.inl ⟨by rfl, fun Wz hW => by obtain ⟨p0, p1, p2, p3⟩ := hW; go_simp⟩) hHeld ?_
            simp only [Act.put, List.getElem_toArray, List.getElem_cons_succ, List.getElem_cons_zero, List.setIfInBounds_toArray, List.set_cons_zero, List.set_cons_succ]
            refine wpAnyH_take (i := 14) (v := .pointer (some ⟨hb, 1, none⟩)) rfl (by kernel_rfl) (by kernel_rfl) (by kernel_rfl) (fun _ _ _ h => h) (Or.inl ⟨by rfl, fun Wz hW => by obtain ⟨p0, p1, p2, p3⟩ := hW; go_simp⟩) hHeld ?_
            simp only [Act.put, List.getElem_toArray, List.getElem_cons_succ, List.getElem_cons_zero, List.setIfInBounds_toArray, List.set_cons_zero, List.set_cons_succ]
            refine wpAnyH_take (i := 15) (v := .int .i64 yp) rfl (by kernel_rfl) (by kernel_rfl) (by kernel_rfl) (fun _ _ _ h => h) (Or.inl ⟨by rfl, fun Wz hW => by obtain ⟨p0, p1, p2, p3⟩ := hW; go_simp⟩) hHeld ?_
            simp only [Act.put, List.getElem_toArray, List.getElem_cons_succ, List.getElem_cons_zero, List.setIfInBounds_toArray, List.set_cons_zero, List.set_cons_succ]
            refine wpAnyH_take (i := 16) (v := .bool false) rfl (by kernel_rfl) (by kernel_rfl) (by kernel_rfl) (fun _ _ _ h => h) (Or.inl ⟨by rfl, fun Wz hW => by obtain ⟨p0, p1, p2, p3⟩ := hW; go_simp⟩) hHeld ?_
            simp only [Act.put, List.getElem_toArray, List.getElem_cons_succ, List.getElem_cons_zero, List.setIfInBounds_toArray, List.set_cons_zero, List.set_cons_succ]
            refine wpAnyH_take (i := 17) (v := .bool false) rfl (by kernel_rfl) (by kernel_rfl) (by kernel_rfl) (fun _ _ _ h => h) (Or.inl ⟨by rfl, fun Wz hW => by obtain ⟨p0, p1, p2, p3⟩ := hW; go_simp⟩) hHeld ?_
            simp only [Act.put, List.getElem_toArray, List.getElem_cons_succ, List.getElem_cons_zero, List.setIfInBounds_toArray, List.set_cons_zero, List.set_cons_succ]
            refine wpAnyH_take (i := 18) (v := undef) rfl (by kernel_rfl) (by kernel_rfl) (by kernel_rfl) (fun _ _ _ h => h) (Or.inr ⟨by rfl, rfl⟩) hHeld ?_
            simp only [Act.put, List.getElem_toArray, List.getElem_cons_succ, List.getElem_cons_zero, List.setIfInBounds_toArray, List.set_cons_zero, List.set_cons_succ]
            refine wpAnyH_take (i := 19) (v := undef) rfl (by kernel_rfl) (by kernel_rfl) (by kernel_rfl) (fun _ _ _ h => h) (Or.inr ⟨by rfl, rfl⟩) hHeld ?_
            simp only [Act.put, List.getElem_toArray, List.getElem_cons_succ, List.getElem_cons_zero, List.setIfInBounds_toArray, List.set_cons_zero, List.set_cons_succ]
            refine wpAnyH_take (i := 20) (v := undef) rfl (by kernel_rfl) (by kernel_rfl) (by kernel_rfl) (fun _ _ _ h => h) (Or.inr ⟨by rfl, rfl⟩) hHeld ?_
            simp only [Act.put, List.getElem_toArray, List.getElem_cons_succ, List.getElem_cons_zero, List.setIfInBounds_toArray, List.set_cons_zero, List.set_cons_succ]
            refine wpAnyH_take (i := 21) (v := undef) rfl (by kernel_rfl) (by kernel_rfl) (by kernel_rfl) (fun _ _ _ h => h) (Or.inr ⟨by rfl, rfl⟩) hHeld ?_
            simp only [Act.put, List.getElem_toArray, List.getElem_cons_succ, List.getElem_cons_zero, List.setIfInBounds_toArray, List.set_cons_zero, List.set_cons_succ]
            refine wpAnyH_take (i := 22) (v := undef) rfl (by kernel_rfl) (by kernel_rfl) (by kernel_rfl) (fun _ _ _ h => h) (Or.inr ⟨by rfl, rfl⟩) hHeld ?_
            simp only [Act.put, List.getElem_toArray, List.getElem_cons_succ, List.getElem_cons_zero, List.setIfInBounds_toArray, List.set_cons_zero, List.set_cons_succ]
            refine wpAnyH_take (i := 23) (v := undef) rfl (by kernel_rfl) (by kernel_rfl) (by kernel_rfl) (fun _ _ _ h => h) (Or.inr ⟨by rfl, rfl⟩) hHeld ?_
            simp only [Act.put, List.getElem_toArray, List.getElem_cons_succ, List.getElem_cons_zero, List.setIfInBounds_toArray, List.set_cons_zero, List.set_cons_succ]
            refine wpAnyH_take (i := 24) (v := undef) rfl (by kernel_rfl) (by kernel_rfl) (by kernel_rfl) (fun _ _ _ h => h) (Or.inr ⟨by rfl, rfl⟩) hHeld ?_
            simp only [Act.put, List.getElem_toArray, List.getElem_cons_succ, List.getElem_cons_zero, List.setIfInBounds_toArray, List.set_cons_zero, List.set_cons_succ]
            refine wpAnyH_take (i := 25) (v := undef) rfl (by kernel_rfl) (by kernel_rfl) (by kernel_rfl) (fun _ _ _ h => h) (Or.inr ⟨by rfl, rfl⟩) hHeld ?_
            simp only [Act.put, List.getElem_toArray, List.getElem_cons_succ, List.getElem_cons_zero, List.setIfInBounds_toArray, List.set_cons_zero, List.set_cons_succ]
            refine wpAnyH_take (i := 26) (v := .bool false) rfl (by kernel_rfl) (by kernel_rfl) (by kernel_rfl) (fun _ _ _ h => h) (Or.inl ⟨by rfl, fun Wz hW => by obtain ⟨p0, p1, p2, p3⟩ := hW; go_simp⟩) hHeld ?_
            simp only [Act.put, List.getElem_toArray, List.getElem_cons_succ, List.getElem_cons_zero, List.setIfInBounds_toArray, List.set_cons_zero, List.set_cons_succ]
            refine wpAnyH_take (i := 27) (v := .bool false) rfl (by kernel_rfl) (by kernel_rfl) (by kernel_rfl) (fun _ _ _ h => h) (Or.inl ⟨by rfl, fun Wz hW => by obtain ⟨p0, p1, p2, p3⟩ := hW; go_simp⟩) hHeld ?_
            simp only [Act.put, List.getElem_toArray, List.getElem_cons_succ, List.getElem_cons_zero, List.setIfInBounds_toArray, List.set_cons_zero, List.set_cons_succ]
            refine wpAnyH_done (by kernel_rfl) ?_ _
            clear x0 x1 y0 y1
            go_wp2
            go_roundg (l0 - (j + 1))
            case measure => omega
            case rel => exact ⟨j + 1, hlt2, rfl, by go_num, KD1⟩
        · have hjn : ¬ (j : Int) < (l0 : Int) := by omega
          go_wp2
          go_ret
          refine ⟨?_, K7.out.trans D.out.keep⟩
          show Ending.returned (.bool (bv == decide (0 < n))) = _
          rw [hbv.out, beq_self_eq_true]
end Go.Proofs.YtmbeghngnnpmlaaDoor.T11
