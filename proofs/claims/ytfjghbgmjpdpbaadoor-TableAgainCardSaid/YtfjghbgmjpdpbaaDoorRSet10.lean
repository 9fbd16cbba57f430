/-
  The reference's Set. Condition: at most 1000 pairs.
-/
import Derived.Test.YtfjghbgmjpdpbaaDoorRAdd10
namespace Go.Proofs.YtfjghbgmjpdpbaaDoor.T10
open Go.RowKit Go.Sort Go.Lib

/-- A row with x at i. -/
theorem cel_put {w : World} {g n i : Nat} {Q : Nat → PrV} {x : PrV} (h : ∀ j, j < n → Cel2 w g (0 + j * 2) (Q j)) (hi : i < n) : ∀ j, j < n →
    Cel2 ((w.setCell ⟨g, i * 2, none⟩ (.int .i64 x.k)).setCell ⟨g, i * 2 + 1, none⟩ (.int .i64 x.v)) g (0 + j * 2) (put Q i x j) := by
  intro j hj
  have c := h j hj
  have ci := h i hi
  rw [Nat.zero_add] at c ci ⊢
  by_cases e : j = i
  · subst e
    rw [put_at]
    refine ⟨?_, ?_⟩
    · rw [World.cell?_setCell_other (a := ⟨g, j * 2 + 1, none⟩) (b := ⟨g, j * 2, none⟩) (h := by simp)]
      exact World.cell?_setCell_same _ _ _ ci.e0
    · refine World.cell?_setCell_same _ _ _ (u := .int .i64 (Q j).v) ?_
      rw [World.cell?_setCell_other (a := ⟨g, j * 2, none⟩) (b := ⟨g, j * 2 + 1, none⟩) (h := by simp)]
      exact ci.e1
  · rw [put_ne _ _ _ e]
    refine ⟨?_, ?_⟩
    · rw [World.cell?_setCell_other (a := ⟨g, i * 2 + 1, none⟩) (b := ⟨g, j * 2, none⟩) (h := by simp <;> omega), World.cell?_setCell_other (a := ⟨g, i * 2, none⟩) (b := ⟨g, j * 2, none⟩) (h := by simp <;> omega)]
      exact c.e0
    · rw [World.cell?_setCell_other (a := ⟨g, i * 2 + 1, none⟩) (b := ⟨g, j * 2 + 1, none⟩) (h := by simp <;> omega), World.cell?_setCell_other (a := ⟨g, i * 2, none⟩) (b := ⟨g, j * 2 + 1, none⟩) (h := by simp <;> omega)]
      exact c.e1
/-- The list with x in place of the first one with its key. -/
theorem rep_put {P : Nat → PrV} {n i : Nat} {x : PrV} (hs : Srt (lst P n)) (hi : i < n) (hk : (P i).k = x.k) : ∀ j, j < n → put P i x j = row (repL (lst P n) x) j := by
  intro j hj
  have e1 : (repL (lst P n) x)[j]? = some (if (P j).k = x.k then x else P j) := by unfold repL; rw [List.getElem?_map, lst_get hj]; rfl
  unfold row
  rw [List.getD_eq_getElem?_getD, e1]
  show _ = if (P j).k = x.k then x else P j
  by_cases e : j = i
  · subst e
    rw [put_at, if_pos hk]
  · rw [put_ne _ _ _ e, if_neg]
    intro h2
    have hp := srt_keys.1 hs
    unfold keys at hp
    rw [List.pairwise_map] at hp
    have g : ∀ s t, s < t → t < n → (P s).k < (P t).k := fun s t h1 h3 => by
      have hq := List.pairwise_iff_getElem.1 hp s t (by rw [lst_len]; omega) (by rw [lst_len]; omega) h1
      have e1 := lst_get (Q := P) (n := n) (j := s) (by omega)
      have e2 := lst_get (Q := P) (n := n) (j := t) h3
      rw [List.getElem?_eq_getElem (by rw [lst_len]; omega)] at e1 e2
      rw [Option.some.inj e1, Option.some.inj e2] at hq
      exact hq
    rcases Nat.lt_or_gt_of_ne e with h3 | h3
    · have := g j i h3 hi
      omega
    · have := g i j h3 hj
      omega
theorem rset_none (A : Option Addr) (n c : Nat) (P : Nat → PrV) (x : PrV) (w : World) (hR : RdP w A n P) (hA : Pl A n c) (hc : n ≤ c) (hk : x.k ∉ keys (lst P n)) :
    Calls Tryd.prog 28 #[.slice A n c, x.val] w fun e w' => ∃ B d, e = .returned (.tuple #[.slice B n d, .int .i64 5]) ∧ RList w w' B d (lst P n) := by
  have el : (lst P n).length = n := lst_len P n
  have cF := Lib.hid (rfind_fn A n c P x.k (w.alloc (.cells #[.int .i64 x.k, .int .i64 x.v] 30)) (hR.keep (Keep.one _ _)))
  have fk := find_iff (P := P) (id := x.k) (n := n)
  obtain ⟨r, hr⟩ : ∃ r, r = findN P x.k n := ⟨_, rfl⟩
  rw [← hr] at cF fk
  replace hr := Lib.hid hr
  have hin2 : r < 0 := by have := mt fk.1 hk; omega
  have fin : Hid (RList w (w.alloc (.cells #[.int .i64 x.k, .int .i64 x.v] 30)) A c (lst P n)) := ⟨Keep.one _ _, by rw [el]; exact (hR.keep (Keep.one _ _)).congr (fun j hj => (row_lst hj).symm), by rw [el]; exact hA, by rw [el]; exact hc⟩
  replace fk := Lib.hid fk
  replace el := Lib.hid el
  replace hk := Lib.hid hk
  unfold PrV.val
  clear hR hA
  go_enter Tryd.func28, Tryd.ntmps28
  go_wp2_with fail
  refine cF.out.mono ?_
  rintro e w1 ⟨rfl, rfl⟩
  clear cF
  go_wp2
  go_ret2
  exact ⟨A, c, rfl, fin.out⟩
set_option maxRecDepth 100000 in
set_option maxHeartbeats 4000000 in
theorem rset_some (A : Option Addr) (n c : Nat) (P : Nat → PrV) (x : PrV) (w : World) (hR : RdP w A n P) (hA : Pl A n c) (hn : n ≤ 1000) (hx : PrOk x) (hs : Srt (lst P n)) (hk : x.k ∈ keys (lst P n)) :
    Calls Tryd.prog 28 #[.slice A n c, x.val] w fun e w' => ∃ B d, e = .returned (.tuple #[.slice B n d, .int .i64 0]) ∧ RList w w' B d (repL (lst P n) x) := by
  have cF := Lib.hid (rfind_fn A n c P x.k (w.alloc (.cells #[.int .i64 x.k, .int .i64 x.v] 30)) (hR.keep (Keep.one _ _)))
  have fc := find_cases P x.k n
  obtain ⟨i, hi, hf, hki⟩ : ∃ i, i < n ∧ findN P x.k n = (i : Int) ∧ (P i).k = x.k := by
    rcases fc with ⟨_, h⟩ | ⟨j, h1, h2, h3, _⟩
    · exact absurd hk h
    · exact ⟨j, h1, h2, h3⟩
  rw [hf] at cF
  have hput := Lib.hid (rep_put (x := x) hs hi hki)
  have el : (repL (lst P n) x).length = n := by rw [rep_len, lst_len]
  have okL : Hid (∀ y ∈ repL (lst P n) x, PrOk y) := fun y hy => by
    rcases rep_mem hy with hy | rfl
    · exact lst_ok hR.ok y hy
    · exact hx
  obtain ⟨L2, hL2⟩ : ∃ L2, L2 = repL (lst P n) x := ⟨_, rfl⟩
  rw [← hL2] at hput el okL ⊢
  replace hL2 := Lib.hid hL2
  replace el := Lib.hid el
  replace hf := Lib.hid hf
  replace hs := Lib.hid hs
  replace hk := Lib.hid hk
  replace hki := Lib.hid hki
  replace hx := Lib.hid hx
  clear fc
  have hR2 := hR.keep (Keep.one w (.cells #[.int .i64 x.k, .int .i64 x.v] 30))
  obtain ⟨W, hW⟩ : ∃ W, W = w.alloc (.cells #[.int .i64 x.k, .int .i64 x.v] 30) := ⟨_, rfl⟩
  have KW : Hid (Keep w W) := by rw [hW]; exact Keep.one _ _
  have X : Cel2 W w.heap.size 0 x := by rw [hW]; exact cel_laid w x _ _ rfl
  have sW : Hid (w.heap.size < W.heap.size) := cell_lt X.e0
  have x0 := X.e0
  have x1 := X.e1
  clear X
  have RW : Hid (RdP W A n P) := by rw [hW]; exact hR2
  clear hR hR2
  unfold PrV.val
  go_enter Tryd.func28, Tryd.ntmps28
  go_wp2_with fail
  refine cF.out.mono ?_
  rintro e w1 ⟨rfl, rfl⟩
  clear cF
  rw [← hW]
  replace hW := Lib.hid hW
  obtain ⟨b, off, rfl⟩ : ∃ b off, A = some ⟨b, off, none⟩ := by
    obtain ⟨b, off, e, _⟩ := RW.out.adr (by omega)
    exact ⟨b, off, e⟩
  have CA : Hid (∀ j, j < n → Cel2 W b (off + j * 2) (P j)) := fun j hj => by
    obtain ⟨b', off', e', ca⟩ := RW.out.adr (by omega)
    have e2 := Option.some.inj e'
    simp only [Addr.mk.injEq, and_true] at e2
    obtain ⟨rfl, rfl⟩ := e2
    exact ca j hj
  go_wp2_with (at_builtin; refine wpl_own Tryd.tyR10 rfl _ _ rfl W.heap.size (.slice (some ⟨W.heap.size, 0, none⟩) 0 0) 0 [] (by simp [Act.eval]) (own_empty (Nat.le_refl _) (heap_alloc_new _ _)) (.slice (some ⟨b, off, none⟩) n c) n (prCs P n) (by simp [Act.eval]) (src_lo CA.out (Nat.le_refl _) (Keep.one _ _)) (prCs_one _ _) (by omega) (by simp) n (Nat.zero_add _) ?_; intro v3 w3 hr3 hg3; have K3 : Hid (Keep W w3) := keep_grown (Keep.one _ _) hg3 (fun q hq => by simp [Value.ownBlock] at hq; omega); rw [List.nil_append] at hr3; obtain ⟨B4, d4, hB4, _⟩ := own_form hr3; subst hB4; have y0 := K3.out.cell x0; have y1 := K3.out.cell x1; replace hg3 := Lib.hid hg3; obtain ⟨g, cap, hB5, hg5, hg6⟩ := hr3.form (by omega); simp only [Value.slice.injEq] at hB5; obtain ⟨rfl, _, rfl⟩ := hB5; have q1 := atR g 0 n d4 i hi; have Z : Hid (∀ j, j < n → Cel2 w3 g (0 + j * 2) (P j)) := (fun j hj => row_cel hr3 hj); have z0 := (Z.out i hi).e0; have z1 := (Z.out i hi).e1; rw [Nat.zero_add] at q1 z0 z1; have f0 := hr3.frozenAt (i * 2); have f1 := hr3.frozenAt (i * 2 + 1); have fz := Lib.hid hr3)
  go_ret2
  refine ⟨_, _, rfl, ?_⟩
  have gl : Hid (W.heap.size ≤ g) := (fz.out.lt g rfl).1
  have KK : Keep w ((w3.setCell ⟨g, i * 2, none⟩ (.int .i64 x.k)).setCell ⟨g, i * 2 + 1, none⟩ (.int .i64 x.v)) := Keep.set (Keep.set (KW.out.trans K3.out) (Nat.le_trans (Nat.le_of_lt sW.out) gl.out) _) (Nat.le_trans (Nat.le_of_lt sW.out) gl.out) _
  refine ⟨KK, ?_, by rw [el.out]; exact Or.inr ⟨g, 0, rfl⟩, by rw [el.out]; exact own_cap fz.out⟩
  rw [el.out]
  refine ⟨by omega, fun _ => ⟨g, 0, rfl, fun j hj => ?_⟩, fun j hj => row_ok okL.out j (by rw [el.out]; exact hj)⟩
  rw [← hput.out j hj]
  exact cel_put Z.out hi j hj
end Go.Proofs.YtfjghbgmjpdpbaaDoor.T10
