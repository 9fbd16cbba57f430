/-
  The reference's Change. Conditions: at most 1000 nodes, sorted, each in order; at most 1000 amounts.
-/
import Derived.Test.YtokopegffeablaaDoorAmtN12
import Derived.StillTailTactics
import Derived.Deep.CutBlock
namespace Go.Proofs.YtokopegffeablaaDoor.T12
open Go.RowKit Go.Sort Go.Lib V12

/-- A usage that is changed as far as m. -/
def part (r : Bool) (U Z : Nat → Int) (m : Nat) : Nat → Int := fun t => if t < m then chU r U Z t else U t
theorem part_zero (r : Bool) (U Z : Nat → Int) : part r U Z 0 = U := funext fun _ => if_neg (Nat.not_lt_zero _)
theorem part_at (r : Bool) (U Z : Nat → Int) (m : Nat) : part r U Z m m = U m := if_neg (Nat.lt_irrefl _)
theorem part_set (r : Bool) (U Z : Nat → Int) {n m : Nat} (h : m < n) : (rowL n (part r U Z m)).set m (.int .i64 (chU r U Z m)) = rowL n (part r U Z (m + 1)) := by
  refine List.ext_getElem? fun j => ?_
  rw [List.getElem?_set]
  by_cases e : m = j
  · subst e
    simp [rowL, part, h]
  · rw [if_neg e]
    by_cases hj : j < n
    · have e2 : part r U Z m j = part r U Z (m + 1) j := by
        unfold part
        by_cases hm : j < m
        · rw [if_pos hm, if_pos (by omega)]
        · rw [if_neg hm, if_neg (by omega)]
      simp [rowL, hj, e2]
    · simp [rowL, hj]
theorem part_full (r : Bool) (U Z : Nat → Int) (n : Nat) : rowL n (part r U Z n) = rowL n (chU r U Z) :=
  List.map_congr_left fun k hk => by show Value.int _ (if k < n then _ else _) = _; rw [if_pos (List.mem_range.1 hk)]
theorem own_cellI {w : World} {base g n cap j : Nat} {D : Nat → Int} (h : w.ownsRow base 2 1 (.slice (some ⟨g, 0, none⟩) n cap) n (rowL n D)) (hj : j < n) : w.cell? ⟨g, j, none⟩ = some (.int .i64 (D j)) := by
  rw [h.cellAt j (by omega)]
  simp [rowL, hj]
/-- A row of nodes with another usage at i. -/
theorem celN_put {w : World} {g n i : Nat} {Q : Nat → RnV} {B : Option Addr} {m d : Nat} (U : Nat → Int) (h : ∀ j, j < n → CelN w g (0 + j * 3) (Q j)) (hi : i < n) : ∀ j, j < n →
    CelN (w.setCell ⟨g, i * 3 + 2, none⟩ (.slice B m d)) g (0 + j * 3) (put Q i ⟨(Q i).k, (Q i).A, (Q i).n, (Q i).c, (Q i).C, B, m, d, U⟩ j) := by
  intro j hj
  have c := h j hj
  have ci := h i hi
  rw [Nat.zero_add] at c ci ⊢
  by_cases e : j = i
  · subst e
    rw [put_at]
    refine ⟨?_, ?_, World.cell?_setCell_same _ _ _ (u := .slice (Q j).B (Q j).m (Q j).d) ci.e2⟩
    · rw [World.cell?_setCell_other (a := ⟨g, j * 3 + 2, none⟩) (b := ⟨g, j * 3, none⟩) (h := by simp)]
      exact ci.e0
    · rw [World.cell?_setCell_other (a := ⟨g, j * 3 + 2, none⟩) (b := ⟨g, j * 3 + 1, none⟩) (h := by simp)]
      exact ci.e1
  · rw [put_ne _ _ _ e]
    refine ⟨?_, ?_, ?_⟩
    · rw [World.cell?_setCell_other (a := ⟨g, i * 3 + 2, none⟩) (b := ⟨g, j * 3, none⟩) (h := by simp <;> omega)]
      exact c.e0
    · rw [World.cell?_setCell_other (a := ⟨g, i * 3 + 2, none⟩) (b := ⟨g, j * 3 + 1, none⟩) (h := by simp <;> omega)]
      exact c.e1
    · rw [World.cell?_setCell_other (a := ⟨g, i * 3 + 2, none⟩) (b := ⟨g, j * 3 + 2, none⟩) (h := by simp <;> omega)]
      exact c.e2
/-- The list with x in place of the one with its key. -/
theorem rep_put {P : Nat → RnV} {n i : Nat} {x : RnV} (hs : Srt (lst P n)) (hi : i < n) (hk : (P i).k = x.k) : ∀ j, j < n → put P i x j = row (repL (lst P n) x) j := by
  intro j hj
  have e1 : (repL (lst P n) x)[j]? = some (if (P j).k = x.k then x else P j) := by unfold repL; rw [List.getElem?_map, lst_get hj]; rfl
  unfold row
  rw [List.getD_eq_getElem?_getD, e1]
  show _ = if (P j).k = x.k then x else P j
  by_cases e : j = i
  · subst e
    rw [put_at, if_pos hk]
  · rw [put_ne _ _ _ e, if_neg]
    intro h2
    have hp := srt_keys.1 hs
    unfold keys at hp
    rw [List.pairwise_map] at hp
    have g : ∀ s t, s < t → t < n → (P s).k < (P t).k := fun s t h1 h3 => by
      have hq := List.pairwise_iff_getElem.1 hp s t (by rw [lst_len]; omega) (by rw [lst_len]; omega) h1
      have e1 := lst_get (Q := P) (n := n) (j := s) (by omega)
      have e2 := lst_get (Q := P) (n := n) (j := t) h3
      rw [List.getElem?_eq_getElem (by rw [lst_len]; omega)] at e1 e2
      rw [Option.some.inj e1, Option.some.inj e2] at hq
      exact hq
    rcases Nat.lt_or_gt_of_ne e with h3 | h3
    · have := g j i h3 hi
      omega
    · have := g i j h3 hj
      omega
theorem map_rep (x : RnV) (L : List RnV) : (repL L x).map node = G.rep NodeV.k (L.map node) (node x) := G.map_rep (ka := RnV.k) (kb := NodeV.k) node_k L x
theorem map_get (L : List RnV) (id : Int) : node (getL L id) = G.get NodeV.k zn (L.map node) id := G.map_get (ka := RnV.k) (kb := NodeV.k) node_k zp L id
def cdOk (b : Bool) : Int := if b = true then 0 else 10
end Go.Proofs.YtokopegffeablaaDoor.T12
