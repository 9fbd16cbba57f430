/-
  The order of pairs; sorted lists of them. No condition, no walk.
-/
import Derived.Test.YtokopegffeablaaDoorRowN12
namespace Go.Proofs.YtokopegffeablaaDoor.T12
open Go.RowKit Go.Lib

def befN (x y : RnV) : Bool := decide (x.k < y.k)
theorem bef_iff (x y : RnV) : befN x y = true ↔ x.k < y.k := by unfold befN; rw [decide_eq_true_eq]
theorem bef_no (x y : RnV) : befN x y = false ↔ ¬ x.k < y.k := by unfold befN; rw [decide_eq_false_iff_not]
theorem bef_asymm {x y : RnV} (h : befN x y = true) : befN y x = false := by rw [bef_iff] at h; rw [bef_no]; omega
theorem bef_irrefl (x : RnV) : befN x x = false := by rw [bef_no]; omega
theorem bef_trans {x y z : RnV} (h : befN x y = true) (k : befN y z = true) : befN x z = true := by rw [bef_iff] at *; omega
theorem bef_total {x y : RnV} (h : x.k ≠ y.k) (k : befN x y = false) : befN y x = true := by rw [bef_no] at k; rw [bef_iff]; omega
def Srt (L : List RnV) : Prop := L.Pairwise fun x y => befN x y = true
def insL (x : RnV) : List RnV → List RnV
  | [] => [x]
  | y :: L => if befN x y = true then x :: y :: L else y :: insL x L
def keys (L : List RnV) : List Int := L.map (·.k)
def woL (L : List RnV) (id : Int) : List RnV := L.filter fun y => decide (y.k ≠ id)
def getL (L : List RnV) (id : Int) : RnV := (L.find? fun y => decide (y.k = id)).getD zp
theorem ins_perm (x : RnV) : ∀ L, (insL x L).Perm (x :: L)
  | [] => List.Perm.refl _
  | y :: L => by
    unfold insL
    split
    · exact List.Perm.refl _
    · exact ((ins_perm x L).cons y).trans (List.Perm.swap x y L)
theorem ins_mem {x y : RnV} {L : List RnV} : y ∈ insL x L ↔ y = x ∨ y ∈ L := by rw [(ins_perm x L).mem_iff, List.mem_cons]
theorem ins_sorted {x : RnV} : ∀ {L}, Srt L → x.k ∉ keys L → Srt (insL x L)
  | [], _, _ => List.pairwise_singleton _ _
  | y :: L, h, hk => by
    have h' := h
    unfold Srt at h'
    rw [List.pairwise_cons] at h'
    have hk2 : x.k ≠ y.k ∧ x.k ∉ keys L := by unfold keys at hk ⊢; rw [List.map_cons, List.mem_cons, not_or] at hk; exact hk
    unfold insL
    split
    · rename_i hb
      unfold Srt
      rw [List.pairwise_cons]
      refine ⟨fun z hz => ?_, h⟩
      rcases List.mem_cons.1 hz with rfl | hz
      · exact hb
      · exact bef_trans hb (h'.1 z hz)
    · rename_i hb
      unfold Srt
      rw [List.pairwise_cons]
      refine ⟨fun z hz => ?_, ins_sorted h'.2 hk2.2⟩
      rcases ins_mem.1 hz with rfl | hz
      · exact bef_total hk2.1 (by cases e : befN z y <;> simp_all)
      · exact h'.1 z hz
theorem ins_len (x : RnV) (L : List RnV) : (insL x L).length = L.length + 1 := by rw [(ins_perm x L).length_eq]; rfl
theorem ins_keys {x : RnV} {L : List RnV} (h : (keys L).Nodup) (hk : x.k ∉ keys L) : (keys (insL x L)).Nodup := by
  have : (keys (insL x L)).Perm (x.k :: keys L) := (ins_perm x L).map _
  rw [this.nodup_iff, List.nodup_cons]
  exact ⟨hk, h⟩
theorem ins_form {x : RnV} : ∀ {L : List RnV} {i : Nat}, Srt L → i ≤ L.length → (∀ j y, i ≤ j → L[j]? = some y → befN x y = true) → (∀ y, 0 < i → L[i - 1]? = some y → befN x y = false) → L.take i ++ [x] ++ L.drop i = insL x L
  | [], i, _, hi, _, _ => by
    obtain rfl : i = 0 := by simpa using hi
    rfl
  | y :: L, 0, _, _, h1, _ => by
    unfold insL
    rw [if_pos (h1 0 y (Nat.le_refl _) rfl)]
    rfl
  | y :: L, i + 1, hs, hi, h1, h2 => by
    have hs' := hs
    unfold Srt at hs'
    rw [List.pairwise_cons] at hs'
    have hy : befN x y = false := by
      cases i with
      | zero => exact h2 y (by omega) rfl
      | succ i =>
        have hl : i < L.length := by simp at hi; omega
        have h3 := h2 L[i] (by omega) (by simp [List.getElem?_eq_getElem hl])
        cases e : befN x y with
        | false => rfl
        | true =>
          rw [bef_trans e (hs'.1 _ (List.getElem_mem hl))] at h3
          exact absurd h3 (by decide)
    unfold insL
    rw [if_neg (by rw [hy]; decide), ← ins_form (i := i) hs'.2 (by simp at hi; omega) (fun j z hj hz => h1 (j + 1) z (by omega) (by simpa using hz)) (fun z hz e => h2 z (by omega) (by
      obtain ⟨i', rfl⟩ : ∃ i', i = i' + 1 := ⟨i - 1, by omega⟩
      simpa using e))]
    rfl
theorem wo_sorted {L : List RnV} {id : Int} (h : Srt L) : Srt (woL L id) := h.sublist List.filter_sublist
theorem wo_keys {L : List RnV} {id : Int} (h : (keys L).Nodup) : (keys (woL L id)).Nodup := h.sublist (List.filter_sublist.map _)
theorem wo_mem {L : List RnV} {id : Int} {y : RnV} (h : y ∈ woL L id) : y ∈ L := (List.mem_filter.1 h).1
theorem wo_none {L : List RnV} {id : Int} (h : id ∉ keys L) : woL L id = L :=
  List.filter_eq_self.2 fun y hy => decide_eq_true fun e => h (by rw [← e]; exact List.mem_map_of_mem hy)
theorem get_none {L : List RnV} {id : Int} (h : id ∉ keys L) : getL L id = zp := by
  unfold getL
  rw [List.find?_eq_none.2 fun y hy => by simpa using fun e => h (by rw [← e]; exact List.mem_map_of_mem hy)]
  rfl
theorem get_some {L : List RnV} {id : Int} (h : id ∈ keys L) : getL L id ∈ L ∧ (getL L id).k = id := by
  obtain ⟨y, hy, e⟩ := List.mem_map.1 h
  unfold getL
  cases hf : L.find? fun y => decide (y.k = id) with
  | none => exact absurd (List.find?_eq_none.1 hf y hy) (by simpa using e)
  | some z => exact ⟨List.mem_of_find?_eq_some hf, by simpa using List.find?_some hf⟩
/-- Two sorted lists of the same pairs are one. -/
theorem srt_unique : ∀ {S T : List RnV}, S.Perm T → Srt S → Srt T → S = T
  | [], T, p, _, _ => (List.nil_perm.1 p).symm ▸ rfl
  | s :: S, [], p, _, _ => absurd p.length_eq (by simp)
  | s :: S, t :: T, p, h1, h2 => by
    have k1 := h1
    have k2 := h2
    unfold Srt at k1 k2
    rw [List.pairwise_cons] at k1 k2
    have e : s = t := by
      rcases List.mem_cons.1 (p.mem_iff.1 (List.mem_cons_self ..)) with e | e
      · exact e
      · rcases List.mem_cons.1 (p.mem_iff.2 (List.mem_cons_self ..)) with e2 | e2
        · exact e2.symm
        · have a1 := k1.1 t e2
          have a2 := k2.1 s e
          rw [bef_asymm a1] at a2
          exact absurd a2 (by decide)
    subst e
    rw [srt_unique ((List.perm_cons _).1 p) k1.2 k2.2]
theorem rnCs_flat (Q : Nat → RnV) : ∀ n, rnCs Q n = (lst Q n).flatMap RnV.cells
  | 0 => rfl
  | n + 1 => by rw [rnCs, rnCs_flat Q n, lst_succ, List.flatMap_append, List.flatMap_singleton]
theorem lst_take (Q : Nat → RnV) {n i : Nat} (h : i ≤ n) : (lst Q n).take i = lst Q i := by
  refine List.ext_getElem? fun j => ?_
  rw [List.getElem?_take]
  split
  · rw [lst_get (by omega), lst_get (by assumption)]
  · rw [List.getElem?_eq_none (by rw [lst_len]; omega)]
theorem lst_drop (Q : Nat → RnV) (n i : Nat) : (lst Q n).drop i = lst (fun t => Q (i + t)) (n - i) := by
  refine List.ext_getElem? fun j => ?_
  rw [List.getElem?_drop]
  by_cases h : i + j < n
  · rw [lst_get h, lst_get (by omega)]
  · rw [List.getElem?_eq_none (by rw [lst_len]; omega), List.getElem?_eq_none (by rw [lst_len]; omega)]
theorem rnCs_row (L : List RnV) : rnCs (row L) L.length = L.flatMap RnV.cells := by rw [rnCs_flat, lst_row]
/-- The row behind an insertion. -/
theorem ins_row {P : Nat → RnV} {n i : Nat} {x : RnV} (hi : i ≤ n) (hs : Srt (lst P n)) (h1 : ∀ j, i ≤ j → j < n → befN x (P j) = true) (h2 : i = 0 ∨ befN x (P (i - 1)) = false) :
    rnCs P i ++ x.cells ++ rnCs (fun t => P (i + t)) (n - i) = rnCs (row (insL x (lst P n))) (n + 1) := by
  have hl : (insL x (lst P n)).length = n + 1 := by rw [ins_len, lst_len]
  rw [← hl, rnCs_row, ← ins_form (i := i) hs (by rw [lst_len]; exact hi) (fun j y hj e => by
    have hj2 : j < n := by have := (List.getElem?_eq_some_iff.1 e).1; rwa [lst_len] at this
    rw [lst_get hj2] at e
    rw [← Option.some.inj e]
    exact h1 j hj hj2) (fun y hi0 e => by
    rw [lst_get (by omega)] at e
    rw [← Option.some.inj e]
    exact h2.resolve_left (by omega)), lst_take _ hi, lst_drop, List.flatMap_append, List.flatMap_append, rnCs_flat, rnCs_flat, List.flatMap_singleton]
/-- An element put in place of the one with its key. -/
def repL (L : List RnV) (x : RnV) : List RnV := L.map fun y => if y.k = x.k then x else y
theorem rep_keys (L : List RnV) (x : RnV) : keys (repL L x) = keys L := by
  unfold keys repL
  rw [List.map_map]
  refine List.map_congr_left fun y _ => ?_
  show (if y.k = x.k then x else y).k = y.k
  split
  · exact Eq.symm (by assumption)
  · rfl
theorem rep_len (L : List RnV) (x : RnV) : (repL L x).length = L.length := by unfold repL; rw [List.length_map]
theorem srt_keys {L : List RnV} : Srt L ↔ (keys L).Pairwise (· < ·) := by
  unfold Srt keys
  rw [List.pairwise_map]
  exact ⟨fun h => h.imp fun h => (bef_iff _ _).1 h, fun h => h.imp fun h => (bef_iff _ _).2 h⟩
theorem rep_sorted {L : List RnV} {x : RnV} (h : Srt L) : Srt (repL L x) := by rw [srt_keys, rep_keys, ← srt_keys]; exact h
theorem keys_nodup {L : List RnV} (h : Srt L) : (keys L).Nodup := by
  rw [srt_keys] at h
  exact h.imp fun h => Int.ne_of_lt h
theorem rep_mem {L : List RnV} {x y : RnV} (h : y ∈ repL L x) : y ∈ L ∨ y = x := by
  unfold repL at h
  obtain ⟨z, hz, rfl⟩ := List.mem_map.1 h
  split
  · exact Or.inr rfl
  · exact Or.inl hz
theorem wo_len (L : List RnV) (id : Int) : (woL L id).length ≤ L.length := List.length_filter_le _ _
end Go.Proofs.YtokopegffeablaaDoor.T12
