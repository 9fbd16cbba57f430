/-
  The reference's Find, Drop. Condition: at most 1000 nodes for the last.
-/
import Derived.Test.YtokopegffeablaaDoorGrN12
namespace Go.Proofs.YtokopegffeablaaDoor.T12
open Go.RowKit Go.Sort Go.Lib

def findN (P : Nat → RnV) (id : Int) : Nat → Int
  | 0 => -1
  | n + 1 => if 0 ≤ findN P id n then findN P id n else if (P n).k = id then (n : Int) else -1
theorem find_no {P : Nat → RnV} {id : Int} : ∀ {n}, (∀ t, t < n → (P t).k ≠ id) → findN P id n = -1
  | 0, _ => rfl
  | n + 1, h => by
    rw [findN, find_no (fun t ht => h t (by omega)), if_neg (by omega), if_neg (h n (by omega))]
theorem find_at {P : Nat → RnV} {id : Int} {j : Nat} (hj : (P j).k = id) (h : ∀ t, t < j → (P t).k ≠ id) : ∀ {n}, j < n → findN P id n = (j : Int)
  | n + 1, hn => by
    by_cases e : j = n
    · subst e
      rw [findN, find_no h, if_neg (by omega), if_pos hj]
    · rw [findN, find_at hj h (n := n) (by omega), if_pos (by omega)]
/-- Either there is none, or it is the first. -/
theorem find_cases (P : Nat → RnV) (id : Int) (n : Nat) : (findN P id n = -1 ∧ id ∉ keys (lst P n)) ∨ ∃ j, j < n ∧ findN P id n = (j : Int) ∧ (P j).k = id ∧ id ∈ keys (lst P n) ∧ getL (lst P n) id = P j := by
  by_cases h : ∃ j, j < n ∧ (P j).k = id
  · right
    obtain ⟨j, hj, hk, hm⟩ : ∃ j, j < n ∧ (P j).k = id ∧ ∀ t, t < j → (P t).k ≠ id := by
      induction n with
      | zero => obtain ⟨j, hj, _⟩ := h; exact absurd hj (Nat.not_lt_zero _)
      | succ n ih =>
        by_cases h2 : ∃ j, j < n ∧ (P j).k = id
        · obtain ⟨j, a, b, c⟩ := ih h2
          exact ⟨j, by omega, b, c⟩
        · obtain ⟨j, hj, hk⟩ := h
          refine ⟨j, hj, hk, fun t ht e => h2 ⟨t, by omega, e⟩⟩
    refine ⟨j, hj, find_at hk hm hj, hk, ?_, ?_⟩
    · unfold keys
      rw [← hk]
      exact List.mem_map_of_mem (lst_mem.2 ⟨j, hj, rfl⟩)
    · unfold getL
      have e : (lst P n).find? (fun y => decide (y.k = id)) = some (P j) := by
        rw [List.find?_eq_some_iff_getElem]
        refine ⟨by simpa using hk, j, by rw [lst_len]; exact hj, ?_, fun t ht => ?_⟩
        · have := lst_get (Q := P) hj
          rw [List.getElem?_eq_getElem (by rw [lst_len]; exact hj)] at this
          exact Option.some.inj this
        · have h1 := lst_get (Q := P) (n := n) (j := t) (by omega)
          rw [List.getElem?_eq_getElem (by rw [lst_len]; omega)] at h1
          rw [Option.some.inj h1]
          simpa using hm t ht
      rw [e]
      rfl
  · left
    refine ⟨find_no fun t ht e => h ⟨t, ht, e⟩, fun hk => ?_⟩
    obtain ⟨y, hy, e⟩ := List.mem_map.1 hk
    obtain ⟨j, hj, rfl⟩ := lst_mem.1 hy
    exact h ⟨j, hj, e⟩
theorem find_iff {P : Nat → RnV} {id : Int} {n : Nat} : 0 ≤ findN P id n ↔ id ∈ keys (lst P n) := by
  rcases find_cases P id n with ⟨h1, h2⟩ | ⟨j, _, h1, _, h2, _⟩
  · rw [h1]; exact ⟨fun h => absurd h (by decide), fun h => absurd h h2⟩
  · rw [h1]; exact ⟨fun _ => h2, fun _ => by omega⟩

theorem wo_succ (P : Nat → RnV) (id : Int) (j : Nat) : woL (lst P (j + 1)) id = if (P j).k = id then woL (lst P j) id else woL (lst P j) id ++ [P j] := by
  unfold woL
  rw [lst_succ, List.filter_append]
  by_cases h : (P j).k = id
  · rw [if_pos h, List.filter_cons_of_neg (by simpa using h)]
    simp
  · rw [if_neg h, List.filter_cons_of_pos (by simpa using h)]
    rfl
theorem lst_ok {P : Nat → RnV} {n : Nat} (h : ∀ j, j < n → RnOk (P j)) : ∀ x ∈ lst P n, RnOk x := fun x hx => by
  obtain ⟨j, hj, rfl⟩ := lst_mem.1 hx
  exact h j hj
theorem row_ok {L : List RnV} (h : ∀ x ∈ L, RnOk x) : ∀ j, j < L.length → RnOk (row L j) := fun j hj => by
  unfold row
  rw [List.getD_eq_getElem?_getD, List.getElem?_eq_getElem hj]
  exact h _ (List.getElem_mem hj)

end Go.Proofs.YtokopegffeablaaDoor.T12
