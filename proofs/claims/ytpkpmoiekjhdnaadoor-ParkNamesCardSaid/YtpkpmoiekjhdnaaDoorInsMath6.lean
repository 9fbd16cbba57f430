/-
  Insertion into a sorted list of numbers; rows of pods put together. No condition.
-/
import Derived.Test.YtpkpmoiekjhdnaaDoorRowP6
namespace Go.Proofs.YtpkpmoiekjhdnaaDoor
open Go.RowKit Go.Sort Go.Shelf

theorem podCs_add (Q : Nat → PodV) (a : Nat) : ∀ b, podCs Q (a + b) = podCs Q a ++ podCs (fun t => Q (a + t)) b
  | 0 => by simp [podCs]
  | b + 1 => by
    show podCs Q (a + b) ++ (Q (a + b)).cells = _
    rw [podCs_add Q a b, podCs, List.append_assoc]
/-- i put in at place a. -/
def insAt (T : List Nat) (a i : Nat) : List Nat := T.take a ++ i :: T.drop a
theorem insAt_len {T : List Nat} {a : Nat} (h : a ≤ T.length) (i : Nat) : (insAt T a i).length = T.length + 1 := by
  unfold insAt
  rw [List.length_append, List.length_cons, List.length_take, List.length_drop]
  omega
theorem insAt_perm (T : List Nat) (a i : Nat) : (insAt T a i).Perm (i :: T) := by
  unfold insAt
  refine List.perm_middle.trans ?_
  rw [List.take_append_drop]
theorem insAt_get {T : List Nat} {a : Nat} (h : a ≤ T.length) (i t : Nat) : (insAt T a i).getD t 0 = if t < a then T.getD t 0 else if t = a then i else T.getD (t - 1) 0 := by
  unfold insAt
  have hl : (T.take a).length = a := by rw [List.length_take]; omega
  simp only [List.getD_eq_getElem?_getD]
  by_cases e : t < a
  · rw [if_pos e, List.getElem?_append_left (by omega), List.getElem?_take, if_pos e]
  · rw [if_neg e, List.getElem?_append_right (by omega), hl]
    by_cases e2 : t = a
    · rw [if_pos e2, e2, Nat.sub_self]; rfl
    · rw [if_neg e2, show t - a = (t - a - 1) + 1 by omega, List.getElem?_cons_succ, List.getElem?_drop, show a + (t - a - 1) = t - 1 by omega]
theorem insAt_row (P : Nat → PodV) {T : List Nat} {a i : Nat} (h : a ≤ T.length) (hi : T.length = i) :
    podCs (fun t => P ((insAt T a i).getD t 0)) (i + 1) = podCs (fun t => P (T.getD t 0)) a ++ (P i).cells ++ podCs (fun t => P (T.getD (a + t) 0)) (i - a) := by
  have e : i + 1 = a + 1 + (i - a) := by omega
  rw [e, podCs_add, podCs]
  congr 1
  · congr 1
    · exact podCs_congr a fun t ht => by rw [insAt_get h, if_pos ht]
    · rw [insAt_get h, if_neg (by omega), if_pos rfl]
  · refine podCs_congr _ fun t ht => ?_
    rw [insAt_get h, if_neg (by omega), if_neg (by omega)]
    congr 2
    omega

def SortedL (lt : Nat → Nat → Bool) (T : List Nat) : Prop := ∀ s t, s < t → t < T.length → lo lt (T.getD t 0) (T.getD s 0) = false
theorem perm_range_lt {T : List Nat} {i : Nat} (h : T.Perm (List.range i)) : T.length = i ∧ ∀ t, t < T.length → T.getD t 0 < i := by
  have hl : T.length = i := by rw [h.length_eq, List.length_range]
  refine ⟨hl, fun t ht => ?_⟩
  rw [List.getD_eq_getElem?_getD, List.getElem?_eq_getElem ht]
  exact List.mem_range.1 (h.mem_iff.1 (List.getElem_mem ht))
theorem insAt_sorted {lt : Nat → Nat → Bool} (hS : SWO lt) {T : List Nat} {a i : Nat} (hp : T.Perm (List.range i)) (hs : SortedL lt T) (ha : a ≤ T.length)
    (h1 : ∀ t, a ≤ t → t < T.length → lt i (T.getD t 0) = true) (h2 : a = 0 ∨ lt i (T.getD (a - 1) 0) = false) : SortedL lt (insAt T a i) := by
  obtain ⟨hl, hb⟩ := perm_range_lt hp
  have low : ∀ s, s < a → lo lt i (T.getD s 0) = false := fun s hsa => by
    rcases h2 with h2 | h2
    · omega
    · have h3 : lo lt i (T.getD (a - 1) 0) = false := by rw [lo_cross (hb (a - 1) (by omega))]; exact h2
      by_cases e : s = a - 1
      · rw [e]; exact h3
      · exact (lo_swo hS).ntrans _ _ _ h3 (hs s (a - 1) (by omega) (by omega))
  have high : ∀ t, a ≤ t → t < T.length → lo lt (T.getD t 0) i = false := fun t h3 h4 => by
    refine (lo_swo hS).asymmA ?_
    rw [lo_cross (hb t h4)]
    exact h1 t h3 h4
  intro s t hst ht
  rw [insAt_len ha] at ht
  rw [insAt_get ha, insAt_get ha]
  by_cases e1 : t < a
  · rw [if_pos e1, if_pos (by omega)]; exact hs s t hst (by omega)
  · rw [if_neg e1]
    by_cases e2 : t = a
    · rw [if_pos e2, if_pos (by omega)]; exact low s (by omega)
    · rw [if_neg e2]
      by_cases e3 : s < a
      · rw [if_pos e3]; exact hs s (t - 1) (by omega) (by omega)
      · rw [if_neg e3]
        by_cases e4 : s = a
        · rw [if_pos e4]; exact high (t - 1) (by omega) (by omega)
        · rw [if_neg e4]; exact hs (s - 1) (t - 1) (by omega) (by omega)
theorem range_snoc (T : List Nat) (i : Nat) (h : T.Perm (List.range i)) (a : Nat) : (insAt T a i).Perm (List.range (i + 1)) := by
  refine (insAt_perm T a i).trans ?_
  rw [List.range_succ]
  exact (List.Perm.cons i h).trans (List.perm_append_singleton i _).symm

/-- The two ways of sorting come to one row. -/
theorem one_row {lt : Nat → Nat → Bool} (hS : SWO lt) {n : Nat} {dk : Array Nat} {T : List Nat} (p1 : PermIn 0 n (Array.range n) dk) (s1 : SortedIn (lo lt) 0 n dk) (p2 : T.Perm (List.range n)) (s2 : SortedL lt T) : ∀ j, j < n → dk[j]! = T.getD j 0 := by
  have hs : (Array.range n).size = n := Array.size_range
  obtain ⟨hl, _⟩ := perm_range_lt p2
  have hget : ∀ j, j < n → T.toArray[j]! = T.getD j 0 := fun j hj => by
    rw [getElem!_pos _ _ (by simp; omega), List.getD_eq_getElem?_getD, List.getElem?_eq_getElem (by omega)]
    simp
  have q : PermIn 0 (Array.range n).size (Array.range n) T.toArray := by
    rw [hs]
    refine ⟨by simp [hl], fun i hi => ?_, ?_⟩
    · rw [getElem!_neg _ _ (by simp; omega), getElem!_neg _ _ (by simp; omega)]
    · have e1 : (T.toArray.extract 0 n).toList = T := by
        rw [Array.extract_eq_self_of_le (by simp [hl])]
      have e2 : ((Array.range n).extract 0 n).toList = List.range n := by
        rw [Array.extract_eq_self_of_le (by simp), Array.toList_range]
      rw [e1, e2]
      exact p2
  have q2 : SortedIn (lo lt) 0 (Array.range n).size T.toArray := by
    rw [hs]
    intro s t _ h2 h3
    rw [hget s (by omega), hget t h3]
    exact s2 s t h2 (by omega)
  have e := sorted_one hS (d := Array.range n) (by rw [hs]; exact p1) (by rw [hs]; exact s1) q q2
  intro j hj
  rw [e]
  exact hget j hj
end Go.Proofs.YtpkpmoiekjhdnaaDoor
