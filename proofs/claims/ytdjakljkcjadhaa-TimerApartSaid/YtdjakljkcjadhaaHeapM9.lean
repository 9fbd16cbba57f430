/-
  A heap of timers: what sifting up and down keeps. No condition, no walk.
-/
import Derived.Test.YtdjakljkcjadhaaGr9
namespace Go.Proofs.Ytdjakljkcjadhaa.T9
open Go.RowKit Go.Sort Go.Lib

def swq (Q : Nat → TmV) (i j : Nat) : Nat → TmV := put (put Q i (Q j)) j (Q i)
theorem swq_at (Q : Nat → TmV) (i j t : Nat) : swq Q i j t = if t = j then Q i else if t = i then Q j else Q t := rfl
theorem bef_ntrans {x y z : TmV} (h : befT x y = false) (k : befT y z = false) : befT x z = false := by rw [bef_no] at *; omega
theorem bef_under {x y z : TmV} (h : befT x y = false) (k : befT z y = true) : befT x z = false := by rw [bef_no] at *; rw [bef_iff] at k; omega
theorem bef_eq {x y : TmV} (h : befT x y = false) (k : befT y x = false) : x = y := tm_ext (by rw [bef_no] at *; omega) (by rw [bef_no] at *; omega) (by rw [bef_no] at *; omega)
def par (k : Nat) : Nat := (k - 1) / 2
def HeapQ (Q : Nat → TmV) (n : Nat) : Prop := ∀ k, 0 < k → k < n → befT (Q k) (Q (par k)) = false
structure UpI (Q : Nat → TmV) (n j : Nat) : Prop where
  a : ∀ k, 0 < k → k < n → k ≠ j → befT (Q k) (Q (par k)) = false
  b : ∀ k, 0 < k → k < n → par k = j → 0 < j → befT (Q k) (Q (par j)) = false
structure DnI (Q : Nat → TmV) (n i i0 : Nat) : Prop where
  a : ∀ k, 0 < k → k < n → par k ≠ i → k ≠ i0 → befT (Q k) (Q (par k)) = false
  b : i ≠ i0 → 0 < i0 → befT (Q i0) (Q (par i0)) = false
  c : ∀ k, 0 < k → k < n → par k = i → 0 < i → befT (Q k) (Q (par i)) = false
  o : i0 ≤ i
theorem sw_i (Q : Nat → TmV) (i j : Nat) (h : i ≠ j) : swq Q i j i = Q j := by rw [swq_at, if_neg h, if_pos rfl]
theorem sw_j (Q : Nat → TmV) (i j : Nat) : swq Q i j j = Q i := by rw [swq_at, if_pos rfl]
theorem sw_o (Q : Nat → TmV) {i j t : Nat} (h : t ≠ i) (k : t ≠ j) : swq Q i j t = Q t := by rw [swq_at, if_neg k, if_neg h]
theorem up_done {Q : Nat → TmV} {n j : Nat} (h : UpI Q n j) (e : j = 0 ∨ befT (Q j) (Q (par j)) = false) : HeapQ Q n := by
  intro k h1 h2
  by_cases hk : k = j
  · subst hk
    rcases e with e | e
    · omega
    · exact e
  · exact h.a k h1 h2 hk
theorem up_step {Q : Nat → TmV} {n j : Nat} (h : UpI Q n j) (hj : 0 < j) (hn : j < n) (e : befT (Q j) (Q (par j)) = true) : UpI (swq Q (par j) j) n (par j) := by
  have pj : par j < j := by unfold par; omega
  have ne : par j ≠ j := by omega
  refine ⟨fun k h1 h2 h3 => ?_, fun k h1 h2 h3 h4 => ?_⟩
  · have pk : par k < k := by unfold par; omega
    by_cases e1 : k = j
    · rw [e1, sw_j, sw_i Q _ _ ne]
      exact bef_asymm e
    · rw [sw_o Q h3 e1]
      by_cases e2 : par k = j
      · rw [e2, sw_j]
        exact h.b k h1 h2 e2 hj
      · by_cases e3 : par k = par j
        · rw [e3, sw_i Q _ _ ne]
          have := h.a k h1 h2 e1
          rw [e3] at this
          exact bef_under this e
        · rw [sw_o Q e3 e2]
          exact h.a k h1 h2 e1
  · have pp : par (par j) < par j := by unfold par at *; omega
    rw [sw_o Q (t := par (par j)) (by omega) (by omega)]
    have hp := h.a (par j) h4 (by omega) ne
    by_cases e1 : k = j
    · rw [e1, sw_j]
      exact hp
    · have pk : par k < k := by unfold par; omega
      rw [sw_o Q (t := k) (by omega) e1]
      have := h.a k h1 h2 e1
      rw [h3] at this
      exact bef_ntrans this hp
theorem dn_step {Q : Nat → TmV} {n i i0 c : Nat} (h : DnI Q n i i0) (h1 : 0 < c) (_ : c < n) (hp : par c = i) (hm : ∀ k, 0 < k → k < n → par k = i → befT (Q k) (Q c) = false) (e : befT (Q c) (Q i) = true) (hcn : c < n) : DnI (swq Q i c) n c i0 := by
  have ho := h.o
  have hic : i < c := by unfold par at hp; omega
  have ne : i ≠ c := by omega
  refine ⟨fun k k1 k2 k3 k4 => ?_, fun _ k2 => ?_, fun k k1 k2 k3 k4 => ?_, by omega⟩
  · have pk : par k < k := by unfold par; omega
    by_cases e1 : k = i
    · subst e1
      rw [sw_i Q _ _ ne, sw_o Q (t := par k) (by omega) (by omega)]
      exact h.c c h1 hcn hp k1
    · by_cases e2 : k = c
      · rw [e2, hp, sw_j, sw_i Q _ _ ne]
        exact bef_asymm e
      · rw [sw_o Q e1 e2]
        by_cases e3 : par k = i
        · rw [e3, sw_i Q _ _ ne]
          exact hm k k1 k2 e3
        · rw [sw_o Q e3 k3]
          exact h.a k k1 k2 e3 k4
  · have pk : par i0 < i0 := by unfold par; omega
    by_cases e1 : i = i0
    · subst e1
      rw [sw_i Q _ _ ne, sw_o Q (t := par i) (by omega) (by omega)]
      exact h.c c h1 hcn hp k2
    · rw [sw_o Q (t := i0) (by omega) (by omega), sw_o Q (t := par i0) (by omega) (by omega)]
      exact h.b e1 k2
  · have pk : par k < k := by unfold par; omega
    rw [hp, sw_i Q _ _ ne, sw_o Q (t := k) (by omega) (by omega)]
    have := h.a k k1 k2 (by omega) (by omega)
    rwa [k3] at this
theorem dn_done {Q : Nat → TmV} {n i i0 : Nat} (h : DnI Q n i i0) (e : ∀ k, 0 < k → k < n → par k = i → befT (Q k) (Q i) = false) : (∀ k, 0 < k → k < n → k ≠ i0 → befT (Q k) (Q (par k)) = false) ∧ (i ≠ i0 → HeapQ Q n) := by
  have A : ∀ k, 0 < k → k < n → k ≠ i0 → befT (Q k) (Q (par k)) = false := fun k h1 h2 h3 => by
    by_cases e1 : par k = i
    · rw [e1]; exact e k h1 h2 e1
    · exact h.a k h1 h2 e1 h3
  refine ⟨A, fun hne k h1 h2 => ?_⟩
  by_cases e1 : k = i0
  · rw [e1]; exact h.b hne (by omega)
  · exact A k h1 h2 e1
theorem dn_up {Q : Nat → TmV} {n i : Nat} (h : DnI Q n i i) (e : ∀ k, 0 < k → k < n → k ≠ i → befT (Q k) (Q (par k)) = false) : UpI Q n i := ⟨e, h.c⟩
theorem dn_start {Q : Nat → TmV} {n i : Nat} (h : HeapQ Q (n + 1)) (hi : i ≤ n) : DnI (swq Q i n) n i i := by
  refine ⟨fun k h1 h2 h3 h4 => ?_, fun h => absurd rfl h, fun k h1 h2 h3 h4 => ?_, Nat.le_refl _⟩
  · have pk : par k < k := by unfold par; omega
    rw [sw_o Q h4 (by omega), sw_o Q h3 (by omega)]
    exact h k h1 (by omega)
  · have pk : par k < k := by unfold par; omega
    have pi : par i < i := by unfold par; omega
    rw [sw_o Q (t := k) (by omega) (by omega), sw_o Q (t := par i) (by omega) (by omega)]
    have := h k h1 (by omega)
    rw [h3] at this
    exact bef_ntrans this (h i h4 (by omega))
theorem up_start {Q : Nat → TmV} {n : Nat} (h : HeapQ Q n) (x : TmV) : UpI (put Q n x) (n + 1) n := by
  refine ⟨fun k h1 h2 h3 => ?_, fun k h1 h2 h3 h4 => ?_⟩
  · have pk : par k < k := by unfold par; omega
    rw [put_ne _ _ _ h3, put_ne _ _ _ (by omega)]
    exact h k h1 (by omega)
  · unfold par at h3; omega
theorem HeapQ.less {Q : Nat → TmV} {n m : Nat} (h : HeapQ Q n) (hm : m ≤ n) : HeapQ Q m := fun k h1 h2 => h k h1 (by omega)
theorem HeapQ.min {Q : Nat → TmV} {n : Nat} (h : HeapQ Q n) : ∀ k, k < n → befT (Q k) (Q 0) = false := by
  intro k
  induction k using Nat.strongRecOn with
  | _ k ih =>
    intro hk
    by_cases e : k = 0
    · rw [e]; exact bef_irrefl _
    · have pk : par k < k := by unfold par; omega
      exact bef_ntrans (h k (by omega) hk) (ih _ pk (by omega))
theorem HeapQ.congr {Q R : Nat → TmV} {n : Nat} (h : HeapQ Q n) (e : ∀ k, k < n → Q k = R k) : HeapQ R n := fun k h1 h2 => by
  have pk : par k < k := by unfold par; omega
  rw [← e k h2, ← e (par k) (by omega)]
  exact h k h1 h2

theorem lst_swap (Q : Nat → TmV) {n i j : Nat} (hi : i < n) (hj : j < n) : (lst (swq Q i j) n).Perm (lst Q n) := by
  have h1 : i < (lst Q n).toArray.size := by simp [lst, hi]
  have h2 : j < (lst Q n).toArray.size := by simp [lst, hj]
  have h := Array.swap_perm (xs := (lst Q n).toArray) h1 h2
  have e : ((lst Q n).toArray.swap i j h1 h2).toList = lst (swq Q i j) n := by
    refine List.ext_getElem? fun t => ?_
    by_cases ht : t < n
    · rw [lst_get ht, swq_at]
      have hs : t < ((lst Q n).toArray.swap i j h1 h2).size := by simp [lst, ht]
      rw [Array.getElem?_toList, Array.getElem?_eq_getElem hs, Array.getElem_swap]
      simp only [lst, List.getElem_toArray, List.getElem_map, List.getElem_range]
      by_cases a : t = j
      · by_cases b : t = i
        · simp [a]
          intro h3
          rw [← b, a]
        · simp [a]
          intro h3
          exact absurd (a.trans h3) b
      · by_cases b : t = i
        · simp [b]
          intro h3
          exact absurd (b.trans h3) a
        · simp [a, b]
    · rw [List.getElem?_eq_none (by simp [lst]; omega), List.getElem?_eq_none (by simp [lst]; omega)]
  rw [← e]
  exact h.toList
end Go.Proofs.Ytdjakljkcjadhaa.T9
