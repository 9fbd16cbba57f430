/-
  The order of timers; sorted lists of them. No condition, no walk.
-/
import Derived.Test.YtdjakljkcjadhaaRow9
namespace Go.Proofs.Ytdjakljkcjadhaa.T9
open Go.RowKit Go.Lib

def befT (x y : TmV) : Bool := decide (x.t < y.t ∨ (x.t = y.t ∧ (x.a < y.a ∨ (x.a = y.a ∧ x.k < y.k))))
theorem bef_iff (x y : TmV) : befT x y = true ↔ (x.t < y.t ∨ (x.t = y.t ∧ (x.a < y.a ∨ (x.a = y.a ∧ x.k < y.k)))) := by unfold befT; rw [decide_eq_true_eq]
theorem bef_no (x y : TmV) : befT x y = false ↔ ¬ (x.t < y.t ∨ (x.t = y.t ∧ (x.a < y.a ∨ (x.a = y.a ∧ x.k < y.k)))) := by unfold befT; rw [decide_eq_false_iff_not]
theorem bef_asymm {x y : TmV} (h : befT x y = true) : befT y x = false := by rw [bef_iff] at h; rw [bef_no]; omega
theorem bef_irrefl (x : TmV) : befT x x = false := by rw [bef_no]; omega
theorem bef_trans {x y z : TmV} (h : befT x y = true) (k : befT y z = true) : befT x z = true := by rw [bef_iff] at *; omega
theorem bef_total {x y : TmV} (h : x.k ≠ y.k) (k : befT x y = false) : befT y x = true := by rw [bef_no] at k; rw [bef_iff]; omega
theorem tm_ext {x y : TmV} (h1 : x.k = y.k) (h2 : x.t = y.t) (h3 : x.a = y.a) : x = y := by
  cases x; cases y; simp_all
def Srt (L : List TmV) : Prop := L.Pairwise fun x y => befT x y = true
def insL (x : TmV) : List TmV → List TmV
  | [] => [x]
  | y :: L => if befT x y = true then x :: y :: L else y :: insL x L
def keys (L : List TmV) : List Int := L.map (·.k)
def setL (L : List TmV) (x : TmV) : List TmV := if x.k ∈ keys L then L else insL x L
def woL (L : List TmV) (id : Int) : List TmV := L.filter fun y => decide (y.k ≠ id)
def getL (L : List TmV) (id : Int) : TmV := (L.find? fun y => decide (y.k = id)).getD zt
def dueN (now : Int) : List TmV → Nat
  | [] => 0
  | y :: L => if y.t ≤ now then dueN now L + 1 else 0
theorem ins_perm (x : TmV) : ∀ L, (insL x L).Perm (x :: L)
  | [] => List.Perm.refl _
  | y :: L => by
    unfold insL
    split
    · exact List.Perm.refl _
    · exact ((ins_perm x L).cons y).trans (List.Perm.swap x y L)
theorem ins_mem {x y : TmV} {L : List TmV} : y ∈ insL x L ↔ y = x ∨ y ∈ L := by rw [(ins_perm x L).mem_iff, List.mem_cons]
theorem ins_sorted {x : TmV} : ∀ {L}, Srt L → x.k ∉ keys L → Srt (insL x L)
  | [], _, _ => List.pairwise_singleton _ _
  | y :: L, h, hk => by
    have h' := h
    unfold Srt at h'
    rw [List.pairwise_cons] at h'
    have hk2 : x.k ≠ y.k ∧ x.k ∉ keys L := by unfold keys at hk ⊢; rw [List.map_cons, List.mem_cons, not_or] at hk; exact hk
    unfold insL
    split
    · rename_i hb
      unfold Srt
      rw [List.pairwise_cons]
      refine ⟨fun z hz => ?_, h⟩
      rcases List.mem_cons.1 hz with rfl | hz
      · exact hb
      · exact bef_trans hb (h'.1 z hz)
    · rename_i hb
      unfold Srt
      rw [List.pairwise_cons]
      refine ⟨fun z hz => ?_, ins_sorted h'.2 hk2.2⟩
      rcases ins_mem.1 hz with rfl | hz
      · exact bef_total hk2.1 (by cases e : befT z y <;> simp_all)
      · exact h'.1 z hz
theorem ins_len (x : TmV) (L : List TmV) : (insL x L).length = L.length + 1 := by rw [(ins_perm x L).length_eq]; rfl
theorem ins_keys {x : TmV} {L : List TmV} (h : (keys L).Nodup) (hk : x.k ∉ keys L) : (keys (insL x L)).Nodup := by
  have : (keys (insL x L)).Perm (x.k :: keys L) := (ins_perm x L).map _
  rw [this.nodup_iff, List.nodup_cons]
  exact ⟨hk, h⟩
theorem ins_form {x : TmV} : ∀ {L : List TmV} {i : Nat}, Srt L → i ≤ L.length → (∀ j y, i ≤ j → L[j]? = some y → befT x y = true) → (∀ y, 0 < i → L[i - 1]? = some y → befT x y = false) → L.take i ++ [x] ++ L.drop i = insL x L
  | [], i, _, hi, _, _ => by
    obtain rfl : i = 0 := by simpa using hi
    rfl
  | y :: L, 0, _, _, h1, _ => by
    unfold insL
    rw [if_pos (h1 0 y (Nat.le_refl _) rfl)]
    rfl
  | y :: L, i + 1, hs, hi, h1, h2 => by
    have hs' := hs
    unfold Srt at hs'
    rw [List.pairwise_cons] at hs'
    have hy : befT x y = false := by
      cases i with
      | zero => exact h2 y (by omega) rfl
      | succ i =>
        have hl : i < L.length := by simp at hi; omega
        have h3 := h2 L[i] (by omega) (by simp [List.getElem?_eq_getElem hl])
        cases e : befT x y with
        | false => rfl
        | true =>
          rw [bef_trans e (hs'.1 _ (List.getElem_mem hl))] at h3
          exact absurd h3 (by decide)
    unfold insL
    rw [if_neg (by rw [hy]; decide), ← ins_form (i := i) hs'.2 (by simp at hi; omega) (fun j z hj hz => h1 (j + 1) z (by omega) (by simpa using hz)) (fun z hz e => h2 z (by omega) (by
      obtain ⟨i', rfl⟩ : ∃ i', i = i' + 1 := ⟨i - 1, by omega⟩
      simpa using e))]
    rfl
theorem set_sorted {L : List TmV} {x : TmV} (h : Srt L) : Srt (setL L x) := by
  unfold setL
  split
  · exact h
  · rename_i hk; exact ins_sorted h hk
theorem set_keys {L : List TmV} {x : TmV} (h : (keys L).Nodup) : (keys (setL L x)).Nodup := by
  unfold setL
  split
  · exact h
  · rename_i hk; exact ins_keys h hk
theorem set_len (L : List TmV) (x : TmV) : L.length ≤ (setL L x).length ∧ (setL L x).length ≤ L.length + 1 := by
  unfold setL
  split
  · omega
  · rw [ins_len]; omega
theorem set_lt (L : List TmV) (x : TmV) : L.length < (setL L x).length ↔ x.k ∉ keys L := by
  unfold setL
  split
  · rename_i h; constructor
    · intro h2; omega
    · intro h2; exact absurd h h2
  · rename_i h; rw [ins_len]; exact ⟨fun _ => h, fun _ => by omega⟩
theorem set_mem {L : List TmV} {x y : TmV} (h : y ∈ setL L x) : y ∈ L ∨ y = x := by
  unfold setL at h
  split at h
  · exact Or.inl h
  · exact (ins_mem.1 h).symm
theorem wo_sorted {L : List TmV} {id : Int} (h : Srt L) : Srt (woL L id) := h.sublist List.filter_sublist
theorem wo_keys {L : List TmV} {id : Int} (h : (keys L).Nodup) : (keys (woL L id)).Nodup := h.sublist (List.filter_sublist.map _)
theorem wo_mem {L : List TmV} {id : Int} {y : TmV} (h : y ∈ woL L id) : y ∈ L := (List.mem_filter.1 h).1
theorem wo_none {L : List TmV} {id : Int} (h : id ∉ keys L) : woL L id = L :=
  List.filter_eq_self.2 fun y hy => decide_eq_true fun e => h (by rw [← e]; exact List.mem_map_of_mem hy)
theorem get_none {L : List TmV} {id : Int} (h : id ∉ keys L) : getL L id = zt := by
  unfold getL
  rw [List.find?_eq_none.2 fun y hy => by simpa using fun e => h (by rw [← e]; exact List.mem_map_of_mem hy)]
  rfl
theorem get_some {L : List TmV} {id : Int} (h : id ∈ keys L) : getL L id ∈ L ∧ (getL L id).k = id := by
  obtain ⟨y, hy, e⟩ := List.mem_map.1 h
  unfold getL
  cases hf : L.find? fun y => decide (y.k = id) with
  | none => exact absurd (List.find?_eq_none.1 hf y hy) (by simpa using e)
  | some z => exact ⟨List.mem_of_find?_eq_some hf, by simpa using List.find?_some hf⟩
theorem due_le (now : Int) : ∀ L, dueN now L ≤ L.length
  | [] => Nat.le_refl _
  | y :: L => by
    have := due_le now L
    rw [dueN, List.length_cons]
    split <;> omega
theorem due_lt {now : Int} : ∀ {L : List TmV} {j : Nat} {y : TmV}, j < dueN now L → L[j]? = some y → y.t ≤ now
  | [], j, y, h, _ => absurd h (Nat.not_lt_zero _)
  | z :: L, j, y, h, e => by
    rw [dueN] at h
    split at h
    · rename_i hz
      cases j with
      | zero => rw [← Option.some.inj (by simpa using e : some z = some y)]; exact hz
      | succ j => exact due_lt (L := L) (j := j) (by omega) (by simpa using e)
    · omega
theorem due_ge {now : Int} : ∀ {L : List TmV} {j : Nat} {y : TmV}, Srt L → dueN now L ≤ j → L[j]? = some y → now < y.t
  | [], j, y, _, _, e => by simp at e
  | z :: L, j, y, hs, h, e => by
    have hs' := hs
    unfold Srt at hs'
    rw [List.pairwise_cons] at hs'
    rw [dueN] at h
    split at h
    · cases j with
      | zero => omega
      | succ j => exact due_ge (L := L) (j := j) hs'.2 (by omega) (by simpa using e)
    · rename_i hz
      cases j with
      | zero =>
        rw [← Option.some.inj (by simpa using e : some z = some y)]
        omega
      | succ j =>
        have hy : y ∈ L := List.mem_of_getElem? (by simpa using e : L[j]? = some y)
        have := hs'.1 y hy
        rw [bef_iff] at this
        omega
theorem due_eq {now : Int} {L : List TmV} {m : Nat} (hm : m ≤ L.length) (h1 : ∀ j y, j < m → L[j]? = some y → y.t ≤ now) (h2 : ∀ y, L[m]? = some y → now < y.t) : dueN now L = m := by
  induction L generalizing m with
  | nil => simp at hm; rw [hm]; rfl
  | cons z L ih =>
    rw [dueN]
    cases m with
    | zero =>
      rw [if_neg]
      have := h2 z rfl
      omega
    | succ m =>
      rw [if_pos (h1 0 z (by omega) rfl), ih (m := m) (by simpa using hm) (fun j y hj e => h1 (j + 1) y (by omega) (by simpa using e)) (fun y e => h2 y (by simpa using e))]
/-- Two sorted lists of the same timers are one. -/
theorem srt_unique : ∀ {S T : List TmV}, S.Perm T → Srt S → Srt T → S = T
  | [], T, p, _, _ => (List.nil_perm.1 p).symm ▸ rfl
  | s :: S, [], p, _, _ => absurd p.length_eq (by simp)
  | s :: S, t :: T, p, h1, h2 => by
    have k1 := h1
    have k2 := h2
    unfold Srt at k1 k2
    rw [List.pairwise_cons] at k1 k2
    have e : s = t := by
      rcases List.mem_cons.1 (p.mem_iff.1 (List.mem_cons_self ..)) with e | e
      · exact e
      · rcases List.mem_cons.1 (p.mem_iff.2 (List.mem_cons_self ..)) with e2 | e2
        · exact e2.symm
        · have a1 := k1.1 t e2
          have a2 := k2.1 s e
          rw [bef_asymm a1] at a2
          exact absurd a2 (by decide)
    subst e
    rw [srt_unique ((List.perm_cons _).1 p) k1.2 k2.2]
theorem tmCs_flat (Q : Nat → TmV) : ∀ n, tmCs Q n = (lst Q n).flatMap TmV.cells
  | 0 => rfl
  | n + 1 => by rw [tmCs, tmCs_flat Q n, lst_succ, List.flatMap_append, List.flatMap_singleton]
theorem lst_take (Q : Nat → TmV) {n i : Nat} (h : i ≤ n) : (lst Q n).take i = lst Q i := by
  refine List.ext_getElem? fun j => ?_
  rw [List.getElem?_take]
  split
  · rw [lst_get (by omega), lst_get (by assumption)]
  · rw [List.getElem?_eq_none (by rw [lst_len]; omega)]
theorem lst_drop (Q : Nat → TmV) (n i : Nat) : (lst Q n).drop i = lst (fun t => Q (i + t)) (n - i) := by
  refine List.ext_getElem? fun j => ?_
  rw [List.getElem?_drop]
  by_cases h : i + j < n
  · rw [lst_get h, lst_get (by omega)]
  · rw [List.getElem?_eq_none (by rw [lst_len]; omega), List.getElem?_eq_none (by rw [lst_len]; omega)]
theorem tmCs_row (L : List TmV) : tmCs (row L) L.length = L.flatMap TmV.cells := by rw [tmCs_flat, lst_row]
/-- The row behind an insertion. -/
theorem ins_row {P : Nat → TmV} {n i : Nat} {x : TmV} (hi : i ≤ n) (hs : Srt (lst P n)) (h1 : ∀ j, i ≤ j → j < n → befT x (P j) = true) (h2 : i = 0 ∨ befT x (P (i - 1)) = false) :
    tmCs P i ++ x.cells ++ tmCs (fun t => P (i + t)) (n - i) = tmCs (row (insL x (lst P n))) (n + 1) := by
  have hl : (insL x (lst P n)).length = n + 1 := by rw [ins_len, lst_len]
  rw [← hl, tmCs_row, ← ins_form (i := i) hs (by rw [lst_len]; exact hi) (fun j y hj e => by
    have hj2 : j < n := by have := (List.getElem?_eq_some_iff.1 e).1; rwa [lst_len] at this
    rw [lst_get hj2] at e
    rw [← Option.some.inj e]
    exact h1 j hj hj2) (fun y hi0 e => by
    rw [lst_get (by omega)] at e
    rw [← Option.some.inj e]
    exact h2.resolve_left (by omega)), lst_take _ hi, lst_drop, List.flatMap_append, List.flatMap_append, tmCs_flat, tmCs_flat, List.flatMap_singleton]
end Go.Proofs.Ytdjakljkcjadhaa.T9
