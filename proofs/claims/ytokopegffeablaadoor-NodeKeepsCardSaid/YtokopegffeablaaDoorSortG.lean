/-
  Lists sorted by a key: insertion, removal, replacement, look-up. No condition, no program.
-/
import Derived.Test.YtokopegffeablaaDoorBase5
namespace Go.Proofs.YtokopegffeablaaDoor.G
section
variable {α : Type} (key : α → Int)
def Srt (L : List α) : Prop := L.Pairwise fun x y => key x < key y
def keys (L : List α) : List Int := L.map key
def ins (x : α) : List α → List α
  | [] => [x]
  | y :: L => if key x < key y then x :: y :: L else y :: ins x L
def wo (L : List α) (id : Int) : List α := L.filter fun y => decide (key y ≠ id)
def get (z : α) (L : List α) (id : Int) : α := (L.find? fun y => decide (key y = id)).getD z
def rep (L : List α) (x : α) : List α := L.map fun y => if key y = key x then x else y
variable {key}
theorem ins_perm (x : α) : ∀ L, (ins key x L).Perm (x :: L)
  | [] => List.Perm.refl _
  | y :: L => by
    unfold ins
    split
    · exact List.Perm.refl _
    · exact ((ins_perm x L).cons y).trans (List.Perm.swap x y L)
theorem ins_mem {x y : α} {L : List α} : y ∈ ins key x L ↔ y = x ∨ y ∈ L := by rw [(ins_perm x L).mem_iff, List.mem_cons]
theorem ins_len (x : α) (L : List α) : (ins key x L).length = L.length + 1 := by rw [(ins_perm x L).length_eq]; rfl
theorem ins_keys {x : α} {L : List α} {id : Int} : id ∈ keys key (ins key x L) ↔ id = key x ∨ id ∈ keys key L := by
  have := (ins_perm (key := key) x L).map key
  unfold keys
  rw [this.mem_iff, List.map_cons, List.mem_cons]
theorem ins_sorted {x : α} : ∀ {L}, Srt key L → key x ∉ keys key L → Srt key (ins key x L)
  | [], _, _ => List.pairwise_singleton _ _
  | y :: L, h, hk => by
    have h' := h
    unfold Srt at h'
    rw [List.pairwise_cons] at h'
    have hk2 : key x ≠ key y ∧ key x ∉ keys key L := by unfold keys at hk ⊢; rw [List.map_cons, List.mem_cons, not_or] at hk; exact hk
    unfold ins
    split
    · rename_i hb
      unfold Srt
      rw [List.pairwise_cons]
      refine ⟨fun z hz => ?_, h⟩
      rcases List.mem_cons.1 hz with rfl | hz
      · exact hb
      · have := h'.1 z hz; omega
    · rename_i hb
      unfold Srt
      rw [List.pairwise_cons]
      refine ⟨fun z hz => ?_, ins_sorted h'.2 hk2.2⟩
      rcases ins_mem.1 hz with rfl | hz
      · omega
      · exact h'.1 z hz
theorem wo_sorted {L : List α} {id : Int} (h : Srt key L) : Srt key (wo key L id) := h.sublist List.filter_sublist
theorem wo_mem {L : List α} {id : Int} {y : α} : y ∈ wo key L id ↔ y ∈ L ∧ key y ≠ id := by unfold wo; rw [List.mem_filter]; simp
theorem wo_none {L : List α} {id : Int} (h : id ∉ keys key L) : wo key L id = L :=
  List.filter_eq_self.2 fun y hy => decide_eq_true fun e => h (by rw [← e]; exact List.mem_map_of_mem hy)
theorem wo_keys {L : List α} {id i : Int} : i ∈ keys key (wo key L id) ↔ i ∈ keys key L ∧ i ≠ id := by
  unfold keys
  simp only [List.mem_map]
  constructor
  · rintro ⟨y, hy, rfl⟩
    rw [wo_mem] at hy
    exact ⟨⟨y, hy.1, rfl⟩, hy.2⟩
  · rintro ⟨⟨y, hy, rfl⟩, hn⟩
    exact ⟨y, wo_mem.2 ⟨hy, hn⟩, rfl⟩
theorem wo_len (L : List α) (id : Int) : (wo key L id).length ≤ L.length := List.length_filter_le _ _
theorem get_none {z : α} {L : List α} {id : Int} (h : id ∉ keys key L) : get key z L id = z := by
  unfold get
  rw [List.find?_eq_none.2 fun y hy => by simpa using fun e => h (by rw [← e]; exact List.mem_map_of_mem hy)]
  rfl
theorem get_some {z : α} {L : List α} {id : Int} (h : id ∈ keys key L) : get key z L id ∈ L ∧ key (get key z L id) = id := by
  obtain ⟨y, hy, e⟩ := List.mem_map.1 h
  unfold get
  cases hf : L.find? fun y => decide (key y = id) with
  | none => exact absurd (List.find?_eq_none.1 hf y hy) (by simpa using e)
  | some z => exact ⟨List.mem_of_find?_eq_some hf, by simpa using List.find?_some hf⟩
theorem keys_nodup {L : List α} (h : Srt key L) : (keys key L).Nodup := by
  unfold keys
  refine List.Pairwise.map (S := fun a b : Int => a ≠ b) key (fun a b hab => ?_) h
  exact Int.ne_of_lt hab
theorem get_at {z : α} {L : List α} (h : Srt key L) {x : α} (hx : x ∈ L) : get key z L (key x) = x := by
  obtain ⟨h1, h2⟩ := get_some (z := z) (List.mem_map_of_mem hx : key x ∈ keys key L)
  obtain ⟨i, hi, e1⟩ := List.getElem_of_mem h1
  obtain ⟨j, hj, e2⟩ := List.getElem_of_mem hx
  have hp := List.pairwise_iff_getElem.1 h
  rcases Nat.lt_trichotomy i j with hij | hij | hij
  · have := hp i j hi hj hij
    rw [e1, e2, h2] at this
    omega
  · subst hij
    rw [← e1, ← e2]
  · have := hp j i hj hi hij
    rw [e1, e2, h2] at this
    omega
theorem rep_keys (L : List α) (x : α) : keys key (rep key L x) = keys key L := by
  unfold keys rep
  rw [List.map_map]
  refine List.map_congr_left fun y _ => ?_
  show key (if key y = key x then x else y) = key y
  split
  · exact Eq.symm (by assumption)
  · rfl
theorem rep_len (L : List α) (x : α) : (rep key L x).length = L.length := by unfold rep; rw [List.length_map]
theorem rep_mem {L : List α} {x y : α} (h : y ∈ rep key L x) : y ∈ L ∨ y = x := by
  unfold rep at h
  obtain ⟨z, hz, rfl⟩ := List.mem_map.1 h
  split
  · exact Or.inr rfl
  · exact Or.inl hz
theorem srt_keys {L : List α} : Srt key L ↔ (keys key L).Pairwise (· < ·) := by unfold Srt keys; rw [List.pairwise_map]
theorem rep_sorted {L : List α} {x : α} (h : Srt key L) : Srt key (rep key L x) := by rw [srt_keys, rep_keys, ← srt_keys]; exact h
theorem rep_none {L : List α} {x : α} (h : key x ∉ keys key L) : rep key L x = L := by
  unfold rep
  conv => rhs; rw [← List.map_id L]
  refine List.map_congr_left fun y hy => ?_
  rw [if_neg (fun e => h (by rw [← e]; exact List.mem_map_of_mem hy))]
  rfl
end
section
variable {α β : Type} {ka : α → Int} {kb : β → Int} {f : α → β} (hf : ∀ x, kb (f x) = ka x)
include hf
theorem map_keys (L : List α) : keys kb (L.map f) = keys ka L := by
  unfold keys
  rw [List.map_map]
  exact List.map_congr_left fun x _ => hf x
theorem map_ins (x : α) : ∀ L, (ins ka x L).map f = ins kb (f x) (L.map f)
  | [] => rfl
  | y :: L => by
    simp only [ins, List.map_cons, hf]
    split
    · rfl
    · rw [List.map_cons, map_ins x L]
theorem map_wo (L : List α) (id : Int) : (wo ka L id).map f = wo kb (L.map f) id := by
  unfold wo
  rw [List.filter_map]
  congr 1
  refine List.filter_congr fun x _ => ?_
  simp [hf]
theorem map_get (z : α) (L : List α) (id : Int) : f (get ka z L id) = get kb (f z) (L.map f) id := by
  unfold get
  rw [List.find?_map]
  have e : ((fun y => decide (kb y = id)) ∘ f) = fun y => decide (ka y = id) := by
    funext y
    simp [hf]
  rw [e]
  cases L.find? fun y => decide (ka y = id) <;> rfl
theorem map_srt {L : List α} : Srt kb (L.map f) ↔ Srt ka L := by rw [srt_keys, srt_keys, map_keys hf]
theorem map_rep (L : List α) (x : α) : (rep ka L x).map f = rep kb (L.map f) (f x) := by
  unfold rep
  rw [List.map_map, List.map_map]
  refine List.map_congr_left fun y _ => ?_
  show f (if ka y = ka x then x else y) = if kb (f y) = kb (f x) then f x else f y
  rw [hf, hf]
  split <;> rfl
end
end Go.Proofs.YtokopegffeablaaDoor.G
