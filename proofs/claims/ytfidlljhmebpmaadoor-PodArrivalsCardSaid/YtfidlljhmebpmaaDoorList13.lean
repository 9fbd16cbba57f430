/-
  The store's pods as a list: what Submit and Apply do to it. No condition, no walk.
-/
import Derived.Test.YtfidlljhmebpmaaDoorRefC13
namespace Go.Proofs.YtfidlljhmebpmaaDoor.T13
open Go.RowKit Go.Sort Go.Lib V12

/-- The phase after an event; 0 if it does not apply. -/
def nx (p e : Int) : Int :=
  if e = 1 then (if p = 1 ∨ p = 2 then 3 else 0)
  else if e = 2 then (if p = 1 ∨ p = 2 then 2 else 0)
  else if e = 3 then (if p = 2 then 1 else 0)
  else if e = 4 then (if p = 3 then 4 else 0)
  else if e = 5 then (if 1 ≤ p ∧ p ≤ 4 then 5 else 0) else 0
theorem nx_rng {p e : Int} (h : nx p e ≠ 0) : 1 ≤ nx p e ∧ nx p e ≤ 5 := by
  unfold nx at h ⊢
  repeat' split
  all_goals first | omega | (exfalso; simp_all)
def keys (L : List PodV) : List Int := L.map (·.k)
def getL (L : List PodV) (id : Int) : PodV := (L.find? fun y => decide (y.k = id)).getD zpod
def subP (x : PodV) (a : Int) : PodV := { nm x with a := a, h := 1, d := -1, t := -1 }
def subC (L : List PodV) (s : Int) (x : PodV) : Int := if x.k ∈ keys L then 6 else if s ≤ L.length then 7 else 0
def subL (L : List PodV) (s : Int) (x : PodV) : List PodV := if subC L s x = 0 then L ++ [subP x L.length] else L
def appP (x : PodV) (e nd dl : Int) : PodV := { x with h := nx x.h e, t := if e = 4 then dl else -1, d := if e = 1 ∨ e = 2 then nd else if e = 3 ∨ e = 5 then -1 else x.d }
def appC (L : List PodV) (id e : Int) : Int := if id ∉ keys L then 5 else if nx (getL L id).h e = 0 then 8 else 0
def appL (L : List PodV) (id e nd dl : Int) : List PodV := if appC L id e = 0 then L.map fun y => if y.k = id then appP y e nd dl else y else L
def onB (nd : Int) (x : PodV) : Bool := decide (x.d = nd ∧ 2 ≤ x.h ∧ x.h ≤ 4)
def withB (ph : Int) (x : PodV) : Bool := decide (x.h = ph)
theorem subP_k (x : PodV) (a : Int) : (subP x a).k = x.k := rfl
theorem appP_k (x : PodV) (e nd dl : Int) : (appP x e nd dl).k = x.k := rfl
theorem appP_a (x : PodV) (e nd dl : Int) : (appP x e nd dl).a = x.a := rfl
theorem appP_h (x : PodV) (e nd dl : Int) : (appP x e nd dl).h = nx x.h e := rfl
theorem nm_app (x : PodV) (e nd dl : Int) : nm (appP x e nd dl) = appP (nm x) e nd dl := rfl
theorem nm_k (x : PodV) : (nm x).k = x.k := rfl
theorem nm_h (x : PodV) : (nm x).h = x.h := rfl
theorem nm_d (x : PodV) : (nm x).d = x.d := rfl
theorem keys_nm (L : List PodV) : keys (L.map nm) = keys L := by unfold keys; rw [List.map_map]; rfl
theorem get_nm (L : List PodV) (id : Int) : nm (getL L id) = getL (L.map nm) id := by
  unfold getL
  rw [List.find?_map]
  show nm ((L.find? _).getD zpod) = (Option.map nm (L.find? _)).getD zpod
  have : ((fun y => decide (y.k = id)) ∘ nm : PodV → Bool) = fun y => decide (y.k = id) := rfl
  rw [this]
  cases L.find? fun y => decide (y.k = id) <;> rfl
theorem get_none {L : List PodV} {id : Int} (h : id ∉ keys L) : getL L id = zpod := by
  unfold getL
  rw [List.find?_eq_none.2 fun x hx => by simpa using fun e => h (by unfold keys; rw [← e]; exact List.mem_map_of_mem hx)]
  rfl
theorem get_some {L : List PodV} {id : Int} (h : id ∈ keys L) : getL L id ∈ L ∧ (getL L id).k = id := by
  unfold getL
  obtain ⟨y, hy, e⟩ := List.mem_map.1 h
  cases hf : L.find? fun y => decide (y.k = id) with
  | none => exact absurd (List.find?_eq_none.1 hf y hy) (by simpa using e)
  | some z => exact ⟨List.mem_of_find?_eq_some hf, by simpa using List.find?_some hf⟩
theorem get_first {P : Nat → PodV} {n j : Nat} {id : Int} (hj : j < n) (hk : (P j).k = id) (h : ∀ t, t < j → (P t).k ≠ id) : getL (lst P n) id = P j := by
  unfold getL
  have e : (lst P n).find? (fun y => decide (y.k = id)) = some (P j) := by
    rw [List.find?_eq_some_iff_getElem]
    refine ⟨by simpa using hk, j, by rw [lst_len]; exact hj, ?_, fun t ht => ?_⟩
    · have := lst_get (Q := P) hj
      rw [List.getElem?_eq_getElem (by rw [lst_len]; exact hj)] at this
      exact Option.some.inj this
    · have h1 := lst_get (Q := P) (n := n) (j := t) (by omega)
      rw [List.getElem?_eq_getElem (by rw [lst_len]; omega)] at h1
      rw [Option.some.inj h1]
      simpa using h t ht
  rw [e]
  rfl
/-- A list in order: its ids are different, the arrivals are the places, each phase is one of the five. -/
structure LOk (L : List PodV) : Prop where
  nod : (keys L).Nodup
  arr : ∀ j (h : j < L.length), (L[j]).a = j
  ph : ∀ x ∈ L, 1 ≤ x.h ∧ x.h ≤ 5
  nm : ∀ x ∈ L, nm x = x
theorem LOk.nil : LOk [] := ⟨List.nodup_nil, fun j h => absurd h (Nat.not_lt_zero _), (fun x h => by cases h), fun x h => by cases h⟩
theorem get_mem {L : List PodV} (h : LOk L) {x : PodV} (hx : x ∈ L) : getL L x.k = x := by
  have hk : x.k ∈ keys L := List.mem_map_of_mem hx
  obtain ⟨h1, h2⟩ := get_some hk
  obtain ⟨i, hi, e1⟩ := List.mem_iff_getElem.1 h1
  obtain ⟨j, hj, e2⟩ := List.mem_iff_getElem.1 hx
  have : i = j := by
    have hn := h.nod
    unfold keys at hn
    refine (List.getElem_inj (h₀ := by rw [List.length_map]; exact hi) (h₁ := by rw [List.length_map]; exact hj) hn).1 ?_
    rw [List.getElem_map, List.getElem_map, e1, e2]
    exact h2
  subst this
  rw [← e1, ← e2]
theorem subL_ok {L : List PodV} {s : Int} {x : PodV} (h : LOk L) : LOk (subL L s x) := by
  unfold subL
  split
  · rename_i h0
    have hk : x.k ∉ keys L := fun hk => by
      unfold subC at h0
      rw [if_pos hk] at h0
      exact absurd h0 (by decide)
    refine ⟨?_, fun j hj => ?_, fun y hy => ?_, fun y hy => ?_⟩
    · unfold keys
      rw [List.map_append, List.nodup_append]
      refine ⟨h.nod, by simp, fun a ha b hb e => ?_⟩
      simp only [List.map_cons, List.map_nil, List.mem_singleton] at hb
      rw [e, hb] at ha
      exact hk ha
    · rw [List.getElem_append]
      split
      · rename_i hlt; exact h.arr j hlt
      · rename_i hge
        rw [List.length_append, List.length_singleton] at hj
        have : j = L.length := by omega
        subst this
        simp
        rfl
    · rcases List.mem_append.1 hy with hy | hy
      · exact h.ph y hy
      · rw [List.mem_singleton.1 hy]
        exact ⟨by show (1 : Int) ≤ 1; omega, by show (1 : Int) ≤ 5; omega⟩
    · rcases List.mem_append.1 hy with hy | hy
      · exact h.nm y hy
      · rw [List.mem_singleton.1 hy]; rfl
  · exact h
theorem appL_keys {L : List PodV} {id e nd dl : Int} : keys (appL L id e nd dl) = keys L := by
  unfold appL
  split
  · unfold keys
    rw [List.map_map]
    refine List.map_congr_left fun y _ => ?_
    show (if y.k = id then appP y e nd dl else y).k = y.k
    split <;> rfl
  · rfl
theorem appL_len {L : List PodV} {id e nd dl : Int} : (appL L id e nd dl).length = L.length := by
  unfold appL
  split
  · rw [List.length_map]
  · rfl
theorem appL_ok {L : List PodV} {id e nd dl : Int} (h : LOk L) : LOk (appL L id e nd dl) := by
  refine ⟨by rw [appL_keys]; exact h.nod, fun j hj => ?_, fun y hy => ?_, fun y hy => ?_⟩
  · rw [appL_len] at hj
    have h1 := h.arr j hj
    unfold appL
    split
    · rw [List.getElem_map]
      split
      · exact h1
      · exact h1
    · exact h1
  · unfold appL at hy
    split at hy
    · rename_i h0
      obtain ⟨z, hz, rfl⟩ := List.mem_map.1 hy
      split
      · rename_i hk
        show 1 ≤ nx z.h e ∧ nx z.h e ≤ 5
        refine nx_rng fun hn => ?_
        unfold appC at h0
        have hm : id ∈ keys L := by rw [← hk]; exact List.mem_map_of_mem hz
        rw [if_neg (not_not_intro hm), ← hk, get_mem h hz, if_pos hn] at h0
        exact absurd h0 (by decide)
      · exact h.ph z hz
    · exact h.ph y hy
  · unfold appL at hy
    split at hy
    · obtain ⟨z, hz, rfl⟩ := List.mem_map.1 hy
      split
      · rw [nm_app, h.nm z hz]
      · exact h.nm z hz
    · exact h.nm y hy
theorem subL_len (L : List PodV) (s : Int) (x : PodV) : (subL L s x).length ≤ L.length + 1 := by
  unfold subL
  split
  · rw [List.length_append]; exact Nat.le_refl _
  · omega
/-- The arrivals of any part are in order. -/
theorem LOk.sorted {L : List PodV} (h : LOk L) : L.Pairwise fun x y => x.a < y.a := by
  rw [List.pairwise_iff_getElem]
  intro i j hi hj hij
  rw [h.arr i hi, h.arr j hj]
  omega
theorem LOk.filter {L : List PodV} (h : LOk L) (b : PodV → Bool) : (L.filter b).Pairwise fun x y => x.a < y.a := h.sorted.filter b
/-- Every pod has one of the five phases. -/
theorem LOk.sum {L : List PodV} (h : LOk L) : (L.filter (withB 1)).length + (L.filter (withB 2)).length + (L.filter (withB 3)).length + (L.filter (withB 4)).length + (L.filter (withB 5)).length = L.length := by
  have hp := h.ph
  clear h
  induction L with
  | nil => rfl
  | cons x L ih =>
    have h1 := hp x (by simp)
    have h2 := ih fun y hy => hp y (by simp [hy])
    have hc : x.h = 1 ∨ x.h = 2 ∨ x.h = 3 ∨ x.h = 4 ∨ x.h = 5 := by omega
    simp only [List.filter_cons, withB, List.length_cons] at h2 ⊢
    rcases hc with e | e | e | e | e <;> simp [e] <;> omega
theorem LOk.none {L : List PodV} (h : LOk L) {p : Int} (hp : p < 1 ∨ 5 < p) : L.filter (withB p) = [] := by
  rw [List.filter_eq_nil_iff]
  intro x hx
  have := h.ph x hx
  unfold withB
  simp
  omega
end Go.Proofs.YtfidlljhmebpmaaDoor.T13
