/-
  The table and the reference's list side by side. No condition, no walk.
-/
import Derived.Test.YtfjghbgmjpdpbaaDoorCon10
import Derived.Test.YtfjghbgmjpdpbaaDoorRSet10
import Derived.Test.YtfjghbgmjpdpbaaDoorIDs10
import Derived.Test.YtfjghbgmjpdpbaaDoorEq10
namespace Go.Proofs.YtfjghbgmjpdpbaaDoor.T10
open Go.RowKit Go.Sort Go.Lib

/-- The reference's list. -/
structure RL (w : World) (B : Option Addr) (d : Nat) (L : List PrV) : Prop where
  rd : RdP w B L.length (row L)
  pl : Pl B L.length d
  cap : L.length ≤ d
section
variable {w w' : World} {s : Int} {p m : Nat} {L : List PrV} {B : Option Addr} {d : Nat}
theorem RL.keep (h : RL w B d L) (k : Keep w w') : RL w' B d L := ⟨h.rd.keep k, h.pl, h.cap⟩
theorem RL.fr {L' : List PrV} (h : RL w B d L) (t : TI w s p m L') (f : Fr (· = m) w w') : RL w' B d L := ⟨h.rd.fr f (t.off h.rd), h.pl, h.cap⟩
theorem RList.rl (h : RList w w' B d L) : Keep w w' ∧ RL w' B d L := ⟨h.keep, h.rd, h.pl, h.cap⟩
theorem rl_nil (w : World) : RL w none 0 [] := ⟨RdP.nil _ _ _, Or.inl ⟨rfl, rfl, rfl⟩, Nat.le_refl _⟩
theorem keys_row (L : List PrV) (id : Int) : 0 ≤ findN (row L) id L.length ↔ id ∈ keys L := by rw [find_iff, lst_row]
theorem radd_fn (h : RL w B d L) (hs : Srt L) (hl : L.length ≤ 1000) (hb : (L.length : Int) ≤ s) (x : PrV) (hx : PrOk x) :
    Calls Tryd.prog 22 #[.slice B L.length d, .int .i64 s, x.val] w fun e w' => ∃ B' d', e = .returned (.tuple #[.slice B' (addL L s x).length d', .int .i64 (addC L s x)]) ∧ Keep w w' ∧ RL w' B' d' (addL L s x) := by
  have hs' : Srt (lst (row L) L.length) := by rw [lst_row]; exact hs
  by_cases hk : x.k ∈ keys L
  · unfold addC addL
    rw [if_pos hk, if_pos hk]
    have hr := radd_dup B L.length d (row L) x s w h.rd h.pl h.cap (by rw [lst_row]; exact hk)
    rw [lst_row] at hr
    exact hr.mono fun e w' ⟨B', d', he, r⟩ => ⟨B', d', he, r.rl⟩
  · by_cases hf : (L.length : Int) = s
    · unfold addC addL
      rw [if_neg hk, if_pos hf, if_neg hk, if_pos hf]
      have hr := radd_full B L.length d (row L) x s w h.rd h.pl h.cap (by rw [lst_row]; exact hk) (by omega)
      rw [lst_row] at hr
      exact hr.mono fun e w' ⟨B', d', he, r⟩ => ⟨B', d', he, r.rl⟩
    · unfold addC addL
      rw [if_neg hk, if_neg hf, if_neg hk, if_neg hf, ins_len]
      have hr := radd_new B L.length d (row L) x s w h.rd h.pl h.cap hl hx hs' (by rw [lst_row]; exact hk) (by omega)
      rw [lst_row] at hr
      exact hr.mono fun e w' ⟨B', d', he, r⟩ => ⟨B', d', he, r.rl⟩
theorem rset_fn (h : RL w B d L) (hs : Srt L) (hl : L.length ≤ 1000) (x : PrV) (hx : PrOk x) :
    Calls Tryd.prog 28 #[.slice B L.length d, x.val] w fun e w' => ∃ B' d', e = .returned (.tuple #[.slice B' (repL L x).length d', .int .i64 (setC L x)]) ∧ Keep w w' ∧ RL w' B' d' (repL L x) := by
  have hs' : Srt (lst (row L) L.length) := by rw [lst_row]; exact hs
  by_cases hk : x.k ∈ keys L
  · unfold setC
    rw [if_pos hk, rep_len]
    have hr := rset_some B L.length d (row L) x w h.rd h.pl hl hx hs' (by rw [lst_row]; exact hk)
    rw [lst_row] at hr
    exact hr.mono fun e w' ⟨B', d', he, r⟩ => ⟨B', d', he, r.rl⟩
  · unfold setC
    rw [if_neg hk, rep_none hk]
    have hr := rset_none B L.length d (row L) x w h.rd h.pl h.cap (by rw [lst_row]; exact hk)
    rw [lst_row] at hr
    exact hr.mono fun e w' ⟨B', d', he, r⟩ => ⟨B', d', he, r.rl⟩
theorem rrem_fn (h : RL w B d L) (ho : ∀ x ∈ L, PrOk x) (hl : L.length ≤ 1000) (id : Int) :
    Calls Tryd.prog 29 #[.slice B L.length d, .int .i64 id] w fun e w' => ∃ B' d', e = .returned (.slice B' (woL L id).length d') ∧ Keep w w' ∧ RL w' B' d' (woL L id) := by
  have hr := rremove_fn B L.length d (row L) id w h.rd hl
  rw [lst_row] at hr
  exact hr.mono fun e w' ⟨B', d', he, k, r⟩ => ⟨B', d', he, (own_rlist k r (by have := wo_len L id; omega) (fun y hy => ho y (wo_mem hy))).rl⟩
/-- A row of ids. -/
theorem ids_rd {P : Nat → PrV} {n base : Nat} (h : w.ownsRow base 3 1 (.slice B n d) n (zl P n)) (hn : n ≤ 9223372036854775807) (ho : ∀ j, j < n → PrOk (P j)) : Rd w B n fun j => (P j).k := by
  refine ⟨hn, fun j hj => (ho j hj).k, fun hp => ?_⟩
  obtain ⟨g, cap, e, _, _⟩ := h.form hp
  have e' := e
  simp only [Value.slice.injEq] at e'
  obtain ⟨rfl, _, rfl⟩ := e'
  refine ⟨g, 0, rfl, fun j hj => ?_⟩
  rw [Nat.zero_add, h.cellAt j (by omega)]
  unfold zl
  rw [List.getElem?_map, lst_get hj]
  rfl
theorem rids_list (h : RL w B d L) (hl : L.length ≤ 1000) : Calls Tryd.prog 13 #[.slice B L.length d] w fun e w' => ∃ B' d', e = .returned (.slice B' L.length d') ∧ Keep w w' ∧ w'.ownsRow w.heap.size 3 1 (.slice B' L.length d') L.length (zl (row L) L.length) :=
  rids_fn B L.length d (row L) w h.rd hl
theorem keys_merge {l : List (Int × Value)} (hp : l.Perm (L.map PrV.kv)) (hs : Srt L) : ((l.map (·.1)).mergeSort fun x y => decide (x ≤ y)) = keys L := by
  have e : ((l.map (·.1)).mergeSort fun x y => decide (x ≤ y)) = (keys L).mergeSort fun x y => decide (x ≤ y) := mergeSort_of_perm_i (by rw [← kv_keys]; exact hp.map _)
  rw [e]
  refine List.mergeSort_of_pairwise ?_
  refine (srt_keys.1 hs).imp fun h => ?_
  simpa using Int.le_of_lt h
theorem tids_fn (h : TI w s p m L) (hl : L.length ≤ 1000) : Calls Tryd.prog 12 #[.pointer (some ⟨p, 0, none⟩)] w fun e w' => ∃ B d, e = .returned (.slice B L.length d) ∧ Keep w w' ∧ w'.ownsRow w.heap.size 3 1 (.slice B L.length d) L.length (zl (row L) L.length) := by
  obtain ⟨l, a, b⟩ := h.ex
  have el : l.length = L.length := by rw [b.length_eq, List.length_map]
  refine (tbids_fn a (by omega)).mono fun e w' ⟨v, he, ho, hk⟩ => ?_
  rw [keys_merge b h.srt, el] at ho
  have ez : (keys L).map encZ = zl (row L) L.length := by
    unfold zl keys
    rw [lst_row, List.map_map]
    rfl
  rw [ez] at ho
  obtain ⟨B, d, rfl, _⟩ := own_form ho
  exact ⟨B, d, he, hk, ho⟩
theorem row_mem {j : Nat} (hj : j < L.length) : row L j ∈ L := by
  unfold row
  rw [List.getD_eq_getElem?_getD, List.getElem?_eq_getElem hj]
  exact List.getElem_mem hj
/-- The table's ids and the reference's are the same. -/
theorem ids_same (h : TI w s p m L) {W : World} {A1 A2 : Option Addr} {c1 c2 b1 b2 : Nat} (h1 : W.ownsRow b1 3 1 (.slice A1 L.length c1) L.length (zl (row L) L.length)) (h2 : W.ownsRow b2 3 1 (.slice A2 L.length c2) L.length (zl (row L) L.length)) (hl : L.length ≤ 1000) :
    Calls Tryd.prog 11 #[.slice A1 L.length c1, .slice A2 L.length c2] W fun e w' => e = .returned (.bool true) ∧ Drawn W w' :=
  equal_yes A1 A2 L.length c1 c2 _ _ W (ids_rd h1 (by omega) fun j hj => h.ok _ (row_mem hj)) (ids_rd h2 (by omega) fun j hj => h.ok _ (row_mem hj)) fun _ _ => rfl
theorem code_fn (c : Int) (w : World) (hg : ErrT w) : Calls Tryd.prog 19 #[errC c] w fun e w' => e = .returned (.int .i64 c) ∧ Keep w w' := errT_code c w hg
end
end Go.Proofs.YtfjghbgmjpdpbaaDoor.T10
