/-
  A table of classes as a sorted list of pairs: what its methods do to it. No condition.
-/
import Derived.Test.YtmbeghngnnpmlaaDoorTab11
import Derived.Test.YtmbeghngnnpmlaaDoorIDs11
import Derived.Test.YtmbeghngnnpmlaaDoorRef11
namespace Go.Proofs.YtmbeghngnnpmlaaDoor.T11
open Go.RowKit Go.Lib Go.Extern Go.Sort Go.Maps Go.Shelf

def ClV.kv (x : ClV) : Int × Value := (x.k, x.val)
theorem kv_keys (L : List ClV) : (L.map ClV.kv).map (·.1) = keys L := by unfold keys; rw [List.map_map]; rfl
/-- The table at p, with its map at m, holds the pairs of L. -/
structure TI (w : World) (s : Int) (p m : Nat) (L : List ClV) : Prop where
  ex : ∃ l, TMC w s p m l ∧ l.Perm (L.map ClV.kv)
  srt : Srt L
  ok : ∀ x ∈ L, ClOk x
section
variable {w w' : World} {s : Int} {p m : Nat} {L : List ClV}
theorem TI.keep (h : TI w s p m L) (k : Keep w w') : TI w' s p m L := ⟨by obtain ⟨l, a, b⟩ := h.ex; exact ⟨l, a.keep k, b⟩, h.srt, h.ok⟩
theorem TI.fr (h : TI w s p m L) {E : Nat → Prop} (f : Fr E w w') (h1 : ¬ E p) (h2 : ¬ E m) : TI w' s p m L := ⟨by obtain ⟨l, a, b⟩ := h.ex; exact ⟨l, a.fr f h1 h2, b⟩, h.srt, h.ok⟩
theorem TI.len (h : TI w s p m L) : (L.length : Int) ≤ s := by
  obtain ⟨l, a, b⟩ := h.ex
  have := a.len
  rw [b.length_eq, List.length_map] at this
  exact this
theorem TI.lo (h : TI w s p m L) : 0 ≤ s := by obtain ⟨l, a, b⟩ := h.ex; exact a.lo
theorem TI.hi (h : TI w s p m L) : s ≤ 9223372036854775807 := by obtain ⟨l, a, b⟩ := h.ex; exact a.hi
theorem TI.plt (h : TI w s p m L) : p < w.heap.size := by obtain ⟨l, a, b⟩ := h.ex; exact a.plt
theorem TI.mlt (h : TI w s p m L) : m < w.heap.size := by obtain ⟨l, a, b⟩ := h.ex; exact a.mlt
/-- A row of pairs lies in another block than the map. -/
theorem TI.off (h : TI w s p m L) {A : Option Addr} {n : Nat} {P : Nat → ClV} (hR : RdC w A n P) : Off (· = m) A n := fun b off e hn hb => by
  obtain ⟨b', off', e', ca⟩ := hR.adr hn
  rw [e] at e'
  have e2 := Option.some.inj e'
  simp only [Addr.mk.injEq, and_true] at e2
  obtain ⟨rfl, rfl⟩ := e2
  subst hb
  obtain ⟨l, a, _⟩ := h.ex
  obtain ⟨o, ho, es, c, rfl, _⟩ := a.mp
  have := (ca 0 hn).e0
  simp [World.cell?, ho] at this
theorem look_in {l : List (Int × Value)} (hp : l.Perm (L.map ClV.kv)) (hs : Srt L) {id : Int} (h : id ∈ keys L) : MV.lookV l id = some (getL L id).val := by
  have hn : (l.map (·.1)).Nodup := by rw [(hp.map _).nodup_iff, kv_keys]; exact keys_nodup hs
  rw [MV.look_mem hn, hp.mem_iff]
  have g := get_some h
  refine List.mem_map.2 ⟨getL L id, g.1, ?_⟩
  unfold ClV.kv
  rw [g.2]
theorem look_out {l : List (Int × Value)} (hp : l.Perm (L.map ClV.kv)) {id : Int} (h : id ∉ keys L) : MV.lookV l id = none := by
  rw [MV.look_none, (hp.map _).mem_iff, kv_keys]
  exact h
/-- The error of a code; none at 0. -/
def errC (c : Int) : Value := if c = 0 then .nilIface else err c
def addC (L : List ClV) (s : Int) (x : ClV) : Int := if x.k ∈ keys L then 6 else if (L.length : Int) = s then 7 else 0
def addL (L : List ClV) (s : Int) (x : ClV) : List ClV := if x.k ∈ keys L then L else if (L.length : Int) = s then L else insL x L
theorem tnew_fn (s : Int) (hs : I64 s) (w : World) : Calls Tryd.prog 22 #[.int .i64 s] w fun e w' => ∃ p, e = .returned (.pointer (some ⟨p, 0, none⟩)) ∧ ∃ m, TI w' (if 0 ≤ s then s else 0) p m [] ∧ Keep w w' ∧ w.heap.size ≤ p ∧ w.heap.size ≤ m :=
  (tcnew_fn s hs w).mono fun e w' ⟨p, he, m, h, k, h1, h2⟩ => ⟨p, he, m, ⟨⟨[], h, List.Perm.nil⟩, List.Pairwise.nil, fun x h => by cases h⟩, k, h1, h2⟩
theorem tlen_fn (h : TI w s p m L) : Calls Tryd.prog 28 #[.pointer (some ⟨p, 0, none⟩)] w fun e w' => e = .returned (.int .i64 L.length) ∧ w = w' := by
  obtain ⟨l, a, b⟩ := h.ex
  have := tclen_fn a
  rw [b.length_eq, List.length_map] at this
  exact this
theorem troom_fn (h : TI w s p m L) : Calls Tryd.prog 38 #[.pointer (some ⟨p, 0, none⟩)] w fun e w' => e = .returned (.int .i64 (s - L.length)) ∧ Drawn w w' := by
  obtain ⟨l, a, b⟩ := h.ex
  have := tcroom_fn a
  rw [b.length_eq, List.length_map] at this
  exact this
theorem tget_fn (h : TI w s p m L) (id : Int) : Calls Tryd.prog 30 #[.pointer (some ⟨p, 0, none⟩), .int .i64 id] w fun e w' => e = .returned (.tuple #[(getL L id).val, .bool (decide (id ∈ keys L))]) ∧ Gr w w' := by
  obtain ⟨l, a, b⟩ := h.ex
  by_cases hk : id ∈ keys L
  · rw [decide_eq_true hk]
    exact tcget_any a id _ _ (by rw [look_in b h.srt hk]; rfl) (by rw [look_in b h.srt hk]; rfl)
  · rw [decide_eq_false hk, get_none hk]
    exact tcget_any a id _ _ (by rw [look_out b hk]; rfl) (by rw [look_out b hk]; rfl)
theorem tadd_fn (h : TI w s p m L) (x : ClV) (hx : ClOk x) : Calls Tryd.prog 25 #[.pointer (some ⟨p, 0, none⟩), .int .i64 x.k, x.val] w fun e w' => e = .returned (errC (addC L s x)) ∧ TI w' s p m (addL L s x) ∧ Fr (· = m) w w' := by
  have hl := h.len
  obtain ⟨l, a, b⟩ := h.ex
  have e : l.length = L.length := by rw [b.length_eq, List.length_map]
  by_cases hk : x.k ∈ keys L
  · unfold addC addL errC
    rw [if_pos hk, if_pos hk, if_neg (by decide)]
    exact (tcadd_dup a x.k x _ (look_in b h.srt hk)).mono fun e w' ⟨he, hw⟩ => ⟨he, h.keep hw.keep, Fr.of hw.keep⟩
  · by_cases hf : (L.length : Int) = s
    · unfold addC addL errC
      rw [if_neg hk, if_pos hf, if_neg hk, if_pos hf, if_neg (by decide)]
      exact (tcadd_full a x.k x (look_out b hk) (by omega)).mono fun e w' ⟨he, hw⟩ => ⟨he, h.keep hw, Fr.of hw⟩
    · unfold addC addL errC
      rw [if_neg hk, if_neg hf, if_neg hk, if_neg hf, if_pos rfl]
      refine (tcadd_new a x.k x (look_out b hk) (by omega)).mono fun e w' ⟨he, ht, hw⟩ => ⟨he, ⟨⟨_, ht, ?_⟩, ins_sorted h.srt hk, fun y hy => ?_⟩, hw⟩
      · refine List.Perm.trans ?_ ((ins_perm x L).map ClV.kv).symm
        rw [List.map_cons]
        exact (List.perm_append_singleton _ _).trans (b.cons _)
      · rcases ins_mem.1 hy with rfl | hy
        · exact hx
        · exact h.ok y hy
/-- A cell's block is not the map's. -/
theorem TI.off_block {a : Addr} {v : Value} (h : TI w s p m L) (hc : w.cell? a = some v) : ¬ a.block = m := fun e => by
  obtain ⟨l, t, _⟩ := h.ex
  obtain ⟨o, ho, es, c', rfl, _⟩ := t.mp
  simp [World.cell?, e, ho] at hc
def zl (P : Nat → ClV) (n : Nat) : List Value := (lst P n).map fun x => .int .i64 x.k
theorem ids_rd {W : World} {base n : Nat} {A : Option Addr} {d : Nat} {P : Nat → ClV} (h : W.ownsRow base 3 1 (.slice A n d) n (zl P n)) (hn : n ≤ 9223372036854775807) (ho : ∀ j, j < n → ClOk (P j)) : Rd W A n fun j => (P j).k :=
  ⟨hn, fun j hj => (ho j hj).k, fun hp => by
    obtain ⟨g, cap, e, _, _⟩ := h.form hp
    have e' := e
    simp only [Value.slice.injEq] at e'
    obtain ⟨rfl, _, rfl⟩ := e'
    refine ⟨g, 0, rfl, fun j hj => ?_⟩
    rw [Nat.zero_add, h.cellAt j (by omega)]
    unfold zl
    rw [List.getElem?_map, lst_get hj]
    rfl⟩
theorem keys_merge {l : List (Int × Value)} (hp : l.Perm (L.map ClV.kv)) (hs : Srt L) : ((l.map (·.1)).mergeSort fun x y => decide (x ≤ y)) = keys L := by
  have e : ((l.map (·.1)).mergeSort fun x y => decide (x ≤ y)) = (keys L).mergeSort fun x y => decide (x ≤ y) := mergeSort_of_perm_i (by rw [← kv_keys]; exact hp.map _)
  rw [e]
  refine List.mergeSort_of_pairwise ?_
  refine (srt_keys.1 hs).imp fun h => ?_
  simpa using Int.le_of_lt h
theorem tids_fn (h : TI w s p m L) (hl : L.length ≤ 1000) : Calls Tryd.prog 29 #[.pointer (some ⟨p, 0, none⟩)] w fun e w' => ∃ B d, e = .returned (.slice B L.length d) ∧ Keep w w' ∧ w'.ownsRow w.heap.size 3 1 (.slice B L.length d) L.length (zl (row L) L.length) := by
  obtain ⟨l, a, b⟩ := h.ex
  have el : l.length = L.length := by rw [b.length_eq, List.length_map]
  refine (tcids_fn a (by omega)).mono fun e w' ⟨v, he, ho, hk⟩ => ?_
  rw [keys_merge b h.srt, el] at ho
  have ez : (keys L).map encZ = zl (row L) L.length := by
    unfold zl keys
    rw [lst_row, List.map_map]
    rfl
  rw [ez] at ho
  obtain ⟨B, d, rfl, _⟩ := own_form ho
  exact ⟨B, d, he, hk, ho⟩
theorem row_mem {j : Nat} (hj : j < L.length) : row L j ∈ L := by
  unfold row
  rw [List.getD_eq_getElem?_getD, List.getElem?_eq_getElem hj]
  exact List.getElem_mem hj
end
end Go.Proofs.YtmbeghngnnpmlaaDoor.T11
