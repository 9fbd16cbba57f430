/-
  A table of ints as a sorted list of pairs: what its methods do to it. No condition.
-/
import Derived.Test.YtfjghbgmjpdpbaaDoorTab10
import Derived.Test.YtfjghbgmjpdpbaaDoorRAdd10
namespace Go.Proofs.YtfjghbgmjpdpbaaDoor.T10
open Go.RowKit Go.Lib Go.Extern

def PrV.kv (x : PrV) : Int × Value := (x.k, .int .i64 x.v)
theorem kv_keys (L : List PrV) : (L.map PrV.kv).map (·.1) = keys L := by unfold keys; rw [List.map_map]; rfl
/-- The table at p, with its map at m, holds the pairs of L. -/
structure TI (w : World) (s : Int) (p m : Nat) (L : List PrV) : Prop where
  ex : ∃ l, TMI w s p m l ∧ l.Perm (L.map PrV.kv)
  srt : Srt L
  ok : ∀ x ∈ L, PrOk x
section
variable {w w' : World} {s : Int} {p m : Nat} {L : List PrV}
theorem TI.keep (h : TI w s p m L) (k : Keep w w') : TI w' s p m L := ⟨by obtain ⟨l, a, b⟩ := h.ex; exact ⟨l, a.keep k, b⟩, h.srt, h.ok⟩
theorem TI.fr (h : TI w s p m L) {E : Nat → Prop} (f : Fr E w w') (h1 : ¬ E p) (h2 : ¬ E m) : TI w' s p m L := ⟨by obtain ⟨l, a, b⟩ := h.ex; exact ⟨l, a.fr f h1 h2, b⟩, h.srt, h.ok⟩
theorem TI.len (h : TI w s p m L) : (L.length : Int) ≤ s := by
  obtain ⟨l, a, b⟩ := h.ex
  have := a.len
  rw [b.length_eq, List.length_map] at this
  exact this
theorem TI.lo (h : TI w s p m L) : 0 ≤ s := by obtain ⟨l, a, b⟩ := h.ex; exact a.lo
theorem TI.hi (h : TI w s p m L) : s ≤ 9223372036854775807 := by obtain ⟨l, a, b⟩ := h.ex; exact a.hi
theorem TI.plt (h : TI w s p m L) : p < w.heap.size := by obtain ⟨l, a, b⟩ := h.ex; exact a.plt
theorem TI.mlt (h : TI w s p m L) : m < w.heap.size := by obtain ⟨l, a, b⟩ := h.ex; exact a.mlt
/-- A row of pairs lies in another block than the map. -/
theorem TI.off (h : TI w s p m L) {A : Option Addr} {n : Nat} {P : Nat → PrV} (hR : RdP w A n P) : Off (· = m) A n := fun b off e hn hb => by
  obtain ⟨b', off', e', ca⟩ := hR.adr hn
  rw [e] at e'
  have e2 := Option.some.inj e'
  simp only [Addr.mk.injEq, and_true] at e2
  obtain ⟨rfl, rfl⟩ := e2
  subst hb
  obtain ⟨l, a, _⟩ := h.ex
  obtain ⟨o, ho, es, c, rfl, _⟩ := a.mp
  have := (ca 0 hn).e0
  simp [World.cell?, ho] at this
theorem look_in {l : List (Int × Value)} (hp : l.Perm (L.map PrV.kv)) (hs : Srt L) {id : Int} (h : id ∈ keys L) : MV.lookV l id = some (.int .i64 (getL L id).v) := by
  have hn : (l.map (·.1)).Nodup := by rw [(hp.map _).nodup_iff, kv_keys]; exact keys_nodup hs
  rw [MV.look_mem hn, hp.mem_iff]
  have g := get_some h
  refine List.mem_map.2 ⟨getL L id, g.1, ?_⟩
  unfold PrV.kv
  rw [g.2]
theorem look_out {l : List (Int × Value)} (hp : l.Perm (L.map PrV.kv)) {id : Int} (h : id ∉ keys L) : MV.lookV l id = none := by
  rw [MV.look_none, (hp.map _).mem_iff, kv_keys]
  exact h
/-- The error of a code; none at 0. -/
def errC (c : Int) : Value := if c = 0 then .nilIface else err c
def addC (L : List PrV) (s : Int) (x : PrV) : Int := if x.k ∈ keys L then 6 else if (L.length : Int) = s then 7 else 0
def addL (L : List PrV) (s : Int) (x : PrV) : List PrV := if x.k ∈ keys L then L else if (L.length : Int) = s then L else insL x L
def setC (L : List PrV) (x : PrV) : Int := if x.k ∈ keys L then 0 else 5
theorem rep_none {L : List PrV} {x : PrV} (h : x.k ∉ keys L) : repL L x = L := by
  unfold repL
  conv => rhs; rw [← List.map_id L]
  refine List.map_congr_left fun y hy => ?_
  rw [if_neg (fun e => h (by rw [← e]; exact List.mem_map_of_mem hy))]
  rfl
theorem tnew_fn (s : Int) (hs : I64 s) (w : World) : Calls Tryd.prog 8 #[.int .i64 s] w fun e w' => ∃ p, e = .returned (.pointer (some ⟨p, 0, none⟩)) ∧ ∃ m, TI w' (if 0 ≤ s then s else 0) p m [] ∧ Keep w w' ∧ w.heap.size ≤ p ∧ w.heap.size ≤ m :=
  (tbnew_fn s hs w).mono fun e w' ⟨p, he, m, h, k, h1, h2⟩ => ⟨p, he, m, ⟨⟨[], h, List.Perm.nil⟩, List.Pairwise.nil, fun x h => by cases h⟩, k, h1, h2⟩
theorem tlen_fn (h : TI w s p m L) : Calls Tryd.prog 14 #[.pointer (some ⟨p, 0, none⟩)] w fun e w' => e = .returned (.int .i64 L.length) ∧ w = w' := by
  obtain ⟨l, a, b⟩ := h.ex
  have := tblen_fn a
  rw [b.length_eq, List.length_map] at this
  exact this
theorem troom_fn (h : TI w s p m L) : Calls Tryd.prog 15 #[.pointer (some ⟨p, 0, none⟩)] w fun e w' => e = .returned (.int .i64 (s - L.length)) ∧ Drawn w w' := by
  obtain ⟨l, a, b⟩ := h.ex
  have := tbroom_fn a
  rw [b.length_eq, List.length_map] at this
  exact this
theorem tget_fn (h : TI w s p m L) (id : Int) : Calls Tryd.prog 25 #[.pointer (some ⟨p, 0, none⟩), .int .i64 id] w fun e w' => e = .returned (.tuple #[.int .i64 (getL L id).v, .bool (decide (id ∈ keys L))]) ∧ w = w' := by
  obtain ⟨l, a, b⟩ := h.ex
  by_cases hk : id ∈ keys L
  · rw [decide_eq_true hk]
    exact tbget_some a id _ (look_in b h.srt hk)
  · rw [decide_eq_false hk, get_none hk]
    exact tbget_none a id (look_out b hk)
theorem tadd_fn (h : TI w s p m L) (x : PrV) (hx : PrOk x) : Calls Tryd.prog 21 #[.pointer (some ⟨p, 0, none⟩), .int .i64 x.k, .int .i64 x.v] w fun e w' => e = .returned (errC (addC L s x)) ∧ TI w' s p m (addL L s x) ∧ Fr (· = m) w w' := by
  have hl := h.len
  obtain ⟨l, a, b⟩ := h.ex
  have e : l.length = L.length := by rw [b.length_eq, List.length_map]
  by_cases hk : x.k ∈ keys L
  · unfold addC addL errC
    rw [if_pos hk, if_pos hk, if_neg (by decide)]
    exact (tbadd_dup a x.k x.v _ (look_in b h.srt hk)).mono fun e w' ⟨he, hw⟩ => ⟨he, by rw [← hw]; exact h, by rw [← hw]; exact Fr.refl _ _⟩
  · by_cases hf : (L.length : Int) = s
    · unfold addC addL errC
      rw [if_neg hk, if_pos hf, if_neg hk, if_pos hf, if_neg (by decide)]
      exact (tbadd_full a x.k x.v (look_out b hk) (by omega)).mono fun e w' ⟨he, hw⟩ => ⟨he, h.keep hw.keep, Fr.of hw.keep⟩
    · unfold addC addL errC
      rw [if_neg hk, if_neg hf, if_neg hk, if_neg hf, if_pos rfl]
      refine (tbadd_new a x.k x.v (look_out b hk) (by omega)).mono fun e w' ⟨he, ht, hw⟩ => ⟨he, ⟨⟨_, ht, ?_⟩, ins_sorted h.srt hk, fun y hy => ?_⟩, hw⟩
      · refine List.Perm.trans ?_ ((ins_perm x L).map PrV.kv).symm
        rw [List.map_cons]
        exact (List.perm_append_singleton _ _).trans (b.cons _)
      · rcases ins_mem.1 hy with rfl | hy
        · exact hx
        · exact h.ok y hy
theorem tset_fn (h : TI w s p m L) (x : PrV) (hx : PrOk x) : Calls Tryd.prog 27 #[.pointer (some ⟨p, 0, none⟩), .int .i64 x.k, .int .i64 x.v] w fun e w' => e = .returned (errC (setC L x)) ∧ TI w' s p m (repL L x) ∧ Fr (· = m) w w' := by
  obtain ⟨l, a, b⟩ := h.ex
  by_cases hk : x.k ∈ keys L
  · unfold setC errC
    rw [if_pos hk, if_pos rfl]
    refine (tbset_some a x.k x.v _ (look_in b h.srt hk)).mono fun e w' ⟨he, ht, hw⟩ => ⟨he, ⟨⟨_, ht, ?_⟩, rep_sorted h.srt, fun y hy => ?_⟩, hw⟩
    · have e2 : (repL L x).map PrV.kv = MV.repV (L.map PrV.kv) x.k (.int .i64 x.v) := by
        unfold repL MV.repV
        rw [List.map_map, List.map_map]
        refine List.map_congr_left fun y _ => ?_
        show PrV.kv (if y.k = x.k then x else y) = if (PrV.kv y).1 = x.k then (x.k, .int .i64 x.v) else PrV.kv y
        by_cases e : y.k = x.k
        · rw [if_pos e, if_pos (by exact e)]; rfl
        · rw [if_neg e, if_neg (by exact e)]
      rw [e2]
      exact b.map _
    · rcases rep_mem hy with hy | rfl
      · exact h.ok y hy
      · exact hx
  · unfold setC errC
    rw [if_neg hk, if_neg (by decide), rep_none hk]
    exact (tbset_none a x.k x.v (look_out b hk)).mono fun e w' ⟨he, hw⟩ => ⟨he, by rw [← hw]; exact h, by rw [← hw]; exact Fr.refl _ _⟩
theorem trem_fn (h : TI w s p m L) (id : Int) : Calls Tryd.prog 23 #[.pointer (some ⟨p, 0, none⟩), .int .i64 id] w fun e w' => e = .returned (.tuple #[.int .i64 (getL L id).v, .bool (decide (id ∈ keys L))]) ∧ TI w' s p m (woL L id) ∧ Fr (· = m) w w' := by
  obtain ⟨l, a, b⟩ := h.ex
  by_cases hk : id ∈ keys L
  · rw [decide_eq_true hk]
    refine (tbrem_some a id _ (look_in b h.srt hk)).mono fun e w' ⟨he, ht, hw⟩ => ⟨he, ⟨⟨_, ht, ?_⟩, wo_sorted h.srt, fun y hy => h.ok y (wo_mem hy)⟩, hw⟩
    have e2 : (woL L id).map PrV.kv = (L.map PrV.kv).filter fun x => decide (x.1 ≠ id) := by
      unfold woL
      rw [List.filter_map]
      rfl
    rw [e2]
    exact b.filter _
  · rw [decide_eq_false hk, get_none hk, wo_none hk]
    exact (tbrem_none a id (look_out b hk)).mono fun e w' ⟨he, hw⟩ => ⟨he, by rw [← hw]; exact h, by rw [← hw]; exact Fr.refl _ _⟩
end
end Go.Proofs.YtfjghbgmjpdpbaaDoor.T10
