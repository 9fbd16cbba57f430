/-
  A map from numbers to numbers: what a look-up answers, what an insert and a delete leave. No condition.
-/
import Derived.Test.YtdjakljkcjadhaaBase5
import Derived.Maps.Own
import Derived.Carry
namespace Go.Proofs.Ytdjakljkcjadhaa
open Go.RowKit Go.Extern.Stop Go.Stop Go.Extern
open Go.ChangeMaps (setBlock)

def iv (k : Int) : Value := .int .i64 k
/-- The entries are the pairs of l. -/
def EntI (es : List MapEntry) (l : List (Int × Int)) : Prop := es.map (fun x => (x.key, x.val)) = l.map (fun x => (iv x.1, iv x.2))
/-- The number at k. -/
def lookI : List (Int × Int) → Int → Option Int
  | [], _ => none
  | x :: r, k => if k = x.1 then some x.2 else lookI r k
def upd (f : Int → Option Int) (k v : Int) : Int → Option Int := fun j => if j = k then some v else f j
def del (f : Int → Option Int) (k : Int) : Int → Option Int := fun j => if j = k then none else f j

theorem find_i (k : Int) : ∀ (l : List (Int × Int)) (es : List MapEntry) (i : Nat), EntI es l →
    ∃ r, Instr.findNow (.int .i64) (iv k) es i = some r ∧ r.map (·.2) = (lookI l k).map iv ∧ ∀ z, r = some z → ∃ j, z.1 = i + j ∧ ∃ x, l[j]? = some x ∧ x.1 = k
  | [], es, i, h => by
    have : es = [] := by simpa [EntI] using h
    subst this
    exact ⟨none, rfl, rfl, fun _ h => by cases h⟩
  | x :: r, [], i, h => by simp [EntI] at h
  | x :: r, y :: es, i, h => by
    simp only [EntI, List.map_cons, List.cons.injEq, Prod.mk.injEq] at h
    obtain ⟨⟨hk, hv⟩, ht⟩ := h
    have e1 : Instr.sameNow (.int .i64) (iv k) y.key = some (k == x.1) := by rw [hk]; simp [iv, Instr.sameNow]
    by_cases hc : k = x.1
    · refine ⟨some (i, y.val), ?_, ?_, ?_⟩
      · unfold Instr.findNow; rw [e1, beq_iff_eq.2 hc]
      · unfold lookI; rw [if_pos hc]; simp [hv, iv]
      · intro z hz; cases hz; exact ⟨0, rfl, x, rfl, hc.symm⟩
    · obtain ⟨z, h1, h2, h3⟩ := find_i k r es (i + 1) ht
      refine ⟨z, ?_, ?_, ?_⟩
      · unfold Instr.findNow; rw [e1, beq_eq_false_iff_ne.2 hc]; exact h1
      · unfold lookI; rw [if_neg hc]; exact h2
      · intro u hu
        obtain ⟨j, e, x', hx, hk'⟩ := h3 u hu
        exact ⟨j + 1, by omega, x', by simpa using hx, hk'⟩
theorem keys_i {l : List (Int × Int)} {es : List MapEntry} (h : EntI es l) : ∀ x ∈ es, MapKept.IsKey (.int .i64) x.key := by
  intro x hx
  have : (x.key, x.val) ∈ l.map (fun x => (iv x.1, iv x.2)) := by rw [← h]; exact List.mem_map_of_mem hx
  obtain ⟨p, _, hp⟩ := List.mem_map.1 this
  injection hp with h1 h2
  rw [← h1]
  rfl

/-- The object is a map that holds f. -/
def ObjI (o : Obj) (f : Int → Option Int) : Prop := ∃ es clock l, o = .map es clock ∧ EntI es.toList l ∧ (l.map (·.1)).Nodup ∧ ∀ k, lookI l k = f k
def MapI (w : World) (B : Nat) (f : Int → Option Int) : Prop := ∃ o, w.heap[B]? = some o ∧ ObjI o f
theorem MapI.of {w w' : World} {B : Nat} {f : Int → Option Int} (h : MapI w B f) (e : w'.heap[B]? = w.heap[B]?) : MapI w' B f := by
  obtain ⟨o, h1, h2⟩ := h
  exact ⟨o, e.trans h1, h2⟩
theorem MapI.congr {w : World} {B : Nat} {f g : Int → Option Int} (h : MapI w B f) (e : ∀ k, f k = g k) : MapI w B g := by
  obtain ⟨o, h1, es, c, l, h2, h3, h4, h5⟩ := h
  exact ⟨o, h1, es, c, l, h2, h3, h4, fun k => (h5 k).trans (e k)⟩
theorem mapI_new (w : World) : MapI (w.alloc (.map #[] 0)) w.heap.size (fun _ => none) := ⟨_, (MapKept.heap_alloc w _).1, #[], 0, [], rfl, rfl, List.nodup_nil, fun _ => rfl⟩
theorem MapI.lt {w : World} {B : Nat} {f : Int → Option Int} (h : MapI w B f) : B < w.heap.size := by
  obtain ⟨o, h1, _⟩ := h
  exact (Array.getElem?_eq_some_iff.1 h1).1

theorem mapI_look2 {w : World} {B : Nat} {f : Int → Option Int} (h : MapI w B f) (k : Int) :
    (Instr.lookup 51 (.map (some B)) (.int .i64 k) true).run Try.prog w = .ok (.tuple #[.int .i64 ((f k).getD 0), .bool (f k).isSome]) w := by
  obtain ⟨o, hb, es, c, l, rfl, h3, h4, h5⟩ := h
  obtain ⟨r, h6, h7, _⟩ := find_i k l es.toList 0 h3
  have hz : (zeroValue 3).run Try.prog w = .ok (.int .i64 0) w := by kernel_rfl
  have hk := MapKept.run_checkKey (P := Try.prog) (w := w) Try.underlying3 (k := iv k) rfl es.isEmpty 9999
  have hf := MapKept.run_findKey (P := Try.prog) (w := w) Try.underlying3 h6
  have hk : (Instr.checkKey es.isEmpty 10000 3 (.int .i64 k)).run Try.prog w = .ok () w := hk
  have hf : (Instr.findKey 3 (.int .i64 k) es.toList).run Try.prog w = .ok r w := hf
  simp only [Instr.lookup, Sem.run_bind, run_underlying Try.underlying51, Result.andThen_ok, MapKept.run_getObj_map hb, hk, hf, Sem.run_pure]
  rw [h5] at h7
  cases hl : f k with
  | none =>
    rw [hl] at h7
    have : r = none := by cases r <;> simp_all
    subst this
    simp [hz]
  | some v =>
    rw [hl] at h7
    cases r with
    | none => simp at h7
    | some y =>
      obtain ⟨j, z⟩ := y
      have hz : z = .int .i64 v := by simpa [iv] using h7
      subst hz
      simp
theorem mapI_look1 {w : World} {B : Nat} {f : Int → Option Int} (h : MapI w B f) (k : Int) :
    (Instr.lookup 51 (.map (some B)) (.int .i64 k) false).run Try.prog w = .ok (.int .i64 ((f k).getD 0)) w := by
  obtain ⟨o, hb, es, c, l, rfl, h3, h4, h5⟩ := h
  obtain ⟨r, h6, h7, _⟩ := find_i k l es.toList 0 h3
  have hz : (zeroValue 3).run Try.prog w = .ok (.int .i64 0) w := by kernel_rfl
  have hk := MapKept.run_checkKey (P := Try.prog) (w := w) Try.underlying3 (k := iv k) rfl es.isEmpty 9999
  have hf := MapKept.run_findKey (P := Try.prog) (w := w) Try.underlying3 h6
  have hk : (Instr.checkKey es.isEmpty 10000 3 (.int .i64 k)).run Try.prog w = .ok () w := hk
  have hf : (Instr.findKey 3 (.int .i64 k) es.toList).run Try.prog w = .ok r w := hf
  simp only [Instr.lookup, Sem.run_bind, run_underlying Try.underlying51, Result.andThen_ok, MapKept.run_getObj_map hb, hk, hf, Sem.run_pure]
  rw [h5] at h7
  cases hl : f k with
  | none =>
    rw [hl] at h7
    have : r = none := by cases r <;> simp_all
    subst this
    simp [hz]
  | some v =>
    rw [hl] at h7
    cases r with
    | none => simp at h7
    | some y =>
      obtain ⟨j, z⟩ := y
      have hz : z = .int .i64 v := by simpa [iv] using h7
      subst hz
      simp

theorem lookI_append (l : List (Int × Int)) (k v j : Int) : lookI (l ++ [(k, v)]) j = (lookI l j).orElse fun _ => if j = k then some v else none := by
  induction l with
  | nil => simp [lookI]
  | cons x r ih =>
    simp only [List.cons_append, lookI]
    by_cases h : j = x.1
    · rw [if_pos h, if_pos h]; rfl
    · rw [if_neg h, if_neg h]; exact ih
theorem lookI_none {l : List (Int × Int)} {k : Int} : lookI l k = none ↔ k ∉ l.map (·.1) := by
  induction l with
  | nil => simp [lookI]
  | cons x r ih =>
    simp only [lookI, List.map_cons, List.mem_cons, not_or]
    by_cases h : k = x.1
    · rw [if_pos h]; simp [h]
    · rw [if_neg h, ih]; simp [h]
theorem lookI_set : ∀ (l : List (Int × Int)) (j : Nat) (k v i : Int), (l.map (·.1)).Nodup → (∃ x, l[j]? = some x ∧ x.1 = k) → lookI (l.modify j fun _ => (k, v)) i = if i = k then some v else lookI l i
  | [], j, k, v, i, _, h => by obtain ⟨x, h, _⟩ := h; simp at h
  | x :: r, 0, k, v, i, hn, h => by
    obtain ⟨y, h1, h2⟩ := h
    simp only [List.getElem?_cons_zero, Option.some.injEq] at h1
    subst h1
    show lookI ((k, v) :: r) i = _
    simp only [lookI, h2]
    by_cases e : i = k
    · rw [if_pos e, if_pos e]
    · rw [if_neg e, if_neg e, if_neg e]
  | x :: r, j + 1, k, v, i, hn, h => by
    obtain ⟨y, h1, h2⟩ := h
    simp only [List.map_cons, List.nodup_cons] at hn
    simp only [List.getElem?_cons_succ] at h1
    have ih := lookI_set r j k v i hn.2 ⟨y, h1, h2⟩
    show lookI (x :: r.modify j fun _ => (k, v)) i = _
    simp only [lookI]
    by_cases e : i = x.1
    · rw [if_pos e, if_pos e]
      have : k ∈ r.map (·.1) := by rw [← h2]; exact List.mem_map_of_mem (List.mem_of_getElem? h1)
      rw [if_neg]
      intro e2
      exact hn.1 (by rw [← e, e2]; exact this)
    · rw [if_neg e, if_neg e, ih]
theorem keys_set : ∀ (l : List (Int × Int)) (j : Nat) (k v : Int), (∃ x, l[j]? = some x ∧ x.1 = k) → (l.modify j fun _ => (k, v)).map (·.1) = l.map (·.1)
  | [], j, k, v, h => by obtain ⟨x, h, _⟩ := h; simp at h
  | x :: r, 0, k, v, h => by
    obtain ⟨y, h1, h2⟩ := h
    simp only [List.getElem?_cons_zero, Option.some.injEq] at h1
    subst h1
    show k :: r.map _ = _
    simp [h2]
  | x :: r, j + 1, k, v, h => by
    obtain ⟨y, h1, h2⟩ := h
    simp only [List.getElem?_cons_succ] at h1
    show x.1 :: (r.modify j fun _ => (k, v)).map _ = _
    rw [keys_set r j k v ⟨y, h1, h2⟩]
    rfl
theorem lookI_erase : ∀ (l : List (Int × Int)) (j : Nat) (k i : Int), (l.map (·.1)).Nodup → (∃ x, l[j]? = some x ∧ x.1 = k) → lookI (l.eraseIdx j) i = if i = k then none else lookI l i
  | [], j, k, i, _, h => by obtain ⟨x, h, _⟩ := h; simp at h
  | x :: r, 0, k, i, hn, h => by
    obtain ⟨y, h1, h2⟩ := h
    simp only [List.getElem?_cons_zero, Option.some.injEq] at h1
    subst h1
    simp only [List.map_cons, List.nodup_cons] at hn
    show lookI r i = _
    simp only [lookI, h2]
    by_cases e : i = k
    · rw [if_pos e, e, lookI_none, ← h2]; exact hn.1
    · rw [if_neg e, if_neg e]
  | x :: r, j + 1, k, i, hn, h => by
    obtain ⟨y, h1, h2⟩ := h
    simp only [List.map_cons, List.nodup_cons] at hn
    simp only [List.getElem?_cons_succ] at h1
    have ih := lookI_erase r j k i hn.2 ⟨y, h1, h2⟩
    show lookI (x :: r.eraseIdx j) i = _
    simp only [lookI]
    by_cases e : i = x.1
    · rw [if_pos e, if_pos e]
      have : k ∈ r.map (·.1) := by rw [← h2]; exact List.mem_map_of_mem (List.mem_of_getElem? h1)
      rw [if_neg]
      intro e2
      exact hn.1 (by rw [← e, e2]; exact this)
    · rw [if_neg e, if_neg e, ih]

theorem modify_map {α β : Type} (f : α → β) (g : α → α) (h : β → β) (e : ∀ x, f (g x) = h (f x)) : ∀ (l : List α) (j : Nat), (l.modify j g).map f = (l.map f).modify j h
  | [], j => by cases j <;> rfl
  | x :: r, 0 => by show f (g x) :: r.map f = h (f x) :: r.map f; rw [e]
  | x :: r, j + 1 => by
    show f x :: (r.modify j g).map f = f x :: (r.map f).modify j h
    rw [modify_map f g h e r j]

/-- An insert: the same in each world with this block. -/
theorem mapI_put {w : World} {B : Nat} {f : Int → Option Int} (h : MapI w B f) (k v : Int) :
    ∃ o, ObjI o (upd f k v) ∧ ∀ W : World, W.heap[B]? = w.heap[B]? → (Instr.mapUpdate 51 (.map (some B)) (.int .i64 k) (.int .i64 v)).run Try.prog W = .ok () (setBlock W B o) := by
  obtain ⟨o, hb, es, c, l, rfl, h3, h4, h5⟩ := h
  obtain ⟨r, h6, h7, h8⟩ := find_i k l es.toList 0 h3
  cases r with
  | none =>
    refine ⟨.map (es.push { key := iv k, val := iv v, born := c }) (c + 1), ⟨_, _, l ++ [(k, v)], rfl, ?_, ?_, fun j => ?_⟩, fun W hW => ?_⟩
    · unfold EntI at h3 ⊢; simp [h3]
    · rw [List.map_append, List.nodup_append]
      refine ⟨h4, by simp, fun a ha b hb => ?_⟩
      simp only [List.map_cons, List.map_nil, List.mem_singleton] at hb
      intro e
      have : lookI l k = none := by
        cases hl : lookI l k with
        | none => rfl
        | some z => rw [hl] at h7; simp at h7
      rw [lookI_none] at this
      exact this (by rw [← hb, ← e]; exact ha)
    · rw [lookI_append]
      have : lookI l k = none := by
        cases hl : lookI l k with
        | none => rfl
        | some z => rw [hl] at h7; simp at h7
      unfold upd
      by_cases e : j = k
      · rw [e, this, if_pos rfl, if_pos rfl]; rfl
      · rw [if_neg e, if_neg e, h5]; cases f j <;> rfl
    · have hk : (Instr.checkKey false 10000 3 (.int .i64 k)).run Try.prog W = .ok () W := MapKept.run_checkKey (P := Try.prog) (w := W) Try.underlying3 (k := iv k) rfl false 9999
      have hf : (Instr.findKey 3 (.int .i64 k) es.toList).run Try.prog W = .ok none W := MapKept.run_findKey (P := Try.prog) (w := W) Try.underlying3 h6
      have hB := hW.trans hb
      simp [Instr.mapUpdate, run_underlying Try.underlying51, MapKept.run_getObj_map hB, hk, hf, MapKept.run_setObj_map _ hB, Result.andThen, setBlock, iv]
  | some z =>
    obtain ⟨j, hj, x, hx, hxk⟩ := h8 z rfl
    obtain ⟨j', zv⟩ := z
    have hj : j' = j := by simpa using hj
    subst hj
    refine ⟨.map (es.modify j' fun e => { e with key := iv k, val := iv v }) c, ⟨_, _, l.modify j' fun _ => (k, v), rfl, ?_, ?_, fun i => ?_⟩, fun W hW => ?_⟩
    · unfold EntI at h3 ⊢
      rw [Array.toList_modify, modify_map (fun x : MapEntry => (x.key, x.val)) (fun e => { e with key := iv k, val := iv v }) (fun _ => (iv k, iv v)) (fun _ => rfl), h3, modify_map (fun x : Int × Int => (iv x.1, iv x.2)) (fun _ => (k, v)) (fun _ => (iv k, iv v)) (fun _ => rfl)]
    · rw [keys_set l j' k v ⟨x, hx, hxk⟩]; exact h4
    · rw [lookI_set l j' k v i h4 ⟨x, hx, hxk⟩, h5]; rfl
    · have hk : (Instr.checkKey false 10000 3 (.int .i64 k)).run Try.prog W = .ok () W := MapKept.run_checkKey (P := Try.prog) (w := W) Try.underlying3 (k := iv k) rfl false 9999
      have hf : (Instr.findKey 3 (.int .i64 k) es.toList).run Try.prog W = .ok (some (j', zv)) W := MapKept.run_findKey (P := Try.prog) (w := W) Try.underlying3 h6
      have hB := hW.trans hb
      have hold : ((es[j']?).map (·.key)).getD (.int .i64 k) = .int .i64 k := by
        have h9 : (es.toList.map (fun x => (x.key, x.val)))[j']? = (l.map (fun x => (iv x.1, iv x.2)))[j']? := by rw [h3]
        rw [List.getElem?_map, List.getElem?_map, hx] at h9
        simp only [Array.getElem?_toList, Option.map_some] at h9
        cases he : es[j']? with
        | none => rfl
        | some y =>
          rw [he] at h9
          simp only [Option.map_some, Option.some.injEq, Prod.mk.injEq] at h9
          simp [h9.1, hxk, iv]
      have hkeep : (Instr.keyThatStays (.int .i64 k) (.int .i64 k)).run Try.prog W = .ok (.int .i64 k) W := by
        simp [Instr.keyThatStays, Instr.sameBits]
      simp [Instr.mapUpdate, run_underlying Try.underlying51, MapKept.run_getObj_map hB, hk, hf, hold, hkeep, MapKept.run_setObj_map _ hB, Result.andThen, setBlock, iv]

/-- A delete. -/
theorem mapI_del {w : World} {B : Nat} {f : Int → Option Int} (h : MapI w B f) (k : Int) :
    ∃ o, ObjI o (del f k) ∧ ∀ (W : World) (ty : TypeId), W.heap[B]? = w.heap[B]? → (Builtin.delete_ #[51, 3] ty #[.map (some B), .int .i64 k]).run Try.prog W = .ok (.tuple #[]) (setBlock W B o) := by
  obtain ⟨o, hb, es, c, l, rfl, h3, h4, h5⟩ := h
  obtain ⟨r, h6, h7, h8⟩ := find_i k l es.toList 0 h3
  cases r with
  | none =>
    refine ⟨.map es c, ⟨_, _, l, rfl, h3, h4, fun j => ?_⟩, fun W ty hW => ?_⟩
    · have : lookI l k = none := by
        cases hl : lookI l k with
        | none => rfl
        | some z => rw [hl] at h7; simp at h7
      unfold del
      by_cases e : j = k
      · rw [e, this, if_pos rfl]
      · rw [if_neg e, h5]
    · have hf : (Instr.findKey 3 (.int .i64 k) es.toList).run Try.prog W = .ok none W := MapKept.run_findKey (P := Try.prog) (w := W) Try.underlying3 h6
      have hB := hW.trans hb
      simp [Builtin.delete_, run_underlying Try.underlying51, MapKept.run_getObj_map hB, MapKept.run_checkKey Try.underlying3 (k := .int .i64 k) (show MapKept.IsKey (.int .i64) (.int .i64 k) from rfl), hf, MapKept.run_setObj_map _ hB, Result.andThen, setBlock]
  | some z =>
    obtain ⟨j, hj, x, hx, hxk⟩ := h8 z rfl
    obtain ⟨j', zv⟩ := z
    have hj : j' = j := by simpa using hj
    subst hj
    have hlen : l.length = es.size := by
      have := congrArg List.length h3
      simpa using this.symm
    have hjs : j' < es.size := by rw [← hlen]; exact (List.getElem?_eq_some_iff.1 hx).1
    refine ⟨.map (es.eraseIdxIfInBounds j') c, ⟨_, _, l.eraseIdx j', rfl, ?_, ?_, fun i => ?_⟩, fun W ty hW => ?_⟩
    · unfold EntI at h3 ⊢
      have hsub : (es.eraseIdxIfInBounds j').toList = es.toList.eraseIdx j' := by
        unfold Array.eraseIdxIfInBounds
        rw [dif_pos hjs]
        simp
      rw [hsub, ChangeMaps.map_eraseIdx, h3, ChangeMaps.map_eraseIdx]
    · rw [ChangeMaps.map_eraseIdx]
      exact (List.eraseIdx_sublist _ _).nodup h4
    · rw [lookI_erase l j' k i h4 ⟨x, hx, hxk⟩, h5]; rfl
    · have hf : (Instr.findKey 3 (.int .i64 k) es.toList).run Try.prog W = .ok (some (j', zv)) W := MapKept.run_findKey (P := Try.prog) (w := W) Try.underlying3 h6
      have hB := hW.trans hb
      simp [Builtin.delete_, run_underlying Try.underlying51, MapKept.run_getObj_map hB, MapKept.run_checkKey Try.underlying3 (k := .int .i64 k) (show MapKept.IsKey (.int .i64) (.int .i64 k) from rfl), hf, MapKept.run_setObj_map _ hB, Result.andThen, setBlock]

theorem heap_setBlock {w : World} {B : Nat} {o : Obj} (h : B < w.heap.size) : (setBlock w B o).heap[B]? = some o := by
  simp [setBlock, h]
theorem heap_setBlock_ne {w : World} {B k : Nat} {o : Obj} (h : k ≠ B) : (setBlock w B o).heap[k]? = w.heap[k]? := by
  simp [setBlock, Ne.symm h]
end Go.Proofs.Ytdjakljkcjadhaa
