/-
  A map of numbers to values: a value put in place of another; a table's blocks. No condition.
-/
import Derived.Test.YtfidlljhmebpmaaDoorMapW8
import Derived.Test.YtfidlljhmebpmaaDoorPod13
namespace Go.Proofs.YtfidlljhmebpmaaDoor
open Go.RowKit Go.Extern.Stop Go.Stop Go.Extern
open Go.ChangeMaps (setBlock)

namespace MV
/-- The pairs with v in place of what was at k. -/
def repV (l : List (Int × Value)) (k : Int) (v : Value) : List (Int × Value) := l.map fun x => if x.1 = k then (k, v) else x
theorem repV_keys (l : List (Int × Value)) (k : Int) (v : Value) : (repV l k v).map (·.1) = l.map (·.1) := by
  unfold repV
  rw [List.map_map]
  refine List.map_congr_left fun x _ => ?_
  show (if x.1 = k then (k, v) else x).1 = x.1
  split
  · exact Eq.symm (by assumption)
  · rfl
theorem repV_modify (k : Int) (v : Value) : ∀ (l : List (Int × Value)) (j : Nat) (x : Int × Value), (l.map (·.1)).Nodup → l[j]? = some x → x.1 = k → repV l k v = l.modify j fun _ => (k, v)
  | [], j, x, _, h, _ => by simp at h
  | y :: r, 0, x, hn, h, hk => by
    simp only [List.getElem?_cons_zero, Option.some.injEq] at h
    subst h
    rw [List.map_cons, List.nodup_cons] at hn
    show (if y.1 = k then (k, v) else y) :: repV r k v = (k, v) :: r
    rw [if_pos hk]
    congr 1
    unfold repV
    conv => rhs; rw [← List.map_id r]
    refine List.map_congr_left fun z hz => ?_
    rw [if_neg (fun e => hn.1 (by rw [hk, ← e]; exact List.mem_map_of_mem (f := (·.1)) hz))]
    rfl
  | y :: r, j + 1, x, hn, h, hk => by
    simp only [List.getElem?_cons_succ] at h
    rw [List.map_cons, List.nodup_cons] at hn
    show (if y.1 = k then (k, v) else y) :: repV r k v = y :: r.modify j fun _ => (k, v)
    rw [repV_modify k v r j x hn.2 h hk, if_neg]
    intro e
    exact hn.1 (by rw [e, ← hk]; exact List.mem_map_of_mem (f := (·.1)) (List.mem_of_getElem? h))
theorem modify_map {α β : Type} (f : α → β) (g : α → α) (h : β → β) (e : ∀ x, f (g x) = h (f x)) : ∀ (l : List α) (j : Nat), (l.modify j g).map f = (l.map f).modify j h
  | [], j => by cases j <;> rfl
  | x :: r, 0 => by show f (g x) :: r.map f = h (f x) :: r.map f; rw [e]
  | x :: r, j + 1 => by
    show f x :: (r.modify j g).map f = f x :: (r.map f).modify j h
    rw [modify_map f g h e r j]
section
variable {P : Program} {tM tK tE : TypeId} (ht : P.underlying tM = some (.map tK tE)) (hk : P.underlying tK = some (.int .i64))
include ht hk
/-- An insert at a key that is there: the same in each world with this block. -/
theorem put_old {w : World} {B : Nat} {l : List (Int × Value)} (h : Is w B l) (k : Int) (v : Value) (hm : k ∈ l.map (·.1)) :
    ∃ o, Obj' o (repV l k v) ∧ ∀ W : World, W.heap[B]? = w.heap[B]? → (Instr.mapUpdate tM (.map (some B)) (.int .i64 k) v).run P W = .ok () (setBlock W B o) := by
  obtain ⟨o, hb, es, c, rfl, h3, h4, h5, h6⟩ := h
  obtain ⟨r, h7, h8, h9⟩ := find_v k l es.toList 0 h3
  cases r with
  | none => exact absurd (look_none.1 (by simpa using h8.symm)) (fun e => e hm)
  | some y =>
    obtain ⟨j, hj, x, hx, hxk⟩ := h9 y rfl
    obtain ⟨j', yv⟩ := y
    have hj : j' = j := by simpa using hj
    subst hj
    refine ⟨.map (es.modify j' fun e => { e with key := iv k, val := v }) c, ⟨_, _, rfl, ?_, ?_, ?_, ?_⟩, fun W hW => ?_⟩
    · unfold Ent at h3 ⊢
      rw [Array.toList_modify, modify_map (fun x : MapEntry => (x.key, x.val)) (fun e => { e with key := iv k, val := v }) (fun _ => (iv k, v)) (fun _ => rfl), h3, repV_modify k v l j' x h4 hx hxk, modify_map (fun x : Int × Value => (iv x.1, x.2)) (fun _ => (k, v)) (fun _ => (iv k, v)) (fun _ => rfl)]
    · rw [repV_keys]; exact h4
    · rw [Array.toList_modify, modify_map (fun x : MapEntry => x.born) (fun e => { e with key := iv k, val := v }) id (fun _ => rfl), List.modify_id]; exact h5
    · intro e he
      rw [Array.toList_modify] at he
      have hb : e.born ∈ (es.toList.modify j' fun e => { e with key := iv k, val := v }).map (·.born) := List.mem_map_of_mem (f := (·.born)) he
      rw [modify_map (fun x : MapEntry => x.born) (fun e => { e with key := iv k, val := v }) id (fun _ => rfl), List.modify_id] at hb
      obtain ⟨z, hz, hzb⟩ := List.mem_map.1 hb
      rw [← hzb]
      exact h6 z hz
    · have hc : (Instr.checkKey false 10000 tK (.int .i64 k)).run P W = .ok () W := MapKept.run_checkKey (P := P) (w := W) hk (k := iv k) rfl false 9999
      have hf : (Instr.findKey tK (.int .i64 k) es.toList).run P W = .ok (some (j', yv)) W := MapKept.run_findKey (P := P) (w := W) hk h7
      have hB := hW.trans hb
      have hold : ((es[j']?).map (·.key)).getD (.int .i64 k) = .int .i64 k := by
        have h9 : (es.toList.map (fun x => (x.key, x.val)))[j']? = (l.map (fun x => (iv x.1, x.2)))[j']? := by rw [h3]
        rw [List.getElem?_map, List.getElem?_map, hx] at h9
        simp only [Array.getElem?_toList, Option.map_some] at h9
        cases he : es[j']? with
        | none => rfl
        | some y =>
          rw [he] at h9
          simp only [Option.map_some, Option.some.injEq, Prod.mk.injEq] at h9
          simp [h9.1, hxk, iv]
      have hkeep : (Instr.keyThatStays (.int .i64 k) (.int .i64 k)).run P W = .ok (.int .i64 k) W := by
        simp [Instr.keyThatStays, Instr.sameBits]
      simp [Instr.mapUpdate, run_underlying ht, MapKept.run_getObj_map hB, hc, hf, hold, hkeep, MapKept.run_setObj_map _ hB, Result.andThen, setBlock, iv]
end
theorem Is.length_le {w : World} {B : Nat} {l : List (Int × Value)} (h : Is w B l) : ∃ es c, w.heap[B]? = some (.map es c) ∧ es.size = l.length := by
  obtain ⟨o, hb, es, c, rfl, h3, _⟩ := h
  refine ⟨es, c, hb, ?_⟩
  have := congrArg List.length h3
  simpa using this
theorem heap_setBlock {w : World} {B : Nat} {o : Obj} (h : B < w.heap.size) : (setBlock w B o).heap[B]? = some o := by
  simp [setBlock, h]
theorem heap_setBlock_ne {w : World} {B k : Nat} {o : Obj} (h : k ≠ B) : (setBlock w B o).heap[k]? = w.heap[k]? := by
  simp [setBlock, Ne.symm h]
end MV

namespace T13
theorem Fr.put {D : Nat → Prop} {a b : World} (h : Fr D a b) {B : Nat} (hp : D B ∨ a.heap.size ≤ B) (o : Obj) : Fr D a (setBlock b B o) :=
  ⟨h.os, h.tape, h.output, by simp [setBlock]; exact h.size, fun k hk hn => by
    rw [MV.heap_setBlock_ne (fun e => hp.elim (fun h => hn (by rw [e]; exact h)) (fun h => absurd h (by omega)))]; exact h.block k hk hn⟩
/-- A table's two blocks: the struct and the map. -/
structure TM (ty : TypeId) (w : World) (s : Int) (p m : Nat) (l : List (Int × Value)) : Prop where
  hp : w.heap[p]? = some (.cells #[.int .i64 s, .map (some m)] ty (0, 0))
  mp : MV.Is w m l
  lo : 0 ≤ s
  hi : s ≤ 9223372036854775807
  len : (l.length : Int) ≤ s
section
variable {ty : TypeId} {w w' : World} {s : Int} {p m : Nat} {l : List (Int × Value)}
theorem TM.plt (h : TM ty w s p m l) : p < w.heap.size := (Array.getElem?_eq_some_iff.1 h.hp).1
theorem TM.mlt (h : TM ty w s p m l) : m < w.heap.size := h.mp.lt
theorem TM.ne (h : TM ty w s p m l) : p ≠ m := by
  rintro rfl
  obtain ⟨o, hb, es, c, rfl, _⟩ := h.mp
  rw [h.hp] at hb
  cases hb
theorem TM.e0 (h : TM ty w s p m l) : w.cell? ⟨p, 0, none⟩ = some (.int .i64 s) := by rw [cell_of_row w _ _ _ _ _ h.hp]; rfl
theorem TM.e1 (h : TM ty w s p m l) : w.cell? ⟨p, 0 + 1, none⟩ = some (.map (some m)) := by rw [cell_of_row w _ _ _ _ _ h.hp]; rfl
theorem TM.keep (h : TM ty w s p m l) (k : Keep w w') : TM ty w' s p m l := ⟨k.block h.hp, h.mp.of (Below.block k _ h.mlt), h.lo, h.hi, h.len⟩
theorem TM.fr (h : TM ty w s p m l) {E : Nat → Prop} (f : Fr E w w') (h1 : ¬ E p) (h2 : ¬ E m) : TM ty w' s p m l :=
  ⟨(f.block _ h.plt h1).trans h.hp, h.mp.of (f.block _ h.mlt h2), h.lo, h.hi, h.len⟩
/-- Another map in the map's block. -/
theorem TM.put (h : TM ty w s p m l) (k : Keep w w') {o : Obj} {l' : List (Int × Value)} (ho : MV.Obj' o l') (hl : (l'.length : Int) ≤ s) : TM ty (setBlock w' m o) s p m l' ∧ Fr (· = m) w (setBlock w' m o) := by
  have h' := h.keep k
  exact ⟨⟨by rw [MV.heap_setBlock_ne h.ne]; exact h'.hp, ⟨o, MV.heap_setBlock h'.mlt, ho⟩, h.lo, h.hi, hl⟩, Fr.put (D := (· = m)) (Fr.of k) (by left; rfl) _⟩
end
end T13
end Go.Proofs.YtfidlljhmebpmaaDoor
