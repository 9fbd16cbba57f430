/-
  A map from numbers to whatever values: look-up, insert, delete; 'for k, v := range m'. No condition, no program.
-/
import Derived.Test.YtfidlljhmebpmaaDoorBase5
import Derived.Maps.Own
import Derived.Maps.RangeWalk
import Derived.Carry
namespace Go.Proofs.YtfidlljhmebpmaaDoor
open Go.RowKit Go.Extern.Stop Go.Stop Go.Extern
open Go.ChangeMaps (setBlock)

namespace MV
def iv (k : Int) : Value := .int .i64 k
/-- The entries are the pairs of l. -/
def Ent (es : List MapEntry) (l : List (Int × Value)) : Prop := es.map (fun x => (x.key, x.val)) = l.map (fun x => (iv x.1, x.2))
def lookV : List (Int × Value) → Int → Option Value
  | [], _ => none
  | x :: r, k => if k = x.1 then some x.2 else lookV r k
theorem find_v (k : Int) : ∀ (l : List (Int × Value)) (es : List MapEntry) (i : Nat), Ent es l →
    ∃ r, Instr.findNow (.int .i64) (iv k) es i = some r ∧ r.map (·.2) = lookV l k ∧ ∀ z, r = some z → ∃ j, z.1 = i + j ∧ ∃ x, l[j]? = some x ∧ x.1 = k
  | [], es, i, h => by
    have : es = [] := by simpa [Ent] using h
    subst this
    exact ⟨none, rfl, rfl, fun _ h => by cases h⟩
  | x :: r, [], i, h => by simp [Ent] at h
  | x :: r, y :: es, i, h => by
    simp only [Ent, List.map_cons, List.cons.injEq, Prod.mk.injEq] at h
    obtain ⟨⟨hk, hv⟩, ht⟩ := h
    have e1 : Instr.sameNow (.int .i64) (iv k) y.key = some (k == x.1) := by rw [hk]; simp [iv, Instr.sameNow]
    by_cases hc : k = x.1
    · refine ⟨some (i, y.val), ?_, ?_, ?_⟩
      · unfold Instr.findNow; rw [e1, beq_iff_eq.2 hc]
      · unfold lookV; rw [if_pos hc]; simp [hv]
      · intro z hz; cases hz; exact ⟨0, rfl, x, rfl, hc.symm⟩
    · obtain ⟨z, h1, h2, h3⟩ := find_v k r es (i + 1) ht
      refine ⟨z, ?_, ?_, ?_⟩
      · unfold Instr.findNow; rw [e1, beq_eq_false_iff_ne.2 hc]; exact h1
      · unfold lookV; rw [if_neg hc]; exact h2
      · intro u hu
        obtain ⟨j, e, x', hx, hk'⟩ := h3 u hu
        exact ⟨j + 1, by omega, x', by simpa using hx, hk'⟩
theorem look_none {l : List (Int × Value)} {k : Int} : lookV l k = none ↔ k ∉ l.map (·.1) := by
  induction l with
  | nil => simp [lookV]
  | cons x r ih =>
    simp only [lookV, List.map_cons, List.mem_cons, not_or]
    by_cases h : k = x.1
    · rw [if_pos h]; simp [h]
    · rw [if_neg h, ih]; simp [h]
theorem look_mem {l : List (Int × Value)} (hn : (l.map (·.1)).Nodup) {k : Int} {v : Value} : lookV l k = some v ↔ (k, v) ∈ l := by
  induction l with
  | nil => simp [lookV]
  | cons x r ih =>
    rw [List.map_cons, List.nodup_cons] at hn
    simp only [lookV, List.mem_cons]
    by_cases h : k = x.1
    · rw [if_pos h]
      constructor
      · intro e
        injection e with e
        exact Or.inl (by rw [h, ← e])
      · rintro (e | e)
        · rw [← e]
        · exact absurd (by rw [← h]; exact List.mem_map_of_mem (f := (·.1)) e) hn.1
    · rw [if_neg h, ih hn.2]
      constructor
      · exact Or.inr
      · rintro (e | e)
        · exact absurd (congrArg Prod.fst e) h
        · exact e

/-- The object is a map of the pairs of l, in this order, no key twice. -/
def Obj' (o : Obj) (l : List (Int × Value)) : Prop := ∃ es clock, o = .map es clock ∧ Ent es.toList l ∧ (l.map (·.1)).Nodup ∧ (es.toList.map (·.born)).Nodup ∧ ∀ x ∈ es.toList, x.born < clock
def Is (w : World) (B : Nat) (l : List (Int × Value)) : Prop := ∃ o, w.heap[B]? = some o ∧ Obj' o l
theorem Is.of {w w' : World} {B : Nat} {l : List (Int × Value)} (h : Is w B l) (e : w'.heap[B]? = w.heap[B]?) : Is w' B l := by
  obtain ⟨o, h1, h2⟩ := h
  exact ⟨o, e.trans h1, h2⟩
theorem Is.lt {w : World} {B : Nat} {l : List (Int × Value)} (h : Is w B l) : B < w.heap.size := by
  obtain ⟨o, h1, _⟩ := h
  exact (Array.getElem?_eq_some_iff.1 h1).1
theorem Is.nodup {w : World} {B : Nat} {l : List (Int × Value)} (h : Is w B l) : (l.map (·.1)).Nodup := by
  obtain ⟨o, _, es, c, _, _, h2, _⟩ := h
  exact h2
theorem is_new (w : World) : Is (w.alloc (.map #[] 0)) w.heap.size [] := ⟨_, (MapKept.heap_alloc w _).1, #[], 0, rfl, rfl, List.nodup_nil, List.nodup_nil, fun x h => by cases h⟩

section
variable {P : Program} {tM tK tE : TypeId} (ht : P.underlying tM = some (.map tK tE)) (hk : P.underlying tK = some (.int .i64))
include ht hk
theorem look2 {z : Value} (hz : ∀ w, (zeroValue tE).run P w = .ok z w) {w : World} {B : Nat} {l : List (Int × Value)} (h : Is w B l) (k : Int) :
    (Instr.lookup tM (.map (some B)) (.int .i64 k) true).run P w = .ok (.tuple #[(lookV l k).getD z, .bool (lookV l k).isSome]) w := by
  obtain ⟨o, hb, es, c, rfl, h3, h4, _⟩ := h
  obtain ⟨r, h6, h7, _⟩ := find_v k l es.toList 0 h3
  have hc : (Instr.checkKey es.isEmpty 10000 tK (.int .i64 k)).run P w = .ok () w := MapKept.run_checkKey (P := P) (w := w) hk (k := iv k) rfl es.isEmpty 9999
  have hf : (Instr.findKey tK (.int .i64 k) es.toList).run P w = .ok r w := MapKept.run_findKey (P := P) (w := w) hk h6
  simp only [Instr.lookup, Sem.run_bind, run_underlying ht, Result.andThen_ok, MapKept.run_getObj_map hb, hc, hf, Sem.run_pure]
  cases r with
  | none =>
    have : lookV l k = none := by simpa using h7.symm
    rw [this]
    simp [hz]
  | some y =>
    obtain ⟨j, v⟩ := y
    have : lookV l k = some v := by simpa using h7.symm
    rw [this]
    simp
theorem look1 {z : Value} (hz : ∀ w, (zeroValue tE).run P w = .ok z w) {w : World} {B : Nat} {l : List (Int × Value)} (h : Is w B l) (k : Int) :
    (Instr.lookup tM (.map (some B)) (.int .i64 k) false).run P w = .ok ((lookV l k).getD z) w := by
  obtain ⟨o, hb, es, c, rfl, h3, h4, _⟩ := h
  obtain ⟨r, h6, h7, _⟩ := find_v k l es.toList 0 h3
  have hc : (Instr.checkKey es.isEmpty 10000 tK (.int .i64 k)).run P w = .ok () w := MapKept.run_checkKey (P := P) (w := w) hk (k := iv k) rfl es.isEmpty 9999
  have hf : (Instr.findKey tK (.int .i64 k) es.toList).run P w = .ok r w := MapKept.run_findKey (P := P) (w := w) hk h6
  simp only [Instr.lookup, Sem.run_bind, run_underlying ht, Result.andThen_ok, MapKept.run_getObj_map hb, hc, hf, Sem.run_pure]
  cases r with
  | none =>
    have : lookV l k = none := by simpa using h7.symm
    rw [this]
    simp [hz]
  | some y =>
    obtain ⟨j, v⟩ := y
    have : lookV l k = some v := by simpa using h7.symm
    rw [this]
    simp

/-- An insert of a new key: the same in each world with this block. -/
theorem put_new {w : World} {B : Nat} {l : List (Int × Value)} (h : Is w B l) (k : Int) (v : Value) (hn : k ∉ l.map (·.1)) :
    ∃ o, Obj' o (l ++ [(k, v)]) ∧ ∀ W : World, W.heap[B]? = w.heap[B]? → (Instr.mapUpdate tM (.map (some B)) (.int .i64 k) v).run P W = .ok () (setBlock W B o) := by
  obtain ⟨o, hb, es, c, rfl, h3, h4, h5, h6⟩ := h
  obtain ⟨r, h7, h8, _⟩ := find_v k l es.toList 0 h3
  have : r = none := by
    rw [look_none.2 hn] at h8
    cases r with
    | none => rfl
    | some y => simp at h8
  subst this
  refine ⟨.map (es.push { key := iv k, val := v, born := c }) (c + 1), ⟨_, _, rfl, ?_, ?_, ?_, ?_⟩, fun W hW => ?_⟩
  · unfold Ent at h3 ⊢; simp [h3]
  · rw [List.map_append, List.nodup_append]
    refine ⟨h4, by simp, fun a ha b hb => ?_⟩
    simp only [List.map_cons, List.map_nil, List.mem_singleton] at hb
    intro e
    exact hn (by rw [← hb, ← e]; exact ha)
  · rw [Array.toList_push, List.map_append, List.nodup_append]
    refine ⟨h5, by simp, fun a ha b hb => ?_⟩
    simp only [List.map_cons, List.map_nil, List.mem_singleton] at hb
    obtain ⟨x, hx, rfl⟩ := List.mem_map.1 ha
    have := h6 x hx
    omega
  · intro x hx
    rw [Array.toList_push, List.mem_append, List.mem_singleton] at hx
    rcases hx with hx | rfl
    · have := h6 x hx; omega
    · show c < c + 1; omega
  · have hc : (Instr.checkKey false 10000 tK (.int .i64 k)).run P W = .ok () W := MapKept.run_checkKey (P := P) (w := W) hk (k := iv k) rfl false 9999
    have hf : (Instr.findKey tK (.int .i64 k) es.toList).run P W = .ok none W := MapKept.run_findKey (P := P) (w := W) hk h7
    have hB := hW.trans hb
    simp [Instr.mapUpdate, run_underlying ht, MapKept.run_getObj_map hB, hc, hf, MapKept.run_setObj_map _ hB, Result.andThen, setBlock, iv]

/-- A delete. -/
theorem del {w : World} {B : Nat} {l : List (Int × Value)} (h : Is w B l) (k : Int) :
    ∃ o, Obj' o (l.filter fun x => decide (x.1 ≠ k)) ∧ ∀ (W : World) (ty : TypeId), W.heap[B]? = w.heap[B]? → (Builtin.delete_ #[tM, tK] ty #[.map (some B), .int .i64 k]).run P W = .ok (.tuple #[]) (setBlock W B o) := by
  obtain ⟨o, hb, es, c, rfl, h3, h4, h5, h6⟩ := h
  obtain ⟨r, h7, h8, h9⟩ := find_v k l es.toList 0 h3
  cases r with
  | none =>
    have hn : k ∉ l.map (·.1) := look_none.1 (by simpa using h8.symm)
    have e : (l.filter fun x => decide (x.1 ≠ k)) = l := List.filter_eq_self.2 fun x hx => decide_eq_true fun e => hn (by rw [← e]; exact List.mem_map_of_mem hx)
    rw [e]
    refine ⟨.map es c, ⟨_, _, rfl, h3, h4, h5, h6⟩, fun W ty hW => ?_⟩
    have hf : (Instr.findKey tK (.int .i64 k) es.toList).run P W = .ok none W := MapKept.run_findKey (P := P) (w := W) hk h7
    have hB := hW.trans hb
    simp [Builtin.delete_, run_underlying ht, MapKept.run_getObj_map hB, MapKept.run_checkKey hk (k := .int .i64 k) (show MapKept.IsKey (.int .i64) (.int .i64 k) from rfl), hf, MapKept.run_setObj_map _ hB, Result.andThen, setBlock]
  | some y =>
    obtain ⟨j, hj, x, hx, hxk⟩ := h9 y rfl
    obtain ⟨j', yv⟩ := y
    have hj : j' = j := by simpa using hj
    subst hj
    have hlen : l.length = es.size := by
      have := congrArg List.length h3
      simpa using this.symm
    have hjs : j' < es.size := by rw [← hlen]; exact (List.getElem?_eq_some_iff.1 hx).1
    have hsub : (es.eraseIdxIfInBounds j').toList = es.toList.eraseIdx j' := by
      unfold Array.eraseIdxIfInBounds
      rw [dif_pos hjs]
      simp
    have e : (l.filter fun x => decide (x.1 ≠ k)) = l.eraseIdx j' := by
      have gen : ∀ (l : List (Int × Value)) (j : Nat), (l.map (·.1)).Nodup → l[j]? = some x → (l.filter fun y => decide (y.1 ≠ k)) = l.eraseIdx j := by
        intro l
        induction l with
        | nil => intro j _ h; simp at h
        | cons y r ih =>
          intro j hn h
          rw [List.map_cons, List.nodup_cons] at hn
          cases j with
          | zero =>
            simp only [List.getElem?_cons_zero, Option.some.injEq] at h
            subst h
            rw [List.filter_cons_of_neg (by simp [hxk]), List.eraseIdx_cons_zero]
            exact List.filter_eq_self.2 fun z hz => decide_eq_true fun e => hn.1 (by rw [hxk, ← e]; exact List.mem_map_of_mem hz)
          | succ j =>
            simp only [List.getElem?_cons_succ] at h
            have hy : y.1 ≠ k := fun e => hn.1 (by rw [e, ← hxk]; exact List.mem_map_of_mem (List.mem_of_getElem? h))
            rw [List.filter_cons_of_pos (by simp [hy]), List.eraseIdx_cons_succ, ih j hn.2 h]
      exact gen l j' h4 hx
    rw [e]
    refine ⟨.map (es.eraseIdxIfInBounds j') c, ⟨_, _, rfl, ?_, ?_, ?_, ?_⟩, fun W ty hW => ?_⟩
    · unfold Ent at h3 ⊢
      rw [hsub, ChangeMaps.map_eraseIdx, h3, ChangeMaps.map_eraseIdx]
    · rw [ChangeMaps.map_eraseIdx]
      exact (List.eraseIdx_sublist _ _).nodup h4
    · rw [hsub, ChangeMaps.map_eraseIdx]
      exact (List.eraseIdx_sublist _ _).nodup h5
    · intro z hz
      rw [hsub] at hz
      exact h6 z ((List.eraseIdx_sublist _ _).subset hz)
    · have hf : (Instr.findKey tK (.int .i64 k) es.toList).run P W = .ok (some (j', yv)) W := MapKept.run_findKey (P := P) (w := W) hk h7
      have hB := hW.trans hb
      simp [Builtin.delete_, run_underlying ht, MapKept.run_getObj_map hB, MapKept.run_checkKey hk (k := .int .i64 k) (show MapKept.IsKey (.int .i64) (.int .i64 k) from rfl), hf, MapKept.run_setObj_map _ hB, Result.andThen, setBlock]
end

/-! ### A loop over the map -/
/-- Block r is an iterator over the map in block b; the pairs of todo are still to come, in some order. -/
def Rng (w : World) (b r : Nat) (todo : List (Int × Value)) : Prop := ∃ es clock since seen c0, w.heap[b]? = some (.map es clock) ∧ w.heap[r]? = some (.mapIter (some b) since seen c0) ∧ (∀ x ∈ es.toList, x.born < since) ∧ since ≤ c0 ∧ (es.toList.map (·.born)).Nodup ∧ (∀ x ∈ es.toList, ∃ k, x.key = iv k) ∧ ((leftOf es seen).toList.map fun x => (x.key, x.val)).Perm (todo.map fun x => (iv x.1, x.2)) ∧ since ≤ clock
theorem Rng.of {w w' : World} {b r : Nat} {todo : List (Int × Value)} (h : Rng w b r todo) (e1 : w'.heap[b]? = w.heap[b]?) (e2 : w'.heap[r]? = w.heap[r]?) : Rng w' b r todo := by
  obtain ⟨es, clock, since, seen, c0, h1, h2, h3⟩ := h
  exact ⟨es, clock, since, seen, c0, e1.trans h1, e2.trans h2, h3⟩
theorem ent_key {es : List MapEntry} {l : List (Int × Value)} (h : Ent es l) : ∀ x ∈ es, ∃ k, x.key = iv k := fun x hx => by
  have : (x.key, x.val) ∈ l.map (fun x => (iv x.1, x.2)) := by rw [← h]; exact List.mem_map_of_mem hx
  obtain ⟨p, _, hp⟩ := List.mem_map.1 this
  injection hp with h1 h2
  exact ⟨p.1, h1.symm⟩
theorem rng_start {P : Program} {tM tK tE : TypeId} (ht : P.underlying tM = some (.map tK tE)) {w : World} {B : Nat} {l : List (Int × Value)} (h : Is w B l) :
    ∃ w', (Instr.range tM (.map (some B))).run P w = .ok (.pointer (some ⟨w.heap.size, 0, none⟩)) w' ∧ Rng w' B w.heap.size l ∧ Keep w w' ∧ w'.heap.size = w.heap.size + 1 := by
  have hl := h.lt
  obtain ⟨o, hb, es, c, rfl, h3, h4, h5, h6⟩ := h
  refine ⟨_, run_range_map w tM tK tE B es c ht hb, ⟨es, c, c, #[], c, ((MapKept.heap_alloc w _).2 B hl).trans hb, (MapKept.heap_alloc w _).1, h6, Nat.le_refl _, h5, ent_key h3, ?_, Nat.le_refl _⟩, Keep.one _ _, World.size_alloc _ _⟩
  have : leftOf es #[] = es := by simp [leftOf]
  rw [this]
  unfold Ent at h3
  rw [h3]
theorem rng_next {P : Program} {w : World} {b r : Nat} {todo : List (Int × Value)} (h : Rng w b r todo) (hne : r ≠ b) (ty : TypeId) :
    (todo = [] ∧ (Instr.next (.pointer (some ⟨r, 0, none⟩)) false ty).run P w = .ok (.tuple #[.bool false]) w) ∨
    ∃ k v rest w', todo.Perm ((k, v) :: rest) ∧ (Instr.next (.pointer (some ⟨r, 0, none⟩)) false ty).run P w = .ok (.tuple #[.bool true, .int .i64 k, v]) w' ∧ Rng w' b r rest ∧ w.grownBy w' (some r) ∧ w'.heap.size = w.heap.size ∧ (Instr.entry (.pointer (some ⟨r, 0, none⟩))).run P w' = .ok (.tuple #[.int .i64 k, v]) w' := by
  obtain ⟨es, clock, since, seen, c0, hb, hr, hold, hsc, hbn, hke, hp, hcl⟩ := h
  rcases run_next_at (P := P) w ty r b since c0 seen es clock hr hb hold hsc with ⟨h0, h1⟩ | ⟨e, he, w1, hw1, h1⟩
  · left
    refine ⟨?_, h1⟩
    have hl := hp.length_eq
    rw [List.length_map, List.length_map, Array.length_toList, h0] at hl
    exact List.length_eq_zero_iff.1 hl.symm
  · right
    have hes : e ∈ es.toList := by
      unfold leftOf at he
      simp at he
      simpa using he.1
    obtain ⟨k, hk⟩ := hke e hes
    have hmem : (iv k, e.val) ∈ todo.map fun x => (iv x.1, x.2) := by
      refine hp.mem_iff.1 (List.mem_map.2 ⟨e, he, ?_⟩)
      rw [hk]
    obtain ⟨p, hpt, hpe⟩ := List.mem_map.1 hmem
    injection hpe with hp1 hp2
    have hpk : p = (k, e.val) := by
      unfold iv at hp1
      injection hp1 with _ hp1
      rw [← hp1, ← hp2]
    obtain ⟨s, t, hst⟩ := List.append_of_mem hpt
    have hperm : todo.Perm ((k, e.val) :: (s ++ t)) := by
      rw [hst, hpk]
      exact List.perm_middle
    have hrl : r < w1.heap.size := by
      have := (Array.getElem?_eq_some_iff.1 hr).1
      rcases hw1 with rfl | rfl <;> exact this
    have hb' : (setBlock w1 r (.mapIter (some b) since (seen.push e.born) clock)).heap[b]? = some (.map es clock) := by
      have : w1.heap[b]? = some (.map es clock) := by rcases hw1 with rfl | rfl <;> exact hb
      simp only [setBlock, Array.getElem?_setIfInBounds, hne, if_false]
      exact this
    have hr' : (setBlock w1 r (.mapIter (some b) since (seen.push e.born) clock)).heap[r]? = some (.mapIter (some b) since (seen.push e.born) clock) := by simp [setBlock, hrl]
    refine ⟨k, e.val, s ++ t, _, hperm, ?_, ⟨es, clock, since, seen.push e.born, clock, hb', hr', hold, hcl, hbn, hke, ?_, hcl⟩, ?_, ?_, ?_⟩
    · rw [h1, hk]; rfl
    · have hleft : (leftOf es seen).toList.Perm (e :: (leftOf es (seen.push e.born)).toList) := by
        have gen : ∀ (l : List MapEntry), (l.map (·.born)).Nodup → e ∈ l → seen.contains e.born = false → (l.filter fun x => !seen.contains x.born).Perm (e :: l.filter fun x => !(seen.push e.born).contains x.born) := by
          intro l
          induction l with
          | nil => intro _ h _; cases h
          | cons y q ih =>
            intro hn hm hs
            rw [List.map_cons, List.nodup_cons] at hn
            rcases List.mem_cons.1 hm with rfl | hm
            · rw [List.filter_cons_of_pos (by simp only [hs]; rfl), List.filter_cons_of_neg (by simp)]
              refine List.Perm.cons _ (List.Perm.of_eq (List.filter_congr fun x hx => ?_))
              have hxe : x.born ≠ e.born := fun h => hn.1 (by rw [← h]; exact List.mem_map_of_mem hx)
              simp [hxe]
            · have hye : y.born ≠ e.born := fun h => hn.1 (by rw [h]; exact List.mem_map_of_mem hm)
              by_cases hy : seen.contains y.born = true
              · rw [List.filter_cons_of_neg (by simp only [hy]; decide), List.filter_cons_of_neg (by simp at hy ⊢; simp [hy])]
                exact ih hn.2 hm hs
              · rw [List.filter_cons_of_pos (by simp only [Bool.not_eq_true] at hy; simp only [hy]; rfl), List.filter_cons_of_pos (by simp at hy ⊢; exact ⟨hy, hye⟩)]
                exact ((ih hn.2 hm hs).cons y).trans (List.Perm.swap _ _ _)
        have hse : seen.contains e.born = false := by
          unfold leftOf at he
          simp at he
          simpa using he.2
        have := gen es.toList hbn hes hse
        unfold leftOf
        rw [Array.toList_filter, Array.toList_filter]
        exact this
      have h2 := (hleft.map fun x : MapEntry => (x.key, x.val)).symm.trans (hp.trans (hperm.map fun x : Int × Value => (iv x.1, x.2)))
      rw [List.map_cons, List.map_cons, hk] at h2
      exact (List.perm_cons _).1 h2
    · rcases hw1 with rfl | rfl
      · exact ⟨rfl, rfl, rfl, by simp [setBlock], fun i _ hi => by simp only [setBlock, Array.getElem?_setIfInBounds]; rw [if_neg (fun e => hi (by rw [e]))]⟩
      · exact ⟨rfl, rfl, rfl, by simp [setBlock], fun i _ hi => by simp only [setBlock, Array.getElem?_setIfInBounds]; rw [if_neg (fun e => hi (by rw [e]))]; rfl⟩
    · rcases hw1 with rfl | rfl <;> simp [setBlock]
    · rw [run_entry_at _ r b since seen es clock e hr' hb' hes hbn, hk]
      rfl
end MV
end Go.Proofs.YtfidlljhmebpmaaDoor
