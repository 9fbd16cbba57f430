/-
  A map from pairs of numbers to numbers: what a look-up answers and what an insert leaves. No condition.
-/
import Derived.Test.YtfidlljhmebpmaaDoorBase5
import Derived.Laws.StructEq
import Derived.Maps.Own
import Derived.Carry
namespace Go.Proofs.YtfidlljhmebpmaaDoor
open Go.RowKit Go.Extern.Stop Go.Stop Go.Extern
open Go.ChangeMaps (setBlock)

def kv (p e : Int) : Value := .agg #[.int .i64 p, .int .i64 e]

set_option maxRecDepth 100000 in
theorem Tryd.eqKey (p e q f : Int) (w : World) : (Op.equal 97 (kv p e) (kv q f)).run Tryd.prog w = .ok (decide (p = q ∧ e = f)) w := by
  unfold kv
  simp only [Op.equal, Op.maxDepth]
  rw [run_equalIn_agg w 9999 97 _ _ (by kernel_rfl) (by kernel_rfl)]
  have hf : ∃ f0 f1 : Field, (Tryd.prog.fieldsOf 97).toList = [f0, f1] ∧ f0.name ≠ "_" ∧ f1.name ≠ "_" ∧ f0.type = 3 ∧ f1.type = 3 ∧ f0.offset = 0 ∧ f1.offset = 1 := ⟨_, _, rfl, by decide, by decide, rfl, rfl, rfl, rfl⟩
  obtain ⟨f0, f1, hl, n0, n1, t0, t1, o0, o1⟩ := hf
  rw [hl]
  simp [Op.eqFields, n0, n1, t0, t1, o0, o1, go_sem]
  by_cases h : p = q <;> by_cases h' : e = f <;> simp [h, h']

theorem Tryd.okKey (b : Bool) (p e : Int) (w : World) : (Instr.checkKey b 10000 97 (kv p e)).run Tryd.prog w = .ok () w := by
  unfold kv
  rw [show (10000 : Nat) = 9999 + 1 from rfl]
  unfold Instr.checkKey
  simp only [Sem.run_bind, run_underlying Tryd.underlying97, Result.andThen_ok]
  simp [go_sem]
  have h (x : Int) (v : World) : (Instr.checkKey b 9999 3 (.int .i64 x)).run Tryd.prog v = .ok () v := MapKept.run_checkKey Tryd.underlying3 (by simp [MapKept.IsKey]) b 9998
  simp [h, Result.andThen]

/-- The entries of a map are the rows of l. -/
def Ents (es : List MapEntry) (l : List (Int × Int × Int)) : Prop := es.map (fun x => (x.key, x.val)) = l.map (fun x => (kv x.1 x.2.1, Value.int .i64 x.2.2))
/-- The number at (p, e). -/
def look : List (Int × Int × Int) → Int → Int → Option Int
  | [], _, _ => none
  | x :: r, p, e => if p = x.1 ∧ e = x.2.1 then some x.2.2 else look r p e

theorem look_mem {p e v : Int} : ∀ {l : List (Int × Int × Int)}, look l p e = some v → (p, e, v) ∈ l
  | [], h => by simp [look] at h
  | x :: r, h => by
    unfold look at h
    split at h
    · rename_i hc
      obtain ⟨rfl, rfl⟩ := hc
      cases h
      exact List.mem_cons_self
    · exact List.mem_cons_of_mem _ (look_mem h)
theorem look_none {p e : Int} : ∀ {l : List (Int × Int × Int)}, look l p e = none → ∀ v, (p, e, v) ∉ l
  | [], _, v, hm => by cases hm
  | x :: r, h, v, hm => by
    unfold look at h
    split at h
    · cases h
    · rename_i hc
      rcases List.mem_cons.1 hm with rfl | hm
      · exact hc ⟨rfl, rfl⟩
      · exact look_none h v hm
theorem look_not {p e : Int} {l : List (Int × Int × Int)} (h : ∀ v, (p, e, v) ∉ l) : look l p e = none := by
  cases hl : look l p e with
  | none => rfl
  | some v => exact absurd (look_mem hl) (h v)

theorem ask_run (p e : Int) (w : World) : ∀ (l : List (Int × Int × Int)) (es : List MapEntry) (i : Nat), Ents es l →
    ∃ r, (Instr.findAsking 97 (kv p e) es i).run Tryd.prog w = .ok r w ∧ r.map (·.2) = (look l p e).map (Value.int .i64)
  | [], es, i, h => by
    have : es = [] := by simpa [Ents] using h
    subst this
    exact ⟨none, by simp [Instr.findAsking], rfl⟩
  | x :: r, [], i, h => by simp [Ents] at h
  | x :: r, y :: es, i, h => by
    simp only [Ents, List.map_cons, List.cons.injEq, Prod.mk.injEq] at h
    obtain ⟨⟨hk, hv⟩, ht⟩ := h
    unfold Instr.findAsking look
    simp only [Sem.run_bind, hk, Tryd.eqKey, Result.andThen_ok]
    by_cases hc : p = x.1 ∧ e = x.2.1
    · rw [decide_eq_true hc, if_pos hc]
      exact ⟨some (i, y.val), by simp, by simp [hv]⟩
    · rw [decide_eq_false hc, if_neg hc]
      obtain ⟨z, hz, hz'⟩ := ask_run p e w r es (i + 1) ht
      exact ⟨z, by simpa using hz, hz'⟩

set_option maxRecDepth 100000 in
theorem find_run (p e : Int) (w : World) (l : List (Int × Int × Int)) (es : List MapEntry) (h : Ents es l) :
    ∃ r, (Instr.findKey 97 (kv p e) es).run Tryd.prog w = .ok r w ∧ r.map (·.2) = (look l p e).map (Value.int .i64) := by
  cases es with
  | nil =>
    have : l = [] := by
      have := congrArg List.length h
      simpa using this.symm
    subst this
    exact ⟨none, by simp [Instr.findKey, run_underlying Tryd.underlying97, Instr.findNow], rfl⟩
  | cons y es =>
    obtain ⟨r, h1, h2⟩ := ask_run p e w l (y :: es) 0 h
    refine ⟨r, ?_, h2⟩
    have hn : Instr.findNow (.struct (Tryd.prog.fieldsOf 97)) (kv p e) (y :: es) 0 = none := rfl
    simp [Instr.findKey, run_underlying (show Tryd.prog.underlying 97 = some (.struct (Tryd.prog.fieldsOf 97)) from rfl), hn, h1]

/-- Block B is a map that holds the rows of l. -/
def MapIs (w : World) (B : Nat) (l : List (Int × Int × Int)) : Prop := ∃ es clock, w.heap[B]? = some (.map es clock) ∧ Ents es.toList l
theorem MapIs.keep {w w' : World} {B : Nat} {l : List (Int × Int × Int)} (h : MapIs w B l) (k : Keep w w') : MapIs w' B l := by
  obtain ⟨es, clock, hb, he⟩ := h
  exact ⟨es, clock, k.block hb, he⟩

theorem map_look {w : World} {B : Nat} {l : List (Int × Int × Int)} (h : MapIs w B l) (p e : Int) :
    (Instr.lookup 94 (.map (some B)) (kv p e) true).run Tryd.prog w = .ok (.tuple #[.int .i64 ((look l p e).getD 0), .bool (look l p e).isSome]) w := by
  obtain ⟨es, clock, hb, he⟩ := h
  obtain ⟨r, h1, h2⟩ := find_run p e w l es.toList he
  have hz : (zeroValue 3).run Tryd.prog w = .ok (.int .i64 0) w := by kernel_rfl
  simp only [Instr.lookup, Sem.run_bind, run_underlying Tryd.underlying94, Result.andThen_ok, MapKept.run_getObj_map hb, Tryd.okKey, h1, Sem.run_pure]
  cases hl : look l p e with
  | none =>
    rw [hl] at h2
    have : r = none := by cases r <;> simp_all
    subst this
    simp [hz]
  | some v =>
    rw [hl] at h2
    cases r with
    | none => simp at h2
    | some y =>
      obtain ⟨j, z⟩ := y
      have hz : z = .int .i64 v := by simpa using h2
      subst hz
      simp

theorem map_put {w : World} {B : Nat} {l : List (Int × Int × Int)} (h : MapIs w B l) (p e v : Int) (hn : look l p e = none) :
    ∃ w', (Instr.mapUpdate 94 (.map (some B)) (kv p e) (.int .i64 v)).run Tryd.prog w = .ok () w' ∧ MapIs w' B (l ++ [(p, e, v)]) ∧ w.grownBy w' (some B) := by
  obtain ⟨es, clock, hb, he⟩ := h
  obtain ⟨r, h1, h2⟩ := find_run p e w l es.toList he
  rw [hn] at h2
  have : r = none := by cases r <;> simp_all
  subst this
  refine ⟨setBlock w B (.map (es.push { key := kv p e, val := .int .i64 v, born := clock }) (clock + 1)), ?_, ⟨_, _, ChangeMaps.heap_setBlock_same hb _, ?_⟩, ⟨rfl, rfl, rfl, by simp [setBlock], fun i _ hi => ChangeMaps.heap_setBlock_other hb _ (fun e => hi (by rw [e]))⟩⟩
  · simp [Instr.mapUpdate, run_underlying Tryd.underlying94, MapKept.run_getObj_map hb, Tryd.okKey, h1, MapKept.run_setObj_map _ hb, Result.andThen, setBlock]
  · unfold Ents at he ⊢
    simp [he]
theorem map_new (w : World) : MapIs (w.alloc (.map #[] 0)) w.heap.size [] := ⟨#[], 0, (MapKept.heap_alloc w _).1, rfl⟩
end Go.Proofs.YtfidlljhmebpmaaDoor
