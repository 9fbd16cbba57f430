/-
  'range', its step and 'delete' at a walk, over a map as a list of pairs. No condition, no program.
-/
import Derived.Test.YtfidlljhmebpmaaDoorMapV8
import Derived.Maps.OwnSet
namespace Go.Proofs.YtfidlljhmebpmaaDoor
open Go.RowKit Go.Extern.Stop Go.Stop Go.Extern
open Go.ChangeMaps (setBlock)

namespace MV
theorem Rng.perm {w : World} {b r : Nat} {t t' : List (Int × Value)} (h : Rng w b r t) (p : t.Perm t') : Rng w b r t' := by
  obtain ⟨es, clock, since, seen, c0, h1, h2, h3, h4, h5, h6, h7, h8⟩ := h
  exact ⟨es, clock, since, seen, c0, h1, h2, h3, h4, h5, h6, h7.trans (p.map _), h8⟩
theorem Rng.lt {w : World} {b r : Nat} {t : List (Int × Value)} (h : Rng w b r t) : b < w.heap.size ∧ r < w.heap.size := by
  obtain ⟨es, clock, since, seen, c0, h1, h2, _⟩ := h
  exact ⟨(Array.getElem?_eq_some_iff.1 h1).1, (Array.getElem?_eq_some_iff.1 h2).1⟩
theorem Rng.keep {w w' : World} {b r : Nat} {t : List (Int × Value)} (h : Rng w b r t) (k : Keep w w') : Rng w' b r t :=
  h.of (Below.block k _ h.lt.1) (Below.block k _ h.lt.2)
section
variable {P : Program} {w : World} {ops : Array Oper} {rest : List Oper} {o : Oper} {a : Act} {Q : Exit → Act → World → Prop}
theorem wpl_range (hg : o.guard = none) (m : Operand) (t : TypeId) (hop : o.op = Op.range t m) {tK tE : TypeId} (ht : P.underlying t = some (.map tK tE)) {B : Nat} {l : List (Int × Value)} (hm : a.eval m = .map (some B)) (h : Is w B l)
    (hK : ∀ w', Rng w' B w.heap.size l → Keep w w' → w'.heap.size = w.heap.size + 1 → wpList P ops Q rest (a.put o.dst (.pointer (some ⟨w.heap.size, 0, none⟩))) w') : wpList P ops Q (o :: rest) a w := by
  refine wpList_plain hg fun K' hK' => ?_
  obtain ⟨w', hrun, r1, r2, r3⟩ := rng_start (P := P) ht h
  unfold Oper.wp
  simp [execOp, hop, hm, hrun, Result.andThen]
  exact hK' _ _ (hK w' r1 r2 r3)
theorem wpl_next (hg : o.guard = none) (it : Operand) (hop : o.op = Op.next it false) {b r : Nat} {todo : List (Int × Value)} (hit : a.eval it = .pointer (some ⟨r, 0, none⟩)) (h : Rng w b r todo) (hne : r ≠ b)
    (hDone : todo = [] → wpList P ops Q rest (a.put o.dst (.tuple #[.bool false])) w)
    (hMore : ∀ k v rs w', todo.Perm ((k, v) :: rs) → Rng w' b r rs → w.grownBy w' (some r) → w'.heap.size = w.heap.size → (Instr.entry (.pointer (some ⟨r, 0, none⟩))).run P w' = .ok (.tuple #[.int .i64 k, v]) w' → wpList P ops Q rest (a.put o.dst (.tuple #[.bool true, .int .i64 k, v])) w') :
    wpList P ops Q (o :: rest) a w := by
  refine wpList_plain hg fun K' hK' => ?_
  unfold Oper.wp
  rcases rng_next (P := P) h hne o.type with ⟨h0, hrun⟩ | ⟨k, v, rs, w', hp, hrun, hr, hg', hs, hen⟩
  · simp [execOp, hop, hit, hrun, Result.andThen]
    exact hK' _ _ (hDone h0)
  · simp [execOp, hop, hit, hrun, Result.andThen]
    exact hK' _ _ (hMore k v rs w' hp hr hg' hs hen)
theorem wpl_delete (hg : o.guard = none) (m x : Operand) (t k : TypeId) (hop : o.op = Op.call { callee := Callee.builtin Builtin.delete, args := #[m, x], argTypes := #[t, k] }) {B : Nat} {id : Int} (hm : a.eval m = .map (some B)) (hx : a.eval x = .int .i64 id)
    {w' : World} (hrun : ∀ ty, (Builtin.delete_ #[t, k] ty #[.map (some B), .int .i64 id]).run P w = .ok (.tuple #[]) w') (hK : wpList P ops Q rest (a.put o.dst (.tuple #[])) w') : wpList P ops Q (o :: rest) a w := by
  refine wpList_plain hg fun K' hK' => ?_
  unfold Oper.wp
  simp [execOp, hop, resolve, invoke, builtin, hm, hx, hrun, Result.andThen]
  exact hK' _ _ hK
end
end MV
end Go.Proofs.YtfidlljhmebpmaaDoor
