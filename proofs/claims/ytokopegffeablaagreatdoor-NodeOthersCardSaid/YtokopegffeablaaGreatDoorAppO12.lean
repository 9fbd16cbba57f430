/-
  An operation appended to a slice of operations that has no room: a new row. Condition: the slice takes at most 0x7ffffffff000 bytes.
-/
import Derived.Test.YtokopegffeablaaGreatDoorOth12
import Derived.ArgAppend
namespace Go.Proofs.YtokopegffeablaaGreatDoor.T12
open Go.RowKit Go.Sort Go.Lib V12

def OpV.cells (o : OpV) : List Value := [.int .i64 o.kd, .int .i64 o.id, .slice o.A o.n o.c]
def opCs (Q : Nat → OpV) : Nat → List Value
  | 0 => []
  | n + 1 => opCs Q n ++ (Q n).cells
theorem opCs_len (Q : Nat → OpV) : ∀ n, (opCs Q n).length = n * 3
  | 0 => rfl
  | n + 1 => by
    rw [opCs, List.length_append, opCs_len Q n]
    show n * 3 + 3 = _
    omega
theorem opCs_get (Q : Nat → OpV) : ∀ (n j i : Nat), j < n → i < 3 → (opCs Q n)[j * 3 + i]? = (Q j).cells[i]?
  | 0, j, i, h, _ => absurd h (Nat.not_lt_zero _)
  | n + 1, j, i, h, hi => by
    rw [opCs]
    by_cases e : j = n
    · subst e
      rw [List.getElem?_append_right (by rw [opCs_len]; omega), opCs_len]
      congr 1
      omega
    · rw [List.getElem?_append_left (by rw [opCs_len]; omega)]
      exact opCs_get Q n j i (by omega) hi
def putO (Q : Nat → OpV) (n : Nat) (x : OpV) : Nat → OpV := fun j => if j = n then x else Q j
theorem opCs_congr {Q R : Nat → OpV} : ∀ n, (∀ j, j < n → Q j = R j) → opCs Q n = opCs R n
  | 0, _ => rfl
  | n + 1, h => by rw [opCs, opCs, opCs_congr n (fun j hj => h j (by omega)), h n (by omega)]
theorem opCs_put (Q : Nat → OpV) (n : Nat) (x : OpV) : opCs Q n ++ x.cells = opCs (putO Q n x) (n + 1) := by
  rw [opCs, opCs_congr (Q := putO Q n x) (R := Q) n (fun j hj => if_neg (by omega))]
  show _ = _ ++ (if n = n then x else Q n).cells
  rw [if_pos rfl]
theorem opCs_cell {w : World} {b off n : Nat} {Q : Nat → OpV} (h : ∀ j, j < n → w.cell? ⟨b, off + j * 3, none⟩ = some (.int .i64 (Q j).kd) ∧ w.cell? ⟨b, off + j * 3 + 1, none⟩ = some (.int .i64 (Q j).id) ∧ w.cell? ⟨b, off + j * 3 + 2, none⟩ = some (.slice (Q j).A (Q j).n (Q j).c)) :
    ∀ j u, (opCs Q n)[j]? = some u → w.cell? ⟨b, off + j, none⟩ = some u := by
  intro j u hu
  have hj : j < n * 3 := by have := (List.getElem?_eq_some_iff.1 hu).1; rwa [opCs_len] at this
  have hg := opCs_get Q n (j / 3) (j % 3) (by omega) (Nat.mod_lt _ (by omega))
  rw [show j / 3 * 3 + j % 3 = j by omega, hu] at hg
  have hc := h (j / 3) (by omega)
  have e : j = j / 3 * 3 + j % 3 := by omega
  rcases (show j % 3 = 0 ∨ j % 3 = 1 ∨ j % 3 = 2 by omega) with r | r | r
  · rw [r] at hg e
    rw [e, Nat.add_zero, hc.1]
    exact hg.symm
  · rw [r] at hg e
    rw [e, ← Nat.add_assoc, hc.2.1]
    exact hg.symm
  · rw [r] at hg e
    rw [e, ← Nat.add_assoc, hc.2.2]
    exact hg.symm
theorem Tryz.infoO12 : (Tryz.prog.info? 32).map (fun i => (i.zero, i.size, i.bytes)) = some (some (.agg #[.int .i64 0, .int .i64 0, .slice none 0 0]), 3, 40) := by kernel_rfl
theorem Tryz.undO12 : Tryz.prog.underlying 22 = some (.slice 32) := by kernel_rfl
theorem wp_growO {o : Oper} {a : Act} {w : World} {K : Act → World → Prop} {Q : Exit → Act → World → Prop} (s x : Operand) (ho : o.op = .call { callee := .builtin .append, args := #[s, x], argTypes := #[22, 22] })
    (A : Option Addr) (n : Nat) (P : Nat → OpV) (hs : a.eval s = .slice A n n) (hA : A = none → n = 0) (hR : RdO w A n P) (y : OpV) (b : Nat) (hx : a.eval x = .slice (some ⟨b, 0, none⟩) 1 1) (hb : w.heap[b]? = some (.cells #[.int .i64 y.kd, .int .i64 y.id, .slice y.A y.n y.c] 32 (0, 0))) (hy : OpIs w y)
    (hn : n * 40 ≤ 140737488351232)
    (h : ∀ A' c' w', RdO w' A' (n + 1) (putO P n y) → Keep w w' → K (a.put o.dst (.slice A' (n + 1) c')) w') : Oper.wp Tryz.prog o a w K Q := by
  obtain ⟨i0, hi0, hz0, hz1, hz2⟩ := info_parts Tryz.infoO12
  have hnews : ∀ j u, y.cells[j]? = some u → w.cell? ((⟨b, 0, none⟩ : Addr).add j) = some u := fun j u hu => by
    rw [WideShapes.add_plain, Nat.zero_add, cell_of_row w b j _ _ _ hb, List.getElem?_toArray]
    exact hu
  have h1c : ∀ u ∈ y.cells, u.oneCell' = true := by
    intro u hu
    simp only [OpV.cells, List.mem_cons, List.not_mem_nil, or_false] at hu
    rcases hu with rfl | rfl | rfl <;> rfl
  have fin : ∀ v' w', w'.ownsRow w.heap.size 32 3 v' (n + 1) (opCs P n ++ y.cells) → w.grownBy w' none → K (a.put o.dst v') w' := fun v' w' r1 r2 => by
    obtain ⟨g, c', e, _, _⟩ := r1.form (by omega)
    subst e
    rw [opCs_put] at r1
    have k : Keep w w' := Below.grown (Keep.refl w) r2 (Nat.le_refl _) (fun g h => by cases h)
    refine h _ _ _ ⟨by omega, fun _ => ⟨g, 0, rfl, fun j hj => ?_⟩, fun j hj => ?_⟩ k
    · have e0 := r1.cellAt (j * 3 + 0) (by omega)
      have e1 := r1.cellAt (j * 3 + 1) (by omega)
      have e2 := r1.cellAt (j * 3 + 2) (by omega)
      rw [opCs_get _ _ _ _ hj (by omega)] at e0 e1 e2
      rw [Nat.zero_add]
      exact ⟨e0, e1, e2⟩
    · unfold putO
      by_cases e : j = n
      · rw [if_pos e]; exact hy.keep k
      · rw [if_neg e]; exact (hR.is j (by omega)).keep k
  cases A with
  | some ad =>
    have holds : ∀ j u, (opCs P n)[j]? = some u → w.cell? (ad.add j) = some u := fun j u hu => by
      have hj : j < n * 3 := by have := (List.getElem?_eq_some_iff.1 hu).1; rwa [opCs_len] at this
      obtain ⟨b1, off, e, hc⟩ := hR.adr (by omega)
      obtain rfl := Option.some.inj e
      rw [WideShapes.add_plain]
      exact opCs_cell hc j u hu
    obtain ⟨v', w', hrun, r1, r2⟩ := run_append_arg_grows (P := Tryz.prog) w 22 o.type 32 i0 _ 3 40 Tryz.undO12 hi0 hz0 hz1 hz2 rfl (by decide) ad n n (opCs P n) (opCs_len P n) holds ⟨b, 0, none⟩ 1 1 y.cells rfl hnews (by omega) (by unfold maxLen; omega) (by omega)
    unfold Oper.wp
    simp [execOp, ho, resolve, invoke, builtin, hs, hx, hrun, Result.andThen]
    exact fin v' w' r1 r2
  | none =>
    obtain rfl := hA rfl
    obtain ⟨v', w', hrun, r1, r2, _⟩ := run_append_own (P := Tryz.prog) w w.heap.size 22 o.type 32 i0 _ 3 40 Tryz.undO12 hi0 hz0 hz1 hz2 rfl (by decide) (.slice none 0 0) 0 [] (World.ownsRow_nil w _ _ _) ⟨b, 0, none⟩ 1 1 y.cells rfl hnews h1c (by unfold maxLen; omega) (by omega) (Nat.le_refl _)
    unfold Oper.wp
    simp [execOp, ho, resolve, invoke, builtin, hs, hx, hrun, Result.andThen]
    exact fin v' w' r1 r2
theorem few_put {P : Nat → OpV} {n : Nat} {y : OpV} : FewO (putO P n y) (n + 1) ↔ n ≤ 59 ∧ (∀ j, j < n → (P j).n ≤ 20) ∧ y.n ≤ 20 := by
  unfold FewO putO
  constructor
  · rintro ⟨h1, h2⟩
    refine ⟨by omega, fun j hj => ?_, ?_⟩
    · have := h2 j (by omega)
      rwa [if_neg (by omega)] at this
    · have := h2 n (by omega)
      rwa [if_pos rfl] at this
  · rintro ⟨h1, h2, h3⟩
    refine ⟨by omega, fun j hj => ?_⟩
    by_cases e : j = n
    · rw [if_pos e]; exact h3
    · rw [if_neg e]; exact h2 j (by omega)
end Go.Proofs.YtokopegffeablaaGreatDoor.T12
