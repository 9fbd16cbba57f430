/-
  A region that draws its order, by an invariant over what has come up. No condition, no program.
-/
import Derived.Test.YtpkpmoiekjhdnaaDoorBase5
import Derived.OrdersHeld
namespace Go.Proofs.YtpkpmoiekjhdnaaDoor
open Go.RowKit

theorem get_false {l : Array Bool} {i : Nat} (h : l.getD i true = false) : l.toList[i]? = some false := by
  rw [Array.getD_eq_getD_getElem?] at h
  rw [Array.getElem?_toList]
  cases e : l[i]? with
  | none => rw [e] at h; cases h
  | some b => rw [e] at h; simp at h; rw [h]
theorem count_down : ∀ (l : List Bool) (i : Nat), l[i]? = some false → (l.set i true).count false + 1 = l.count false
  | [], i, h => by simp at h
  | b :: l, 0, h => by
    simp only [List.getElem?_cons_zero, Option.some.injEq] at h
    subst h
    simp
  | b :: l, i + 1, h => by
    simp only [List.getElem?_cons_succ] at h
    have := count_down l i h
    simp only [List.set_cons_succ, List.count_cons]
    omega
section
variable {P : Program} {ops : Array Oper} {Q : Exit → Act → World → Prop} {md : Region.Mode} {S : World → Prop}
theorem any_inv (I : Array Bool → Act → World → Prop) (hstep : ∀ l a w, I l a w → ∀ i ∈ Region.ready md ops l, wpOp P ops Q i (fun a' w' => S w' ∧ I (l.setIfInBounds i true) a' w') a w)
    (hend : ∀ l a w, I l a w → Region.ready md ops l = [] → Q .normal a w) : ∀ fuel l a w, I l a w → l.toList.count false ≤ fuel → wpAnyH P md ops Q S fuel l a w := by
  intro fuel
  induction fuel with
  | zero =>
    intro l a w h hc
    have hr : Region.ready md ops l = [] := by
      refine List.eq_nil_iff_forall_not_mem.2 fun i hi => ?_
      have h1 := get_false (mem_ready.1 hi).1
      have h2 : 0 < l.toList.count false := List.count_pos_iff.2 (List.mem_of_getElem? h1)
      omega
    exact ⟨hr, hend l a w h hr⟩
  | succ fuel ih =>
    intro l a w h hc
    refine ⟨hend l a w h, fun i hi => wpOp_mono (fun a' w' h' => ⟨h'.1, ih _ _ _ h'.2 ?_⟩) (hstep l a w h i hi)⟩
    rw [Array.toList_setIfInBounds]
    have := count_down l.toList i (get_false (mem_ready.1 hi).1)
    omega
theorem wpOp_of {i : Nat} {o : Oper} {K : Act → World → Prop} {a : Act} {w : World} (ho : ops[i]? = some o) (hg : o.guard = none) (h : o.wp P a w K Q) : wpOp P ops Q i K a w := by
  unfold wpOp
  rw [ho]
  have hw : Region.wanted o (yielded ops a.tmps) = true := by simp [Region.wanted, hg]
  simp only [hw, if_true]
  exact .inl h
end
end Go.Proofs.YtpkpmoiekjhdnaaDoor
