/-
  Proved: for every three slices of int64, the Go function VecOrder of stage 1 returns true, and each argument reads as before. Conditions: none.
-/
import Derived.Test.YtkkoajkoiiolgaaLift
import Derived.Test.YtkkoajkoiiolgaaOrder
namespace Go.Proofs.Ytkkoajkoiiolgaa
open Go.ChangeShapes Go.WideShapes Go.ChangeAt Go.RowKit

set_option maxRecDepth 100000 in
theorem vecOrder_lifted (os : Os) (started : os.Started) (H : Type) (enc : TypeId × Value → H) :
    ReturnsInHanded {} Try.checked os 7 .any (Rows.vecOrderSpec.pre6 enc Try.prog Try.f7 Rows.vecOrderRow.domain false) (Rows.vecOrderSpec.post enc Try.prog Try.f7 false true false false) := by
  refine returnsInHanded_of_change (C := Try.checked) Try.own started (by kernel_rfl) Try.func7
    (ChangeSpec.witness6 (enc := enc) (C := Try.checked) false ⟨#[], #[.slice none 0 0, .slice none 0 0, .slice none 0 0], []⟩ 8 (by kernel_rfl) (by kernel_rfl) (by kernel_rfl) (by kernel_rfl)) ?_
  intro W base args ds gs before hval0 hW _ _
  have hval : ∀ (j : Nat) t v, Try.f7.params[j]? = some t → args[j]? = some v → Value.okWide Try.prog W .any base t v := hval0
  have hW' := hW
  obtain ⟨p, q, hA0, hV, rfl, _, _⟩ := hW
  have hA : DataW.TrodAll enc Try.prog W 0 (fun _ => true) true Try.f7.params.toList args.toList ds p := hA0
  rw [Try.params7] at hA hval
  obtain ⟨v0, vs0, d0, ds0, p0, q0, hargs, rfl, rfl, h0, r0⟩ := trodAll_cons hA
  obtain ⟨v1, vs1, d1, ds1, p1, q1, rfl, rfl, rfl, h1, r1⟩ := trodAll_cons r0
  obtain ⟨v2, vs2, d2, ds2, p2, q2, rfl, rfl, rfl, h2, r2⟩ := trodAll_cons r1
  obtain ⟨rfl, rfl, rfl⟩ := trodAll_nil r2
  obtain rfl : args = #[v0, v1, v2] := by cases args; simp_all
  obtain ⟨rfl, rfl⟩ := trodVars_none hV
  obtain ⟨A0, n0, c0, Z0, rfl, g0⟩ := rd_open Try.underlying24 Try.underlying2 Try.cells2 (hval 0 24 v0 rfl rfl) h0
  obtain ⟨A1, n1, c1, Z1, rfl, g1⟩ := rd_open Try.underlying24 Try.underlying2 Try.cells2 (hval 1 24 v1 rfl rfl) h1
  obtain ⟨A2, n2, c2, Z2, rfl, g2⟩ := rd_open Try.underlying24 Try.underlying2 Try.cells2 (hval 2 24 v2 rfl rfl) h2
  refine (order_walk A0 A1 A2 n0 n1 n2 c0 c1 c2 Z0 Z1 Z2 W g0 g1 g2).mono fun e W' ⟨he, hk⟩ => ?_
  subst he
  exact ⟨_, rfl, law_post Try.laidOut rfl (by rw [Try.params7]; decide +kernel) rfl Try.underlying4 hW' rfl hk⟩

theorem vecOrder_holds : Rows.VecOrderSaid :=
  OpenClaim.holds_of_wide 7 Try.f7 rfl rfl rfl rfl rfl rfl rfl ⟨rfl, rfl, rfl, rfl, rfl⟩ rfl rfl rfl rfl rfl (by kernel_rfl) Try.func7 (by kernel_rfl)
    (of_decide_eq_true (by kernel_rfl)) (by unfold Func.isWrapper; first | (rw [if_pos (by decide +kernel)]; kernel_rfl) | (rw [if_neg (by decide +kernel)]; exact ⟨rfl, rfl⟩))
    (fun os started H enc _ => vecOrder_lifted os started H enc)
#print axioms vecOrder_holds
end Go.Proofs.Ytkkoajkoiiolgaa
