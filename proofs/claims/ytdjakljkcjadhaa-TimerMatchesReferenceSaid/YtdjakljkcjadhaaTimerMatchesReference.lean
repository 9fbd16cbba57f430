/-
  Proved: TimerMatchesReference: for any operations, the results and all timers are those of the reference. Conditions: none.
-/
import Derived.Test.YtdjakljkcjadhaaLift9
import Derived.Test.YtdjakljkcjadhaaMatchLaw9
import Derived.Test.YtdjakljkcjadhaaInstE9
namespace Go.Proofs.Ytdjakljkcjadhaa
open Go.ChangeShapes Go.WideShapes Go.ChangeAt Go.RowKit T9

set_option maxRecDepth 100000 in
theorem timerMatchesReference_lifted (os : Os) (started : os.Started) (H : Type) (enc : TypeId × Value → H) :
    ReturnsInHanded {} Try.checked os 3 .any (Rows.timerMatchesReferenceSpec.pre6 enc Try.prog Try.f3 Rows.timerMatchesReferenceRow.domain false) (Rows.timerMatchesReferenceSpec.post enc Try.prog Try.f3 false true false false) := by
  refine returnsInHanded_of_change (C := Try.checked) Try.own9 started (by kernel_rfl) Try.func3
    (ChangeSpec.witness6 (enc := enc) (C := Try.checked) false ⟨#[], #[.slice none 0 0], []⟩ 8 (by kernel_rfl) (by kernel_rfl) (by kernel_rfl) (by kernel_rfl)) ?_
  intro W base args ds gs before hval0 hW _ _
  have hval : ∀ (j : Nat) t v, Try.f3.params[j]? = some t → args[j]? = some v → Value.okWide Try.prog W .any base t v := hval0
  have hW' := hW
  obtain ⟨p, q, hA0, hV, rfl, _, _⟩ := hW
  have hA : DataW.TrodAll enc Try.prog W 0 (fun _ => true) true Try.f3.params.toList args.toList ds p := hA0
  rw [Try.params3] at hA hval
  obtain ⟨v0, vs0, d0, ds0, p0, q0, hargs, rfl, rfl, h0, r0⟩ := trodAll_cons hA
  obtain ⟨rfl, rfl, rfl⟩ := trodAll_nil r0
  obtain rfl : args = #[v0] := by cases args; simp_all
  obtain ⟨rfl, rfl⟩ := trodVars_none hV
  obtain ⟨A0, n0, c0, K0, P0, rfl, g0⟩ := ops_open (hval 0 22 v0 rfl rfl) h0
  refine (matches_walk con9 A0 n0 c0 K0 P0  W g0).mono fun e W' ⟨he, hk⟩ => ?_
  subst he
  exact ⟨_, rfl, law_post Try.laidOut9 rfl (by rw [Try.params3]; decide +kernel) rfl Try.underlying4 hW' rfl hk⟩

theorem timerMatchesReference_holds : Rows.TimerMatchesReferenceSaid :=
  OpenClaim.holds_of_wide 3 Try.f3 rfl rfl rfl rfl rfl rfl rfl ⟨rfl, rfl, rfl, rfl, rfl⟩ rfl rfl rfl rfl rfl (by kernel_rfl) Try.func3 (by kernel_rfl)
    (of_decide_eq_true (by kernel_rfl)) (by unfold Func.isWrapper; first | (rw [if_pos (by decide +kernel)]; kernel_rfl) | (rw [if_neg (by decide +kernel)]; exact ⟨rfl, rfl⟩))
    (fun os started H enc _ => timerMatchesReference_lifted os started H enc)
#print axioms timerMatchesReference_holds
end Go.Proofs.Ytdjakljkcjadhaa
