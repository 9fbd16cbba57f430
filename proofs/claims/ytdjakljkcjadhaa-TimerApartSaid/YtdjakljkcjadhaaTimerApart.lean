/-
  Proved: TimerApart: for any timers, two lists do not influence each other, and changing what was returned changes no list. Conditions: none.
-/
import Derived.Test.YtdjakljkcjadhaaLift9
import Derived.Test.YtdjakljkcjadhaaApartLaw9
import Derived.Test.YtdjakljkcjadhaaInstE9
namespace Go.Proofs.Ytdjakljkcjadhaa
open Go.ChangeShapes Go.WideShapes Go.ChangeAt Go.RowKit T9

set_option maxRecDepth 100000 in
theorem timerApart_lifted (os : Os) (started : os.Started) (H : Type) (enc : TypeId × Value → H) :
    ReturnsInHanded {} Try.checked os 5 .any (Rows.timerApartSpec.pre6 enc Try.prog Try.f5 Rows.timerApartRow.domain false) (Rows.timerApartSpec.post enc Try.prog Try.f5 false true false false) := by
  refine returnsInHanded_of_change (C := Try.checked) Try.own9 started (by kernel_rfl) Try.func5
    (ChangeSpec.witness6 (enc := enc) (C := Try.checked) false ⟨#[], #[.slice none 0 0], []⟩ 8 (by kernel_rfl) (by kernel_rfl) (by kernel_rfl) (by kernel_rfl)) ?_
  intro W base args ds gs before hval0 hW _ _
  have hval : ∀ (j : Nat) t v, Try.f5.params[j]? = some t → args[j]? = some v → Value.okWide Try.prog W .any base t v := hval0
  have hW' := hW
  obtain ⟨p, q, hA0, hV, rfl, _, _⟩ := hW
  have hA : DataW.TrodAll enc Try.prog W 0 (fun _ => true) true Try.f5.params.toList args.toList ds p := hA0
  rw [Try.params5] at hA hval
  obtain ⟨v0, vs0, d0, ds0, p0, q0, hargs, rfl, rfl, h0, r0⟩ := trodAll_cons hA
  obtain ⟨rfl, rfl, rfl⟩ := trodAll_nil r0
  obtain rfl : args = #[v0] := by cases args; simp_all
  obtain ⟨rfl, rfl⟩ := trodVars_none hV
  obtain ⟨A0, n0, c0, P0, rfl, g0⟩ := tms_open (hval 0 26 v0 rfl rfl) h0
  refine (apart_walk con9 A0 n0 c0 P0  W g0).mono fun e W' ⟨he, hk⟩ => ?_
  subst he
  exact ⟨_, rfl, law_post Try.laidOut9 rfl (by rw [Try.params5]; decide +kernel) rfl Try.underlying4 hW' rfl hk⟩

theorem timerApart_holds : Rows.TimerApartSaid :=
  OpenClaim.holds_of_wide 5 Try.f5 rfl rfl rfl rfl rfl rfl rfl ⟨rfl, rfl, rfl, rfl, rfl⟩ rfl rfl rfl rfl rfl (by kernel_rfl) Try.func5 (by kernel_rfl)
    (of_decide_eq_true (by kernel_rfl)) (by unfold Func.isWrapper; first | (rw [if_pos (by decide +kernel)]; kernel_rfl) | (rw [if_neg (by decide +kernel)]; exact ⟨rfl, rfl⟩))
    (fun os started H enc _ => timerApart_lifted os started H enc)
#print axioms timerApart_holds
end Go.Proofs.Ytdjakljkcjadhaa
