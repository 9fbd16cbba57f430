/-
  Proved: TimerSorts: for any timers, all are due at the greatest time, in order, and then there are none. Conditions: none.
-/
import Derived.Test.YtdjakljkcjadhaaLift9
import Derived.Test.YtdjakljkcjadhaaSortsLaw9
import Derived.Test.YtdjakljkcjadhaaInstE9
namespace Go.Proofs.Ytdjakljkcjadhaa
open Go.ChangeShapes Go.WideShapes Go.ChangeAt Go.RowKit T9

set_option maxRecDepth 100000 in
theorem timerSorts_lifted (os : Os) (started : os.Started) (H : Type) (enc : TypeId × Value → H) :
    ReturnsInHanded {} Try.checked os 7 .any (Rows.timerSortsSpec.pre6 enc Try.prog Try.f7 Rows.timerSortsRow.domain false) (Rows.timerSortsSpec.post enc Try.prog Try.f7 false true false false) := by
  refine returnsInHanded_of_change (C := Try.checked) Try.own9 started (by kernel_rfl) Try.func7
    (ChangeSpec.witness6 (enc := enc) (C := Try.checked) false ⟨#[], #[.slice none 0 0], []⟩ 8 (by kernel_rfl) (by kernel_rfl) (by kernel_rfl) (by kernel_rfl)) ?_
  intro W base args ds gs before hval0 hW _ _
  have hval : ∀ (j : Nat) t v, Try.f7.params[j]? = some t → args[j]? = some v → Value.okWide Try.prog W .any base t v := hval0
  have hW' := hW
  obtain ⟨p, q, hA0, hV, rfl, _, _⟩ := hW
  have hA : DataW.TrodAll enc Try.prog W 0 (fun _ => true) true Try.f7.params.toList args.toList ds p := hA0
  rw [Try.params7] at hA hval
  obtain ⟨v0, vs0, d0, ds0, p0, q0, hargs, rfl, rfl, h0, r0⟩ := trodAll_cons hA
  obtain ⟨rfl, rfl, rfl⟩ := trodAll_nil r0
  obtain rfl : args = #[v0] := by cases args; simp_all
  obtain ⟨rfl, rfl⟩ := trodVars_none hV
  obtain ⟨A0, n0, c0, P0, rfl, g0⟩ := tms_open (hval 0 26 v0 rfl rfl) h0
  refine (sorts_walk con9 A0 n0 c0 P0  W g0).mono fun e W' ⟨he, hk⟩ => ?_
  subst he
  exact ⟨_, rfl, law_post Try.laidOut9 rfl (by rw [Try.params7]; decide +kernel) rfl Try.underlying4 hW' rfl hk⟩

theorem timerSorts_holds : Rows.TimerSortsSaid :=
  OpenClaim.holds_of_wide 7 Try.f7 rfl rfl rfl rfl rfl rfl rfl ⟨rfl, rfl, rfl, rfl, rfl⟩ rfl rfl rfl rfl rfl (by kernel_rfl) Try.func7 (by kernel_rfl)
    (of_decide_eq_true (by kernel_rfl)) (by unfold Func.isWrapper; first | (rw [if_pos (by decide +kernel)]; kernel_rfl) | (rw [if_neg (by decide +kernel)]; exact ⟨rfl, rfl⟩))
    (fun os started H enc _ => timerSorts_lifted os started H enc)
#print axioms timerSorts_holds
end Go.Proofs.Ytdjakljkcjadhaa
