/-
  Proved: for any vectors and any capacity, the law NodeInverse of stage 12 returns true, and its arguments read afterwards as they did. Conditions: the listed package-level variables (errors.errorType) hold what the program's text lays; the card ties them to that text (over the pruned copy of the project).
-/
import Derived.Test.YtokopegffeablaaDoorInverseLaw12
import Derived.Test.YtokopegffeablaaDoorLift12
import Derived.Test.YtokopegffeablaaDoorCards
import Derived.Test.YtokopegffeablaaDoorTie
import Derived.SevenTiedAt
import Derived.ChangeMaps5
namespace Go.Proofs.YtokopegffeablaaDoor
open Go.ChangeShapes Go.WideShapes Go.ChangeAt Go.RowKit T12 V12

set_option maxRecDepth 100000 in
theorem nodeInverse_lifted (os : Os) (started : os.Started) (H : Type) (enc : TypeId × Value → H) :
    ReturnsInHanded {} Tryd.checked os 3 .any (fun w args => (Rows.nodeInverseSpec.pre enc Tryd.prog Tryd.f3 [] false w args ∧ laidMetH Tryd.prog seatLaid w) ∧ sizedMet enc Tryd.prog Tryd.f3 (OpenSpec.ofChange Rows.nodeInverseSpec) false w args)
      (Rows.nodeInverseSpec.post enc Tryd.prog Tryd.f3 false true false false) := by
  refine returnsInHanded_of_change_and (C := Tryd.checked) (X := fun w _ => laidMetH Tryd.prog seatLaid w) (fun _ _ _ hh h => h.of_heap hh) Tryd.own started (by kernel_rfl) Tryd.func3
    (ChangeSpec.witness_shaped (enc := enc) (C := Tryd.checked) (os := os) (X := fun w _ => laidMetH Tryd.prog seatLaid w) false (World.doorLaid Tryd.prog 400 os) #[.slice none 0 0, .slice none 0 0] 8 rfl (World.shaped_of_RefB (by kernel_rfl) (by kernel_rfl)) (by kernel_rfl) (by kernel_rfl) (by kernel_rfl) (door_met os _)) ?_
  intro W base args ds gs before hval0 hW _ hsz hL _
  have hval : ∀ (j : Nat) t v, Tryd.f3.params[j]? = some t → args[j]? = some v → Value.okWide Tryd.prog W .any base t v := hval0
  have hW' := hW
  obtain ⟨p, q, hA0, hV, rfl, _, _⟩ := hW
  have hA : DataW.TrodAll enc Tryd.prog W 0 (fun _ => true) true Tryd.f3.params.toList args.toList ds p := hA0
  rw [Tryd.params3] at hA hval
  obtain ⟨v0, vs0, d0, ds0, p0, q0, hargs, rfl, rfl, h0, r0⟩ := trodAll_cons hA
  obtain ⟨v1, vs1, d1, ds1, p1, q1, rfl, rfl, rfl, h1, r1⟩ := trodAll_cons r0
  obtain ⟨rfl, rfl, rfl⟩ := trodAll_nil r1
  obtain rfl : args = #[v0, v1] := by cases args; simp_all
  obtain ⟨rfl, rfl⟩ := trodVars_none hV
  obtain ⟨A0, n0, c0, B0, L0, K0, Z0, rfl, g0⟩ := rds_open Tryd.underlying22 Tryd.underlying23 Tryd.underlying2 Tryd.cellsI64s Tryd.cellsI64 (hval 0 22 v0 rfl rfl) h0
  obtain ⟨A1, n1, c1, Z1, rfl, g1, nil1⟩ := rd_open0 Tryd.underlying23 Tryd.underlying2 Tryd.cellsI64 (hval 1 23 v1 rfl rfl) h1
  refine (inverse_walk con12 eqc12 (A := A0) (n := n0) (c := c0) (B := B0) (L := L0) (K := K0) (Z := Z0) (hR := g0) (V := A1) (m := n1) (e := c1) (Y := Z1) (hV := g1) (nilV := nil1)  (w := W) (hg := vars_of_laid hL)).mono fun e W' ⟨he, hk⟩ => ?_
  subst he
  exact ⟨_, rfl, law_post Tryd.laidOut rfl (by rw [Tryd.params3]; decide +kernel) rfl Tryd.underlying4 hW' rfl hk⟩

theorem nodeInverse_row : Rows.NodeInverseSaid :=
  OpenClaim.holds_of_wide 3 Tryd.f3 rfl rfl rfl rfl rfl rfl rfl ⟨rfl, rfl, rfl, rfl, rfl⟩ rfl rfl rfl rfl rfl (by kernel_rfl) Tryd.func3 (by kernel_rfl)
    (of_decide_eq_true (by kernel_rfl)) (by unfold Func.isWrapper; first | (rw [if_pos (by decide +kernel)]; kernel_rfl) | (rw [if_neg (by decide +kernel)]; exact ⟨rfl, rfl⟩))
    (fun os started H enc _ => nodeInverse_lifted os started H enc)

theorem nodeInverse_holds : Rows.NodeInverseCardSaid :=
  Claim7.holds_tied_plain_at .later [] [.handle] true (true, "efb02b110fb61e8ec8b9e6d4c5865da1c80be3b3eaa5b9cc1d2fe4865d5e3c5c") true
    nodeInverse_row (fun _ h => by cases h) (by kernel_rfl) (fun _ h => by cases h) nodeInverse_row_tie rfl ⟨rfl, rfl⟩ (by kernel_rfl) rfl
    (fun f fn hf hfn => by
      obtain rfl : f = 3 := Option.some.inj ((show Tryd.prog.funcNamed "hammock/hammocklaw12.NodeInverse" = some 3 by kernel_rfl).symm.trans hf) |>.symm
      obtain rfl : fn = Tryd.f3 := (Option.some.inj (Tryd.func3.symm.trans hfn)).symm
      exact ⟨by kernel_rfl, fun j t ht => by
        rw [Tryd.params3] at ht
        have hm : t ∈ [22, 23] := by simpa using Array.mem_of_getElem? ht
        have hall : ([22, 23].all fun u => !Tryd.prog.wantsStandIn u) = true := by kernel_rfl
        exact (show Tryd.prog.wantsStandIn t = false by simpa using List.all_eq_true.1 hall t hm)⟩)
    (by kernel_rfl)
#print axioms nodeInverse_holds
end Go.Proofs.YtokopegffeablaaDoor
