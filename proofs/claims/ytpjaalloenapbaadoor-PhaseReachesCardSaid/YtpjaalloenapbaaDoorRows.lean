/-
  NARROWER THAN 'FOR EVERY INPUT', by the rows' own cells (each row's printed sentence says how): PhaseMatchesReference: laid · PhaseRuns: laid · PhaseTells: laid · PhaseOnce: laid · PhaseReaches: laid.
  DERIVED. THE GIVEN ROWS OF THIS SEAT. 5 by the template 'for every input the law returns true; each argument reads behind the call as it read before'; 0 by the template 'total and deterministic' (their statements: YtpjaalloenapbaaDoorTotals.lean).
  GIVEN WITH THE SEED: the statements are not yours to turn. If you find one false, say at which input.
  Laid BY PROGRAM, IN A SANDBOX (cutbox-rows.mjs): the forced cells as the released guide's own fill.sh prints them over the translation bd815f209eebfca4… (all of the seat's roots in one cut). By AI agents, Wed Nov 11 2026. No macro, syntax, notation, axiom, sorry.
-/
import Derived.Test.YtpjaalloenapbaaDoorChecked
import GoSem.Claim
import GoSem.ClaimJoined
import GoSem.ClaimMapViews
import Derived.JoinedTies
import Derived.KernelRfl
namespace Go.Proofs.YtpjaalloenapbaaDoor
/- THE CELL 'sum', in the pinned program and in every row, IS THE sha256 OF THE DUMP (.gsa) THAT YtpjaalloenapbaaDoorProg.lean LOADS. Nothing in Lean hashes anything: it is a label: what it is worth is what the hold of that sum in a sandbox is worth. -/
noncomputable def Tryd.pinned : Pinned := { name := "ytpjaalloenapbaadoor", sum := "bd815f209eebfca4dda94b305dfa443453fc444bb7c9e37e4d2ff0ffde9700ca", checked := Tryd.checked }
namespace Rows
def none {H : Type} : Left H := { results := [], args := [] }

/- WHAT THE LISTED PACKAGE-LEVEL VARIABLES READ AS WHEN THE CALL BEGINS. Each datum BY PROGRAM (the guide's laid-datum.mjs) off the statement by which the dump's own 'gosem.cut.vars' lays the variable. In a bare row this is a premise. The card (YtpjaalloenapbaaDoorCards.lean) ties it to the program's text. -/
def laid_hammock_phase_names {H : Type} : DataW H := .agg [.lit (.string []), .lit (.string [112, 101, 110, 100, 105, 110, 103]), .lit (.string [110, 111, 109, 105, 110, 97, 116, 101, 100]), .lit (.string [98, 111, 117, 110, 100]), .lit (.string [116, 101, 114, 109, 105, 110, 97, 116, 105, 110, 103]), .lit (.string [103, 111, 110, 101])]

/-- 'hammocklaw05.PhaseMatchesReference': WHATEVER THE INPUT: true; the input reads as it did. -/
def phaseMatchesReferenceSpec : ChangeSpec := { name := "phaseMatchesReference", fn := fun _ => fun
  | [d1, d2] => { results := [.lit (.bool true)], args := [d1, d2] }
  | _ => none }
def phaseMatchesReferenceRow : OpenClaim := { program := "ytpjaalloenapbaadoor", sum := "bd815f209eebfca4dda94b305dfa443453fc444bb7c9e37e4d2ff0ffde9700ca", func := "hammock/hammocklaw05.PhaseMatchesReference", spec := "phaseMatchesReference", named := ["hammock/phase.names"], plainKeys := false, apart := false, laid := [("hammock/phase.names", laid_hammock_phase_names)] }
def PhaseMatchesReferenceSaid : Prop := phaseMatchesReferenceRow.holds Tryd.pinned (OpenSpec.ofChange phaseMatchesReferenceSpec)

/-- ITS FALSE NEIGHBOUR: 'it returns false'. Refute it at one input. -/
def phaseMatchesReferenceWrong : ChangeSpec := { name := "phaseMatchesReference", fn := fun _ => fun
  | [d1, d2] => { results := [.lit (.bool false)], args := [d1, d2] }
  | _ => none }
def PhaseMatchesReferenceWrongFalsely : Prop := phaseMatchesReferenceRow.holds Tryd.pinned (OpenSpec.ofChange phaseMatchesReferenceWrong)

/-- 'hammocklaw05.PhaseRuns': WHATEVER THE INPUT: true; the input reads as it did. -/
def phaseRunsSpec : ChangeSpec := { name := "phaseRuns", fn := fun _ => fun
  | [d1, d2] => { results := [.lit (.bool true)], args := [d1, d2] }
  | _ => none }
def phaseRunsRow : OpenClaim := { program := "ytpjaalloenapbaadoor", sum := "bd815f209eebfca4dda94b305dfa443453fc444bb7c9e37e4d2ff0ffde9700ca", func := "hammock/hammocklaw05.PhaseRuns", spec := "phaseRuns", named := ["hammock/phase.names"], plainKeys := false, apart := false, laid := [("hammock/phase.names", laid_hammock_phase_names)] }
def PhaseRunsSaid : Prop := phaseRunsRow.holds Tryd.pinned (OpenSpec.ofChange phaseRunsSpec)

/-- ITS FALSE NEIGHBOUR: 'it returns false'. Refute it at one input. -/
def phaseRunsWrong : ChangeSpec := { name := "phaseRuns", fn := fun _ => fun
  | [d1, d2] => { results := [.lit (.bool false)], args := [d1, d2] }
  | _ => none }
def PhaseRunsWrongFalsely : Prop := phaseRunsRow.holds Tryd.pinned (OpenSpec.ofChange phaseRunsWrong)

/-- 'hammocklaw05.PhaseTells': WHATEVER THE INPUT: true; the input reads as it did. -/
def phaseTellsSpec : ChangeSpec := { name := "phaseTells", fn := fun _ => fun
  | [d1, d2] => { results := [.lit (.bool true)], args := [d1, d2] }
  | _ => none }
def phaseTellsRow : OpenClaim := { program := "ytpjaalloenapbaadoor", sum := "bd815f209eebfca4dda94b305dfa443453fc444bb7c9e37e4d2ff0ffde9700ca", func := "hammock/hammocklaw05.PhaseTells", spec := "phaseTells", named := ["hammock/phase.names"], plainKeys := false, apart := false, laid := [("hammock/phase.names", laid_hammock_phase_names)] }
def PhaseTellsSaid : Prop := phaseTellsRow.holds Tryd.pinned (OpenSpec.ofChange phaseTellsSpec)

/-- ITS FALSE NEIGHBOUR: 'it returns false'. Refute it at one input. -/
def phaseTellsWrong : ChangeSpec := { name := "phaseTells", fn := fun _ => fun
  | [d1, d2] => { results := [.lit (.bool false)], args := [d1, d2] }
  | _ => none }
def PhaseTellsWrongFalsely : Prop := phaseTellsRow.holds Tryd.pinned (OpenSpec.ofChange phaseTellsWrong)

/-- 'hammocklaw05.PhaseOnce': WHATEVER THE INPUT: true; the input reads as it did. -/
def phaseOnceSpec : ChangeSpec := { name := "phaseOnce", fn := fun _ => fun
  | [d] => { results := [.lit (.bool true)], args := [d] }
  | _ => none }
def phaseOnceRow : OpenClaim := { program := "ytpjaalloenapbaadoor", sum := "bd815f209eebfca4dda94b305dfa443453fc444bb7c9e37e4d2ff0ffde9700ca", func := "hammock/hammocklaw05.PhaseOnce", spec := "phaseOnce", named := ["hammock/phase.names"], plainKeys := false, apart := false, laid := [("hammock/phase.names", laid_hammock_phase_names)] }
def PhaseOnceSaid : Prop := phaseOnceRow.holds Tryd.pinned (OpenSpec.ofChange phaseOnceSpec)

/-- ITS FALSE NEIGHBOUR: 'it returns false'. Refute it at one input. -/
def phaseOnceWrong : ChangeSpec := { name := "phaseOnce", fn := fun _ => fun
  | [d] => { results := [.lit (.bool false)], args := [d] }
  | _ => none }
def PhaseOnceWrongFalsely : Prop := phaseOnceRow.holds Tryd.pinned (OpenSpec.ofChange phaseOnceWrong)

/-- 'hammocklaw05.PhaseReaches': WHATEVER THE INPUT: true; the input reads as it did. -/
def phaseReachesSpec : ChangeSpec := { name := "phaseReaches", fn := fun _ => fun
  | [d] => { results := [.lit (.bool true)], args := [d] }
  | _ => none }
def phaseReachesRow : OpenClaim := { program := "ytpjaalloenapbaadoor", sum := "bd815f209eebfca4dda94b305dfa443453fc444bb7c9e37e4d2ff0ffde9700ca", func := "hammock/hammocklaw05.PhaseReaches", spec := "phaseReaches", named := ["hammock/phase.names"], plainKeys := false, apart := false, laid := [("hammock/phase.names", laid_hammock_phase_names)] }
def PhaseReachesSaid : Prop := phaseReachesRow.holds Tryd.pinned (OpenSpec.ofChange phaseReachesSpec)

/-- ITS FALSE NEIGHBOUR: 'it returns false'. Refute it at one input. -/
def phaseReachesWrong : ChangeSpec := { name := "phaseReaches", fn := fun _ => fun
  | [d] => { results := [.lit (.bool false)], args := [d] }
  | _ => none }
def PhaseReachesWrongFalsely : Prop := phaseReachesRow.holds Tryd.pinned (OpenSpec.ofChange phaseReachesWrong)

/- THE SECOND FORM. 'bulk': how many values and letters a reading holds, each counted each time it is reached (what is shared counts as often as it is met; a slice's spare places count too). A statement '..UptoSaid' is the law's where the arguments, and the package variables that the reading takes, are together of bulk at most 1048576: NARROWER than '..Said'. Prove '..Said' where nothing that the law and all that it calls make is longer than what came in: it says more and counts as full. Else prove '..UptoSaid'. A law counts once. -/
mutual
def uptoBulk {H : Type} : DataW H → Nat
  | .lit (.string bytes) => bytes.length + 1
  | .lit _ => 1
  | .nil => 1
  | .ptr d => uptoBulk d + 1
  | .slice elems spare => uptoBulkAll elems + uptoBulkAll spare + 1
  | .agg parts => uptoBulkAll parts + 1
  | .iface _ d => uptoBulk d + 1
  | .map entries => uptoBulkEntries entries + 1
  | .held _ => 1
def uptoBulkAll {H : Type} : List (DataW H) → Nat
  | [] => 0
  | d :: r => uptoBulk d + uptoBulkAll r
def uptoBulkEntries {H : Type} : List (Lit × DataW H) → Nat
  | [] => 0
  | x :: r => uptoBulkEntry x + uptoBulkEntries r
def uptoBulkEntry {H : Type} : Lit × DataW H → Nat
  | (.string bytes, d) => bytes.length + uptoBulk d + 1
  | (_, d) => uptoBulk d + 1
 end
def uptoSmall : (H : Type) → List (DataW H) → Bool := fun _ ds => decide (uptoBulkAll ds ≤ 1048576)
def OpenSpec.upto (s : _root_.Go.ChangeSpec) : _root_.Go.OpenSpec := { _root_.Go.OpenSpec.ofChange s with cond := some uptoSmall }

/-- 'hammocklaw05.PhaseMatchesReference', WHERE WHAT IT READS IS OF BULK AT MOST 1048576: true; the input reads as it did. -/
def phaseMatchesReferenceUptoRow : OpenClaim := { program := "ytpjaalloenapbaadoor", sum := "bd815f209eebfca4dda94b305dfa443453fc444bb7c9e37e4d2ff0ffde9700ca", func := "hammock/hammocklaw05.PhaseMatchesReference", spec := "phaseMatchesReference", named := ["hammock/phase.names"], plainKeys := false, apart := false, laid := [("hammock/phase.names", laid_hammock_phase_names)], narrowed := true }
def PhaseMatchesReferenceUptoSaid : Prop := phaseMatchesReferenceUptoRow.holds Tryd.pinned (OpenSpec.upto phaseMatchesReferenceSpec)

/-- 'hammocklaw05.PhaseRuns', WHERE WHAT IT READS IS OF BULK AT MOST 1048576: true; the input reads as it did. -/
def phaseRunsUptoRow : OpenClaim := { program := "ytpjaalloenapbaadoor", sum := "bd815f209eebfca4dda94b305dfa443453fc444bb7c9e37e4d2ff0ffde9700ca", func := "hammock/hammocklaw05.PhaseRuns", spec := "phaseRuns", named := ["hammock/phase.names"], plainKeys := false, apart := false, laid := [("hammock/phase.names", laid_hammock_phase_names)], narrowed := true }
def PhaseRunsUptoSaid : Prop := phaseRunsUptoRow.holds Tryd.pinned (OpenSpec.upto phaseRunsSpec)

/-- 'hammocklaw05.PhaseTells', WHERE WHAT IT READS IS OF BULK AT MOST 1048576: true; the input reads as it did. -/
def phaseTellsUptoRow : OpenClaim := { program := "ytpjaalloenapbaadoor", sum := "bd815f209eebfca4dda94b305dfa443453fc444bb7c9e37e4d2ff0ffde9700ca", func := "hammock/hammocklaw05.PhaseTells", spec := "phaseTells", named := ["hammock/phase.names"], plainKeys := false, apart := false, laid := [("hammock/phase.names", laid_hammock_phase_names)], narrowed := true }
def PhaseTellsUptoSaid : Prop := phaseTellsUptoRow.holds Tryd.pinned (OpenSpec.upto phaseTellsSpec)

/-- 'hammocklaw05.PhaseOnce', WHERE WHAT IT READS IS OF BULK AT MOST 1048576: true; the input reads as it did. -/
def phaseOnceUptoRow : OpenClaim := { program := "ytpjaalloenapbaadoor", sum := "bd815f209eebfca4dda94b305dfa443453fc444bb7c9e37e4d2ff0ffde9700ca", func := "hammock/hammocklaw05.PhaseOnce", spec := "phaseOnce", named := ["hammock/phase.names"], plainKeys := false, apart := false, laid := [("hammock/phase.names", laid_hammock_phase_names)], narrowed := true }
def PhaseOnceUptoSaid : Prop := phaseOnceUptoRow.holds Tryd.pinned (OpenSpec.upto phaseOnceSpec)

/-- 'hammocklaw05.PhaseReaches', WHERE WHAT IT READS IS OF BULK AT MOST 1048576: true; the input reads as it did. -/
def phaseReachesUptoRow : OpenClaim := { program := "ytpjaalloenapbaadoor", sum := "bd815f209eebfca4dda94b305dfa443453fc444bb7c9e37e4d2ff0ffde9700ca", func := "hammock/hammocklaw05.PhaseReaches", spec := "phaseReaches", named := ["hammock/phase.names"], plainKeys := false, apart := false, laid := [("hammock/phase.names", laid_hammock_phase_names)], narrowed := true }
def PhaseReachesUptoSaid : Prop := phaseReachesUptoRow.holds Tryd.pinned (OpenSpec.upto phaseReachesSpec)

end Rows
end Go.Proofs.YtpjaalloenapbaaDoor
