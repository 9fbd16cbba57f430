/-
  NARROWER THAN 'FOR EVERY INPUT', by the rows' own cells (each row's printed sentence says how): PodMatchesReference: laid · PodPhases: laid · PodOnce: laid · PodKeeps: laid · PodArrivals: laid.
  DERIVED. THE GIVEN ROWS OF THIS SEAT. 5 by the template 'for every input the law returns true; each argument reads behind the call as it read before'; 0 by the template 'total and deterministic' (their statements: YtfidlljhmebpmaaDoorTotals.lean).
  GIVEN WITH THE SEED: the statements are not yours to turn. If you find one false, say at which input.
  Laid BY PROGRAM, IN A SANDBOX (cutbox-rows.mjs): the forced cells as the released guide's own fill.sh prints them over the translation 847ff6bb0279e425… (all of the seat's roots in one cut). By AI agents, Wed Nov 11 2026. No macro, syntax, notation, axiom, sorry.
-/
import Derived.Test.YtfidlljhmebpmaaDoorChecked
import GoSem.Claim
import GoSem.ClaimJoined
import GoSem.ClaimMapViews
import Derived.JoinedTies
import Derived.KernelRfl
namespace Go.Proofs.YtfidlljhmebpmaaDoor
/- THE CELL 'sum', in the pinned program and in every row, IS THE sha256 OF THE DUMP (.gsa) THAT YtfidlljhmebpmaaDoorProg.lean LOADS. Nothing in Lean hashes anything: it is a label: what it is worth is what the hold of that sum in a sandbox is worth. -/
noncomputable def Tryd.pinned : Pinned := { name := "ytfidlljhmebpmaadoor", sum := "847ff6bb0279e4254ea5a1c4b2e234890d10f9288ba714f4a5edb136fec93a9c", checked := Tryd.checked }
namespace Rows
def none {H : Type} : Left H := { results := [], args := [] }

/- WHAT THE LISTED PACKAGE-LEVEL VARIABLES READ AS WHEN THE CALL BEGINS. Each datum BY PROGRAM (the guide's laid-datum.mjs) off the statement by which the dump's own 'gosem.cut.vars' lays the variable. In a bare row this is a premise. The card (YtfidlljhmebpmaaDoorCards.lean) ties it to the program's text. -/
def laid_errors_errorType {H : Type} : DataW H := .iface "internal/reflectlite.rtype" (.agg [.ptr (.lit (.string [101, 114, 114, 111, 114]))])

/-- 'hammocklaw13.PodMatchesReference': WHATEVER THE INPUT: true; the input reads as it did. -/
def podMatchesReferenceSpec : ChangeSpec := { name := "podMatchesReference", fn := fun _ => fun
  | [d1, d2] => { results := [.lit (.bool true)], args := [d1, d2] }
  | _ => none }
def podMatchesReferenceRow : OpenClaim := { program := "ytfidlljhmebpmaadoor", sum := "847ff6bb0279e4254ea5a1c4b2e234890d10f9288ba714f4a5edb136fec93a9c", func := "hammock/hammocklaw13.PodMatchesReference", spec := "podMatchesReference", inPlace := ["internal/reflectlite.ValueOf", "(internal/reflectlite.Value).Type", "(internal/reflectlite.Value).IsNil", "internal/reflectlite.TypeOf", "(internal/reflectlite.Value).Elem", "(internal/reflectlite.Value).Set"], unfollowed := true, recurses := true, named := ["errors.errorType"], plainKeys := false, apart := false, laid := [("errors.errorType", laid_errors_errorType)] }
def PodMatchesReferenceSaid : Prop := podMatchesReferenceRow.holds Tryd.pinned (OpenSpec.ofChange podMatchesReferenceSpec)

/-- ITS FALSE NEIGHBOUR: 'it returns false'. Refute it at one input. -/
def podMatchesReferenceWrong : ChangeSpec := { name := "podMatchesReference", fn := fun _ => fun
  | [d1, d2] => { results := [.lit (.bool false)], args := [d1, d2] }
  | _ => none }
def PodMatchesReferenceWrongFalsely : Prop := podMatchesReferenceRow.holds Tryd.pinned (OpenSpec.ofChange podMatchesReferenceWrong)

/-- 'hammocklaw13.PodPhases': WHATEVER THE INPUT: true; the input reads as it did. -/
def podPhasesSpec : ChangeSpec := { name := "podPhases", fn := fun _ => fun
  | [d] => { results := [.lit (.bool true)], args := [d] }
  | _ => none }
def podPhasesRow : OpenClaim := { program := "ytfidlljhmebpmaadoor", sum := "847ff6bb0279e4254ea5a1c4b2e234890d10f9288ba714f4a5edb136fec93a9c", func := "hammock/hammocklaw13.PodPhases", spec := "podPhases", inPlace := ["internal/reflectlite.ValueOf", "(internal/reflectlite.Value).Type", "(internal/reflectlite.Value).IsNil", "internal/reflectlite.TypeOf", "(internal/reflectlite.Value).Elem", "(internal/reflectlite.Value).Set"], unfollowed := true, recurses := true, named := ["errors.errorType"], plainKeys := false, apart := false, laid := [("errors.errorType", laid_errors_errorType)] }
def PodPhasesSaid : Prop := podPhasesRow.holds Tryd.pinned (OpenSpec.ofChange podPhasesSpec)

/-- ITS FALSE NEIGHBOUR: 'it returns false'. Refute it at one input. -/
def podPhasesWrong : ChangeSpec := { name := "podPhases", fn := fun _ => fun
  | [d] => { results := [.lit (.bool false)], args := [d] }
  | _ => none }
def PodPhasesWrongFalsely : Prop := podPhasesRow.holds Tryd.pinned (OpenSpec.ofChange podPhasesWrong)

/-- 'hammocklaw13.PodOnce': WHATEVER THE INPUT: true; the input reads as it did. -/
def podOnceSpec : ChangeSpec := { name := "podOnce", fn := fun _ => fun
  | [d] => { results := [.lit (.bool true)], args := [d] }
  | _ => none }
def podOnceRow : OpenClaim := { program := "ytfidlljhmebpmaadoor", sum := "847ff6bb0279e4254ea5a1c4b2e234890d10f9288ba714f4a5edb136fec93a9c", func := "hammock/hammocklaw13.PodOnce", spec := "podOnce", inPlace := ["internal/reflectlite.ValueOf", "(internal/reflectlite.Value).Type", "(internal/reflectlite.Value).IsNil", "internal/reflectlite.TypeOf", "(internal/reflectlite.Value).Elem", "(internal/reflectlite.Value).Set"], unfollowed := true, recurses := true, named := ["errors.errorType"], plainKeys := false, apart := false, laid := [("errors.errorType", laid_errors_errorType)] }
def PodOnceSaid : Prop := podOnceRow.holds Tryd.pinned (OpenSpec.ofChange podOnceSpec)

/-- ITS FALSE NEIGHBOUR: 'it returns false'. Refute it at one input. -/
def podOnceWrong : ChangeSpec := { name := "podOnce", fn := fun _ => fun
  | [d] => { results := [.lit (.bool false)], args := [d] }
  | _ => none }
def PodOnceWrongFalsely : Prop := podOnceRow.holds Tryd.pinned (OpenSpec.ofChange podOnceWrong)

/-- 'hammocklaw13.PodKeeps': WHATEVER THE INPUT: true; the input reads as it did. -/
def podKeepsSpec : ChangeSpec := { name := "podKeeps", fn := fun _ => fun
  | [d] => { results := [.lit (.bool true)], args := [d] }
  | _ => none }
def podKeepsRow : OpenClaim := { program := "ytfidlljhmebpmaadoor", sum := "847ff6bb0279e4254ea5a1c4b2e234890d10f9288ba714f4a5edb136fec93a9c", func := "hammock/hammocklaw13.PodKeeps", spec := "podKeeps", inPlace := ["internal/reflectlite.ValueOf", "(internal/reflectlite.Value).Type", "(internal/reflectlite.Value).IsNil", "internal/reflectlite.TypeOf", "(internal/reflectlite.Value).Elem", "(internal/reflectlite.Value).Set"], unfollowed := true, recurses := true, named := ["errors.errorType"], plainKeys := false, apart := false, laid := [("errors.errorType", laid_errors_errorType)] }
def PodKeepsSaid : Prop := podKeepsRow.holds Tryd.pinned (OpenSpec.ofChange podKeepsSpec)

/-- ITS FALSE NEIGHBOUR: 'it returns false'. Refute it at one input. -/
def podKeepsWrong : ChangeSpec := { name := "podKeeps", fn := fun _ => fun
  | [d] => { results := [.lit (.bool false)], args := [d] }
  | _ => none }
def PodKeepsWrongFalsely : Prop := podKeepsRow.holds Tryd.pinned (OpenSpec.ofChange podKeepsWrong)

/-- 'hammocklaw13.PodArrivals': WHATEVER THE INPUT: true; the input reads as it did. -/
def podArrivalsSpec : ChangeSpec := { name := "podArrivals", fn := fun _ => fun
  | [d1, d2] => { results := [.lit (.bool true)], args := [d1, d2] }
  | _ => none }
def podArrivalsRow : OpenClaim := { program := "ytfidlljhmebpmaadoor", sum := "847ff6bb0279e4254ea5a1c4b2e234890d10f9288ba714f4a5edb136fec93a9c", func := "hammock/hammocklaw13.PodArrivals", spec := "podArrivals", inPlace := ["internal/reflectlite.ValueOf", "(internal/reflectlite.Value).Type", "(internal/reflectlite.Value).IsNil", "internal/reflectlite.TypeOf", "(internal/reflectlite.Value).Elem", "(internal/reflectlite.Value).Set"], unfollowed := true, recurses := true, named := ["errors.errorType"], plainKeys := false, apart := false, laid := [("errors.errorType", laid_errors_errorType)] }
def PodArrivalsSaid : Prop := podArrivalsRow.holds Tryd.pinned (OpenSpec.ofChange podArrivalsSpec)

/-- ITS FALSE NEIGHBOUR: 'it returns false'. Refute it at one input. -/
def podArrivalsWrong : ChangeSpec := { name := "podArrivals", fn := fun _ => fun
  | [d1, d2] => { results := [.lit (.bool false)], args := [d1, d2] }
  | _ => none }
def PodArrivalsWrongFalsely : Prop := podArrivalsRow.holds Tryd.pinned (OpenSpec.ofChange podArrivalsWrong)

/- THE SECOND FORM. 'bulk': how many values and letters a reading holds, each counted each time it is reached (what is shared counts as often as it is met; a slice's spare places count too). A statement '..UptoSaid' is the law's where the arguments, and the package variables that the reading takes, are together of bulk at most 1048576: NARROWER than '..Said'. Prove '..Said' where nothing that the law and all that it calls make is longer than what came in: it says more and counts as full. Else prove '..UptoSaid'. A law counts once. -/
mutual
def uptoBulk {H : Type} : DataW H → Nat
  | .lit (.string bytes) => bytes.length + 1
  | .lit _ => 1
  | .nil => 1
  | .ptr d => uptoBulk d + 1
  | .slice elems spare => uptoBulkAll elems + uptoBulkAll spare + 1
  | .agg parts => uptoBulkAll parts + 1
  | .iface _ d => uptoBulk d + 1
  | .map entries => uptoBulkEntries entries + 1
  | .held _ => 1
def uptoBulkAll {H : Type} : List (DataW H) → Nat
  | [] => 0
  | d :: r => uptoBulk d + uptoBulkAll r
def uptoBulkEntries {H : Type} : List (Lit × DataW H) → Nat
  | [] => 0
  | x :: r => uptoBulkEntry x + uptoBulkEntries r
def uptoBulkEntry {H : Type} : Lit × DataW H → Nat
  | (.string bytes, d) => bytes.length + uptoBulk d + 1
  | (_, d) => uptoBulk d + 1
 end
def uptoSmall : (H : Type) → List (DataW H) → Bool := fun _ ds => decide (uptoBulkAll ds ≤ 1048576)
def OpenSpec.upto (s : _root_.Go.ChangeSpec) : _root_.Go.OpenSpec := { _root_.Go.OpenSpec.ofChange s with cond := some uptoSmall }

/-- 'hammocklaw13.PodMatchesReference', WHERE WHAT IT READS IS OF BULK AT MOST 1048576: true; the input reads as it did. -/
def podMatchesReferenceUptoRow : OpenClaim := { program := "ytfidlljhmebpmaadoor", sum := "847ff6bb0279e4254ea5a1c4b2e234890d10f9288ba714f4a5edb136fec93a9c", func := "hammock/hammocklaw13.PodMatchesReference", spec := "podMatchesReference", inPlace := ["internal/reflectlite.ValueOf", "(internal/reflectlite.Value).Type", "(internal/reflectlite.Value).IsNil", "internal/reflectlite.TypeOf", "(internal/reflectlite.Value).Elem", "(internal/reflectlite.Value).Set"], unfollowed := true, recurses := true, named := ["errors.errorType"], plainKeys := false, apart := false, laid := [("errors.errorType", laid_errors_errorType)], narrowed := true }
def PodMatchesReferenceUptoSaid : Prop := podMatchesReferenceUptoRow.holds Tryd.pinned (OpenSpec.upto podMatchesReferenceSpec)

/-- 'hammocklaw13.PodPhases', WHERE WHAT IT READS IS OF BULK AT MOST 1048576: true; the input reads as it did. -/
def podPhasesUptoRow : OpenClaim := { program := "ytfidlljhmebpmaadoor", sum := "847ff6bb0279e4254ea5a1c4b2e234890d10f9288ba714f4a5edb136fec93a9c", func := "hammock/hammocklaw13.PodPhases", spec := "podPhases", inPlace := ["internal/reflectlite.ValueOf", "(internal/reflectlite.Value).Type", "(internal/reflectlite.Value).IsNil", "internal/reflectlite.TypeOf", "(internal/reflectlite.Value).Elem", "(internal/reflectlite.Value).Set"], unfollowed := true, recurses := true, named := ["errors.errorType"], plainKeys := false, apart := false, laid := [("errors.errorType", laid_errors_errorType)], narrowed := true }
def PodPhasesUptoSaid : Prop := podPhasesUptoRow.holds Tryd.pinned (OpenSpec.upto podPhasesSpec)

/-- 'hammocklaw13.PodOnce', WHERE WHAT IT READS IS OF BULK AT MOST 1048576: true; the input reads as it did. -/
def podOnceUptoRow : OpenClaim := { program := "ytfidlljhmebpmaadoor", sum := "847ff6bb0279e4254ea5a1c4b2e234890d10f9288ba714f4a5edb136fec93a9c", func := "hammock/hammocklaw13.PodOnce", spec := "podOnce", inPlace := ["internal/reflectlite.ValueOf", "(internal/reflectlite.Value).Type", "(internal/reflectlite.Value).IsNil", "internal/reflectlite.TypeOf", "(internal/reflectlite.Value).Elem", "(internal/reflectlite.Value).Set"], unfollowed := true, recurses := true, named := ["errors.errorType"], plainKeys := false, apart := false, laid := [("errors.errorType", laid_errors_errorType)], narrowed := true }
def PodOnceUptoSaid : Prop := podOnceUptoRow.holds Tryd.pinned (OpenSpec.upto podOnceSpec)

/-- 'hammocklaw13.PodKeeps', WHERE WHAT IT READS IS OF BULK AT MOST 1048576: true; the input reads as it did. -/
def podKeepsUptoRow : OpenClaim := { program := "ytfidlljhmebpmaadoor", sum := "847ff6bb0279e4254ea5a1c4b2e234890d10f9288ba714f4a5edb136fec93a9c", func := "hammock/hammocklaw13.PodKeeps", spec := "podKeeps", inPlace := ["internal/reflectlite.ValueOf", "(internal/reflectlite.Value).Type", "(internal/reflectlite.Value).IsNil", "internal/reflectlite.TypeOf", "(internal/reflectlite.Value).Elem", "(internal/reflectlite.Value).Set"], unfollowed := true, recurses := true, named := ["errors.errorType"], plainKeys := false, apart := false, laid := [("errors.errorType", laid_errors_errorType)], narrowed := true }
def PodKeepsUptoSaid : Prop := podKeepsUptoRow.holds Tryd.pinned (OpenSpec.upto podKeepsSpec)

/-- 'hammocklaw13.PodArrivals', WHERE WHAT IT READS IS OF BULK AT MOST 1048576: true; the input reads as it did. -/
def podArrivalsUptoRow : OpenClaim := { program := "ytfidlljhmebpmaadoor", sum := "847ff6bb0279e4254ea5a1c4b2e234890d10f9288ba714f4a5edb136fec93a9c", func := "hammock/hammocklaw13.PodArrivals", spec := "podArrivals", inPlace := ["internal/reflectlite.ValueOf", "(internal/reflectlite.Value).Type", "(internal/reflectlite.Value).IsNil", "internal/reflectlite.TypeOf", "(internal/reflectlite.Value).Elem", "(internal/reflectlite.Value).Set"], unfollowed := true, recurses := true, named := ["errors.errorType"], plainKeys := false, apart := false, laid := [("errors.errorType", laid_errors_errorType)], narrowed := true }
def PodArrivalsUptoSaid : Prop := podArrivalsUptoRow.holds Tryd.pinned (OpenSpec.upto podArrivalsSpec)

end Rows
end Go.Proofs.YtfidlljhmebpmaaDoor
