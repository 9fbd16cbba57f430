/-
  NARROWER THAN 'FOR EVERY INPUT', by the rows' own cells (each row's printed sentence says how): FaultFinds: laid · FaultWraps: laid · FaultNames: laid · FaultOthers: laid · FaultNests: laid.
  DERIVED. THE GIVEN ROWS OF THIS SEAT. 5 by the template 'for every input the law returns true; each argument reads behind the call as it read before'; 0 by the template 'total and deterministic' (their statements: YtellekfpkdnioaaDoorTotals.lean).
  GIVEN WITH THE SEED: the statements are not yours to turn. If you find one false, say at which input.
  Laid BY PROGRAM, IN A SANDBOX (cutbox-rows.mjs): the forced cells as the released guide's own fill.sh prints them over the translation fe4cf1d38b68a1ec… (all of the seat's roots in one cut). By AI agents, Wed Nov 11 2026. No macro, syntax, notation, axiom, sorry.
-/
import Derived.Test.YtellekfpkdnioaaDoorChecked
import GoSem.Claim
import GoSem.ClaimJoined
import GoSem.ClaimMapViews
import Derived.JoinedTies
import Derived.KernelRfl
namespace Go.Proofs.YtellekfpkdnioaaDoor
/- THE CELL 'sum', in the pinned program and in every row, IS THE sha256 OF THE DUMP (.gsa) THAT YtellekfpkdnioaaDoorProg.lean LOADS. Nothing in Lean hashes anything: it is a label: what it is worth is what the hold of that sum in a sandbox is worth. -/
noncomputable def Tryd.pinned : Pinned := { name := "ytellekfpkdnioaadoor", sum := "fe4cf1d38b68a1ec01f463d57edf3c138043e25ddf85b0ba581008752d5e8c34", checked := Tryd.checked }
namespace Rows
def none {H : Type} : Left H := { results := [], args := [] }

/- WHAT THE LISTED PACKAGE-LEVEL VARIABLES READ AS WHEN THE CALL BEGINS. Each datum BY PROGRAM (the guide's laid-datum.mjs) off the statement by which the dump's own 'gosem.cut.vars' lays the variable. In a bare row this is a premise. The card (YtellekfpkdnioaaDoorCards.lean) ties it to the program's text. -/
def laid_errors_errorType {H : Type} : DataW H := .iface "internal/reflectlite.rtype" (.agg [.ptr (.lit (.string [101, 114, 114, 111, 114]))])
def laid_hammock_fault_codeNames {H : Type} : DataW H := .agg [.lit (.string []), .lit (.string [107, 105, 110, 100]), .lit (.string [105, 100]), .lit (.string [97, 109, 111, 117, 110, 116]), .lit (.string [110, 117, 109, 98, 101, 114]), .lit (.string [117, 110, 107, 110, 111, 119, 110]), .lit (.string [100, 117, 112, 108, 105, 99, 97, 116, 101]), .lit (.string [102, 117, 108, 108]), .lit (.string [112, 104, 97, 115, 101]), .lit (.string [115, 121, 110, 116, 97, 120]), .lit (.string [111, 118, 101, 114, 102, 108, 111, 119])]
def laid_hammock_fault_kindNames {H : Type} : DataW H := .agg [.lit (.string []), .lit (.string [99, 108, 97, 115, 115]), .lit (.string [110, 111, 100, 101]), .lit (.string [100, 114, 111, 112]), .lit (.string [112, 111, 100]), .lit (.string [100, 101, 108, 101, 116, 101]), .lit (.string [116, 105, 99, 107]), .lit (.string [99, 121, 99, 108, 101])]

/-- 'hammocklaw02.FaultFinds': WHATEVER THE INPUT: true; the input reads as it did. -/
def faultFindsSpec : ChangeSpec := { name := "faultFinds", fn := fun _ => fun
  | [d] => { results := [.lit (.bool true)], args := [d] }
  | _ => none }
def faultFindsRow : OpenClaim := { program := "ytellekfpkdnioaadoor", sum := "fe4cf1d38b68a1ec01f463d57edf3c138043e25ddf85b0ba581008752d5e8c34", func := "hammock/hammocklaw02.FaultFinds", spec := "faultFinds", inPlace := ["internal/reflectlite.ValueOf", "(internal/reflectlite.Value).Type", "(internal/reflectlite.Value).IsNil", "internal/reflectlite.TypeOf", "(internal/reflectlite.Value).Elem", "(internal/reflectlite.Value).Set"], unfollowed := true, recurses := true, named := ["errors.errorType", "hammock/fault.codeNames", "hammock/fault.kindNames"], apart := false, laid := [("errors.errorType", laid_errors_errorType), ("hammock/fault.codeNames", laid_hammock_fault_codeNames), ("hammock/fault.kindNames", laid_hammock_fault_kindNames)] }
def FaultFindsSaid : Prop := faultFindsRow.holds Tryd.pinned (OpenSpec.ofChange faultFindsSpec)

/-- ITS FALSE NEIGHBOUR: 'it returns false'. Refute it at one input. -/
def faultFindsWrong : ChangeSpec := { name := "faultFinds", fn := fun _ => fun
  | [d] => { results := [.lit (.bool false)], args := [d] }
  | _ => none }
def FaultFindsWrongFalsely : Prop := faultFindsRow.holds Tryd.pinned (OpenSpec.ofChange faultFindsWrong)

/-- 'hammocklaw02.FaultWraps': WHATEVER THE INPUT: true; the input reads as it did. -/
def faultWrapsSpec : ChangeSpec := { name := "faultWraps", fn := fun _ => fun
  | [d1, d2] => { results := [.lit (.bool true)], args := [d1, d2] }
  | _ => none }
def faultWrapsRow : OpenClaim := { program := "ytellekfpkdnioaadoor", sum := "fe4cf1d38b68a1ec01f463d57edf3c138043e25ddf85b0ba581008752d5e8c34", func := "hammock/hammocklaw02.FaultWraps", spec := "faultWraps", inPlace := ["internal/reflectlite.ValueOf", "(internal/reflectlite.Value).Type", "(internal/reflectlite.Value).IsNil", "internal/reflectlite.TypeOf", "(internal/reflectlite.Value).Elem", "(internal/reflectlite.Value).Set"], unfollowed := true, recurses := true, named := ["errors.errorType", "hammock/fault.codeNames", "hammock/fault.kindNames"], apart := false, laid := [("errors.errorType", laid_errors_errorType), ("hammock/fault.codeNames", laid_hammock_fault_codeNames), ("hammock/fault.kindNames", laid_hammock_fault_kindNames)] }
def FaultWrapsSaid : Prop := faultWrapsRow.holds Tryd.pinned (OpenSpec.ofChange faultWrapsSpec)

/-- ITS FALSE NEIGHBOUR: 'it returns false'. Refute it at one input. -/
def faultWrapsWrong : ChangeSpec := { name := "faultWraps", fn := fun _ => fun
  | [d1, d2] => { results := [.lit (.bool false)], args := [d1, d2] }
  | _ => none }
def FaultWrapsWrongFalsely : Prop := faultWrapsRow.holds Tryd.pinned (OpenSpec.ofChange faultWrapsWrong)

/-- 'hammocklaw02.FaultNames': WHATEVER THE INPUT: true; the input reads as it did. -/
def faultNamesSpec : ChangeSpec := { name := "faultNames", fn := fun _ => fun
  | [d1, d2] => { results := [.lit (.bool true)], args := [d1, d2] }
  | _ => none }
def faultNamesRow : OpenClaim := { program := "ytellekfpkdnioaadoor", sum := "fe4cf1d38b68a1ec01f463d57edf3c138043e25ddf85b0ba581008752d5e8c34", func := "hammock/hammocklaw02.FaultNames", spec := "faultNames", inPlace := ["internal/reflectlite.ValueOf", "(internal/reflectlite.Value).Type", "(internal/reflectlite.Value).IsNil", "internal/reflectlite.TypeOf", "(internal/reflectlite.Value).Elem", "(internal/reflectlite.Value).Set"], unfollowed := true, recurses := true, named := ["errors.errorType", "hammock/fault.codeNames", "hammock/fault.kindNames"], apart := false, laid := [("errors.errorType", laid_errors_errorType), ("hammock/fault.codeNames", laid_hammock_fault_codeNames), ("hammock/fault.kindNames", laid_hammock_fault_kindNames)] }
def FaultNamesSaid : Prop := faultNamesRow.holds Tryd.pinned (OpenSpec.ofChange faultNamesSpec)

/-- ITS FALSE NEIGHBOUR: 'it returns false'. Refute it at one input. -/
def faultNamesWrong : ChangeSpec := { name := "faultNames", fn := fun _ => fun
  | [d1, d2] => { results := [.lit (.bool false)], args := [d1, d2] }
  | _ => none }
def FaultNamesWrongFalsely : Prop := faultNamesRow.holds Tryd.pinned (OpenSpec.ofChange faultNamesWrong)

/-- 'hammocklaw02.FaultOthers': WHATEVER THE INPUT: true; the input reads as it did. -/
def faultOthersSpec : ChangeSpec := { name := "faultOthers", fn := fun _ => fun
  | [d1, d2] => { results := [.lit (.bool true)], args := [d1, d2] }
  | _ => none }
def faultOthersRow : OpenClaim := { program := "ytellekfpkdnioaadoor", sum := "fe4cf1d38b68a1ec01f463d57edf3c138043e25ddf85b0ba581008752d5e8c34", func := "hammock/hammocklaw02.FaultOthers", spec := "faultOthers", inPlace := ["internal/reflectlite.ValueOf", "(internal/reflectlite.Value).Type", "(internal/reflectlite.Value).IsNil", "internal/reflectlite.TypeOf", "(internal/reflectlite.Value).Elem", "(internal/reflectlite.Value).Set"], unfollowed := true, recurses := true, named := ["errors.errorType", "hammock/fault.codeNames", "hammock/fault.kindNames"], apart := false, laid := [("errors.errorType", laid_errors_errorType), ("hammock/fault.codeNames", laid_hammock_fault_codeNames), ("hammock/fault.kindNames", laid_hammock_fault_kindNames)] }
def FaultOthersSaid : Prop := faultOthersRow.holds Tryd.pinned (OpenSpec.ofChange faultOthersSpec)

/-- ITS FALSE NEIGHBOUR: 'it returns false'. Refute it at one input. -/
def faultOthersWrong : ChangeSpec := { name := "faultOthers", fn := fun _ => fun
  | [d1, d2] => { results := [.lit (.bool false)], args := [d1, d2] }
  | _ => none }
def FaultOthersWrongFalsely : Prop := faultOthersRow.holds Tryd.pinned (OpenSpec.ofChange faultOthersWrong)

/-- 'hammocklaw02.FaultNests': WHATEVER THE INPUT: true; the input reads as it did. -/
def faultNestsSpec : ChangeSpec := { name := "faultNests", fn := fun _ => fun
  | [d1, d2, d3] => { results := [.lit (.bool true)], args := [d1, d2, d3] }
  | _ => none }
def faultNestsRow : OpenClaim := { program := "ytellekfpkdnioaadoor", sum := "fe4cf1d38b68a1ec01f463d57edf3c138043e25ddf85b0ba581008752d5e8c34", func := "hammock/hammocklaw02.FaultNests", spec := "faultNests", inPlace := ["internal/reflectlite.ValueOf", "(internal/reflectlite.Value).Type", "(internal/reflectlite.Value).IsNil", "internal/reflectlite.TypeOf", "(internal/reflectlite.Value).Elem", "(internal/reflectlite.Value).Set"], unfollowed := true, recurses := true, named := ["errors.errorType", "hammock/fault.codeNames", "hammock/fault.kindNames"], apart := false, laid := [("errors.errorType", laid_errors_errorType), ("hammock/fault.codeNames", laid_hammock_fault_codeNames), ("hammock/fault.kindNames", laid_hammock_fault_kindNames)] }
def FaultNestsSaid : Prop := faultNestsRow.holds Tryd.pinned (OpenSpec.ofChange faultNestsSpec)

/-- ITS FALSE NEIGHBOUR: 'it returns false'. Refute it at one input. -/
def faultNestsWrong : ChangeSpec := { name := "faultNests", fn := fun _ => fun
  | [d1, d2, d3] => { results := [.lit (.bool false)], args := [d1, d2, d3] }
  | _ => none }
def FaultNestsWrongFalsely : Prop := faultNestsRow.holds Tryd.pinned (OpenSpec.ofChange faultNestsWrong)

/- THE SECOND FORM. 'bulk': how many values and letters a reading holds, each counted each time it is reached (what is shared counts as often as it is met; a slice's spare places count too). A statement '..UptoSaid' is the law's where the arguments, and the package variables that the reading takes, are together of bulk at most 1048576: NARROWER than '..Said'. Prove '..Said' where nothing that the law and all that it calls make is longer than what came in: it says more and counts as full. Else prove '..UptoSaid'. A law counts once. -/
mutual
def uptoBulk {H : Type} : DataW H → Nat
  | .lit (.string bytes) => bytes.length + 1
  | .lit _ => 1
  | .nil => 1
  | .ptr d => uptoBulk d + 1
  | .slice elems spare => uptoBulkAll elems + uptoBulkAll spare + 1
  | .agg parts => uptoBulkAll parts + 1
  | .iface _ d => uptoBulk d + 1
  | .map entries => uptoBulkEntries entries + 1
  | .held _ => 1
def uptoBulkAll {H : Type} : List (DataW H) → Nat
  | [] => 0
  | d :: r => uptoBulk d + uptoBulkAll r
def uptoBulkEntries {H : Type} : List (Lit × DataW H) → Nat
  | [] => 0
  | x :: r => uptoBulkEntry x + uptoBulkEntries r
def uptoBulkEntry {H : Type} : Lit × DataW H → Nat
  | (.string bytes, d) => bytes.length + uptoBulk d + 1
  | (_, d) => uptoBulk d + 1
 end
def uptoSmall : (H : Type) → List (DataW H) → Bool := fun _ ds => decide (uptoBulkAll ds ≤ 1048576)
def OpenSpec.upto (s : _root_.Go.ChangeSpec) : _root_.Go.OpenSpec := { _root_.Go.OpenSpec.ofChange s with cond := some uptoSmall }

/-- 'hammocklaw02.FaultFinds', WHERE WHAT IT READS IS OF BULK AT MOST 1048576: true; the input reads as it did. -/
def faultFindsUptoRow : OpenClaim := { program := "ytellekfpkdnioaadoor", sum := "fe4cf1d38b68a1ec01f463d57edf3c138043e25ddf85b0ba581008752d5e8c34", func := "hammock/hammocklaw02.FaultFinds", spec := "faultFinds", inPlace := ["internal/reflectlite.ValueOf", "(internal/reflectlite.Value).Type", "(internal/reflectlite.Value).IsNil", "internal/reflectlite.TypeOf", "(internal/reflectlite.Value).Elem", "(internal/reflectlite.Value).Set"], unfollowed := true, recurses := true, named := ["errors.errorType", "hammock/fault.codeNames", "hammock/fault.kindNames"], apart := false, laid := [("errors.errorType", laid_errors_errorType), ("hammock/fault.codeNames", laid_hammock_fault_codeNames), ("hammock/fault.kindNames", laid_hammock_fault_kindNames)], narrowed := true }
def FaultFindsUptoSaid : Prop := faultFindsUptoRow.holds Tryd.pinned (OpenSpec.upto faultFindsSpec)

/-- 'hammocklaw02.FaultWraps', WHERE WHAT IT READS IS OF BULK AT MOST 1048576: true; the input reads as it did. -/
def faultWrapsUptoRow : OpenClaim := { program := "ytellekfpkdnioaadoor", sum := "fe4cf1d38b68a1ec01f463d57edf3c138043e25ddf85b0ba581008752d5e8c34", func := "hammock/hammocklaw02.FaultWraps", spec := "faultWraps", inPlace := ["internal/reflectlite.ValueOf", "(internal/reflectlite.Value).Type", "(internal/reflectlite.Value).IsNil", "internal/reflectlite.TypeOf", "(internal/reflectlite.Value).Elem", "(internal/reflectlite.Value).Set"], unfollowed := true, recurses := true, named := ["errors.errorType", "hammock/fault.codeNames", "hammock/fault.kindNames"], apart := false, laid := [("errors.errorType", laid_errors_errorType), ("hammock/fault.codeNames", laid_hammock_fault_codeNames), ("hammock/fault.kindNames", laid_hammock_fault_kindNames)], narrowed := true }
def FaultWrapsUptoSaid : Prop := faultWrapsUptoRow.holds Tryd.pinned (OpenSpec.upto faultWrapsSpec)

/-- 'hammocklaw02.FaultNames', WHERE WHAT IT READS IS OF BULK AT MOST 1048576: true; the input reads as it did. -/
def faultNamesUptoRow : OpenClaim := { program := "ytellekfpkdnioaadoor", sum := "fe4cf1d38b68a1ec01f463d57edf3c138043e25ddf85b0ba581008752d5e8c34", func := "hammock/hammocklaw02.FaultNames", spec := "faultNames", inPlace := ["internal/reflectlite.ValueOf", "(internal/reflectlite.Value).Type", "(internal/reflectlite.Value).IsNil", "internal/reflectlite.TypeOf", "(internal/reflectlite.Value).Elem", "(internal/reflectlite.Value).Set"], unfollowed := true, recurses := true, named := ["errors.errorType", "hammock/fault.codeNames", "hammock/fault.kindNames"], apart := false, laid := [("errors.errorType", laid_errors_errorType), ("hammock/fault.codeNames", laid_hammock_fault_codeNames), ("hammock/fault.kindNames", laid_hammock_fault_kindNames)], narrowed := true }
def FaultNamesUptoSaid : Prop := faultNamesUptoRow.holds Tryd.pinned (OpenSpec.upto faultNamesSpec)

/-- 'hammocklaw02.FaultOthers', WHERE WHAT IT READS IS OF BULK AT MOST 1048576: true; the input reads as it did. -/
def faultOthersUptoRow : OpenClaim := { program := "ytellekfpkdnioaadoor", sum := "fe4cf1d38b68a1ec01f463d57edf3c138043e25ddf85b0ba581008752d5e8c34", func := "hammock/hammocklaw02.FaultOthers", spec := "faultOthers", inPlace := ["internal/reflectlite.ValueOf", "(internal/reflectlite.Value).Type", "(internal/reflectlite.Value).IsNil", "internal/reflectlite.TypeOf", "(internal/reflectlite.Value).Elem", "(internal/reflectlite.Value).Set"], unfollowed := true, recurses := true, named := ["errors.errorType", "hammock/fault.codeNames", "hammock/fault.kindNames"], apart := false, laid := [("errors.errorType", laid_errors_errorType), ("hammock/fault.codeNames", laid_hammock_fault_codeNames), ("hammock/fault.kindNames", laid_hammock_fault_kindNames)], narrowed := true }
def FaultOthersUptoSaid : Prop := faultOthersUptoRow.holds Tryd.pinned (OpenSpec.upto faultOthersSpec)

/-- 'hammocklaw02.FaultNests', WHERE WHAT IT READS IS OF BULK AT MOST 1048576: true; the input reads as it did. -/
def faultNestsUptoRow : OpenClaim := { program := "ytellekfpkdnioaadoor", sum := "fe4cf1d38b68a1ec01f463d57edf3c138043e25ddf85b0ba581008752d5e8c34", func := "hammock/hammocklaw02.FaultNests", spec := "faultNests", inPlace := ["internal/reflectlite.ValueOf", "(internal/reflectlite.Value).Type", "(internal/reflectlite.Value).IsNil", "internal/reflectlite.TypeOf", "(internal/reflectlite.Value).Elem", "(internal/reflectlite.Value).Set"], unfollowed := true, recurses := true, named := ["errors.errorType", "hammock/fault.codeNames", "hammock/fault.kindNames"], apart := false, laid := [("errors.errorType", laid_errors_errorType), ("hammock/fault.codeNames", laid_hammock_fault_codeNames), ("hammock/fault.kindNames", laid_hammock_fault_kindNames)], narrowed := true }
def FaultNestsUptoSaid : Prop := faultNestsUptoRow.holds Tryd.pinned (OpenSpec.upto faultNestsSpec)

end Rows
end Go.Proofs.YtellekfpkdnioaaDoor
