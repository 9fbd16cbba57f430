/-
  NARROWER THAN 'FOR EVERY INPUT', by the rows' own cells (each row's printed sentence says how): OpChecks: laid · OpPlain: laid · OpKeeps: laid · OpMakes: laid · OpLimits: laid.
  DERIVED. THE GIVEN ROWS OF THIS SEAT. 5 by the template 'for every input the law returns true; each argument reads behind the call as it read before'; 0 by the template 'total and deterministic' (their statements: YtflkeabjcbjkhaaDoorTotals.lean).
  GIVEN WITH THE SEED: the statements are not yours to turn. If you find one false, say at which input.
  Laid BY PROGRAM, IN A SANDBOX (cutbox-rows.mjs): the forced cells as the released guide's own fill.sh prints them over the translation 04c3fd2fff931fce… (all of the seat's roots in one cut). By AI agents, Wed Nov 11 2026. No macro, syntax, notation, axiom, sorry.
-/
import Derived.Test.YtflkeabjcbjkhaaDoorChecked
import GoSem.Claim
import GoSem.ClaimJoined
import GoSem.ClaimMapViews
import Derived.JoinedTies
import Derived.KernelRfl
namespace Go.Proofs.YtflkeabjcbjkhaaDoor
/- THE CELL 'sum', in the pinned program and in every row, IS THE sha256 OF THE DUMP (.gsa) THAT YtflkeabjcbjkhaaDoorProg.lean LOADS. Nothing in Lean hashes anything: it is a label: what it is worth is what the hold of that sum in a sandbox is worth. -/
noncomputable def Tryd.pinned : Pinned := { name := "ytflkeabjcbjkhaadoor", sum := "04c3fd2fff931fceb5336bde7badb482b326e5f8502fe0ee709798ea74ab4fe6", checked := Tryd.checked }
namespace Rows
def none {H : Type} : Left H := { results := [], args := [] }

/- WHAT THE LISTED PACKAGE-LEVEL VARIABLES READ AS WHEN THE CALL BEGINS. Each datum BY PROGRAM (the guide's laid-datum.mjs) off the statement by which the dump's own 'gosem.cut.vars' lays the variable. In a bare row this is a premise. The card (YtflkeabjcbjkhaaDoorCards.lean) ties it to the program's text. -/
def laid_errors_errorType {H : Type} : DataW H := .iface "internal/reflectlite.rtype" (.agg [.ptr (.lit (.string [101, 114, 114, 111, 114]))])
def laid_hammock_fault_kindNames {H : Type} : DataW H := .agg [.lit (.string []), .lit (.string [99, 108, 97, 115, 115]), .lit (.string [110, 111, 100, 101]), .lit (.string [100, 114, 111, 112]), .lit (.string [112, 111, 100]), .lit (.string [100, 101, 108, 101, 116, 101]), .lit (.string [116, 105, 99, 107]), .lit (.string [99, 121, 99, 108, 101])]

/-- 'hammocklaw03.OpChecks': WHATEVER THE INPUT: true; the input reads as it did. -/
def opChecksSpec : ChangeSpec := { name := "opChecks", fn := fun _ => fun
  | [d1, d2] => { results := [.lit (.bool true)], args := [d1, d2] }
  | _ => none }
def opChecksRow : OpenClaim := { program := "ytflkeabjcbjkhaadoor", sum := "04c3fd2fff931fceb5336bde7badb482b326e5f8502fe0ee709798ea74ab4fe6", func := "hammock/hammocklaw03.OpChecks", spec := "opChecks", inPlace := ["internal/reflectlite.ValueOf", "(internal/reflectlite.Value).Type", "(internal/reflectlite.Value).IsNil", "internal/reflectlite.TypeOf", "(internal/reflectlite.Value).Elem", "(internal/reflectlite.Value).Set"], unfollowed := true, recurses := true, named := ["hammock/fault.kindNames", "errors.errorType"], apart := false, laid := [("errors.errorType", laid_errors_errorType), ("hammock/fault.kindNames", laid_hammock_fault_kindNames)] }
def OpChecksSaid : Prop := opChecksRow.holds Tryd.pinned (OpenSpec.ofChange opChecksSpec)

/-- ITS FALSE NEIGHBOUR: 'it returns false'. Refute it at one input. -/
def opChecksWrong : ChangeSpec := { name := "opChecks", fn := fun _ => fun
  | [d1, d2] => { results := [.lit (.bool false)], args := [d1, d2] }
  | _ => none }
def OpChecksWrongFalsely : Prop := opChecksRow.holds Tryd.pinned (OpenSpec.ofChange opChecksWrong)

/-- 'hammocklaw03.OpPlain': WHATEVER THE INPUT: true; the input reads as it did. -/
def opPlainSpec : ChangeSpec := { name := "opPlain", fn := fun _ => fun
  | [d1, d2, d3] => { results := [.lit (.bool true)], args := [d1, d2, d3] }
  | _ => none }
def opPlainRow : OpenClaim := { program := "ytflkeabjcbjkhaadoor", sum := "04c3fd2fff931fceb5336bde7badb482b326e5f8502fe0ee709798ea74ab4fe6", func := "hammock/hammocklaw03.OpPlain", spec := "opPlain", inPlace := ["internal/reflectlite.ValueOf", "(internal/reflectlite.Value).Type", "(internal/reflectlite.Value).IsNil", "internal/reflectlite.TypeOf", "(internal/reflectlite.Value).Elem", "(internal/reflectlite.Value).Set"], unfollowed := true, recurses := true, named := ["hammock/fault.kindNames", "errors.errorType"], apart := false, laid := [("errors.errorType", laid_errors_errorType), ("hammock/fault.kindNames", laid_hammock_fault_kindNames)] }
def OpPlainSaid : Prop := opPlainRow.holds Tryd.pinned (OpenSpec.ofChange opPlainSpec)

/-- ITS FALSE NEIGHBOUR: 'it returns false'. Refute it at one input. -/
def opPlainWrong : ChangeSpec := { name := "opPlain", fn := fun _ => fun
  | [d1, d2, d3] => { results := [.lit (.bool false)], args := [d1, d2, d3] }
  | _ => none }
def OpPlainWrongFalsely : Prop := opPlainRow.holds Tryd.pinned (OpenSpec.ofChange opPlainWrong)

/-- 'hammocklaw03.OpKeeps': WHATEVER THE INPUT: true; the input reads as it did. -/
def opKeepsSpec : ChangeSpec := { name := "opKeeps", fn := fun _ => fun
  | [d1, d2] => { results := [.lit (.bool true)], args := [d1, d2] }
  | _ => none }
def opKeepsRow : OpenClaim := { program := "ytflkeabjcbjkhaadoor", sum := "04c3fd2fff931fceb5336bde7badb482b326e5f8502fe0ee709798ea74ab4fe6", func := "hammock/hammocklaw03.OpKeeps", spec := "opKeeps", inPlace := ["internal/reflectlite.ValueOf", "(internal/reflectlite.Value).Type", "(internal/reflectlite.Value).IsNil", "internal/reflectlite.TypeOf", "(internal/reflectlite.Value).Elem", "(internal/reflectlite.Value).Set"], unfollowed := true, recurses := true, named := ["hammock/fault.kindNames", "errors.errorType"], apart := false, laid := [("errors.errorType", laid_errors_errorType), ("hammock/fault.kindNames", laid_hammock_fault_kindNames)] }
def OpKeepsSaid : Prop := opKeepsRow.holds Tryd.pinned (OpenSpec.ofChange opKeepsSpec)

/-- ITS FALSE NEIGHBOUR: 'it returns false'. Refute it at one input. -/
def opKeepsWrong : ChangeSpec := { name := "opKeeps", fn := fun _ => fun
  | [d1, d2] => { results := [.lit (.bool false)], args := [d1, d2] }
  | _ => none }
def OpKeepsWrongFalsely : Prop := opKeepsRow.holds Tryd.pinned (OpenSpec.ofChange opKeepsWrong)

/-- 'hammocklaw03.OpMakes': WHATEVER THE INPUT: true; the input reads as it did. -/
def opMakesSpec : ChangeSpec := { name := "opMakes", fn := fun _ => fun
  | [d1, d2, d3, d4, d5] => { results := [.lit (.bool true)], args := [d1, d2, d3, d4, d5] }
  | _ => none }
def opMakesRow : OpenClaim := { program := "ytflkeabjcbjkhaadoor", sum := "04c3fd2fff931fceb5336bde7badb482b326e5f8502fe0ee709798ea74ab4fe6", func := "hammock/hammocklaw03.OpMakes", spec := "opMakes", inPlace := ["internal/reflectlite.ValueOf", "(internal/reflectlite.Value).Type", "(internal/reflectlite.Value).IsNil", "internal/reflectlite.TypeOf", "(internal/reflectlite.Value).Elem", "(internal/reflectlite.Value).Set"], unfollowed := true, recurses := true, named := ["hammock/fault.kindNames", "errors.errorType"], apart := false, laid := [("errors.errorType", laid_errors_errorType), ("hammock/fault.kindNames", laid_hammock_fault_kindNames)] }
def OpMakesSaid : Prop := opMakesRow.holds Tryd.pinned (OpenSpec.ofChange opMakesSpec)

/-- ITS FALSE NEIGHBOUR: 'it returns false'. Refute it at one input. -/
def opMakesWrong : ChangeSpec := { name := "opMakes", fn := fun _ => fun
  | [d1, d2, d3, d4, d5] => { results := [.lit (.bool false)], args := [d1, d2, d3, d4, d5] }
  | _ => none }
def OpMakesWrongFalsely : Prop := opMakesRow.holds Tryd.pinned (OpenSpec.ofChange opMakesWrong)

/-- 'hammocklaw03.OpLimits': WHATEVER THE INPUT: true; the input reads as it did. -/
def opLimitsSpec : ChangeSpec := { name := "opLimits", fn := fun _ => fun
  | [d1, d2] => { results := [.lit (.bool true)], args := [d1, d2] }
  | _ => none }
def opLimitsRow : OpenClaim := { program := "ytflkeabjcbjkhaadoor", sum := "04c3fd2fff931fceb5336bde7badb482b326e5f8502fe0ee709798ea74ab4fe6", func := "hammock/hammocklaw03.OpLimits", spec := "opLimits", inPlace := ["internal/reflectlite.ValueOf", "(internal/reflectlite.Value).Type", "(internal/reflectlite.Value).IsNil", "internal/reflectlite.TypeOf", "(internal/reflectlite.Value).Elem", "(internal/reflectlite.Value).Set"], unfollowed := true, recurses := true, named := ["hammock/fault.kindNames", "errors.errorType"], apart := false, laid := [("errors.errorType", laid_errors_errorType), ("hammock/fault.kindNames", laid_hammock_fault_kindNames)] }
def OpLimitsSaid : Prop := opLimitsRow.holds Tryd.pinned (OpenSpec.ofChange opLimitsSpec)

/-- ITS FALSE NEIGHBOUR: 'it returns false'. Refute it at one input. -/
def opLimitsWrong : ChangeSpec := { name := "opLimits", fn := fun _ => fun
  | [d1, d2] => { results := [.lit (.bool false)], args := [d1, d2] }
  | _ => none }
def OpLimitsWrongFalsely : Prop := opLimitsRow.holds Tryd.pinned (OpenSpec.ofChange opLimitsWrong)

/- THE SECOND FORM. 'bulk': how many values and letters a reading holds, each counted each time it is reached (what is shared counts as often as it is met; a slice's spare places count too). A statement '..UptoSaid' is the law's where the arguments, and the package variables that the reading takes, are together of bulk at most 1048576: NARROWER than '..Said'. Prove '..Said' where nothing that the law and all that it calls make is longer than what came in: it says more and counts as full. Else prove '..UptoSaid'. A law counts once. -/
mutual
def uptoBulk {H : Type} : DataW H → Nat
  | .lit (.string bytes) => bytes.length + 1
  | .lit _ => 1
  | .nil => 1
  | .ptr d => uptoBulk d + 1
  | .slice elems spare => uptoBulkAll elems + uptoBulkAll spare + 1
  | .agg parts => uptoBulkAll parts + 1
  | .iface _ d => uptoBulk d + 1
  | .map entries => uptoBulkEntries entries + 1
  | .held _ => 1
def uptoBulkAll {H : Type} : List (DataW H) → Nat
  | [] => 0
  | d :: r => uptoBulk d + uptoBulkAll r
def uptoBulkEntries {H : Type} : List (Lit × DataW H) → Nat
  | [] => 0
  | x :: r => uptoBulkEntry x + uptoBulkEntries r
def uptoBulkEntry {H : Type} : Lit × DataW H → Nat
  | (.string bytes, d) => bytes.length + uptoBulk d + 1
  | (_, d) => uptoBulk d + 1
 end
def uptoSmall : (H : Type) → List (DataW H) → Bool := fun _ ds => decide (uptoBulkAll ds ≤ 1048576)
def OpenSpec.upto (s : _root_.Go.ChangeSpec) : _root_.Go.OpenSpec := { _root_.Go.OpenSpec.ofChange s with cond := some uptoSmall }

/-- 'hammocklaw03.OpChecks', WHERE WHAT IT READS IS OF BULK AT MOST 1048576: true; the input reads as it did. -/
def opChecksUptoRow : OpenClaim := { program := "ytflkeabjcbjkhaadoor", sum := "04c3fd2fff931fceb5336bde7badb482b326e5f8502fe0ee709798ea74ab4fe6", func := "hammock/hammocklaw03.OpChecks", spec := "opChecks", inPlace := ["internal/reflectlite.ValueOf", "(internal/reflectlite.Value).Type", "(internal/reflectlite.Value).IsNil", "internal/reflectlite.TypeOf", "(internal/reflectlite.Value).Elem", "(internal/reflectlite.Value).Set"], unfollowed := true, recurses := true, named := ["hammock/fault.kindNames", "errors.errorType"], apart := false, laid := [("errors.errorType", laid_errors_errorType), ("hammock/fault.kindNames", laid_hammock_fault_kindNames)], narrowed := true }
def OpChecksUptoSaid : Prop := opChecksUptoRow.holds Tryd.pinned (OpenSpec.upto opChecksSpec)

/-- 'hammocklaw03.OpPlain', WHERE WHAT IT READS IS OF BULK AT MOST 1048576: true; the input reads as it did. -/
def opPlainUptoRow : OpenClaim := { program := "ytflkeabjcbjkhaadoor", sum := "04c3fd2fff931fceb5336bde7badb482b326e5f8502fe0ee709798ea74ab4fe6", func := "hammock/hammocklaw03.OpPlain", spec := "opPlain", inPlace := ["internal/reflectlite.ValueOf", "(internal/reflectlite.Value).Type", "(internal/reflectlite.Value).IsNil", "internal/reflectlite.TypeOf", "(internal/reflectlite.Value).Elem", "(internal/reflectlite.Value).Set"], unfollowed := true, recurses := true, named := ["hammock/fault.kindNames", "errors.errorType"], apart := false, laid := [("errors.errorType", laid_errors_errorType), ("hammock/fault.kindNames", laid_hammock_fault_kindNames)], narrowed := true }
def OpPlainUptoSaid : Prop := opPlainUptoRow.holds Tryd.pinned (OpenSpec.upto opPlainSpec)

/-- 'hammocklaw03.OpKeeps', WHERE WHAT IT READS IS OF BULK AT MOST 1048576: true; the input reads as it did. -/
def opKeepsUptoRow : OpenClaim := { program := "ytflkeabjcbjkhaadoor", sum := "04c3fd2fff931fceb5336bde7badb482b326e5f8502fe0ee709798ea74ab4fe6", func := "hammock/hammocklaw03.OpKeeps", spec := "opKeeps", inPlace := ["internal/reflectlite.ValueOf", "(internal/reflectlite.Value).Type", "(internal/reflectlite.Value).IsNil", "internal/reflectlite.TypeOf", "(internal/reflectlite.Value).Elem", "(internal/reflectlite.Value).Set"], unfollowed := true, recurses := true, named := ["hammock/fault.kindNames", "errors.errorType"], apart := false, laid := [("errors.errorType", laid_errors_errorType), ("hammock/fault.kindNames", laid_hammock_fault_kindNames)], narrowed := true }
def OpKeepsUptoSaid : Prop := opKeepsUptoRow.holds Tryd.pinned (OpenSpec.upto opKeepsSpec)

/-- 'hammocklaw03.OpMakes', WHERE WHAT IT READS IS OF BULK AT MOST 1048576: true; the input reads as it did. -/
def opMakesUptoRow : OpenClaim := { program := "ytflkeabjcbjkhaadoor", sum := "04c3fd2fff931fceb5336bde7badb482b326e5f8502fe0ee709798ea74ab4fe6", func := "hammock/hammocklaw03.OpMakes", spec := "opMakes", inPlace := ["internal/reflectlite.ValueOf", "(internal/reflectlite.Value).Type", "(internal/reflectlite.Value).IsNil", "internal/reflectlite.TypeOf", "(internal/reflectlite.Value).Elem", "(internal/reflectlite.Value).Set"], unfollowed := true, recurses := true, named := ["hammock/fault.kindNames", "errors.errorType"], apart := false, laid := [("errors.errorType", laid_errors_errorType), ("hammock/fault.kindNames", laid_hammock_fault_kindNames)], narrowed := true }
def OpMakesUptoSaid : Prop := opMakesUptoRow.holds Tryd.pinned (OpenSpec.upto opMakesSpec)

/-- 'hammocklaw03.OpLimits', WHERE WHAT IT READS IS OF BULK AT MOST 1048576: true; the input reads as it did. -/
def opLimitsUptoRow : OpenClaim := { program := "ytflkeabjcbjkhaadoor", sum := "04c3fd2fff931fceb5336bde7badb482b326e5f8502fe0ee709798ea74ab4fe6", func := "hammock/hammocklaw03.OpLimits", spec := "opLimits", inPlace := ["internal/reflectlite.ValueOf", "(internal/reflectlite.Value).Type", "(internal/reflectlite.Value).IsNil", "internal/reflectlite.TypeOf", "(internal/reflectlite.Value).Elem", "(internal/reflectlite.Value).Set"], unfollowed := true, recurses := true, named := ["hammock/fault.kindNames", "errors.errorType"], apart := false, laid := [("errors.errorType", laid_errors_errorType), ("hammock/fault.kindNames", laid_hammock_fault_kindNames)], narrowed := true }
def OpLimitsUptoSaid : Prop := opLimitsUptoRow.holds Tryd.pinned (OpenSpec.upto opLimitsSpec)

end Rows
end Go.Proofs.YtflkeabjcbjkhaaDoor
