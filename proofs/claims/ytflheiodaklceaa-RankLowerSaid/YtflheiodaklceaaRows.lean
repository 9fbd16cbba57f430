/-
  No cell of these rows narrows 'for every input' (looked for: loops, veiled, ifaces, maps, wideKeys, modest, calm, conditions, laid).
  DERIVED. THE GIVEN ROWS OF THIS SEAT. 5 by the template 'for every input the law returns true; each argument reads behind the call as it read before'; 0 by the template 'total and deterministic' (their statements: YtflheiodaklceaaTotals.lean).
  GIVEN WITH THE SEED: the statements are not yours to turn. If you find one false, say at which input.
  Laid BY PROGRAM, IN A SANDBOX (cutbox-rows.mjs): the forced cells as the released guide's own fill.sh prints them over the translation 53d3f776621caa66… (all of the seat's roots in one cut). By AI agents, Wed Nov 11 2026. No macro, syntax, notation, axiom, sorry.
-/
import Derived.Test.YtflheiodaklceaaChecked
import GoSem.Claim
import GoSem.ClaimJoined
import GoSem.ClaimMapViews
import Derived.JoinedTies
import Derived.KernelRfl
namespace Go.Proofs.Ytflheiodaklceaa
/- THE CELL 'sum', in the pinned program and in every row, IS THE sha256 OF THE DUMP (.gsa) THAT YtflheiodaklceaaProg.lean LOADS. Nothing in Lean hashes anything: it is a label: what it is worth is what the hold of that sum in a sandbox is worth. -/
noncomputable def Try.pinned : Pinned := { name := "ytflheiodaklceaa", sum := "53d3f776621caa66d7f7d7d25667c54f8e4f569f28ec647fd81b56c177bdd5c4", checked := Try.checked }
namespace Rows
def none {H : Type} : Left H := { results := [], args := [] }

/-- 'hammocklaw06.RankMatchesReference': WHATEVER THE INPUT: true; the input reads as it did. -/
def rankMatchesReferenceSpec : ChangeSpec := { name := "rankMatchesReference", fn := fun _ => fun
  | [d1, d2, d3] => { results := [.lit (.bool true)], args := [d1, d2, d3] }
  | _ => none }
def rankMatchesReferenceRow : OpenClaim := { program := "ytflheiodaklceaa", sum := "53d3f776621caa66d7f7d7d25667c54f8e4f569f28ec647fd81b56c177bdd5c4", func := "hammock/hammocklaw06.RankMatchesReference", spec := "rankMatchesReference", unfollowed := true, recurses := true, apart := false }
def RankMatchesReferenceSaid : Prop := rankMatchesReferenceRow.holds Try.pinned (OpenSpec.ofChange rankMatchesReferenceSpec)

/-- ITS FALSE NEIGHBOUR: 'it returns false'. Refute it at one input. -/
def rankMatchesReferenceWrong : ChangeSpec := { name := "rankMatchesReference", fn := fun _ => fun
  | [d1, d2, d3] => { results := [.lit (.bool false)], args := [d1, d2, d3] }
  | _ => none }
def RankMatchesReferenceWrongFalsely : Prop := rankMatchesReferenceRow.holds Try.pinned (OpenSpec.ofChange rankMatchesReferenceWrong)

/-- 'hammocklaw06.RankLower': WHATEVER THE INPUT: true; the input reads as it did. -/
def rankLowerSpec : ChangeSpec := { name := "rankLower", fn := fun _ => fun
  | [d1, d2] => { results := [.lit (.bool true)], args := [d1, d2] }
  | _ => none }
def rankLowerRow : OpenClaim := { program := "ytflheiodaklceaa", sum := "53d3f776621caa66d7f7d7d25667c54f8e4f569f28ec647fd81b56c177bdd5c4", func := "hammock/hammocklaw06.RankLower", spec := "rankLower", unfollowed := true, recurses := true, apart := false }
def RankLowerSaid : Prop := rankLowerRow.holds Try.pinned (OpenSpec.ofChange rankLowerSpec)

/-- ITS FALSE NEIGHBOUR: 'it returns false'. Refute it at one input. -/
def rankLowerWrong : ChangeSpec := { name := "rankLower", fn := fun _ => fun
  | [d1, d2] => { results := [.lit (.bool false)], args := [d1, d2] }
  | _ => none }
def RankLowerWrongFalsely : Prop := rankLowerRow.holds Try.pinned (OpenSpec.ofChange rankLowerWrong)

/-- 'hammocklaw06.RankTotal': WHATEVER THE INPUT: true; the input reads as it did. -/
def rankTotalSpec : ChangeSpec := { name := "rankTotal", fn := fun _ => fun
  | [d1, d2, d3] => { results := [.lit (.bool true)], args := [d1, d2, d3] }
  | _ => none }
def rankTotalRow : OpenClaim := { program := "ytflheiodaklceaa", sum := "53d3f776621caa66d7f7d7d25667c54f8e4f569f28ec647fd81b56c177bdd5c4", func := "hammock/hammocklaw06.RankTotal", spec := "rankTotal", unfollowed := true, recurses := true, apart := false }
def RankTotalSaid : Prop := rankTotalRow.holds Try.pinned (OpenSpec.ofChange rankTotalSpec)

/-- ITS FALSE NEIGHBOUR: 'it returns false'. Refute it at one input. -/
def rankTotalWrong : ChangeSpec := { name := "rankTotal", fn := fun _ => fun
  | [d1, d2, d3] => { results := [.lit (.bool false)], args := [d1, d2, d3] }
  | _ => none }
def RankTotalWrongFalsely : Prop := rankTotalRow.holds Try.pinned (OpenSpec.ofChange rankTotalWrong)

/-- 'hammocklaw06.RankKeeps': WHATEVER THE INPUT: true; the input reads as it did. -/
def rankKeepsSpec : ChangeSpec := { name := "rankKeeps", fn := fun _ => fun
  | [d] => { results := [.lit (.bool true)], args := [d] }
  | _ => none }
def rankKeepsRow : OpenClaim := { program := "ytflheiodaklceaa", sum := "53d3f776621caa66d7f7d7d25667c54f8e4f569f28ec647fd81b56c177bdd5c4", func := "hammock/hammocklaw06.RankKeeps", spec := "rankKeeps", unfollowed := true, recurses := true, apart := false }
def RankKeepsSaid : Prop := rankKeepsRow.holds Try.pinned (OpenSpec.ofChange rankKeepsSpec)

/-- ITS FALSE NEIGHBOUR: 'it returns false'. Refute it at one input. -/
def rankKeepsWrong : ChangeSpec := { name := "rankKeeps", fn := fun _ => fun
  | [d] => { results := [.lit (.bool false)], args := [d] }
  | _ => none }
def RankKeepsWrongFalsely : Prop := rankKeepsRow.holds Try.pinned (OpenSpec.ofChange rankKeepsWrong)

/-- 'hammocklaw06.RankAdds': WHATEVER THE INPUT: true; the input reads as it did. -/
def rankAddsSpec : ChangeSpec := { name := "rankAdds", fn := fun _ => fun
  | [d1, d2] => { results := [.lit (.bool true)], args := [d1, d2] }
  | _ => none }
def rankAddsRow : OpenClaim := { program := "ytflheiodaklceaa", sum := "53d3f776621caa66d7f7d7d25667c54f8e4f569f28ec647fd81b56c177bdd5c4", func := "hammock/hammocklaw06.RankAdds", spec := "rankAdds", unfollowed := true, recurses := true, apart := false }
def RankAddsSaid : Prop := rankAddsRow.holds Try.pinned (OpenSpec.ofChange rankAddsSpec)

/-- ITS FALSE NEIGHBOUR: 'it returns false'. Refute it at one input. -/
def rankAddsWrong : ChangeSpec := { name := "rankAdds", fn := fun _ => fun
  | [d1, d2] => { results := [.lit (.bool false)], args := [d1, d2] }
  | _ => none }
def RankAddsWrongFalsely : Prop := rankAddsRow.holds Try.pinned (OpenSpec.ofChange rankAddsWrong)

/- THE SECOND FORM. 'bulk': how many values and letters a reading holds, each counted each time it is reached (what is shared counts as often as it is met; a slice's spare places count too). A statement '..UptoSaid' is the law's where the arguments, and the package variables that the reading takes, are together of bulk at most 1048576: NARROWER than '..Said'. Prove '..Said' where nothing that the law and all that it calls make is longer than what came in: it says more and counts as full. Else prove '..UptoSaid'. A law counts once. -/
mutual
def uptoBulk {H : Type} : DataW H → Nat
  | .lit (.string bytes) => bytes.length + 1
  | .lit _ => 1
  | .nil => 1
  | .ptr d => uptoBulk d + 1
  | .slice elems spare => uptoBulkAll elems + uptoBulkAll spare + 1
  | .agg parts => uptoBulkAll parts + 1
  | .iface _ d => uptoBulk d + 1
  | .map entries => uptoBulkEntries entries + 1
  | .held _ => 1
def uptoBulkAll {H : Type} : List (DataW H) → Nat
  | [] => 0
  | d :: r => uptoBulk d + uptoBulkAll r
def uptoBulkEntries {H : Type} : List (Lit × DataW H) → Nat
  | [] => 0
  | x :: r => uptoBulkEntry x + uptoBulkEntries r
def uptoBulkEntry {H : Type} : Lit × DataW H → Nat
  | (.string bytes, d) => bytes.length + uptoBulk d + 1
  | (_, d) => uptoBulk d + 1
 end
def uptoSmall : (H : Type) → List (DataW H) → Bool := fun _ ds => decide (uptoBulkAll ds ≤ 1048576)
def OpenSpec.upto (s : _root_.Go.ChangeSpec) : _root_.Go.OpenSpec := { _root_.Go.OpenSpec.ofChange s with cond := some uptoSmall }

/-- 'hammocklaw06.RankMatchesReference', WHERE WHAT IT READS IS OF BULK AT MOST 1048576: true; the input reads as it did. -/
def rankMatchesReferenceUptoRow : OpenClaim := { program := "ytflheiodaklceaa", sum := "53d3f776621caa66d7f7d7d25667c54f8e4f569f28ec647fd81b56c177bdd5c4", func := "hammock/hammocklaw06.RankMatchesReference", spec := "rankMatchesReference", unfollowed := true, recurses := true, apart := false, narrowed := true }
def RankMatchesReferenceUptoSaid : Prop := rankMatchesReferenceUptoRow.holds Try.pinned (OpenSpec.upto rankMatchesReferenceSpec)

/-- 'hammocklaw06.RankLower', WHERE WHAT IT READS IS OF BULK AT MOST 1048576: true; the input reads as it did. -/
def rankLowerUptoRow : OpenClaim := { program := "ytflheiodaklceaa", sum := "53d3f776621caa66d7f7d7d25667c54f8e4f569f28ec647fd81b56c177bdd5c4", func := "hammock/hammocklaw06.RankLower", spec := "rankLower", unfollowed := true, recurses := true, apart := false, narrowed := true }
def RankLowerUptoSaid : Prop := rankLowerUptoRow.holds Try.pinned (OpenSpec.upto rankLowerSpec)

/-- 'hammocklaw06.RankTotal', WHERE WHAT IT READS IS OF BULK AT MOST 1048576: true; the input reads as it did. -/
def rankTotalUptoRow : OpenClaim := { program := "ytflheiodaklceaa", sum := "53d3f776621caa66d7f7d7d25667c54f8e4f569f28ec647fd81b56c177bdd5c4", func := "hammock/hammocklaw06.RankTotal", spec := "rankTotal", unfollowed := true, recurses := true, apart := false, narrowed := true }
def RankTotalUptoSaid : Prop := rankTotalUptoRow.holds Try.pinned (OpenSpec.upto rankTotalSpec)

/-- 'hammocklaw06.RankKeeps', WHERE WHAT IT READS IS OF BULK AT MOST 1048576: true; the input reads as it did. -/
def rankKeepsUptoRow : OpenClaim := { program := "ytflheiodaklceaa", sum := "53d3f776621caa66d7f7d7d25667c54f8e4f569f28ec647fd81b56c177bdd5c4", func := "hammock/hammocklaw06.RankKeeps", spec := "rankKeeps", unfollowed := true, recurses := true, apart := false, narrowed := true }
def RankKeepsUptoSaid : Prop := rankKeepsUptoRow.holds Try.pinned (OpenSpec.upto rankKeepsSpec)

/-- 'hammocklaw06.RankAdds', WHERE WHAT IT READS IS OF BULK AT MOST 1048576: true; the input reads as it did. -/
def rankAddsUptoRow : OpenClaim := { program := "ytflheiodaklceaa", sum := "53d3f776621caa66d7f7d7d25667c54f8e4f569f28ec647fd81b56c177bdd5c4", func := "hammock/hammocklaw06.RankAdds", spec := "rankAdds", unfollowed := true, recurses := true, apart := false, narrowed := true }
def RankAddsUptoSaid : Prop := rankAddsUptoRow.holds Try.pinned (OpenSpec.upto rankAddsSpec)

end Rows
end Go.Proofs.Ytflheiodaklceaa
