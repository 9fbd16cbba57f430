/-
  DERIVED. GIVEN WITH THE SEED: THE CARDS: each row of YtokopegffeablaaDoorRows.lean that lists a variable, with what it lists TIED to the program's text (the seventh form; the later family's looks); each row that meets fmt, with fmt's text TOLD by the authors' own Lean function (tested against real Go, not proved from fmt's source: count such statements apart). THE CARD IS WHAT COUNTS. Prove the row's statement (the work); the ties are given (YtokopegffeablaaDoorTie.lean); close each card by the builder's one call (the guide's Derived/Test/ToyasCard.lean, 'card_holds'). Laid BY PROGRAM, IN A SANDBOX (cutbox-door.mjs). By AI agents, Wed Nov 11 2026. No macro, syntax, notation, axiom, sorry.
-/
import Derived.Test.YtokopegffeablaaDoorRows
import GoSem.ClaimSeven
namespace Go.Proofs.YtokopegffeablaaDoor
namespace Rows

/-- THE TIED CARD OF 'hammocklaw12.NodeInverse'. -/
def nodeInverseCard : Claim7 := { stood := { row := nodeInverseRow, standIns := [], harness := (true, "efb02b110fb61e8ec8b9e6d4c5865da1c80be3b3eaa5b9cc1d2fe4865d5e3c5c"), looks := true }, kinds := [], alts := [], laidByText := true, laidKinds := [.handle], laidTests := true, laidLooks := .later }
def NodeInverseCardSaid : Prop := Claim7.holds Tryd.pinned (.plain (OpenSpec.ofChange nodeInverseSpec)) nodeInverseCard

/-- THE TIED CARD OF 'hammocklaw12.NodeKeeps'. -/
def nodeKeepsCard : Claim7 := { stood := { row := nodeKeepsRow, standIns := [], harness := (true, "efb02b110fb61e8ec8b9e6d4c5865da1c80be3b3eaa5b9cc1d2fe4865d5e3c5c"), looks := true }, kinds := [], alts := [], laidByText := true, laidKinds := [.handle], laidTests := true, laidLooks := .later }
def NodeKeepsCardSaid : Prop := Claim7.holds Tryd.pinned (.plain (OpenSpec.ofChange nodeKeepsSpec)) nodeKeepsCard

/-- THE SECOND FORM's CARD OF 'hammocklaw12.NodeInverse'. -/
def nodeInverseUptoCard : Claim7 := { stood := { row := nodeInverseUptoRow, standIns := [], harness := (true, "efb02b110fb61e8ec8b9e6d4c5865da1c80be3b3eaa5b9cc1d2fe4865d5e3c5c"), looks := true }, kinds := [], alts := [], laidByText := true, laidKinds := [.handle], laidTests := true, laidLooks := .later }
def NodeInverseUptoCardSaid : Prop := Claim7.holds Tryd.pinned (.plain (OpenSpec.upto nodeInverseSpec)) nodeInverseUptoCard

/-- THE SECOND FORM's CARD OF 'hammocklaw12.NodeKeeps'. -/
def nodeKeepsUptoCard : Claim7 := { stood := { row := nodeKeepsUptoRow, standIns := [], harness := (true, "efb02b110fb61e8ec8b9e6d4c5865da1c80be3b3eaa5b9cc1d2fe4865d5e3c5c"), looks := true }, kinds := [], alts := [], laidByText := true, laidKinds := [.handle], laidTests := true, laidLooks := .later }
def NodeKeepsUptoCardSaid : Prop := Claim7.holds Tryd.pinned (.plain (OpenSpec.upto nodeKeepsSpec)) nodeKeepsUptoCard
end Rows
end Go.Proofs.YtokopegffeablaaDoor
