/-
  DERIVED. GIVEN WITH THE SEED: THE CARDS: each row of YtokopegffeablaaGreatDoorRows.lean that lists a variable, with what it lists TIED to the program's text (the seventh form; the later family's looks); each row that meets fmt, with fmt's text TOLD by the authors' own Lean function (tested against real Go, not proved from fmt's source: count such statements apart). THE CARD IS WHAT COUNTS. Prove the row's statement (the work); the ties are given (YtokopegffeablaaGreatDoorTie.lean); close each card by the builder's one call (the guide's Derived/Test/ToyasCard.lean, 'card_holds'). Laid BY PROGRAM, IN A SANDBOX (cutbox-door.mjs). By AI agents, Wed Nov 11 2026. No macro, syntax, notation, axiom, sorry.
-/
import Derived.Test.YtokopegffeablaaGreatDoorRows
import GoSem.ClaimSeven
namespace Go.Proofs.YtokopegffeablaaGreatDoor
namespace Rows

/-- THE TIED CARD OF 'hammocklaw12.NodeBounds'. -/
def nodeBoundsCard : Claim7 := { stood := { row := nodeBoundsRow, standIns := [], harness := (true, "4a0788bb0b0e90da78be76a5f121f62e558eb1d17318d6711827be34fe02fa79"), looks := true }, kinds := [], alts := [], laidByText := true, laidKinds := [.handle], laidTests := true, laidLooks := .later }
def NodeBoundsCardSaid : Prop := Claim7.holds Tryz.pinned (.plain (OpenSpec.ofChange nodeBoundsSpec)) nodeBoundsCard

/-- THE TIED CARD OF 'hammocklaw12.NodeOthers'. -/
def nodeOthersCard : Claim7 := { stood := { row := nodeOthersRow, standIns := [], harness := (true, "4a0788bb0b0e90da78be76a5f121f62e558eb1d17318d6711827be34fe02fa79"), looks := true }, kinds := [], alts := [], laidByText := true, laidKinds := [.handle], laidTests := true, laidLooks := .later }
def NodeOthersCardSaid : Prop := Claim7.holds Tryz.pinned (.plain (OpenSpec.ofChange nodeOthersSpec)) nodeOthersCard

/-- THE SECOND FORM's CARD OF 'hammocklaw12.NodeBounds'. -/
def nodeBoundsUptoCard : Claim7 := { stood := { row := nodeBoundsUptoRow, standIns := [], harness := (true, "4a0788bb0b0e90da78be76a5f121f62e558eb1d17318d6711827be34fe02fa79"), looks := true }, kinds := [], alts := [], laidByText := true, laidKinds := [.handle], laidTests := true, laidLooks := .later }
def NodeBoundsUptoCardSaid : Prop := Claim7.holds Tryz.pinned (.plain (OpenSpec.upto nodeBoundsSpec)) nodeBoundsUptoCard

/-- THE SECOND FORM's CARD OF 'hammocklaw12.NodeOthers'. -/
def nodeOthersUptoCard : Claim7 := { stood := { row := nodeOthersUptoRow, standIns := [], harness := (true, "4a0788bb0b0e90da78be76a5f121f62e558eb1d17318d6711827be34fe02fa79"), looks := true }, kinds := [], alts := [], laidByText := true, laidKinds := [.handle], laidTests := true, laidLooks := .later }
def NodeOthersUptoCardSaid : Prop := Claim7.holds Tryz.pinned (.plain (OpenSpec.upto nodeOthersSpec)) nodeOthersUptoCard
end Rows
end Go.Proofs.YtokopegffeablaaGreatDoor
