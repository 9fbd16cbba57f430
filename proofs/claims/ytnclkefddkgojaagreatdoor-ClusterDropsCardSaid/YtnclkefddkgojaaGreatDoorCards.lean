/-
  DERIVED. GIVEN WITH THE SEED: THE CARDS: each row of YtnclkefddkgojaaGreatDoorRows.lean that lists a variable, with what it lists TIED to the program's text (the seventh form; the later family's looks); each row that meets fmt, with fmt's text TOLD by the authors' own Lean function (tested against real Go, not proved from fmt's source: count such statements apart). THE CARD IS WHAT COUNTS. Prove the row's statement (the work); the ties are given (YtnclkefddkgojaaGreatDoorTie.lean); close each card by the builder's one call (the guide's Derived/Test/ToyasCard.lean, 'card_holds'). Laid BY PROGRAM, IN A SANDBOX (cutbox-door.mjs). By AI agents, Wed Nov 11 2026. No macro, syntax, notation, axiom, sorry.
-/
import Derived.Test.YtnclkefddkgojaaGreatDoorRows
import GoSem.ClaimSeven
namespace Go.Proofs.YtnclkefddkgojaaGreatDoor
namespace Rows

/-- THE TIED CARD OF 'hammocklaw14.ClusterMatchesReference'. -/
def clusterMatchesReferenceCard : Claim7 := { stood := { row := clusterMatchesReferenceRow, standIns := [], harness := (true, "4926c3954a3d42540b0b148ff384586746ef041a117c2127067d0293446eac18"), looks := true }, kinds := [], alts := [], laidByText := true, laidKinds := [.handle], laidTests := true, laidLooks := .later }
def ClusterMatchesReferenceCardSaid : Prop := Claim7.holds Tryz.pinned (.plain (OpenSpec.ofChange clusterMatchesReferenceSpec)) clusterMatchesReferenceCard

/-- THE TIED CARD OF 'hammocklaw14.ClusterCapacity'. -/
def clusterCapacityCard : Claim7 := { stood := { row := clusterCapacityRow, standIns := [], harness := (true, "4926c3954a3d42540b0b148ff384586746ef041a117c2127067d0293446eac18"), looks := true }, kinds := [], alts := [], laidByText := true, laidKinds := [.handle], laidTests := true, laidLooks := .later }
def ClusterCapacityCardSaid : Prop := Claim7.holds Tryz.pinned (.plain (OpenSpec.ofChange clusterCapacitySpec)) clusterCapacityCard

/-- THE TIED CARD OF 'hammocklaw14.ClusterErrors'. -/
def clusterErrorsCard : Claim7 := { stood := { row := clusterErrorsRow, standIns := [], harness := (true, "4926c3954a3d42540b0b148ff384586746ef041a117c2127067d0293446eac18"), looks := true }, kinds := [], alts := [], laidByText := true, laidKinds := [.handle], laidTests := true, laidLooks := .later }
def ClusterErrorsCardSaid : Prop := Claim7.holds Tryz.pinned (.plain (OpenSpec.ofChange clusterErrorsSpec)) clusterErrorsCard

/-- THE TIED CARD OF 'hammocklaw14.ClusterDrops'. -/
def clusterDropsCard : Claim7 := { stood := { row := clusterDropsRow, standIns := [], harness := (true, "4926c3954a3d42540b0b148ff384586746ef041a117c2127067d0293446eac18"), looks := true }, kinds := [], alts := [], laidByText := true, laidKinds := [.handle], laidTests := true, laidLooks := .later }
def ClusterDropsCardSaid : Prop := Claim7.holds Tryz.pinned (.plain (OpenSpec.ofChange clusterDropsSpec)) clusterDropsCard

/-- THE TIED CARD OF 'hammocklaw14.ClusterFrees'. -/
def clusterFreesCard : Claim7 := { stood := { row := clusterFreesRow, standIns := [], harness := (true, "4926c3954a3d42540b0b148ff384586746ef041a117c2127067d0293446eac18"), looks := true }, kinds := [], alts := [], laidByText := true, laidKinds := [.handle], laidTests := true, laidLooks := .later }
def ClusterFreesCardSaid : Prop := Claim7.holds Tryz.pinned (.plain (OpenSpec.ofChange clusterFreesSpec)) clusterFreesCard

/-- THE SECOND FORM's CARD OF 'hammocklaw14.ClusterMatchesReference'. -/
def clusterMatchesReferenceUptoCard : Claim7 := { stood := { row := clusterMatchesReferenceUptoRow, standIns := [], harness := (true, "4926c3954a3d42540b0b148ff384586746ef041a117c2127067d0293446eac18"), looks := true }, kinds := [], alts := [], laidByText := true, laidKinds := [.handle], laidTests := true, laidLooks := .later }
def ClusterMatchesReferenceUptoCardSaid : Prop := Claim7.holds Tryz.pinned (.plain (OpenSpec.upto clusterMatchesReferenceSpec)) clusterMatchesReferenceUptoCard

/-- THE SECOND FORM's CARD OF 'hammocklaw14.ClusterCapacity'. -/
def clusterCapacityUptoCard : Claim7 := { stood := { row := clusterCapacityUptoRow, standIns := [], harness := (true, "4926c3954a3d42540b0b148ff384586746ef041a117c2127067d0293446eac18"), looks := true }, kinds := [], alts := [], laidByText := true, laidKinds := [.handle], laidTests := true, laidLooks := .later }
def ClusterCapacityUptoCardSaid : Prop := Claim7.holds Tryz.pinned (.plain (OpenSpec.upto clusterCapacitySpec)) clusterCapacityUptoCard

/-- THE SECOND FORM's CARD OF 'hammocklaw14.ClusterErrors'. -/
def clusterErrorsUptoCard : Claim7 := { stood := { row := clusterErrorsUptoRow, standIns := [], harness := (true, "4926c3954a3d42540b0b148ff384586746ef041a117c2127067d0293446eac18"), looks := true }, kinds := [], alts := [], laidByText := true, laidKinds := [.handle], laidTests := true, laidLooks := .later }
def ClusterErrorsUptoCardSaid : Prop := Claim7.holds Tryz.pinned (.plain (OpenSpec.upto clusterErrorsSpec)) clusterErrorsUptoCard

/-- THE SECOND FORM's CARD OF 'hammocklaw14.ClusterDrops'. -/
def clusterDropsUptoCard : Claim7 := { stood := { row := clusterDropsUptoRow, standIns := [], harness := (true, "4926c3954a3d42540b0b148ff384586746ef041a117c2127067d0293446eac18"), looks := true }, kinds := [], alts := [], laidByText := true, laidKinds := [.handle], laidTests := true, laidLooks := .later }
def ClusterDropsUptoCardSaid : Prop := Claim7.holds Tryz.pinned (.plain (OpenSpec.upto clusterDropsSpec)) clusterDropsUptoCard

/-- THE SECOND FORM's CARD OF 'hammocklaw14.ClusterFrees'. -/
def clusterFreesUptoCard : Claim7 := { stood := { row := clusterFreesUptoRow, standIns := [], harness := (true, "4926c3954a3d42540b0b148ff384586746ef041a117c2127067d0293446eac18"), looks := true }, kinds := [], alts := [], laidByText := true, laidKinds := [.handle], laidTests := true, laidLooks := .later }
def ClusterFreesUptoCardSaid : Prop := Claim7.holds Tryz.pinned (.plain (OpenSpec.upto clusterFreesSpec)) clusterFreesUptoCard
end Rows
end Go.Proofs.YtnclkefddkgojaaGreatDoor
