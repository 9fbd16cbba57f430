/-
  DERIVED. GIVEN WITH THE SEED: THE CARDS: each row of YtclfbplbccehkaaGreatDoorRows.lean that lists a variable, with what it lists TIED to the program's text (the seventh form; the later family's looks); each row that meets fmt, with fmt's text TOLD by the authors' own Lean function (tested against real Go, not proved from fmt's source: count such statements apart). THE CARD IS WHAT COUNTS. Prove the row's statement (the work); the ties are given (YtclfbplbccehkaaGreatDoorTie.lean); close each card by the builder's one call (the guide's Derived/Test/ToyasCard.lean, 'card_holds'). Laid BY PROGRAM, IN A SANDBOX (cutbox-door.mjs). By AI agents, Wed Nov 11 2026. No macro, syntax, notation, axiom, sorry.
-/
import Derived.Test.YtclfbplbccehkaaGreatDoorRows
import GoSem.ClaimSeven
namespace Go.Proofs.YtclfbplbccehkaaGreatDoor
namespace Rows

/-- THE TIED CARD OF 'hammocklaw16.LoadMatchesReference'. -/
def loadMatchesReferenceCard : Claim7 := { stood := { row := loadMatchesReferenceRow, standIns := [], harness := (true, "121f64d5c1dbe6a5093b536a14e465f8cf42effd29d6d8d214c78922417441ac"), looks := true }, kinds := [], alts := [], laidByText := true, laidKinds := [.handle], laidTests := true, laidLooks := .later }
def LoadMatchesReferenceCardSaid : Prop := Claim7.holds Tryz.pinned (.plain (OpenSpec.ofChange loadMatchesReferenceSpec)) loadMatchesReferenceCard

/-- THE TIED CARD OF 'hammocklaw16.LoadShort'. -/
def loadShortCard : Claim7 := { stood := { row := loadShortRow, standIns := [], harness := (true, "121f64d5c1dbe6a5093b536a14e465f8cf42effd29d6d8d214c78922417441ac"), looks := true }, kinds := [], alts := [], laidByText := true, laidKinds := [.handle], laidTests := true, laidLooks := .later }
def LoadShortCardSaid : Prop := Claim7.holds Tryz.pinned (.plain (OpenSpec.ofChange loadShortSpec)) loadShortCard

/-- THE TIED CARD OF 'hammocklaw16.LoadFewer'. -/
def loadFewerCard : Claim7 := { stood := { row := loadFewerRow, standIns := [], harness := (true, "121f64d5c1dbe6a5093b536a14e465f8cf42effd29d6d8d214c78922417441ac"), looks := true }, kinds := [], alts := [], laidByText := true, laidKinds := [.handle], laidTests := true, laidLooks := .later }
def LoadFewerCardSaid : Prop := Claim7.holds Tryz.pinned (.plain (OpenSpec.ofChange loadFewerSpec)) loadFewerCard

/-- THE TIED CARD OF 'hammocklaw16.LoadRises'. -/
def loadRisesCard : Claim7 := { stood := { row := loadRisesRow, standIns := [], harness := (true, "121f64d5c1dbe6a5093b536a14e465f8cf42effd29d6d8d214c78922417441ac"), looks := true }, kinds := [], alts := [], laidByText := true, laidKinds := [.handle], laidTests := true, laidLooks := .later }
def LoadRisesCardSaid : Prop := Claim7.holds Tryz.pinned (.plain (OpenSpec.ofChange loadRisesSpec)) loadRisesCard

/-- THE TIED CARD OF 'hammocklaw16.LoadBinds'. -/
def loadBindsCard : Claim7 := { stood := { row := loadBindsRow, standIns := [], harness := (true, "121f64d5c1dbe6a5093b536a14e465f8cf42effd29d6d8d214c78922417441ac"), looks := true }, kinds := [], alts := [], laidByText := true, laidKinds := [.handle], laidTests := true, laidLooks := .later }
def LoadBindsCardSaid : Prop := Claim7.holds Tryz.pinned (.plain (OpenSpec.ofChange loadBindsSpec)) loadBindsCard

/-- THE SECOND FORM's CARD OF 'hammocklaw16.LoadMatchesReference'. -/
def loadMatchesReferenceUptoCard : Claim7 := { stood := { row := loadMatchesReferenceUptoRow, standIns := [], harness := (true, "121f64d5c1dbe6a5093b536a14e465f8cf42effd29d6d8d214c78922417441ac"), looks := true }, kinds := [], alts := [], laidByText := true, laidKinds := [.handle], laidTests := true, laidLooks := .later }
def LoadMatchesReferenceUptoCardSaid : Prop := Claim7.holds Tryz.pinned (.plain (OpenSpec.upto loadMatchesReferenceSpec)) loadMatchesReferenceUptoCard

/-- THE SECOND FORM's CARD OF 'hammocklaw16.LoadShort'. -/
def loadShortUptoCard : Claim7 := { stood := { row := loadShortUptoRow, standIns := [], harness := (true, "121f64d5c1dbe6a5093b536a14e465f8cf42effd29d6d8d214c78922417441ac"), looks := true }, kinds := [], alts := [], laidByText := true, laidKinds := [.handle], laidTests := true, laidLooks := .later }
def LoadShortUptoCardSaid : Prop := Claim7.holds Tryz.pinned (.plain (OpenSpec.upto loadShortSpec)) loadShortUptoCard

/-- THE SECOND FORM's CARD OF 'hammocklaw16.LoadFewer'. -/
def loadFewerUptoCard : Claim7 := { stood := { row := loadFewerUptoRow, standIns := [], harness := (true, "121f64d5c1dbe6a5093b536a14e465f8cf42effd29d6d8d214c78922417441ac"), looks := true }, kinds := [], alts := [], laidByText := true, laidKinds := [.handle], laidTests := true, laidLooks := .later }
def LoadFewerUptoCardSaid : Prop := Claim7.holds Tryz.pinned (.plain (OpenSpec.upto loadFewerSpec)) loadFewerUptoCard

/-- THE SECOND FORM's CARD OF 'hammocklaw16.LoadRises'. -/
def loadRisesUptoCard : Claim7 := { stood := { row := loadRisesUptoRow, standIns := [], harness := (true, "121f64d5c1dbe6a5093b536a14e465f8cf42effd29d6d8d214c78922417441ac"), looks := true }, kinds := [], alts := [], laidByText := true, laidKinds := [.handle], laidTests := true, laidLooks := .later }
def LoadRisesUptoCardSaid : Prop := Claim7.holds Tryz.pinned (.plain (OpenSpec.upto loadRisesSpec)) loadRisesUptoCard

/-- THE SECOND FORM's CARD OF 'hammocklaw16.LoadBinds'. -/
def loadBindsUptoCard : Claim7 := { stood := { row := loadBindsUptoRow, standIns := [], harness := (true, "121f64d5c1dbe6a5093b536a14e465f8cf42effd29d6d8d214c78922417441ac"), looks := true }, kinds := [], alts := [], laidByText := true, laidKinds := [.handle], laidTests := true, laidLooks := .later }
def LoadBindsUptoCardSaid : Prop := Claim7.holds Tryz.pinned (.plain (OpenSpec.upto loadBindsSpec)) loadBindsUptoCard
end Rows
end Go.Proofs.YtclfbplbccehkaaGreatDoor
