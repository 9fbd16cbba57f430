/-
  DERIVED. GIVEN WITH THE SEED: THE CARDS: each row of YtihjgcibpfajkaaGreatDoorRows.lean that lists a variable, with what it lists TIED to the program's text (the seventh form; the later family's looks); each row that meets fmt, with fmt's text TOLD by the authors' own Lean function (tested against real Go, not proved from fmt's source: count such statements apart). THE CARD IS WHAT COUNTS. Prove the row's statement (the work); the ties are given (YtihjgcibpfajkaaGreatDoorTie.lean); close each card by the builder's one call (the guide's Derived/Test/ToyasCard.lean, 'card_holds'). Laid BY PROGRAM, IN A SANDBOX (cutbox-door.mjs). By AI agents, Wed Nov 11 2026. No macro, syntax, notation, axiom, sorry.
-/
import Derived.Test.YtihjgcibpfajkaaGreatDoorRows
import GoSem.ClaimSeven
namespace Go.Proofs.YtihjgcibpfajkaaGreatDoor
namespace Rows

/-- THE TIED CARD OF 'hammocklaw17.FilterParts'. -/
def filterPartsCard : Claim7 := { stood := { row := filterPartsRow, standIns := [], harness := (true, "c1c561d6a6a7efc8ddca295eabcd78df75ed4aa01d2c7262de1a40716c28f404"), looks := true }, kinds := [], alts := [], laidByText := true, laidKinds := [.handle], laidTests := true, laidLooks := .later }
def FilterPartsCardSaid : Prop := Claim7.holds Tryz.pinned (.plain (OpenSpec.ofChange filterPartsSpec)) filterPartsCard

/-- THE TIED CARD OF 'hammocklaw17.FilterBinds'. -/
def filterBindsCard : Claim7 := { stood := { row := filterBindsRow, standIns := [], harness := (true, "c1c561d6a6a7efc8ddca295eabcd78df75ed4aa01d2c7262de1a40716c28f404"), looks := true }, kinds := [], alts := [], laidByText := true, laidKinds := [.handle], laidTests := true, laidLooks := .later }
def FilterBindsCardSaid : Prop := Claim7.holds Tryz.pinned (.plain (OpenSpec.ofChange filterBindsSpec)) filterBindsCard

/-- THE TIED CARD OF 'hammocklaw17.FilterSmaller'. -/
def filterSmallerCard : Claim7 := { stood := { row := filterSmallerRow, standIns := [], harness := (true, "c1c561d6a6a7efc8ddca295eabcd78df75ed4aa01d2c7262de1a40716c28f404"), looks := true }, kinds := [], alts := [], laidByText := true, laidKinds := [.handle], laidTests := true, laidLooks := .later }
def FilterSmallerCardSaid : Prop := Claim7.holds Tryz.pinned (.plain (OpenSpec.ofChange filterSmallerSpec)) filterSmallerCard

/-- THE TIED CARD OF 'hammocklaw17.FilterAdds'. -/
def filterAddsCard : Claim7 := { stood := { row := filterAddsRow, standIns := [], harness := (true, "c1c561d6a6a7efc8ddca295eabcd78df75ed4aa01d2c7262de1a40716c28f404"), looks := true }, kinds := [], alts := [], laidByText := true, laidKinds := [.handle], laidTests := true, laidLooks := .later }
def FilterAddsCardSaid : Prop := Claim7.holds Tryz.pinned (.plain (OpenSpec.ofChange filterAddsSpec)) filterAddsCard

/-- THE SECOND FORM's CARD OF 'hammocklaw17.FilterParts'. -/
def filterPartsUptoCard : Claim7 := { stood := { row := filterPartsUptoRow, standIns := [], harness := (true, "c1c561d6a6a7efc8ddca295eabcd78df75ed4aa01d2c7262de1a40716c28f404"), looks := true }, kinds := [], alts := [], laidByText := true, laidKinds := [.handle], laidTests := true, laidLooks := .later }
def FilterPartsUptoCardSaid : Prop := Claim7.holds Tryz.pinned (.plain (OpenSpec.upto filterPartsSpec)) filterPartsUptoCard

/-- THE SECOND FORM's CARD OF 'hammocklaw17.FilterBinds'. -/
def filterBindsUptoCard : Claim7 := { stood := { row := filterBindsUptoRow, standIns := [], harness := (true, "c1c561d6a6a7efc8ddca295eabcd78df75ed4aa01d2c7262de1a40716c28f404"), looks := true }, kinds := [], alts := [], laidByText := true, laidKinds := [.handle], laidTests := true, laidLooks := .later }
def FilterBindsUptoCardSaid : Prop := Claim7.holds Tryz.pinned (.plain (OpenSpec.upto filterBindsSpec)) filterBindsUptoCard

/-- THE SECOND FORM's CARD OF 'hammocklaw17.FilterSmaller'. -/
def filterSmallerUptoCard : Claim7 := { stood := { row := filterSmallerUptoRow, standIns := [], harness := (true, "c1c561d6a6a7efc8ddca295eabcd78df75ed4aa01d2c7262de1a40716c28f404"), looks := true }, kinds := [], alts := [], laidByText := true, laidKinds := [.handle], laidTests := true, laidLooks := .later }
def FilterSmallerUptoCardSaid : Prop := Claim7.holds Tryz.pinned (.plain (OpenSpec.upto filterSmallerSpec)) filterSmallerUptoCard

/-- THE SECOND FORM's CARD OF 'hammocklaw17.FilterAdds'. -/
def filterAddsUptoCard : Claim7 := { stood := { row := filterAddsUptoRow, standIns := [], harness := (true, "c1c561d6a6a7efc8ddca295eabcd78df75ed4aa01d2c7262de1a40716c28f404"), looks := true }, kinds := [], alts := [], laidByText := true, laidKinds := [.handle], laidTests := true, laidLooks := .later }
def FilterAddsUptoCardSaid : Prop := Claim7.holds Tryz.pinned (.plain (OpenSpec.upto filterAddsSpec)) filterAddsUptoCard
end Rows
end Go.Proofs.YtihjgcibpfajkaaGreatDoor
