/-
  DERIVED. GIVEN WITH THE SEED: THE CARDS: each row of YtfidlljhmebpmaaDoorRows.lean that lists a variable, with what it lists TIED to the program's text (the seventh form; the later family's looks); each row that meets fmt, with fmt's text TOLD by the authors' own Lean function (tested against real Go, not proved from fmt's source: count such statements apart). THE CARD IS WHAT COUNTS. Prove the row's statement (the work); the ties are given (YtfidlljhmebpmaaDoorTie.lean); close each card by the builder's one call (the guide's Derived/Test/ToyasCard.lean, 'card_holds'). Laid BY PROGRAM, IN A SANDBOX (cutbox-door.mjs). By AI agents, Wed Nov 11 2026. No macro, syntax, notation, axiom, sorry.
-/
import Derived.Test.YtfidlljhmebpmaaDoorRows
import GoSem.ClaimSeven
namespace Go.Proofs.YtfidlljhmebpmaaDoor
namespace Rows

/-- THE TIED CARD OF 'hammocklaw13.PodMatchesReference'. -/
def podMatchesReferenceCard : Claim7 := { stood := { row := podMatchesReferenceRow, standIns := [], harness := (true, "74a1f864d68ba22bba3313ba8b9e5e6408ef7543cb942c2e1275184196ffcfd6"), looks := true }, kinds := [], alts := [], laidByText := true, laidKinds := [.handle], laidTests := true, laidLooks := .later }
def PodMatchesReferenceCardSaid : Prop := Claim7.holds Tryd.pinned (.plain (OpenSpec.ofChange podMatchesReferenceSpec)) podMatchesReferenceCard

/-- THE TIED CARD OF 'hammocklaw13.PodPhases'. -/
def podPhasesCard : Claim7 := { stood := { row := podPhasesRow, standIns := [], harness := (true, "74a1f864d68ba22bba3313ba8b9e5e6408ef7543cb942c2e1275184196ffcfd6"), looks := true }, kinds := [], alts := [], laidByText := true, laidKinds := [.handle], laidTests := true, laidLooks := .later }
def PodPhasesCardSaid : Prop := Claim7.holds Tryd.pinned (.plain (OpenSpec.ofChange podPhasesSpec)) podPhasesCard

/-- THE TIED CARD OF 'hammocklaw13.PodOnce'. -/
def podOnceCard : Claim7 := { stood := { row := podOnceRow, standIns := [], harness := (true, "74a1f864d68ba22bba3313ba8b9e5e6408ef7543cb942c2e1275184196ffcfd6"), looks := true }, kinds := [], alts := [], laidByText := true, laidKinds := [.handle], laidTests := true, laidLooks := .later }
def PodOnceCardSaid : Prop := Claim7.holds Tryd.pinned (.plain (OpenSpec.ofChange podOnceSpec)) podOnceCard

/-- THE TIED CARD OF 'hammocklaw13.PodKeeps'. -/
def podKeepsCard : Claim7 := { stood := { row := podKeepsRow, standIns := [], harness := (true, "74a1f864d68ba22bba3313ba8b9e5e6408ef7543cb942c2e1275184196ffcfd6"), looks := true }, kinds := [], alts := [], laidByText := true, laidKinds := [.handle], laidTests := true, laidLooks := .later }
def PodKeepsCardSaid : Prop := Claim7.holds Tryd.pinned (.plain (OpenSpec.ofChange podKeepsSpec)) podKeepsCard

/-- THE TIED CARD OF 'hammocklaw13.PodArrivals'. -/
def podArrivalsCard : Claim7 := { stood := { row := podArrivalsRow, standIns := [], harness := (true, "74a1f864d68ba22bba3313ba8b9e5e6408ef7543cb942c2e1275184196ffcfd6"), looks := true }, kinds := [], alts := [], laidByText := true, laidKinds := [.handle], laidTests := true, laidLooks := .later }
def PodArrivalsCardSaid : Prop := Claim7.holds Tryd.pinned (.plain (OpenSpec.ofChange podArrivalsSpec)) podArrivalsCard

/-- THE SECOND FORM's CARD OF 'hammocklaw13.PodMatchesReference'. -/
def podMatchesReferenceUptoCard : Claim7 := { stood := { row := podMatchesReferenceUptoRow, standIns := [], harness := (true, "74a1f864d68ba22bba3313ba8b9e5e6408ef7543cb942c2e1275184196ffcfd6"), looks := true }, kinds := [], alts := [], laidByText := true, laidKinds := [.handle], laidTests := true, laidLooks := .later }
def PodMatchesReferenceUptoCardSaid : Prop := Claim7.holds Tryd.pinned (.plain (OpenSpec.upto podMatchesReferenceSpec)) podMatchesReferenceUptoCard

/-- THE SECOND FORM's CARD OF 'hammocklaw13.PodPhases'. -/
def podPhasesUptoCard : Claim7 := { stood := { row := podPhasesUptoRow, standIns := [], harness := (true, "74a1f864d68ba22bba3313ba8b9e5e6408ef7543cb942c2e1275184196ffcfd6"), looks := true }, kinds := [], alts := [], laidByText := true, laidKinds := [.handle], laidTests := true, laidLooks := .later }
def PodPhasesUptoCardSaid : Prop := Claim7.holds Tryd.pinned (.plain (OpenSpec.upto podPhasesSpec)) podPhasesUptoCard

/-- THE SECOND FORM's CARD OF 'hammocklaw13.PodOnce'. -/
def podOnceUptoCard : Claim7 := { stood := { row := podOnceUptoRow, standIns := [], harness := (true, "74a1f864d68ba22bba3313ba8b9e5e6408ef7543cb942c2e1275184196ffcfd6"), looks := true }, kinds := [], alts := [], laidByText := true, laidKinds := [.handle], laidTests := true, laidLooks := .later }
def PodOnceUptoCardSaid : Prop := Claim7.holds Tryd.pinned (.plain (OpenSpec.upto podOnceSpec)) podOnceUptoCard

/-- THE SECOND FORM's CARD OF 'hammocklaw13.PodKeeps'. -/
def podKeepsUptoCard : Claim7 := { stood := { row := podKeepsUptoRow, standIns := [], harness := (true, "74a1f864d68ba22bba3313ba8b9e5e6408ef7543cb942c2e1275184196ffcfd6"), looks := true }, kinds := [], alts := [], laidByText := true, laidKinds := [.handle], laidTests := true, laidLooks := .later }
def PodKeepsUptoCardSaid : Prop := Claim7.holds Tryd.pinned (.plain (OpenSpec.upto podKeepsSpec)) podKeepsUptoCard

/-- THE SECOND FORM's CARD OF 'hammocklaw13.PodArrivals'. -/
def podArrivalsUptoCard : Claim7 := { stood := { row := podArrivalsUptoRow, standIns := [], harness := (true, "74a1f864d68ba22bba3313ba8b9e5e6408ef7543cb942c2e1275184196ffcfd6"), looks := true }, kinds := [], alts := [], laidByText := true, laidKinds := [.handle], laidTests := true, laidLooks := .later }
def PodArrivalsUptoCardSaid : Prop := Claim7.holds Tryd.pinned (.plain (OpenSpec.upto podArrivalsSpec)) podArrivalsUptoCard
end Rows
end Go.Proofs.YtfidlljhmebpmaaDoor
