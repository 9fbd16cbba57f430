/-
  DERIVED. GIVEN WITH THE SEED: THE CARDS: each row of YtinndaolcaehiaaGreatDoorRows.lean that lists a variable, with what it lists TIED to the program's text (the seventh form; the later family's looks); each row that meets fmt, with fmt's text TOLD by the authors' own Lean function (tested against real Go, not proved from fmt's source: count such statements apart). THE CARD IS WHAT COUNTS. Prove the row's statement (the work); the ties are given (YtinndaolcaehiaaGreatDoorTie.lean); close each card by the builder's one call (the guide's Derived/Test/ToyasCard.lean, 'card_holds'). Laid BY PROGRAM, IN A SANDBOX (cutbox-door.mjs). By AI agents, Wed Nov 11 2026. No macro, syntax, notation, axiom, sorry.
-/
import Derived.Test.YtinndaolcaehiaaGreatDoorRows
import GoSem.ClaimSeven
namespace Go.Proofs.YtinndaolcaehiaaGreatDoor
namespace Rows

/-- THE TIED CARD OF 'hammocklaw15.ReserveSees'. -/
def reserveSeesCard : Claim7 := { stood := { row := reserveSeesRow, standIns := [], harness := (true, "691f544edde99fdd8bcc2f051a83712630414303ac2b95b924121c0316d81dde"), looks := true }, kinds := [], alts := [], laidByText := true, laidKinds := [.handle], laidTests := true, laidLooks := .later }
def ReserveSeesCardSaid : Prop := Claim7.holds Tryz.pinned (.plain (OpenSpec.ofChange reserveSeesSpec)) reserveSeesCard

/-- THE TIED CARD OF 'hammocklaw15.ReserveLower'. -/
def reserveLowerCard : Claim7 := { stood := { row := reserveLowerRow, standIns := [], harness := (true, "691f544edde99fdd8bcc2f051a83712630414303ac2b95b924121c0316d81dde"), looks := true }, kinds := [], alts := [], laidByText := true, laidKinds := [.handle], laidTests := true, laidLooks := .later }
def ReserveLowerCardSaid : Prop := Claim7.holds Tryz.pinned (.plain (OpenSpec.ofChange reserveLowerSpec)) reserveLowerCard

/-- THE TIED CARD OF 'hammocklaw15.ReserveClears'. -/
def reserveClearsCard : Claim7 := { stood := { row := reserveClearsRow, standIns := [], harness := (true, "691f544edde99fdd8bcc2f051a83712630414303ac2b95b924121c0316d81dde"), looks := true }, kinds := [], alts := [], laidByText := true, laidKinds := [.handle], laidTests := true, laidLooks := .later }
def ReserveClearsCardSaid : Prop := Claim7.holds Tryz.pinned (.plain (OpenSpec.ofChange reserveClearsSpec)) reserveClearsCard

/-- THE SECOND FORM's CARD OF 'hammocklaw15.ReserveSees'. -/
def reserveSeesUptoCard : Claim7 := { stood := { row := reserveSeesUptoRow, standIns := [], harness := (true, "691f544edde99fdd8bcc2f051a83712630414303ac2b95b924121c0316d81dde"), looks := true }, kinds := [], alts := [], laidByText := true, laidKinds := [.handle], laidTests := true, laidLooks := .later }
def ReserveSeesUptoCardSaid : Prop := Claim7.holds Tryz.pinned (.plain (OpenSpec.upto reserveSeesSpec)) reserveSeesUptoCard

/-- THE SECOND FORM's CARD OF 'hammocklaw15.ReserveLower'. -/
def reserveLowerUptoCard : Claim7 := { stood := { row := reserveLowerUptoRow, standIns := [], harness := (true, "691f544edde99fdd8bcc2f051a83712630414303ac2b95b924121c0316d81dde"), looks := true }, kinds := [], alts := [], laidByText := true, laidKinds := [.handle], laidTests := true, laidLooks := .later }
def ReserveLowerUptoCardSaid : Prop := Claim7.holds Tryz.pinned (.plain (OpenSpec.upto reserveLowerSpec)) reserveLowerUptoCard

/-- THE SECOND FORM's CARD OF 'hammocklaw15.ReserveClears'. -/
def reserveClearsUptoCard : Claim7 := { stood := { row := reserveClearsUptoRow, standIns := [], harness := (true, "691f544edde99fdd8bcc2f051a83712630414303ac2b95b924121c0316d81dde"), looks := true }, kinds := [], alts := [], laidByText := true, laidKinds := [.handle], laidTests := true, laidLooks := .later }
def ReserveClearsUptoCardSaid : Prop := Claim7.holds Tryz.pinned (.plain (OpenSpec.upto reserveClearsSpec)) reserveClearsUptoCard
end Rows
end Go.Proofs.YtinndaolcaehiaaGreatDoor
