/-
  DERIVED. GIVEN WITH THE SEED: THE CARDS: each row of YtflkeabjcbjkhaaDoorRows.lean that lists a variable, with what it lists TIED to the program's text (the seventh form; the later family's looks); each row that meets fmt, with fmt's text TOLD by the authors' own Lean function (tested against real Go, not proved from fmt's source: count such statements apart). THE CARD IS WHAT COUNTS. Prove the row's statement (the work); the ties are given (YtflkeabjcbjkhaaDoorTie.lean); close each card by the builder's one call (the guide's Derived/Test/ToyasCard.lean, 'card_holds'). Laid BY PROGRAM, IN A SANDBOX (cutbox-door.mjs). By AI agents, Wed Nov 11 2026. No macro, syntax, notation, axiom, sorry.
-/
import Derived.Test.YtflkeabjcbjkhaaDoorRows
import GoSem.ClaimSeven
namespace Go.Proofs.YtflkeabjcbjkhaaDoor
namespace Rows

/-- THE TIED CARD OF 'hammocklaw03.OpChecks'. -/
def opChecksCard : Claim7 := { stood := { row := opChecksRow, standIns := [], harness := (true, "eef3b33174e1a858c731ff53b47037481e65f6ea960d909664d1fa3148553bae"), looks := true }, kinds := [], alts := [], laidByText := true, laidKinds := [.handle, .data], laidTests := true, laidLooks := .later }
def OpChecksCardSaid : Prop := Claim7.holds Tryd.pinned (.plain (OpenSpec.ofChange opChecksSpec)) opChecksCard

/-- THE TIED CARD OF 'hammocklaw03.OpPlain'. -/
def opPlainCard : Claim7 := { stood := { row := opPlainRow, standIns := [], harness := (true, "eef3b33174e1a858c731ff53b47037481e65f6ea960d909664d1fa3148553bae"), looks := true }, kinds := [], alts := [], laidByText := true, laidKinds := [.handle, .data], laidTests := true, laidLooks := .later }
def OpPlainCardSaid : Prop := Claim7.holds Tryd.pinned (.plain (OpenSpec.ofChange opPlainSpec)) opPlainCard

/-- THE TIED CARD OF 'hammocklaw03.OpKeeps'. -/
def opKeepsCard : Claim7 := { stood := { row := opKeepsRow, standIns := [], harness := (true, "eef3b33174e1a858c731ff53b47037481e65f6ea960d909664d1fa3148553bae"), looks := true }, kinds := [], alts := [], laidByText := true, laidKinds := [.handle, .data], laidTests := true, laidLooks := .later }
def OpKeepsCardSaid : Prop := Claim7.holds Tryd.pinned (.plain (OpenSpec.ofChange opKeepsSpec)) opKeepsCard

/-- THE TIED CARD OF 'hammocklaw03.OpMakes'. -/
def opMakesCard : Claim7 := { stood := { row := opMakesRow, standIns := [], harness := (true, "eef3b33174e1a858c731ff53b47037481e65f6ea960d909664d1fa3148553bae"), looks := true }, kinds := [], alts := [], laidByText := true, laidKinds := [.handle, .data], laidTests := true, laidLooks := .later }
def OpMakesCardSaid : Prop := Claim7.holds Tryd.pinned (.plain (OpenSpec.ofChange opMakesSpec)) opMakesCard

/-- THE TIED CARD OF 'hammocklaw03.OpLimits'. -/
def opLimitsCard : Claim7 := { stood := { row := opLimitsRow, standIns := [], harness := (true, "eef3b33174e1a858c731ff53b47037481e65f6ea960d909664d1fa3148553bae"), looks := true }, kinds := [], alts := [], laidByText := true, laidKinds := [.handle, .data], laidTests := true, laidLooks := .later }
def OpLimitsCardSaid : Prop := Claim7.holds Tryd.pinned (.plain (OpenSpec.ofChange opLimitsSpec)) opLimitsCard

/-- THE SECOND FORM's CARD OF 'hammocklaw03.OpChecks'. -/
def opChecksUptoCard : Claim7 := { stood := { row := opChecksUptoRow, standIns := [], harness := (true, "eef3b33174e1a858c731ff53b47037481e65f6ea960d909664d1fa3148553bae"), looks := true }, kinds := [], alts := [], laidByText := true, laidKinds := [.handle, .data], laidTests := true, laidLooks := .later }
def OpChecksUptoCardSaid : Prop := Claim7.holds Tryd.pinned (.plain (OpenSpec.upto opChecksSpec)) opChecksUptoCard

/-- THE SECOND FORM's CARD OF 'hammocklaw03.OpPlain'. -/
def opPlainUptoCard : Claim7 := { stood := { row := opPlainUptoRow, standIns := [], harness := (true, "eef3b33174e1a858c731ff53b47037481e65f6ea960d909664d1fa3148553bae"), looks := true }, kinds := [], alts := [], laidByText := true, laidKinds := [.handle, .data], laidTests := true, laidLooks := .later }
def OpPlainUptoCardSaid : Prop := Claim7.holds Tryd.pinned (.plain (OpenSpec.upto opPlainSpec)) opPlainUptoCard

/-- THE SECOND FORM's CARD OF 'hammocklaw03.OpKeeps'. -/
def opKeepsUptoCard : Claim7 := { stood := { row := opKeepsUptoRow, standIns := [], harness := (true, "eef3b33174e1a858c731ff53b47037481e65f6ea960d909664d1fa3148553bae"), looks := true }, kinds := [], alts := [], laidByText := true, laidKinds := [.handle, .data], laidTests := true, laidLooks := .later }
def OpKeepsUptoCardSaid : Prop := Claim7.holds Tryd.pinned (.plain (OpenSpec.upto opKeepsSpec)) opKeepsUptoCard

/-- THE SECOND FORM's CARD OF 'hammocklaw03.OpMakes'. -/
def opMakesUptoCard : Claim7 := { stood := { row := opMakesUptoRow, standIns := [], harness := (true, "eef3b33174e1a858c731ff53b47037481e65f6ea960d909664d1fa3148553bae"), looks := true }, kinds := [], alts := [], laidByText := true, laidKinds := [.handle, .data], laidTests := true, laidLooks := .later }
def OpMakesUptoCardSaid : Prop := Claim7.holds Tryd.pinned (.plain (OpenSpec.upto opMakesSpec)) opMakesUptoCard

/-- THE SECOND FORM's CARD OF 'hammocklaw03.OpLimits'. -/
def opLimitsUptoCard : Claim7 := { stood := { row := opLimitsUptoRow, standIns := [], harness := (true, "eef3b33174e1a858c731ff53b47037481e65f6ea960d909664d1fa3148553bae"), looks := true }, kinds := [], alts := [], laidByText := true, laidKinds := [.handle, .data], laidTests := true, laidLooks := .later }
def OpLimitsUptoCardSaid : Prop := Claim7.holds Tryd.pinned (.plain (OpenSpec.upto opLimitsSpec)) opLimitsUptoCard
end Rows
end Go.Proofs.YtflkeabjcbjkhaaDoor
