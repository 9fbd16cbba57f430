/-
  DERIVED. GIVEN WITH THE SEED: THE CARDS: each row of YtpjaalloenapbaaDoorRows.lean that lists a variable, with what it lists TIED to the program's text (the seventh form; the later family's looks); each row that meets fmt, with fmt's text TOLD by the authors' own Lean function (tested against real Go, not proved from fmt's source: count such statements apart). THE CARD IS WHAT COUNTS. Prove the row's statement (the work); the ties are given (YtpjaalloenapbaaDoorTie.lean); close each card by the builder's one call (the guide's Derived/Test/ToyasCard.lean, 'card_holds'). Laid BY PROGRAM, IN A SANDBOX (cutbox-door.mjs). By AI agents, Wed Nov 11 2026. No macro, syntax, notation, axiom, sorry.
-/
import Derived.Test.YtpjaalloenapbaaDoorRows
import GoSem.ClaimSeven
namespace Go.Proofs.YtpjaalloenapbaaDoor
namespace Rows

/-- THE TIED CARD OF 'hammocklaw05.PhaseMatchesReference'. -/
def phaseMatchesReferenceCard : Claim7 := { stood := { row := phaseMatchesReferenceRow, standIns := [], harness := (true, "a5ed30a0823c9bae079f1b3643c3338ca19635244811c9744758626481d2f2d3"), looks := false }, kinds := [], alts := [], laidByText := true, laidKinds := [.data], laidTests := true, laidLooks := .later }
def PhaseMatchesReferenceCardSaid : Prop := Claim7.holds Tryd.pinned (.plain (OpenSpec.ofChange phaseMatchesReferenceSpec)) phaseMatchesReferenceCard

/-- THE TIED CARD OF 'hammocklaw05.PhaseRuns'. -/
def phaseRunsCard : Claim7 := { stood := { row := phaseRunsRow, standIns := [], harness := (true, "a5ed30a0823c9bae079f1b3643c3338ca19635244811c9744758626481d2f2d3"), looks := false }, kinds := [], alts := [], laidByText := true, laidKinds := [.data], laidTests := true, laidLooks := .later }
def PhaseRunsCardSaid : Prop := Claim7.holds Tryd.pinned (.plain (OpenSpec.ofChange phaseRunsSpec)) phaseRunsCard

/-- THE TIED CARD OF 'hammocklaw05.PhaseTells'. -/
def phaseTellsCard : Claim7 := { stood := { row := phaseTellsRow, standIns := [], harness := (true, "a5ed30a0823c9bae079f1b3643c3338ca19635244811c9744758626481d2f2d3"), looks := false }, kinds := [], alts := [], laidByText := true, laidKinds := [.data], laidTests := true, laidLooks := .later }
def PhaseTellsCardSaid : Prop := Claim7.holds Tryd.pinned (.plain (OpenSpec.ofChange phaseTellsSpec)) phaseTellsCard

/-- THE TIED CARD OF 'hammocklaw05.PhaseOnce'. -/
def phaseOnceCard : Claim7 := { stood := { row := phaseOnceRow, standIns := [], harness := (true, "a5ed30a0823c9bae079f1b3643c3338ca19635244811c9744758626481d2f2d3"), looks := false }, kinds := [], alts := [], laidByText := true, laidKinds := [.data], laidTests := true, laidLooks := .later }
def PhaseOnceCardSaid : Prop := Claim7.holds Tryd.pinned (.plain (OpenSpec.ofChange phaseOnceSpec)) phaseOnceCard

/-- THE TIED CARD OF 'hammocklaw05.PhaseReaches'. -/
def phaseReachesCard : Claim7 := { stood := { row := phaseReachesRow, standIns := [], harness := (true, "a5ed30a0823c9bae079f1b3643c3338ca19635244811c9744758626481d2f2d3"), looks := false }, kinds := [], alts := [], laidByText := true, laidKinds := [.data], laidTests := true, laidLooks := .later }
def PhaseReachesCardSaid : Prop := Claim7.holds Tryd.pinned (.plain (OpenSpec.ofChange phaseReachesSpec)) phaseReachesCard

/-- THE SECOND FORM's CARD OF 'hammocklaw05.PhaseMatchesReference'. -/
def phaseMatchesReferenceUptoCard : Claim7 := { stood := { row := phaseMatchesReferenceUptoRow, standIns := [], harness := (true, "a5ed30a0823c9bae079f1b3643c3338ca19635244811c9744758626481d2f2d3"), looks := false }, kinds := [], alts := [], laidByText := true, laidKinds := [.data], laidTests := true, laidLooks := .later }
def PhaseMatchesReferenceUptoCardSaid : Prop := Claim7.holds Tryd.pinned (.plain (OpenSpec.upto phaseMatchesReferenceSpec)) phaseMatchesReferenceUptoCard

/-- THE SECOND FORM's CARD OF 'hammocklaw05.PhaseRuns'. -/
def phaseRunsUptoCard : Claim7 := { stood := { row := phaseRunsUptoRow, standIns := [], harness := (true, "a5ed30a0823c9bae079f1b3643c3338ca19635244811c9744758626481d2f2d3"), looks := false }, kinds := [], alts := [], laidByText := true, laidKinds := [.data], laidTests := true, laidLooks := .later }
def PhaseRunsUptoCardSaid : Prop := Claim7.holds Tryd.pinned (.plain (OpenSpec.upto phaseRunsSpec)) phaseRunsUptoCard

/-- THE SECOND FORM's CARD OF 'hammocklaw05.PhaseTells'. -/
def phaseTellsUptoCard : Claim7 := { stood := { row := phaseTellsUptoRow, standIns := [], harness := (true, "a5ed30a0823c9bae079f1b3643c3338ca19635244811c9744758626481d2f2d3"), looks := false }, kinds := [], alts := [], laidByText := true, laidKinds := [.data], laidTests := true, laidLooks := .later }
def PhaseTellsUptoCardSaid : Prop := Claim7.holds Tryd.pinned (.plain (OpenSpec.upto phaseTellsSpec)) phaseTellsUptoCard

/-- THE SECOND FORM's CARD OF 'hammocklaw05.PhaseOnce'. -/
def phaseOnceUptoCard : Claim7 := { stood := { row := phaseOnceUptoRow, standIns := [], harness := (true, "a5ed30a0823c9bae079f1b3643c3338ca19635244811c9744758626481d2f2d3"), looks := false }, kinds := [], alts := [], laidByText := true, laidKinds := [.data], laidTests := true, laidLooks := .later }
def PhaseOnceUptoCardSaid : Prop := Claim7.holds Tryd.pinned (.plain (OpenSpec.upto phaseOnceSpec)) phaseOnceUptoCard

/-- THE SECOND FORM's CARD OF 'hammocklaw05.PhaseReaches'. -/
def phaseReachesUptoCard : Claim7 := { stood := { row := phaseReachesUptoRow, standIns := [], harness := (true, "a5ed30a0823c9bae079f1b3643c3338ca19635244811c9744758626481d2f2d3"), looks := false }, kinds := [], alts := [], laidByText := true, laidKinds := [.data], laidTests := true, laidLooks := .later }
def PhaseReachesUptoCardSaid : Prop := Claim7.holds Tryd.pinned (.plain (OpenSpec.upto phaseReachesSpec)) phaseReachesUptoCard
end Rows
end Go.Proofs.YtpjaalloenapbaaDoor
