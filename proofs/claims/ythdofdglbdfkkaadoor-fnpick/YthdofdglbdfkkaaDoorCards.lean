/-
  DERIVED. GIVEN WITH THE SEED: THE CARDS: each row of YthdofdglbdfkkaaDoorRows.lean that lists a variable, with what it lists TIED to the program's text (the seventh form; the later family's looks); each row that meets fmt, with fmt's text TOLD by the authors' own Lean function (tested against real Go, not proved from fmt's source: count such statements apart). THE CARD IS WHAT COUNTS. Prove the row's statement (the work); the ties are given (YthdofdglbdfkkaaDoorTie.lean); close each card by the builder's one call (the guide's Derived/Test/ToyasCard.lean, 'card_holds'). Laid BY PROGRAM, IN A SANDBOX (cutbox-door.mjs). By AI agents, Wed Nov 11 2026. No macro, syntax, notation, axiom, sorry.
-/
import Derived.Test.YthdofdglbdfkkaaDoorRows
import GoSem.ClaimSeven
namespace Go.Proofs.YthdofdglbdfkkaaDoor
namespace Rows

/-- THE TIED CARD OF 'laws.FnPick'. -/
def fnPickCard : Claim7 := { stood := { row := fnPickRow, standIns := [], harness := (true, "5cada09df90e894d10601b487e5d09cb6fa99d9ca6fd56e272e7d1b49615bd47"), looks := false }, kinds := [], alts := [], laidByText := true, laidKinds := [.sentinel], laidTests := true, laidLooks := .later }
def FnPickCardSaid : Prop := Claim7.holds Tryd.pinned (.plain (OpenSpec.ofChange fnPickSpec)) fnPickCard

/-- THE TIED CARD OF 'laws.FnQuantify'. -/
def fnQuantifyCard : Claim7 := { stood := { row := fnQuantifyRow, standIns := [], harness := (true, "5cada09df90e894d10601b487e5d09cb6fa99d9ca6fd56e272e7d1b49615bd47"), looks := false }, kinds := [], alts := [], laidByText := true, laidKinds := [.sentinel], laidTests := true, laidLooks := .later }
def FnQuantifyCardSaid : Prop := Claim7.holds Tryd.pinned (.plain (OpenSpec.ofChange fnQuantifySpec)) fnQuantifyCard

/-- THE TIED CARD OF 'laws.FnNumbers'. -/
def fnNumbersCard : Claim7 := { stood := { row := fnNumbersRow, standIns := [], harness := (true, "5cada09df90e894d10601b487e5d09cb6fa99d9ca6fd56e272e7d1b49615bd47"), looks := false }, kinds := [], alts := [], laidByText := true, laidKinds := [.sentinel], laidTests := true, laidLooks := .later }
def FnNumbersCardSaid : Prop := Claim7.holds Tryd.pinned (.plain (OpenSpec.ofChange fnNumbersSpec)) fnNumbersCard

/-- THE TIED CARD OF 'laws.FnDiagrams'. -/
def fnDiagramsCard : Claim7 := { stood := { row := fnDiagramsRow, standIns := [], harness := (true, "5cada09df90e894d10601b487e5d09cb6fa99d9ca6fd56e272e7d1b49615bd47"), looks := false }, kinds := [], alts := [], laidByText := true, laidKinds := [.sentinel], laidTests := true, laidLooks := .later }
def FnDiagramsCardSaid : Prop := Claim7.holds Tryd.pinned (.plain (OpenSpec.ofChange fnDiagramsSpec)) fnDiagramsCard

/-- THE SECOND FORM's CARD OF 'laws.FnPick'. -/
def fnPickUptoCard : Claim7 := { stood := { row := fnPickUptoRow, standIns := [], harness := (true, "5cada09df90e894d10601b487e5d09cb6fa99d9ca6fd56e272e7d1b49615bd47"), looks := false }, kinds := [], alts := [], laidByText := true, laidKinds := [.sentinel], laidTests := true, laidLooks := .later }
def FnPickUptoCardSaid : Prop := Claim7.holds Tryd.pinned (.plain (OpenSpec.upto fnPickSpec)) fnPickUptoCard

/-- THE SECOND FORM's CARD OF 'laws.FnQuantify'. -/
def fnQuantifyUptoCard : Claim7 := { stood := { row := fnQuantifyUptoRow, standIns := [], harness := (true, "5cada09df90e894d10601b487e5d09cb6fa99d9ca6fd56e272e7d1b49615bd47"), looks := false }, kinds := [], alts := [], laidByText := true, laidKinds := [.sentinel], laidTests := true, laidLooks := .later }
def FnQuantifyUptoCardSaid : Prop := Claim7.holds Tryd.pinned (.plain (OpenSpec.upto fnQuantifySpec)) fnQuantifyUptoCard

/-- THE SECOND FORM's CARD OF 'laws.FnNumbers'. -/
def fnNumbersUptoCard : Claim7 := { stood := { row := fnNumbersUptoRow, standIns := [], harness := (true, "5cada09df90e894d10601b487e5d09cb6fa99d9ca6fd56e272e7d1b49615bd47"), looks := false }, kinds := [], alts := [], laidByText := true, laidKinds := [.sentinel], laidTests := true, laidLooks := .later }
def FnNumbersUptoCardSaid : Prop := Claim7.holds Tryd.pinned (.plain (OpenSpec.upto fnNumbersSpec)) fnNumbersUptoCard

/-- THE SECOND FORM's CARD OF 'laws.FnDiagrams'. -/
def fnDiagramsUptoCard : Claim7 := { stood := { row := fnDiagramsUptoRow, standIns := [], harness := (true, "5cada09df90e894d10601b487e5d09cb6fa99d9ca6fd56e272e7d1b49615bd47"), looks := false }, kinds := [], alts := [], laidByText := true, laidKinds := [.sentinel], laidTests := true, laidLooks := .later }
def FnDiagramsUptoCardSaid : Prop := Claim7.holds Tryd.pinned (.plain (OpenSpec.upto fnDiagramsSpec)) fnDiagramsUptoCard
end Rows
end Go.Proofs.YthdofdglbdfkkaaDoor
