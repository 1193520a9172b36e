/-
  DERIVED. GIVEN WITH THE SEED: THE CARDS: each row of YtpehddfnlmkicaaDoorRows.lean that lists a variable, with what it lists TIED to the program's text (the seventh form; the later family's looks); each row that meets fmt, with fmt's text TOLD by the authors' own Lean function (tested against real Go, not proved from fmt's source: count such statements apart). THE CARD IS WHAT COUNTS. Prove the row's statement (the work); the ties are given (YtpehddfnlmkicaaDoorTie.lean); close each card by the builder's one call (the guide's Derived/Test/ToyasCard.lean, 'card_holds'). Laid BY PROGRAM, IN A SANDBOX (cutbox-door.mjs). By AI agents, Wed Nov 11 2026. No macro, syntax, notation, axiom, sorry.
-/
import Derived.Test.YtpehddfnlmkicaaDoorRows
import GoSem.ClaimSeven
namespace Go.Proofs.YtpehddfnlmkicaaDoor
namespace Rows

/-- THE TIED CARD OF 'laws.FnExactBddVar'. -/
def fnExactBddVarCard : Claim7 := { stood := { row := fnExactBddVarRow, standIns := [], harness := (true, "e3da515f6222d09555110f459af374c5a15f7ef8586fd6e6ca15fb0c3cef015e"), looks := false }, kinds := [], alts := [], laidByText := true, laidKinds := [.sentinel], laidTests := true, laidLooks := .later }
def FnExactBddVarCardSaid : Prop := Claim7.holds Tryd.pinned (.plain (OpenSpec.ofChange fnExactBddVarSpec)) fnExactBddVarCard

/-- THE TIED CARD OF 'laws.FnExactBddNot'. -/
def fnExactBddNotCard : Claim7 := { stood := { row := fnExactBddNotRow, standIns := [], harness := (true, "e3da515f6222d09555110f459af374c5a15f7ef8586fd6e6ca15fb0c3cef015e"), looks := false }, kinds := [], alts := [], laidByText := true, laidKinds := [.sentinel], laidTests := true, laidLooks := .later }
def FnExactBddNotCardSaid : Prop := Claim7.holds Tryd.pinned (.plain (OpenSpec.ofChange fnExactBddNotSpec)) fnExactBddNotCard

/-- THE TIED CARD OF 'laws.FnExactBddAnd'. -/
def fnExactBddAndCard : Claim7 := { stood := { row := fnExactBddAndRow, standIns := [], harness := (true, "e3da515f6222d09555110f459af374c5a15f7ef8586fd6e6ca15fb0c3cef015e"), looks := false }, kinds := [], alts := [], laidByText := true, laidKinds := [.sentinel], laidTests := true, laidLooks := .later }
def FnExactBddAndCardSaid : Prop := Claim7.holds Tryd.pinned (.plain (OpenSpec.ofChange fnExactBddAndSpec)) fnExactBddAndCard

/-- THE TIED CARD OF 'laws.FnExactBddOr'. -/
def fnExactBddOrCard : Claim7 := { stood := { row := fnExactBddOrRow, standIns := [], harness := (true, "e3da515f6222d09555110f459af374c5a15f7ef8586fd6e6ca15fb0c3cef015e"), looks := false }, kinds := [], alts := [], laidByText := true, laidKinds := [.sentinel], laidTests := true, laidLooks := .later }
def FnExactBddOrCardSaid : Prop := Claim7.holds Tryd.pinned (.plain (OpenSpec.ofChange fnExactBddOrSpec)) fnExactBddOrCard

/-- THE TIED CARD OF 'laws.FnExactBddXor'. -/
def fnExactBddXorCard : Claim7 := { stood := { row := fnExactBddXorRow, standIns := [], harness := (true, "e3da515f6222d09555110f459af374c5a15f7ef8586fd6e6ca15fb0c3cef015e"), looks := false }, kinds := [], alts := [], laidByText := true, laidKinds := [.sentinel], laidTests := true, laidLooks := .later }
def FnExactBddXorCardSaid : Prop := Claim7.holds Tryd.pinned (.plain (OpenSpec.ofChange fnExactBddXorSpec)) fnExactBddXorCard

/-- THE TIED CARD OF 'laws.FnExactBddIf'. -/
def fnExactBddIfCard : Claim7 := { stood := { row := fnExactBddIfRow, standIns := [], harness := (true, "e3da515f6222d09555110f459af374c5a15f7ef8586fd6e6ca15fb0c3cef015e"), looks := false }, kinds := [], alts := [], laidByText := true, laidKinds := [.sentinel], laidTests := true, laidLooks := .later }
def FnExactBddIfCardSaid : Prop := Claim7.holds Tryd.pinned (.plain (OpenSpec.ofChange fnExactBddIfSpec)) fnExactBddIfCard

/-- THE TIED CARD OF 'laws.FnExactBddFix'. -/
def fnExactBddFixCard : Claim7 := { stood := { row := fnExactBddFixRow, standIns := [], harness := (true, "e3da515f6222d09555110f459af374c5a15f7ef8586fd6e6ca15fb0c3cef015e"), looks := false }, kinds := [], alts := [], laidByText := true, laidKinds := [.sentinel], laidTests := true, laidLooks := .later }
def FnExactBddFixCardSaid : Prop := Claim7.holds Tryd.pinned (.plain (OpenSpec.ofChange fnExactBddFixSpec)) fnExactBddFixCard

/-- THE TIED CARD OF 'laws.FnExactBddSome'. -/
def fnExactBddSomeCard : Claim7 := { stood := { row := fnExactBddSomeRow, standIns := [], harness := (true, "e3da515f6222d09555110f459af374c5a15f7ef8586fd6e6ca15fb0c3cef015e"), looks := false }, kinds := [], alts := [], laidByText := true, laidKinds := [.sentinel], laidTests := true, laidLooks := .later }
def FnExactBddSomeCardSaid : Prop := Claim7.holds Tryd.pinned (.plain (OpenSpec.ofChange fnExactBddSomeSpec)) fnExactBddSomeCard

/-- THE TIED CARD OF 'laws.FnExactBddFrom'. -/
def fnExactBddFromCard : Claim7 := { stood := { row := fnExactBddFromRow, standIns := [], harness := (true, "e3da515f6222d09555110f459af374c5a15f7ef8586fd6e6ca15fb0c3cef015e"), looks := false }, kinds := [], alts := [], laidByText := true, laidKinds := [.sentinel], laidTests := true, laidLooks := .later }
def FnExactBddFromCardSaid : Prop := Claim7.holds Tryd.pinned (.plain (OpenSpec.ofChange fnExactBddFromSpec)) fnExactBddFromCard

/-- THE SECOND FORM's CARD OF 'laws.FnExactBddVar'. -/
def fnExactBddVarUptoCard : Claim7 := { stood := { row := fnExactBddVarUptoRow, standIns := [], harness := (true, "e3da515f6222d09555110f459af374c5a15f7ef8586fd6e6ca15fb0c3cef015e"), looks := false }, kinds := [], alts := [], laidByText := true, laidKinds := [.sentinel], laidTests := true, laidLooks := .later }
def FnExactBddVarUptoCardSaid : Prop := Claim7.holds Tryd.pinned (.plain (OpenSpec.upto fnExactBddVarSpec)) fnExactBddVarUptoCard

/-- THE SECOND FORM's CARD OF 'laws.FnExactBddNot'. -/
def fnExactBddNotUptoCard : Claim7 := { stood := { row := fnExactBddNotUptoRow, standIns := [], harness := (true, "e3da515f6222d09555110f459af374c5a15f7ef8586fd6e6ca15fb0c3cef015e"), looks := false }, kinds := [], alts := [], laidByText := true, laidKinds := [.sentinel], laidTests := true, laidLooks := .later }
def FnExactBddNotUptoCardSaid : Prop := Claim7.holds Tryd.pinned (.plain (OpenSpec.upto fnExactBddNotSpec)) fnExactBddNotUptoCard

/-- THE SECOND FORM's CARD OF 'laws.FnExactBddAnd'. -/
def fnExactBddAndUptoCard : Claim7 := { stood := { row := fnExactBddAndUptoRow, standIns := [], harness := (true, "e3da515f6222d09555110f459af374c5a15f7ef8586fd6e6ca15fb0c3cef015e"), looks := false }, kinds := [], alts := [], laidByText := true, laidKinds := [.sentinel], laidTests := true, laidLooks := .later }
def FnExactBddAndUptoCardSaid : Prop := Claim7.holds Tryd.pinned (.plain (OpenSpec.upto fnExactBddAndSpec)) fnExactBddAndUptoCard

/-- THE SECOND FORM's CARD OF 'laws.FnExactBddOr'. -/
def fnExactBddOrUptoCard : Claim7 := { stood := { row := fnExactBddOrUptoRow, standIns := [], harness := (true, "e3da515f6222d09555110f459af374c5a15f7ef8586fd6e6ca15fb0c3cef015e"), looks := false }, kinds := [], alts := [], laidByText := true, laidKinds := [.sentinel], laidTests := true, laidLooks := .later }
def FnExactBddOrUptoCardSaid : Prop := Claim7.holds Tryd.pinned (.plain (OpenSpec.upto fnExactBddOrSpec)) fnExactBddOrUptoCard

/-- THE SECOND FORM's CARD OF 'laws.FnExactBddXor'. -/
def fnExactBddXorUptoCard : Claim7 := { stood := { row := fnExactBddXorUptoRow, standIns := [], harness := (true, "e3da515f6222d09555110f459af374c5a15f7ef8586fd6e6ca15fb0c3cef015e"), looks := false }, kinds := [], alts := [], laidByText := true, laidKinds := [.sentinel], laidTests := true, laidLooks := .later }
def FnExactBddXorUptoCardSaid : Prop := Claim7.holds Tryd.pinned (.plain (OpenSpec.upto fnExactBddXorSpec)) fnExactBddXorUptoCard

/-- THE SECOND FORM's CARD OF 'laws.FnExactBddIf'. -/
def fnExactBddIfUptoCard : Claim7 := { stood := { row := fnExactBddIfUptoRow, standIns := [], harness := (true, "e3da515f6222d09555110f459af374c5a15f7ef8586fd6e6ca15fb0c3cef015e"), looks := false }, kinds := [], alts := [], laidByText := true, laidKinds := [.sentinel], laidTests := true, laidLooks := .later }
def FnExactBddIfUptoCardSaid : Prop := Claim7.holds Tryd.pinned (.plain (OpenSpec.upto fnExactBddIfSpec)) fnExactBddIfUptoCard

/-- THE SECOND FORM's CARD OF 'laws.FnExactBddFix'. -/
def fnExactBddFixUptoCard : Claim7 := { stood := { row := fnExactBddFixUptoRow, standIns := [], harness := (true, "e3da515f6222d09555110f459af374c5a15f7ef8586fd6e6ca15fb0c3cef015e"), looks := false }, kinds := [], alts := [], laidByText := true, laidKinds := [.sentinel], laidTests := true, laidLooks := .later }
def FnExactBddFixUptoCardSaid : Prop := Claim7.holds Tryd.pinned (.plain (OpenSpec.upto fnExactBddFixSpec)) fnExactBddFixUptoCard

/-- THE SECOND FORM's CARD OF 'laws.FnExactBddSome'. -/
def fnExactBddSomeUptoCard : Claim7 := { stood := { row := fnExactBddSomeUptoRow, standIns := [], harness := (true, "e3da515f6222d09555110f459af374c5a15f7ef8586fd6e6ca15fb0c3cef015e"), looks := false }, kinds := [], alts := [], laidByText := true, laidKinds := [.sentinel], laidTests := true, laidLooks := .later }
def FnExactBddSomeUptoCardSaid : Prop := Claim7.holds Tryd.pinned (.plain (OpenSpec.upto fnExactBddSomeSpec)) fnExactBddSomeUptoCard

/-- THE SECOND FORM's CARD OF 'laws.FnExactBddFrom'. -/
def fnExactBddFromUptoCard : Claim7 := { stood := { row := fnExactBddFromUptoRow, standIns := [], harness := (true, "e3da515f6222d09555110f459af374c5a15f7ef8586fd6e6ca15fb0c3cef015e"), looks := false }, kinds := [], alts := [], laidByText := true, laidKinds := [.sentinel], laidTests := true, laidLooks := .later }
def FnExactBddFromUptoCardSaid : Prop := Claim7.holds Tryd.pinned (.plain (OpenSpec.upto fnExactBddFromSpec)) fnExactBddFromUptoCard
end Rows
end Go.Proofs.YtpehddfnlmkicaaDoor
