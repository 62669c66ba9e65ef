/-
  DERIVED. GIVEN WITH THE SEED: THE CARDS: each row of YtamcgenjlndfjaaDoorRows.lean that lists a variable, with what it lists TIED to the program's text (the seventh form; the later family's looks); each row that meets fmt, with fmt's text TOLD by the authors' own Lean function (tested against real Go, not proved from fmt's source: count such statements apart). THE CARD IS WHAT COUNTS. Prove the row's statement (the work); the ties are given (YtamcgenjlndfjaaDoorTie.lean); close each card by the builder's one call (the guide's Derived/Test/ToyasCard.lean, 'card_holds'). Laid BY PROGRAM, IN A SANDBOX (cutbox-door.mjs). By AI agents, Wed Nov 11 2026. No macro, syntax, notation, axiom, sorry.
-/
import Derived.Test.YtamcgenjlndfjaaDoorRows
import GoSem.ClaimSeven
namespace Go.Proofs.YtamcgenjlndfjaaDoor
namespace Rows

/-- THE TIED CARD OF 'inkwelllaw07.SymsTells'. -/
def symsTellsCard : Claim7 := { stood := { row := symsTellsRow, standIns := [], harness := (true, "058d041232423e40e0740c1c412df20d8f6638c7484a88c1f63e0e6e5ae1e9ba"), looks := false }, kinds := [], alts := [], laidByText := true, laidKinds := [.data, .data], laidTests := true, laidLooks := .later }
def SymsTellsCardSaid : Prop := Claim7.holds Tryd.pinned (.plain (OpenSpec.ofChange symsTellsSpec)) symsTellsCard

/-- THE TIED CARD OF 'inkwelllaw07.SymsOf'. -/
def symsOfCard : Claim7 := { stood := { row := symsOfRow, standIns := [], harness := (true, "058d041232423e40e0740c1c412df20d8f6638c7484a88c1f63e0e6e5ae1e9ba"), looks := false }, kinds := [], alts := [], laidByText := true, laidKinds := [.data, .data], laidTests := true, laidLooks := .later }
def SymsOfCardSaid : Prop := Claim7.holds Tryd.pinned (.plain (OpenSpec.ofChange symsOfSpec)) symsOfCard

/-- THE TIED CARD OF 'inkwelllaw07.SymsBack'. -/
def symsBackCard : Claim7 := { stood := { row := symsBackRow, standIns := [], harness := (true, "058d041232423e40e0740c1c412df20d8f6638c7484a88c1f63e0e6e5ae1e9ba"), looks := false }, kinds := [], alts := [], laidByText := true, laidKinds := [.data, .data], laidTests := true, laidLooks := .later }
def SymsBackCardSaid : Prop := Claim7.holds Tryd.pinned (.plain (OpenSpec.ofChange symsBackSpec)) symsBackCard

/-- THE TIED CARD OF 'inkwelllaw07.SymsWeighs'. -/
def symsWeighsCard : Claim7 := { stood := { row := symsWeighsRow, standIns := [], harness := (true, "058d041232423e40e0740c1c412df20d8f6638c7484a88c1f63e0e6e5ae1e9ba"), looks := false }, kinds := [], alts := [], laidByText := true, laidKinds := [.data, .data], laidTests := true, laidLooks := .later }
def SymsWeighsCardSaid : Prop := Claim7.holds Tryd.pinned (.plain (OpenSpec.ofChange symsWeighsSpec)) symsWeighsCard

/-- THE TIED CARD OF 'inkwelllaw07.SymsFixed'. -/
def symsFixedCard : Claim7 := { stood := { row := symsFixedRow, standIns := [], harness := (true, "058d041232423e40e0740c1c412df20d8f6638c7484a88c1f63e0e6e5ae1e9ba"), looks := false }, kinds := [], alts := [], laidByText := true, laidKinds := [.data, .data], laidTests := true, laidLooks := .later }
def SymsFixedCardSaid : Prop := Claim7.holds Tryd.pinned (.plain (OpenSpec.ofChange symsFixedSpec)) symsFixedCard

/-- THE TIED CARD OF 'inkwelllaw07.SymsRise'. -/
def symsRiseCard : Claim7 := { stood := { row := symsRiseRow, standIns := [], harness := (true, "058d041232423e40e0740c1c412df20d8f6638c7484a88c1f63e0e6e5ae1e9ba"), looks := false }, kinds := [], alts := [], laidByText := true, laidKinds := [.data, .data], laidTests := true, laidLooks := .later }
def SymsRiseCardSaid : Prop := Claim7.holds Tryd.pinned (.plain (OpenSpec.ofChange symsRiseSpec)) symsRiseCard

/-- THE SECOND FORM's CARD OF 'inkwelllaw07.SymsTells'. -/
def symsTellsUptoCard : Claim7 := { stood := { row := symsTellsUptoRow, standIns := [], harness := (true, "058d041232423e40e0740c1c412df20d8f6638c7484a88c1f63e0e6e5ae1e9ba"), looks := false }, kinds := [], alts := [], laidByText := true, laidKinds := [.data, .data], laidTests := true, laidLooks := .later }
def SymsTellsUptoCardSaid : Prop := Claim7.holds Tryd.pinned (.plain (OpenSpec.upto symsTellsSpec)) symsTellsUptoCard

/-- THE SECOND FORM's CARD OF 'inkwelllaw07.SymsOf'. -/
def symsOfUptoCard : Claim7 := { stood := { row := symsOfUptoRow, standIns := [], harness := (true, "058d041232423e40e0740c1c412df20d8f6638c7484a88c1f63e0e6e5ae1e9ba"), looks := false }, kinds := [], alts := [], laidByText := true, laidKinds := [.data, .data], laidTests := true, laidLooks := .later }
def SymsOfUptoCardSaid : Prop := Claim7.holds Tryd.pinned (.plain (OpenSpec.upto symsOfSpec)) symsOfUptoCard

/-- THE SECOND FORM's CARD OF 'inkwelllaw07.SymsBack'. -/
def symsBackUptoCard : Claim7 := { stood := { row := symsBackUptoRow, standIns := [], harness := (true, "058d041232423e40e0740c1c412df20d8f6638c7484a88c1f63e0e6e5ae1e9ba"), looks := false }, kinds := [], alts := [], laidByText := true, laidKinds := [.data, .data], laidTests := true, laidLooks := .later }
def SymsBackUptoCardSaid : Prop := Claim7.holds Tryd.pinned (.plain (OpenSpec.upto symsBackSpec)) symsBackUptoCard

/-- THE SECOND FORM's CARD OF 'inkwelllaw07.SymsWeighs'. -/
def symsWeighsUptoCard : Claim7 := { stood := { row := symsWeighsUptoRow, standIns := [], harness := (true, "058d041232423e40e0740c1c412df20d8f6638c7484a88c1f63e0e6e5ae1e9ba"), looks := false }, kinds := [], alts := [], laidByText := true, laidKinds := [.data, .data], laidTests := true, laidLooks := .later }
def SymsWeighsUptoCardSaid : Prop := Claim7.holds Tryd.pinned (.plain (OpenSpec.upto symsWeighsSpec)) symsWeighsUptoCard

/-- THE SECOND FORM's CARD OF 'inkwelllaw07.SymsFixed'. -/
def symsFixedUptoCard : Claim7 := { stood := { row := symsFixedUptoRow, standIns := [], harness := (true, "058d041232423e40e0740c1c412df20d8f6638c7484a88c1f63e0e6e5ae1e9ba"), looks := false }, kinds := [], alts := [], laidByText := true, laidKinds := [.data, .data], laidTests := true, laidLooks := .later }
def SymsFixedUptoCardSaid : Prop := Claim7.holds Tryd.pinned (.plain (OpenSpec.upto symsFixedSpec)) symsFixedUptoCard

/-- THE SECOND FORM's CARD OF 'inkwelllaw07.SymsRise'. -/
def symsRiseUptoCard : Claim7 := { stood := { row := symsRiseUptoRow, standIns := [], harness := (true, "058d041232423e40e0740c1c412df20d8f6638c7484a88c1f63e0e6e5ae1e9ba"), looks := false }, kinds := [], alts := [], laidByText := true, laidKinds := [.data, .data], laidTests := true, laidLooks := .later }
def SymsRiseUptoCardSaid : Prop := Claim7.holds Tryd.pinned (.plain (OpenSpec.upto symsRiseSpec)) symsRiseUptoCard
end Rows
end Go.Proofs.YtamcgenjlndfjaaDoor
