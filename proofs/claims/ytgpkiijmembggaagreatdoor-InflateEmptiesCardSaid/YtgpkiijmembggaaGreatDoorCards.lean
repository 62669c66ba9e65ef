/-
  DERIVED. GIVEN WITH THE SEED: THE CARDS: each row of YtgpkiijmembggaaGreatDoorRows.lean that lists a variable, with what it lists TIED to the program's text (the seventh form; the later family's looks); each row that meets fmt, with fmt's text TOLD by the authors' own Lean function (tested against real Go, not proved from fmt's source: count such statements apart). THE CARD IS WHAT COUNTS. Prove the row's statement (the work); the ties are given (YtgpkiijmembggaaGreatDoorTie.lean); close each card by the builder's one call (the guide's Derived/Test/ToyasCard.lean, 'card_holds'). Laid BY PROGRAM, IN A SANDBOX (cutbox-door.mjs). By AI agents, Wed Nov 11 2026. No macro, syntax, notation, axiom, sorry.
-/
import Derived.Test.YtgpkiijmembggaaGreatDoorRows
import GoSem.ClaimSeven
namespace Go.Proofs.YtgpkiijmembggaaGreatDoor
namespace Rows

/-- THE TIED CARD OF 'inkwelllaw10.InflateBack'. -/
def inflateBackCard : Claim7 := { stood := { row := inflateBackRow, standIns := [], harness := (true, "b02948bd67a85a1b6a415bb1b8f30fc93df97f7907d0da474afb660c5aedc97e"), looks := true }, kinds := [], alts := [], laidByText := true, laidKinds := [.data, .data, .data, .data], laidTests := true, laidLooks := .later }
def InflateBackCardSaid : Prop := Claim7.holds Tryz.pinned (.plain (OpenSpec.ofChange inflateBackSpec)) inflateBackCard

/-- THE TIED CARD OF 'inkwelllaw10.InflateCuts'. -/
def inflateCutsCard : Claim7 := { stood := { row := inflateCutsRow, standIns := [], harness := (true, "b02948bd67a85a1b6a415bb1b8f30fc93df97f7907d0da474afb660c5aedc97e"), looks := true }, kinds := [], alts := [], laidByText := true, laidKinds := [.data, .data, .data, .data], laidTests := true, laidLooks := .later }
def InflateCutsCardSaid : Prop := Claim7.holds Tryz.pinned (.plain (OpenSpec.ofChange inflateCutsSpec)) inflateCutsCard

/-- THE TIED CARD OF 'inkwelllaw10.InflateJoins'. -/
def inflateJoinsCard : Claim7 := { stood := { row := inflateJoinsRow, standIns := [], harness := (true, "b02948bd67a85a1b6a415bb1b8f30fc93df97f7907d0da474afb660c5aedc97e"), looks := true }, kinds := [], alts := [], laidByText := true, laidKinds := [.data, .data, .data, .data], laidTests := true, laidLooks := .later }
def InflateJoinsCardSaid : Prop := Claim7.holds Tryz.pinned (.plain (OpenSpec.ofChange inflateJoinsSpec)) inflateJoinsCard

/-- THE TIED CARD OF 'inkwelllaw10.InflateEmpties'. -/
def inflateEmptiesCard : Claim7 := { stood := { row := inflateEmptiesRow, standIns := [], harness := (true, "b02948bd67a85a1b6a415bb1b8f30fc93df97f7907d0da474afb660c5aedc97e"), looks := true }, kinds := [], alts := [], laidByText := true, laidKinds := [.data, .data, .data, .data], laidTests := true, laidLooks := .later }
def InflateEmptiesCardSaid : Prop := Claim7.holds Tryz.pinned (.plain (OpenSpec.ofChange inflateEmptiesSpec)) inflateEmptiesCard

/-- THE SECOND FORM's CARD OF 'inkwelllaw10.InflateBack'. -/
def inflateBackUptoCard : Claim7 := { stood := { row := inflateBackUptoRow, standIns := [], harness := (true, "b02948bd67a85a1b6a415bb1b8f30fc93df97f7907d0da474afb660c5aedc97e"), looks := true }, kinds := [], alts := [], laidByText := true, laidKinds := [.data, .data, .data, .data], laidTests := true, laidLooks := .later }
def InflateBackUptoCardSaid : Prop := Claim7.holds Tryz.pinned (.plain (OpenSpec.upto inflateBackSpec)) inflateBackUptoCard

/-- THE SECOND FORM's CARD OF 'inkwelllaw10.InflateCuts'. -/
def inflateCutsUptoCard : Claim7 := { stood := { row := inflateCutsUptoRow, standIns := [], harness := (true, "b02948bd67a85a1b6a415bb1b8f30fc93df97f7907d0da474afb660c5aedc97e"), looks := true }, kinds := [], alts := [], laidByText := true, laidKinds := [.data, .data, .data, .data], laidTests := true, laidLooks := .later }
def InflateCutsUptoCardSaid : Prop := Claim7.holds Tryz.pinned (.plain (OpenSpec.upto inflateCutsSpec)) inflateCutsUptoCard

/-- THE SECOND FORM's CARD OF 'inkwelllaw10.InflateJoins'. -/
def inflateJoinsUptoCard : Claim7 := { stood := { row := inflateJoinsUptoRow, standIns := [], harness := (true, "b02948bd67a85a1b6a415bb1b8f30fc93df97f7907d0da474afb660c5aedc97e"), looks := true }, kinds := [], alts := [], laidByText := true, laidKinds := [.data, .data, .data, .data], laidTests := true, laidLooks := .later }
def InflateJoinsUptoCardSaid : Prop := Claim7.holds Tryz.pinned (.plain (OpenSpec.upto inflateJoinsSpec)) inflateJoinsUptoCard

/-- THE SECOND FORM's CARD OF 'inkwelllaw10.InflateEmpties'. -/
def inflateEmptiesUptoCard : Claim7 := { stood := { row := inflateEmptiesUptoRow, standIns := [], harness := (true, "b02948bd67a85a1b6a415bb1b8f30fc93df97f7907d0da474afb660c5aedc97e"), looks := true }, kinds := [], alts := [], laidByText := true, laidKinds := [.data, .data, .data, .data], laidTests := true, laidLooks := .later }
def InflateEmptiesUptoCardSaid : Prop := Claim7.holds Tryz.pinned (.plain (OpenSpec.upto inflateEmptiesSpec)) inflateEmptiesUptoCard
end Rows
end Go.Proofs.YtgpkiijmembggaaGreatDoor
