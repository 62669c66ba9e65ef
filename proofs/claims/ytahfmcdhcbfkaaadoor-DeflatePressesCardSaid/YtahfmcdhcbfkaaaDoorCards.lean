/-
  DERIVED. GIVEN WITH THE SEED: THE CARDS: each row of YtahfmcdhcbfkaaaDoorRows.lean that lists a variable, with what it lists TIED to the program's text (the seventh form; the later family's looks); each row that meets fmt, with fmt's text TOLD by the authors' own Lean function (tested against real Go, not proved from fmt's source: count such statements apart). THE CARD IS WHAT COUNTS. Prove the row's statement (the work); the ties are given (YtahfmcdhcbfkaaaDoorTie.lean); close each card by the builder's one call (the guide's Derived/Test/ToyasCard.lean, 'card_holds'). Laid BY PROGRAM, IN A SANDBOX (cutbox-door.mjs). By AI agents, Wed Nov 11 2026. No macro, syntax, notation, axiom, sorry.
-/
import Derived.Test.YtahfmcdhcbfkaaaDoorRows
import GoSem.ClaimSeven
namespace Go.Proofs.YtahfmcdhcbfkaaaDoor
namespace Rows

/-- THE TIED CARD OF 'inkwelllaw09.DeflatePresses'. -/
def deflatePressesCard : Claim7 := { stood := { row := deflatePressesRow, standIns := [], harness := (true, "fc89370cc7a1fd11d067d3c0f8f8b5ca9b1517b1107b7cf7c911f32c47851665"), looks := true }, kinds := [], alts := [], laidByText := true, laidKinds := [.data, .data, .data, .data], laidTests := true, laidLooks := .later }
def DeflatePressesCardSaid : Prop := Claim7.holds Tryd.pinned (.plain (OpenSpec.ofChange deflatePressesSpec)) deflatePressesCard

/-- THE TIED CARD OF 'inkwelllaw09.DeflateLess'. -/
def deflateLessCard : Claim7 := { stood := { row := deflateLessRow, standIns := [], harness := (true, "fc89370cc7a1fd11d067d3c0f8f8b5ca9b1517b1107b7cf7c911f32c47851665"), looks := true }, kinds := [], alts := [], laidByText := true, laidKinds := [.data, .data, .data, .data], laidTests := true, laidLooks := .later }
def DeflateLessCardSaid : Prop := Claim7.holds Tryd.pinned (.plain (OpenSpec.ofChange deflateLessSpec)) deflateLessCard

/-- THE TIED CARD OF 'inkwelllaw09.DeflateStores'. -/
def deflateStoresCard : Claim7 := { stood := { row := deflateStoresRow, standIns := [], harness := (true, "fc89370cc7a1fd11d067d3c0f8f8b5ca9b1517b1107b7cf7c911f32c47851665"), looks := true }, kinds := [], alts := [], laidByText := true, laidKinds := [.data, .data, .data, .data], laidTests := true, laidLooks := .later }
def DeflateStoresCardSaid : Prop := Claim7.holds Tryd.pinned (.plain (OpenSpec.ofChange deflateStoresSpec)) deflateStoresCard

/-- THE TIED CARD OF 'inkwelllaw09.DeflateZeros'. -/
def deflateZerosCard : Claim7 := { stood := { row := deflateZerosRow, standIns := [], harness := (true, "fc89370cc7a1fd11d067d3c0f8f8b5ca9b1517b1107b7cf7c911f32c47851665"), looks := true }, kinds := [], alts := [], laidByText := true, laidKinds := [.data, .data, .data, .data], laidTests := true, laidLooks := .later }
def DeflateZerosCardSaid : Prop := Claim7.holds Tryd.pinned (.plain (OpenSpec.ofChange deflateZerosSpec)) deflateZerosCard

/-- THE SECOND FORM's CARD OF 'inkwelllaw09.DeflatePresses'. -/
def deflatePressesUptoCard : Claim7 := { stood := { row := deflatePressesUptoRow, standIns := [], harness := (true, "fc89370cc7a1fd11d067d3c0f8f8b5ca9b1517b1107b7cf7c911f32c47851665"), looks := true }, kinds := [], alts := [], laidByText := true, laidKinds := [.data, .data, .data, .data], laidTests := true, laidLooks := .later }
def DeflatePressesUptoCardSaid : Prop := Claim7.holds Tryd.pinned (.plain (OpenSpec.upto deflatePressesSpec)) deflatePressesUptoCard

/-- THE SECOND FORM's CARD OF 'inkwelllaw09.DeflateLess'. -/
def deflateLessUptoCard : Claim7 := { stood := { row := deflateLessUptoRow, standIns := [], harness := (true, "fc89370cc7a1fd11d067d3c0f8f8b5ca9b1517b1107b7cf7c911f32c47851665"), looks := true }, kinds := [], alts := [], laidByText := true, laidKinds := [.data, .data, .data, .data], laidTests := true, laidLooks := .later }
def DeflateLessUptoCardSaid : Prop := Claim7.holds Tryd.pinned (.plain (OpenSpec.upto deflateLessSpec)) deflateLessUptoCard

/-- THE SECOND FORM's CARD OF 'inkwelllaw09.DeflateStores'. -/
def deflateStoresUptoCard : Claim7 := { stood := { row := deflateStoresUptoRow, standIns := [], harness := (true, "fc89370cc7a1fd11d067d3c0f8f8b5ca9b1517b1107b7cf7c911f32c47851665"), looks := true }, kinds := [], alts := [], laidByText := true, laidKinds := [.data, .data, .data, .data], laidTests := true, laidLooks := .later }
def DeflateStoresUptoCardSaid : Prop := Claim7.holds Tryd.pinned (.plain (OpenSpec.upto deflateStoresSpec)) deflateStoresUptoCard

/-- THE SECOND FORM's CARD OF 'inkwelllaw09.DeflateZeros'. -/
def deflateZerosUptoCard : Claim7 := { stood := { row := deflateZerosUptoRow, standIns := [], harness := (true, "fc89370cc7a1fd11d067d3c0f8f8b5ca9b1517b1107b7cf7c911f32c47851665"), looks := true }, kinds := [], alts := [], laidByText := true, laidKinds := [.data, .data, .data, .data], laidTests := true, laidLooks := .later }
def DeflateZerosUptoCardSaid : Prop := Claim7.holds Tryd.pinned (.plain (OpenSpec.upto deflateZerosSpec)) deflateZerosUptoCard
end Rows
end Go.Proofs.YtahfmcdhcbfkaaaDoor
