/-
  DERIVED. GIVEN WITH THE SEED: THE CARDS: each row of YtahfmcdhcbfkaaaGreatDoorRows.lean that lists a variable, with what it lists TIED to the program's text (the seventh form; the later family's looks); each row that meets fmt, with fmt's text TOLD by the authors' own Lean function (tested against real Go, not proved from fmt's source: count such statements apart). THE CARD IS WHAT COUNTS. Prove the row's statement (the work); the ties are given (YtahfmcdhcbfkaaaGreatDoorTie.lean); close each card by the builder's one call (the guide's Derived/Test/ToyasCard.lean, 'card_holds'). Laid BY PROGRAM, IN A SANDBOX (cutbox-door.mjs). By AI agents, Wed Nov 11 2026. No macro, syntax, notation, axiom, sorry.
-/
import Derived.Test.YtahfmcdhcbfkaaaGreatDoorRows
import GoSem.ClaimSeven
namespace Go.Proofs.YtahfmcdhcbfkaaaGreatDoor
namespace Rows

/-- THE TIED CARD OF 'inkwelllaw09.DeflateWays'. -/
def deflateWaysCard : Claim7 := { stood := { row := deflateWaysRow, standIns := [], harness := (true, "8ebb6f225839ff2e17af7000563c710170c3e591429219d6619a8e3de425db59"), looks := true }, kinds := [], alts := [], laidByText := true, laidKinds := [.data, .data, .data, .data], laidTests := true, laidLooks := .later }
def DeflateWaysCardSaid : Prop := Claim7.holds Tryz.pinned (.plain (OpenSpec.ofChange deflateWaysSpec)) deflateWaysCard

/-- THE SECOND FORM's CARD OF 'inkwelllaw09.DeflateWays'. -/
def deflateWaysUptoCard : Claim7 := { stood := { row := deflateWaysUptoRow, standIns := [], harness := (true, "8ebb6f225839ff2e17af7000563c710170c3e591429219d6619a8e3de425db59"), looks := true }, kinds := [], alts := [], laidByText := true, laidKinds := [.data, .data, .data, .data], laidTests := true, laidLooks := .later }
def DeflateWaysUptoCardSaid : Prop := Claim7.holds Tryz.pinned (.plain (OpenSpec.upto deflateWaysSpec)) deflateWaysUptoCard
end Rows
end Go.Proofs.YtahfmcdhcbfkaaaGreatDoor
