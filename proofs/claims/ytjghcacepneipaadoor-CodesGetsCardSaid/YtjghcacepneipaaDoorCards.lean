/-
  DERIVED. GIVEN WITH THE SEED: THE CARDS: each row of YtjghcacepneipaaDoorRows.lean that lists a variable, with what it lists TIED to the program's text (the seventh form; the later family's looks); each row that meets fmt, with fmt's text TOLD by the authors' own Lean function (tested against real Go, not proved from fmt's source: count such statements apart). THE CARD IS WHAT COUNTS. Prove the row's statement (the work); the ties are given (YtjghcacepneipaaDoorTie.lean); close each card by the builder's one call (the guide's Derived/Test/ToyasCard.lean, 'card_holds'). Laid BY PROGRAM, IN A SANDBOX (cutbox-door.mjs). By AI agents, Wed Nov 11 2026. No macro, syntax, notation, axiom, sorry.
-/
import Derived.Test.YtjghcacepneipaaDoorRows
import GoSem.ClaimSeven
namespace Go.Proofs.YtjghcacepneipaaDoor
namespace Rows

/-- THE TIED CARD OF 'inkwelllaw08.CodesPresses'. -/
def codesPressesCard : Claim7 := { stood := { row := codesPressesRow, standIns := [], harness := (true, "87dfb658c943e6b3931b85f9ff65666f03ca7a517fd9d5292c5a6f66cabb92f5"), looks := true }, kinds := [], alts := [], laidByText := true, laidKinds := [.data], laidTests := true, laidLooks := .later }
def CodesPressesCardSaid : Prop := Claim7.holds Tryd.pinned (.plain (OpenSpec.ofChange codesPressesSpec)) codesPressesCard

/-- THE TIED CARD OF 'inkwelllaw08.CodesPuts'. -/
def codesPutsCard : Claim7 := { stood := { row := codesPutsRow, standIns := [], harness := (true, "87dfb658c943e6b3931b85f9ff65666f03ca7a517fd9d5292c5a6f66cabb92f5"), looks := true }, kinds := [], alts := [], laidByText := true, laidKinds := [.data, .data], laidTests := true, laidLooks := .later }
def CodesPutsCardSaid : Prop := Claim7.holds Tryd.pinned (.plain (OpenSpec.ofChange codesPutsSpec)) codesPutsCard

/-- THE TIED CARD OF 'inkwelllaw08.CodesGets'. -/
def codesGetsCard : Claim7 := { stood := { row := codesGetsRow, standIns := [], harness := (true, "87dfb658c943e6b3931b85f9ff65666f03ca7a517fd9d5292c5a6f66cabb92f5"), looks := true }, kinds := [], alts := [], laidByText := true, laidKinds := [.data, .data], laidTests := true, laidLooks := .later }
def CodesGetsCardSaid : Prop := Claim7.holds Tryd.pinned (.plain (OpenSpec.ofChange codesGetsSpec)) codesGetsCard

/-- THE TIED CARD OF 'inkwelllaw08.CodesBack'. -/
def codesBackCard : Claim7 := { stood := { row := codesBackRow, standIns := [], harness := (true, "87dfb658c943e6b3931b85f9ff65666f03ca7a517fd9d5292c5a6f66cabb92f5"), looks := true }, kinds := [], alts := [], laidByText := true, laidKinds := [.data, .data], laidTests := true, laidLooks := .later }
def CodesBackCardSaid : Prop := Claim7.holds Tryd.pinned (.plain (OpenSpec.ofChange codesBackSpec)) codesBackCard

/-- THE TIED CARD OF 'inkwelllaw08.CodesSays'. -/
def codesSaysCard : Claim7 := { stood := { row := codesSaysRow, standIns := [], harness := (true, "87dfb658c943e6b3931b85f9ff65666f03ca7a517fd9d5292c5a6f66cabb92f5"), looks := true }, kinds := [], alts := [], laidByText := true, laidKinds := [.data], laidTests := true, laidLooks := .later }
def CodesSaysCardSaid : Prop := Claim7.holds Tryd.pinned (.plain (OpenSpec.ofChange codesSaysSpec)) codesSaysCard

/-- THE TIED CARD OF 'inkwelllaw08.CodesFew'. -/
def codesFewCard : Claim7 := { stood := { row := codesFewRow, standIns := [], harness := (true, "87dfb658c943e6b3931b85f9ff65666f03ca7a517fd9d5292c5a6f66cabb92f5"), looks := true }, kinds := [], alts := [], laidByText := true, laidKinds := [.data], laidTests := true, laidLooks := .later }
def CodesFewCardSaid : Prop := Claim7.holds Tryd.pinned (.plain (OpenSpec.ofChange codesFewSpec)) codesFewCard

/-- THE SECOND FORM's CARD OF 'inkwelllaw08.CodesPresses'. -/
def codesPressesUptoCard : Claim7 := { stood := { row := codesPressesUptoRow, standIns := [], harness := (true, "87dfb658c943e6b3931b85f9ff65666f03ca7a517fd9d5292c5a6f66cabb92f5"), looks := true }, kinds := [], alts := [], laidByText := true, laidKinds := [.data], laidTests := true, laidLooks := .later }
def CodesPressesUptoCardSaid : Prop := Claim7.holds Tryd.pinned (.plain (OpenSpec.upto codesPressesSpec)) codesPressesUptoCard

/-- THE SECOND FORM's CARD OF 'inkwelllaw08.CodesPuts'. -/
def codesPutsUptoCard : Claim7 := { stood := { row := codesPutsUptoRow, standIns := [], harness := (true, "87dfb658c943e6b3931b85f9ff65666f03ca7a517fd9d5292c5a6f66cabb92f5"), looks := true }, kinds := [], alts := [], laidByText := true, laidKinds := [.data, .data], laidTests := true, laidLooks := .later }
def CodesPutsUptoCardSaid : Prop := Claim7.holds Tryd.pinned (.plain (OpenSpec.upto codesPutsSpec)) codesPutsUptoCard

/-- THE SECOND FORM's CARD OF 'inkwelllaw08.CodesGets'. -/
def codesGetsUptoCard : Claim7 := { stood := { row := codesGetsUptoRow, standIns := [], harness := (true, "87dfb658c943e6b3931b85f9ff65666f03ca7a517fd9d5292c5a6f66cabb92f5"), looks := true }, kinds := [], alts := [], laidByText := true, laidKinds := [.data, .data], laidTests := true, laidLooks := .later }
def CodesGetsUptoCardSaid : Prop := Claim7.holds Tryd.pinned (.plain (OpenSpec.upto codesGetsSpec)) codesGetsUptoCard

/-- THE SECOND FORM's CARD OF 'inkwelllaw08.CodesBack'. -/
def codesBackUptoCard : Claim7 := { stood := { row := codesBackUptoRow, standIns := [], harness := (true, "87dfb658c943e6b3931b85f9ff65666f03ca7a517fd9d5292c5a6f66cabb92f5"), looks := true }, kinds := [], alts := [], laidByText := true, laidKinds := [.data, .data], laidTests := true, laidLooks := .later }
def CodesBackUptoCardSaid : Prop := Claim7.holds Tryd.pinned (.plain (OpenSpec.upto codesBackSpec)) codesBackUptoCard

/-- THE SECOND FORM's CARD OF 'inkwelllaw08.CodesSays'. -/
def codesSaysUptoCard : Claim7 := { stood := { row := codesSaysUptoRow, standIns := [], harness := (true, "87dfb658c943e6b3931b85f9ff65666f03ca7a517fd9d5292c5a6f66cabb92f5"), looks := true }, kinds := [], alts := [], laidByText := true, laidKinds := [.data], laidTests := true, laidLooks := .later }
def CodesSaysUptoCardSaid : Prop := Claim7.holds Tryd.pinned (.plain (OpenSpec.upto codesSaysSpec)) codesSaysUptoCard

/-- THE SECOND FORM's CARD OF 'inkwelllaw08.CodesFew'. -/
def codesFewUptoCard : Claim7 := { stood := { row := codesFewUptoRow, standIns := [], harness := (true, "87dfb658c943e6b3931b85f9ff65666f03ca7a517fd9d5292c5a6f66cabb92f5"), looks := true }, kinds := [], alts := [], laidByText := true, laidKinds := [.data], laidTests := true, laidLooks := .later }
def CodesFewUptoCardSaid : Prop := Claim7.holds Tryd.pinned (.plain (OpenSpec.upto codesFewSpec)) codesFewUptoCard
end Rows
end Go.Proofs.YtjghcacepneipaaDoor
