/-
  No cell of these rows narrows 'for every input' (looked for: loops, veiled, ifaces, maps, wideKeys, modest, calm, conditions, laid).
  DERIVED. THE GIVEN ROWS OF THIS SEAT. 4 by the template 'for every input the law returns true; each argument reads behind the call as it read before'; 0 by the template 'total and deterministic' (their statements: YtplgefepbmjcdaaTotals.lean).
  GIVEN WITH THE SEED: the statements are not yours to turn. If you find one false, say at which input.
  Laid BY PROGRAM, IN A SANDBOX (cutbox-rows.mjs): the forced cells as the released guide's own fill.sh prints them over the translation a71be3b856d89e16… (all of the seat's roots in one cut). By AI agents, Wed Nov 11 2026. No macro, syntax, notation, axiom, sorry.
-/
import Derived.Test.YtplgefepbmjcdaaChecked
import GoSem.Claim
import GoSem.ClaimJoined
import GoSem.ClaimMapViews
import Derived.JoinedTies
import Derived.KernelRfl
namespace Go.Proofs.Ytplgefepbmjcdaa
/- THE CELL 'sum', in the pinned program and in every row, IS THE sha256 OF THE DUMP (.gsa) THAT YtplgefepbmjcdaaProg.lean LOADS. Nothing in Lean hashes anything: it is a label: what it is worth is what the hold of that sum in a sandbox is worth. -/
noncomputable def Try.pinned : Pinned := { name := "ytplgefepbmjcdaa", sum := "a71be3b856d89e16c5f92cd1703ca7a5eaf443fa9211bc46eed05a01d87fa2d3", checked := Try.checked }
namespace Rows
def none {H : Type} : Left H := { results := [], args := [] }

/-- 'inkwelllaw11.RlePuts': WHATEVER THE INPUT: true; the input reads as it did. -/
def rlePutsSpec : ChangeSpec := { name := "rlePuts", fn := fun _ => fun
  | [d1, d2] => { results := [.lit (.bool true)], args := [d1, d2] }
  | _ => none }
def rlePutsRow : OpenClaim := { program := "ytplgefepbmjcdaa", sum := "a71be3b856d89e16c5f92cd1703ca7a5eaf443fa9211bc46eed05a01d87fa2d3", func := "inkwell/inkwelllaw11.RlePuts", spec := "rlePuts", unfollowed := true, recurses := true, apart := false }
def RlePutsSaid : Prop := rlePutsRow.holds Try.pinned (OpenSpec.ofChange rlePutsSpec)

/-- ITS FALSE NEIGHBOUR: 'it returns false'. Refute it at one input. -/
def rlePutsWrong : ChangeSpec := { name := "rlePuts", fn := fun _ => fun
  | [d1, d2] => { results := [.lit (.bool false)], args := [d1, d2] }
  | _ => none }
def RlePutsWrongFalsely : Prop := rlePutsRow.holds Try.pinned (OpenSpec.ofChange rlePutsWrong)

/-- 'inkwelllaw11.RleBack': WHATEVER THE INPUT: true; the input reads as it did. -/
def rleBackSpec : ChangeSpec := { name := "rleBack", fn := fun _ => fun
  | [d1, d2] => { results := [.lit (.bool true)], args := [d1, d2] }
  | _ => none }
def rleBackRow : OpenClaim := { program := "ytplgefepbmjcdaa", sum := "a71be3b856d89e16c5f92cd1703ca7a5eaf443fa9211bc46eed05a01d87fa2d3", func := "inkwell/inkwelllaw11.RleBack", spec := "rleBack", unfollowed := true, recurses := true, apart := false }
def RleBackSaid : Prop := rleBackRow.holds Try.pinned (OpenSpec.ofChange rleBackSpec)

/-- ITS FALSE NEIGHBOUR: 'it returns false'. Refute it at one input. -/
def rleBackWrong : ChangeSpec := { name := "rleBack", fn := fun _ => fun
  | [d1, d2] => { results := [.lit (.bool false)], args := [d1, d2] }
  | _ => none }
def RleBackWrongFalsely : Prop := rleBackRow.holds Try.pinned (OpenSpec.ofChange rleBackWrong)

/-- 'inkwelllaw11.RleOnce': WHATEVER THE INPUT: true; the input reads as it did. -/
def rleOnceSpec : ChangeSpec := { name := "rleOnce", fn := fun _ => fun
  | [d] => { results := [.lit (.bool true)], args := [d] }
  | _ => none }
def rleOnceRow : OpenClaim := { program := "ytplgefepbmjcdaa", sum := "a71be3b856d89e16c5f92cd1703ca7a5eaf443fa9211bc46eed05a01d87fa2d3", func := "inkwell/inkwelllaw11.RleOnce", spec := "rleOnce", unfollowed := true, recurses := true, apart := false }
def RleOnceSaid : Prop := rleOnceRow.holds Try.pinned (OpenSpec.ofChange rleOnceSpec)

/-- ITS FALSE NEIGHBOUR: 'it returns false'. Refute it at one input. -/
def rleOnceWrong : ChangeSpec := { name := "rleOnce", fn := fun _ => fun
  | [d] => { results := [.lit (.bool false)], args := [d] }
  | _ => none }
def RleOnceWrongFalsely : Prop := rleOnceRow.holds Try.pinned (OpenSpec.ofChange rleOnceWrong)

/-- 'inkwelllaw11.RleSame': WHATEVER THE INPUT: true; the input reads as it did. -/
def rleSameSpec : ChangeSpec := { name := "rleSame", fn := fun _ => fun
  | [d1, d2] => { results := [.lit (.bool true)], args := [d1, d2] }
  | _ => none }
def rleSameRow : OpenClaim := { program := "ytplgefepbmjcdaa", sum := "a71be3b856d89e16c5f92cd1703ca7a5eaf443fa9211bc46eed05a01d87fa2d3", func := "inkwell/inkwelllaw11.RleSame", spec := "rleSame", unfollowed := true, recurses := true, apart := false }
def RleSameSaid : Prop := rleSameRow.holds Try.pinned (OpenSpec.ofChange rleSameSpec)

/-- ITS FALSE NEIGHBOUR: 'it returns false'. Refute it at one input. -/
def rleSameWrong : ChangeSpec := { name := "rleSame", fn := fun _ => fun
  | [d1, d2] => { results := [.lit (.bool false)], args := [d1, d2] }
  | _ => none }
def RleSameWrongFalsely : Prop := rleSameRow.holds Try.pinned (OpenSpec.ofChange rleSameWrong)

/- THE SECOND FORM. 'bulk': how many values and letters a reading holds, each counted each time it is reached (what is shared counts as often as it is met; a slice's spare places count too). A statement '..UptoSaid' is the law's where the arguments, and the package variables that the reading takes, are together of bulk at most 1048576: NARROWER than '..Said'. Prove '..Said' where nothing that the law and all that it calls make is longer than what came in: it says more and counts as full. Else prove '..UptoSaid'. A law counts once. -/
mutual
def uptoBulk {H : Type} : DataW H → Nat
  | .lit (.string bytes) => bytes.length + 1
  | .lit _ => 1
  | .nil => 1
  | .ptr d => uptoBulk d + 1
  | .slice elems spare => uptoBulkAll elems + uptoBulkAll spare + 1
  | .agg parts => uptoBulkAll parts + 1
  | .iface _ d => uptoBulk d + 1
  | .map entries => uptoBulkEntries entries + 1
  | .held _ => 1
def uptoBulkAll {H : Type} : List (DataW H) → Nat
  | [] => 0
  | d :: r => uptoBulk d + uptoBulkAll r
def uptoBulkEntries {H : Type} : List (Lit × DataW H) → Nat
  | [] => 0
  | x :: r => uptoBulkEntry x + uptoBulkEntries r
def uptoBulkEntry {H : Type} : Lit × DataW H → Nat
  | (.string bytes, d) => bytes.length + uptoBulk d + 1
  | (_, d) => uptoBulk d + 1
 end
def uptoSmall : (H : Type) → List (DataW H) → Bool := fun _ ds => decide (uptoBulkAll ds ≤ 1048576)
def OpenSpec.upto (s : _root_.Go.ChangeSpec) : _root_.Go.OpenSpec := { _root_.Go.OpenSpec.ofChange s with cond := some uptoSmall }

/-- 'inkwelllaw11.RlePuts', WHERE WHAT IT READS IS OF BULK AT MOST 1048576: true; the input reads as it did. -/
def rlePutsUptoRow : OpenClaim := { program := "ytplgefepbmjcdaa", sum := "a71be3b856d89e16c5f92cd1703ca7a5eaf443fa9211bc46eed05a01d87fa2d3", func := "inkwell/inkwelllaw11.RlePuts", spec := "rlePuts", unfollowed := true, recurses := true, apart := false, narrowed := true }
def RlePutsUptoSaid : Prop := rlePutsUptoRow.holds Try.pinned (OpenSpec.upto rlePutsSpec)

/-- 'inkwelllaw11.RleBack', WHERE WHAT IT READS IS OF BULK AT MOST 1048576: true; the input reads as it did. -/
def rleBackUptoRow : OpenClaim := { program := "ytplgefepbmjcdaa", sum := "a71be3b856d89e16c5f92cd1703ca7a5eaf443fa9211bc46eed05a01d87fa2d3", func := "inkwell/inkwelllaw11.RleBack", spec := "rleBack", unfollowed := true, recurses := true, apart := false, narrowed := true }
def RleBackUptoSaid : Prop := rleBackUptoRow.holds Try.pinned (OpenSpec.upto rleBackSpec)

/-- 'inkwelllaw11.RleOnce', WHERE WHAT IT READS IS OF BULK AT MOST 1048576: true; the input reads as it did. -/
def rleOnceUptoRow : OpenClaim := { program := "ytplgefepbmjcdaa", sum := "a71be3b856d89e16c5f92cd1703ca7a5eaf443fa9211bc46eed05a01d87fa2d3", func := "inkwell/inkwelllaw11.RleOnce", spec := "rleOnce", unfollowed := true, recurses := true, apart := false, narrowed := true }
def RleOnceUptoSaid : Prop := rleOnceUptoRow.holds Try.pinned (OpenSpec.upto rleOnceSpec)

/-- 'inkwelllaw11.RleSame', WHERE WHAT IT READS IS OF BULK AT MOST 1048576: true; the input reads as it did. -/
def rleSameUptoRow : OpenClaim := { program := "ytplgefepbmjcdaa", sum := "a71be3b856d89e16c5f92cd1703ca7a5eaf443fa9211bc46eed05a01d87fa2d3", func := "inkwell/inkwelllaw11.RleSame", spec := "rleSame", unfollowed := true, recurses := true, apart := false, narrowed := true }
def RleSameUptoSaid : Prop := rleSameUptoRow.holds Try.pinned (OpenSpec.upto rleSameSpec)

end Rows
end Go.Proofs.Ytplgefepbmjcdaa
