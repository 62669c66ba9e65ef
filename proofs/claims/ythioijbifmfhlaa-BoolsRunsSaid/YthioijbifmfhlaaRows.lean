/-
  No cell of these rows narrows 'for every input' (looked for: loops, veiled, ifaces, maps, wideKeys, modest, calm, conditions, laid).
  DERIVED. THE GIVEN ROWS OF THIS SEAT. 3 by the template 'for every input the law returns true; each argument reads behind the call as it read before'; 0 by the template 'total and deterministic' (their statements: YthioijbifmfhlaaTotals.lean).
  GIVEN WITH THE SEED: the statements are not yours to turn. If you find one false, say at which input.
  Laid BY PROGRAM, IN A SANDBOX (cutbox-rows.mjs): the forced cells as the released guide's own fill.sh prints them over the translation 265fb6a1b81e8ba1… (all of the seat's roots in one cut). By AI agents, Wed Nov 11 2026. No macro, syntax, notation, axiom, sorry.
-/
import Derived.Test.YthioijbifmfhlaaChecked
import GoSem.Claim
import GoSem.ClaimJoined
import GoSem.ClaimMapViews
import Derived.JoinedTies
import Derived.KernelRfl
namespace Go.Proofs.Ythioijbifmfhlaa
/- THE CELL 'sum', in the pinned program and in every row, IS THE sha256 OF THE DUMP (.gsa) THAT YthioijbifmfhlaaProg.lean LOADS. Nothing in Lean hashes anything: it is a label: what it is worth is what the hold of that sum in a sandbox is worth. -/
noncomputable def Try.pinned : Pinned := { name := "ythioijbifmfhlaa", sum := "265fb6a1b81e8ba1fb629b52689f2263eca89c755148205f16ede246fed5bb7d", checked := Try.checked }
namespace Rows
def none {H : Type} : Left H := { results := [], args := [] }

/-- 'inkwelllaw13.BoolsBack': WHATEVER THE INPUT: true; the input reads as it did. -/
def boolsBackSpec : ChangeSpec := { name := "boolsBack", fn := fun _ => fun
  | [d] => { results := [.lit (.bool true)], args := [d] }
  | _ => none }
def boolsBackRow : OpenClaim := { program := "ythioijbifmfhlaa", sum := "265fb6a1b81e8ba1fb629b52689f2263eca89c755148205f16ede246fed5bb7d", func := "inkwell/inkwelllaw13.BoolsBack", spec := "boolsBack", apart := false }
def BoolsBackSaid : Prop := boolsBackRow.holds Try.pinned (OpenSpec.ofChange boolsBackSpec)

/-- ITS FALSE NEIGHBOUR: 'it returns false'. Refute it at one input. -/
def boolsBackWrong : ChangeSpec := { name := "boolsBack", fn := fun _ => fun
  | [d] => { results := [.lit (.bool false)], args := [d] }
  | _ => none }
def BoolsBackWrongFalsely : Prop := boolsBackRow.holds Try.pinned (OpenSpec.ofChange boolsBackWrong)

/-- 'inkwelllaw13.BoolsOnce': WHATEVER THE INPUT: true; the input reads as it did. -/
def boolsOnceSpec : ChangeSpec := { name := "boolsOnce", fn := fun _ => fun
  | [d] => { results := [.lit (.bool true)], args := [d] }
  | _ => none }
def boolsOnceRow : OpenClaim := { program := "ythioijbifmfhlaa", sum := "265fb6a1b81e8ba1fb629b52689f2263eca89c755148205f16ede246fed5bb7d", func := "inkwell/inkwelllaw13.BoolsOnce", spec := "boolsOnce", apart := false }
def BoolsOnceSaid : Prop := boolsOnceRow.holds Try.pinned (OpenSpec.ofChange boolsOnceSpec)

/-- ITS FALSE NEIGHBOUR: 'it returns false'. Refute it at one input. -/
def boolsOnceWrong : ChangeSpec := { name := "boolsOnce", fn := fun _ => fun
  | [d] => { results := [.lit (.bool false)], args := [d] }
  | _ => none }
def BoolsOnceWrongFalsely : Prop := boolsOnceRow.holds Try.pinned (OpenSpec.ofChange boolsOnceWrong)

/-- 'inkwelllaw13.BoolsRuns': WHATEVER THE INPUT: true; the input reads as it did. -/
def boolsRunsSpec : ChangeSpec := { name := "boolsRuns", fn := fun _ => fun
  | [d1, d2, d3] => { results := [.lit (.bool true)], args := [d1, d2, d3] }
  | _ => none }
def boolsRunsRow : OpenClaim := { program := "ythioijbifmfhlaa", sum := "265fb6a1b81e8ba1fb629b52689f2263eca89c755148205f16ede246fed5bb7d", func := "inkwell/inkwelllaw13.BoolsRuns", spec := "boolsRuns", apart := false }
def BoolsRunsSaid : Prop := boolsRunsRow.holds Try.pinned (OpenSpec.ofChange boolsRunsSpec)

/-- ITS FALSE NEIGHBOUR: 'it returns false'. Refute it at one input. -/
def boolsRunsWrong : ChangeSpec := { name := "boolsRuns", fn := fun _ => fun
  | [d1, d2, d3] => { results := [.lit (.bool false)], args := [d1, d2, d3] }
  | _ => none }
def BoolsRunsWrongFalsely : Prop := boolsRunsRow.holds Try.pinned (OpenSpec.ofChange boolsRunsWrong)

/- THE SECOND FORM. 'bulk': how many values and letters a reading holds, each counted each time it is reached (what is shared counts as often as it is met; a slice's spare places count too). A statement '..UptoSaid' is the law's where the arguments, and the package variables that the reading takes, are together of bulk at most 1048576: NARROWER than '..Said'. Prove '..Said' where nothing that the law and all that it calls make is longer than what came in: it says more and counts as full. Else prove '..UptoSaid'. A law counts once. -/
mutual
def uptoBulk {H : Type} : DataW H → Nat
  | .lit (.string bytes) => bytes.length + 1
  | .lit _ => 1
  | .nil => 1
  | .ptr d => uptoBulk d + 1
  | .slice elems spare => uptoBulkAll elems + uptoBulkAll spare + 1
  | .agg parts => uptoBulkAll parts + 1
  | .iface _ d => uptoBulk d + 1
  | .map entries => uptoBulkEntries entries + 1
  | .held _ => 1
def uptoBulkAll {H : Type} : List (DataW H) → Nat
  | [] => 0
  | d :: r => uptoBulk d + uptoBulkAll r
def uptoBulkEntries {H : Type} : List (Lit × DataW H) → Nat
  | [] => 0
  | x :: r => uptoBulkEntry x + uptoBulkEntries r
def uptoBulkEntry {H : Type} : Lit × DataW H → Nat
  | (.string bytes, d) => bytes.length + uptoBulk d + 1
  | (_, d) => uptoBulk d + 1
 end
def uptoSmall : (H : Type) → List (DataW H) → Bool := fun _ ds => decide (uptoBulkAll ds ≤ 1048576)
def OpenSpec.upto (s : _root_.Go.ChangeSpec) : _root_.Go.OpenSpec := { _root_.Go.OpenSpec.ofChange s with cond := some uptoSmall }

/-- 'inkwelllaw13.BoolsBack', WHERE WHAT IT READS IS OF BULK AT MOST 1048576: true; the input reads as it did. -/
def boolsBackUptoRow : OpenClaim := { program := "ythioijbifmfhlaa", sum := "265fb6a1b81e8ba1fb629b52689f2263eca89c755148205f16ede246fed5bb7d", func := "inkwell/inkwelllaw13.BoolsBack", spec := "boolsBack", apart := false, narrowed := true }
def BoolsBackUptoSaid : Prop := boolsBackUptoRow.holds Try.pinned (OpenSpec.upto boolsBackSpec)

/-- 'inkwelllaw13.BoolsOnce', WHERE WHAT IT READS IS OF BULK AT MOST 1048576: true; the input reads as it did. -/
def boolsOnceUptoRow : OpenClaim := { program := "ythioijbifmfhlaa", sum := "265fb6a1b81e8ba1fb629b52689f2263eca89c755148205f16ede246fed5bb7d", func := "inkwell/inkwelllaw13.BoolsOnce", spec := "boolsOnce", apart := false, narrowed := true }
def BoolsOnceUptoSaid : Prop := boolsOnceUptoRow.holds Try.pinned (OpenSpec.upto boolsOnceSpec)

/-- 'inkwelllaw13.BoolsRuns', WHERE WHAT IT READS IS OF BULK AT MOST 1048576: true; the input reads as it did. -/
def boolsRunsUptoRow : OpenClaim := { program := "ythioijbifmfhlaa", sum := "265fb6a1b81e8ba1fb629b52689f2263eca89c755148205f16ede246fed5bb7d", func := "inkwell/inkwelllaw13.BoolsRuns", spec := "boolsRuns", apart := false, narrowed := true }
def BoolsRunsUptoSaid : Prop := boolsRunsUptoRow.holds Try.pinned (OpenSpec.upto boolsRunsSpec)

end Rows
end Go.Proofs.Ythioijbifmfhlaa
