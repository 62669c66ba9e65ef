/-
  No cell of these rows narrows 'for every input' (looked for: loops, veiled, ifaces, maps, wideKeys, modest, calm, conditions, laid).
  DERIVED. THE GIVEN ROWS OF THIS SEAT. 6 by the template 'for every input the law returns true; each argument reads behind the call as it read before'; 0 by the template 'total and deterministic' (their statements: YtmiofhoojahpjaaTotals.lean).
  GIVEN WITH THE SEED: the statements are not yours to turn. If you find one false, say at which input.
  Laid BY PROGRAM, IN A SANDBOX (cutbox-rows.mjs): the forced cells as the released guide's own fill.sh prints them over the translation dfef8acb3e93fe9a… (all of the seat's roots in one cut). By AI agents, Wed Nov 11 2026. No macro, syntax, notation, axiom, sorry.
-/
import Derived.Test.YtmiofhoojahpjaaChecked
import GoSem.Claim
import GoSem.ClaimJoined
import GoSem.ClaimMapViews
import Derived.JoinedTies
import Derived.KernelRfl
namespace Go.Proofs.Ytmiofhoojahpjaa
/- THE CELL 'sum', in the pinned program and in every row, IS THE sha256 OF THE DUMP (.gsa) THAT YtmiofhoojahpjaaProg.lean LOADS. Nothing in Lean hashes anything: it is a label: what it is worth is what the hold of that sum in a sandbox is worth. -/
noncomputable def Try.pinned : Pinned := { name := "ytmiofhoojahpjaa", sum := "dfef8acb3e93fe9a640fc55b54dcc403631ea4f117fc20b712632b8c8200830a", checked := Try.checked }
namespace Rows
def none {H : Type} : Left H := { results := [], args := [] }

/-- 'inkwelllaw17.OpRights': WHATEVER THE INPUT: true; the input reads as it did. -/
def opRightsSpec : ChangeSpec := { name := "opRights", fn := fun _ => fun
  | [d] => { results := [.lit (.bool true)], args := [d] }
  | _ => none }
def opRightsRow : OpenClaim := { program := "ytmiofhoojahpjaa", sum := "dfef8acb3e93fe9a640fc55b54dcc403631ea4f117fc20b712632b8c8200830a", func := "inkwell/inkwelllaw17.OpRights", spec := "opRights", unfollowed := true, recurses := true, apart := false }
def OpRightsSaid : Prop := opRightsRow.holds Try.pinned (OpenSpec.ofChange opRightsSpec)

/-- ITS FALSE NEIGHBOUR: 'it returns false'. Refute it at one input. -/
def opRightsWrong : ChangeSpec := { name := "opRights", fn := fun _ => fun
  | [d] => { results := [.lit (.bool false)], args := [d] }
  | _ => none }
def OpRightsWrongFalsely : Prop := opRightsRow.holds Try.pinned (OpenSpec.ofChange opRightsWrong)

/-- 'inkwelllaw17.OpIds': WHATEVER THE INPUT: true; the input reads as it did. -/
def opIdsSpec : ChangeSpec := { name := "opIds", fn := fun _ => fun
  | [d1, d2, d3] => { results := [.lit (.bool true)], args := [d1, d2, d3] }
  | _ => none }
def opIdsRow : OpenClaim := { program := "ytmiofhoojahpjaa", sum := "dfef8acb3e93fe9a640fc55b54dcc403631ea4f117fc20b712632b8c8200830a", func := "inkwell/inkwelllaw17.OpIds", spec := "opIds", unfollowed := true, recurses := true, apart := false }
def OpIdsSaid : Prop := opIdsRow.holds Try.pinned (OpenSpec.ofChange opIdsSpec)

/-- ITS FALSE NEIGHBOUR: 'it returns false'. Refute it at one input. -/
def opIdsWrong : ChangeSpec := { name := "opIds", fn := fun _ => fun
  | [d1, d2, d3] => { results := [.lit (.bool false)], args := [d1, d2, d3] }
  | _ => none }
def OpIdsWrongFalsely : Prop := opIdsRow.holds Try.pinned (OpenSpec.ofChange opIdsWrong)

/-- 'inkwelllaw17.OpOrder': WHATEVER THE INPUT: true; the input reads as it did. -/
def opOrderSpec : ChangeSpec := { name := "opOrder", fn := fun _ => fun
  | [d1, d2, d3] => { results := [.lit (.bool true)], args := [d1, d2, d3] }
  | _ => none }
def opOrderRow : OpenClaim := { program := "ytmiofhoojahpjaa", sum := "dfef8acb3e93fe9a640fc55b54dcc403631ea4f117fc20b712632b8c8200830a", func := "inkwell/inkwelllaw17.OpOrder", spec := "opOrder", unfollowed := true, recurses := true, apart := false }
def OpOrderSaid : Prop := opOrderRow.holds Try.pinned (OpenSpec.ofChange opOrderSpec)

/-- ITS FALSE NEIGHBOUR: 'it returns false'. Refute it at one input. -/
def opOrderWrong : ChangeSpec := { name := "opOrder", fn := fun _ => fun
  | [d1, d2, d3] => { results := [.lit (.bool false)], args := [d1, d2, d3] }
  | _ => none }
def OpOrderWrongFalsely : Prop := opOrderRow.holds Try.pinned (OpenSpec.ofChange opOrderWrong)

/-- 'inkwelllaw17.OpNames': WHATEVER THE INPUT: true; the input reads as it did. -/
def opNamesSpec : ChangeSpec := { name := "opNames", fn := fun _ => fun
  | [d1, d2, d3] => { results := [.lit (.bool true)], args := [d1, d2, d3] }
  | _ => none }
def opNamesRow : OpenClaim := { program := "ytmiofhoojahpjaa", sum := "dfef8acb3e93fe9a640fc55b54dcc403631ea4f117fc20b712632b8c8200830a", func := "inkwell/inkwelllaw17.OpNames", spec := "opNames", unfollowed := true, recurses := true, apart := false }
def OpNamesSaid : Prop := opNamesRow.holds Try.pinned (OpenSpec.ofChange opNamesSpec)

/-- ITS FALSE NEIGHBOUR: 'it returns false'. Refute it at one input. -/
def opNamesWrong : ChangeSpec := { name := "opNames", fn := fun _ => fun
  | [d1, d2, d3] => { results := [.lit (.bool false)], args := [d1, d2, d3] }
  | _ => none }
def OpNamesWrongFalsely : Prop := opNamesRow.holds Try.pinned (OpenSpec.ofChange opNamesWrong)

/-- 'inkwelllaw17.OpCopies': WHATEVER THE INPUT: true; the input reads as it did. -/
def opCopiesSpec : ChangeSpec := { name := "opCopies", fn := fun _ => fun
  | [d] => { results := [.lit (.bool true)], args := [d] }
  | _ => none }
def opCopiesRow : OpenClaim := { program := "ytmiofhoojahpjaa", sum := "dfef8acb3e93fe9a640fc55b54dcc403631ea4f117fc20b712632b8c8200830a", func := "inkwell/inkwelllaw17.OpCopies", spec := "opCopies", unfollowed := true, recurses := true, apart := false }
def OpCopiesSaid : Prop := opCopiesRow.holds Try.pinned (OpenSpec.ofChange opCopiesSpec)

/-- ITS FALSE NEIGHBOUR: 'it returns false'. Refute it at one input. -/
def opCopiesWrong : ChangeSpec := { name := "opCopies", fn := fun _ => fun
  | [d] => { results := [.lit (.bool false)], args := [d] }
  | _ => none }
def OpCopiesWrongFalsely : Prop := opCopiesRow.holds Try.pinned (OpenSpec.ofChange opCopiesWrong)

/-- 'inkwelllaw17.OpFewer': WHATEVER THE INPUT: true; the input reads as it did. -/
def opFewerSpec : ChangeSpec := { name := "opFewer", fn := fun _ => fun
  | [d1, d2, d3] => { results := [.lit (.bool true)], args := [d1, d2, d3] }
  | _ => none }
def opFewerRow : OpenClaim := { program := "ytmiofhoojahpjaa", sum := "dfef8acb3e93fe9a640fc55b54dcc403631ea4f117fc20b712632b8c8200830a", func := "inkwell/inkwelllaw17.OpFewer", spec := "opFewer", unfollowed := true, recurses := true, apart := false }
def OpFewerSaid : Prop := opFewerRow.holds Try.pinned (OpenSpec.ofChange opFewerSpec)

/-- ITS FALSE NEIGHBOUR: 'it returns false'. Refute it at one input. -/
def opFewerWrong : ChangeSpec := { name := "opFewer", fn := fun _ => fun
  | [d1, d2, d3] => { results := [.lit (.bool false)], args := [d1, d2, d3] }
  | _ => none }
def OpFewerWrongFalsely : Prop := opFewerRow.holds Try.pinned (OpenSpec.ofChange opFewerWrong)

/- THE SECOND FORM. 'bulk': how many values and letters a reading holds, each counted each time it is reached (what is shared counts as often as it is met; a slice's spare places count too). A statement '..UptoSaid' is the law's where the arguments, and the package variables that the reading takes, are together of bulk at most 1048576: NARROWER than '..Said'. Prove '..Said' where nothing that the law and all that it calls make is longer than what came in: it says more and counts as full. Else prove '..UptoSaid'. A law counts once. -/
mutual
def uptoBulk {H : Type} : DataW H → Nat
  | .lit (.string bytes) => bytes.length + 1
  | .lit _ => 1
  | .nil => 1
  | .ptr d => uptoBulk d + 1
  | .slice elems spare => uptoBulkAll elems + uptoBulkAll spare + 1
  | .agg parts => uptoBulkAll parts + 1
  | .iface _ d => uptoBulk d + 1
  | .map entries => uptoBulkEntries entries + 1
  | .held _ => 1
def uptoBulkAll {H : Type} : List (DataW H) → Nat
  | [] => 0
  | d :: r => uptoBulk d + uptoBulkAll r
def uptoBulkEntries {H : Type} : List (Lit × DataW H) → Nat
  | [] => 0
  | x :: r => uptoBulkEntry x + uptoBulkEntries r
def uptoBulkEntry {H : Type} : Lit × DataW H → Nat
  | (.string bytes, d) => bytes.length + uptoBulk d + 1
  | (_, d) => uptoBulk d + 1
 end
def uptoSmall : (H : Type) → List (DataW H) → Bool := fun _ ds => decide (uptoBulkAll ds ≤ 1048576)
def OpenSpec.upto (s : _root_.Go.ChangeSpec) : _root_.Go.OpenSpec := { _root_.Go.OpenSpec.ofChange s with cond := some uptoSmall }

/-- 'inkwelllaw17.OpRights', WHERE WHAT IT READS IS OF BULK AT MOST 1048576: true; the input reads as it did. -/
def opRightsUptoRow : OpenClaim := { program := "ytmiofhoojahpjaa", sum := "dfef8acb3e93fe9a640fc55b54dcc403631ea4f117fc20b712632b8c8200830a", func := "inkwell/inkwelllaw17.OpRights", spec := "opRights", unfollowed := true, recurses := true, apart := false, narrowed := true }
def OpRightsUptoSaid : Prop := opRightsUptoRow.holds Try.pinned (OpenSpec.upto opRightsSpec)

/-- 'inkwelllaw17.OpIds', WHERE WHAT IT READS IS OF BULK AT MOST 1048576: true; the input reads as it did. -/
def opIdsUptoRow : OpenClaim := { program := "ytmiofhoojahpjaa", sum := "dfef8acb3e93fe9a640fc55b54dcc403631ea4f117fc20b712632b8c8200830a", func := "inkwell/inkwelllaw17.OpIds", spec := "opIds", unfollowed := true, recurses := true, apart := false, narrowed := true }
def OpIdsUptoSaid : Prop := opIdsUptoRow.holds Try.pinned (OpenSpec.upto opIdsSpec)

/-- 'inkwelllaw17.OpOrder', WHERE WHAT IT READS IS OF BULK AT MOST 1048576: true; the input reads as it did. -/
def opOrderUptoRow : OpenClaim := { program := "ytmiofhoojahpjaa", sum := "dfef8acb3e93fe9a640fc55b54dcc403631ea4f117fc20b712632b8c8200830a", func := "inkwell/inkwelllaw17.OpOrder", spec := "opOrder", unfollowed := true, recurses := true, apart := false, narrowed := true }
def OpOrderUptoSaid : Prop := opOrderUptoRow.holds Try.pinned (OpenSpec.upto opOrderSpec)

/-- 'inkwelllaw17.OpNames', WHERE WHAT IT READS IS OF BULK AT MOST 1048576: true; the input reads as it did. -/
def opNamesUptoRow : OpenClaim := { program := "ytmiofhoojahpjaa", sum := "dfef8acb3e93fe9a640fc55b54dcc403631ea4f117fc20b712632b8c8200830a", func := "inkwell/inkwelllaw17.OpNames", spec := "opNames", unfollowed := true, recurses := true, apart := false, narrowed := true }
def OpNamesUptoSaid : Prop := opNamesUptoRow.holds Try.pinned (OpenSpec.upto opNamesSpec)

/-- 'inkwelllaw17.OpCopies', WHERE WHAT IT READS IS OF BULK AT MOST 1048576: true; the input reads as it did. -/
def opCopiesUptoRow : OpenClaim := { program := "ytmiofhoojahpjaa", sum := "dfef8acb3e93fe9a640fc55b54dcc403631ea4f117fc20b712632b8c8200830a", func := "inkwell/inkwelllaw17.OpCopies", spec := "opCopies", unfollowed := true, recurses := true, apart := false, narrowed := true }
def OpCopiesUptoSaid : Prop := opCopiesUptoRow.holds Try.pinned (OpenSpec.upto opCopiesSpec)

/-- 'inkwelllaw17.OpFewer', WHERE WHAT IT READS IS OF BULK AT MOST 1048576: true; the input reads as it did. -/
def opFewerUptoRow : OpenClaim := { program := "ytmiofhoojahpjaa", sum := "dfef8acb3e93fe9a640fc55b54dcc403631ea4f117fc20b712632b8c8200830a", func := "inkwell/inkwelllaw17.OpFewer", spec := "opFewer", unfollowed := true, recurses := true, apart := false, narrowed := true }
def OpFewerUptoSaid : Prop := opFewerUptoRow.holds Try.pinned (OpenSpec.upto opFewerSpec)

end Rows
end Go.Proofs.Ytmiofhoojahpjaa
