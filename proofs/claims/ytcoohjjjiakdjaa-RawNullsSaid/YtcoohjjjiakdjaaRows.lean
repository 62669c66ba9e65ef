/-
  No cell of these rows narrows 'for every input' (looked for: loops, veiled, ifaces, maps, wideKeys, modest, calm, conditions, laid).
  DERIVED. THE GIVEN ROWS OF THIS SEAT. 4 by the template 'for every input the law returns true; each argument reads behind the call as it read before'; 0 by the template 'total and deterministic' (their statements: YtcoohjjjiakdjaaTotals.lean).
  GIVEN WITH THE SEED: the statements are not yours to turn. If you find one false, say at which input.
  Laid BY PROGRAM, IN A SANDBOX (cutbox-rows.mjs): the forced cells as the released guide's own fill.sh prints them over the translation 17aaf31ac5172b7a… (all of the seat's roots in one cut). By AI agents, Wed Nov 11 2026. No macro, syntax, notation, axiom, sorry.
-/
import Derived.Test.YtcoohjjjiakdjaaChecked
import GoSem.Claim
import GoSem.ClaimJoined
import GoSem.ClaimMapViews
import Derived.JoinedTies
import Derived.KernelRfl
namespace Go.Proofs.Ytcoohjjjiakdjaa
/- THE CELL 'sum', in the pinned program and in every row, IS THE sha256 OF THE DUMP (.gsa) THAT YtcoohjjjiakdjaaProg.lean LOADS. Nothing in Lean hashes anything: it is a label: what it is worth is what the hold of that sum in a sandbox is worth. -/
noncomputable def Try.pinned : Pinned := { name := "ytcoohjjjiakdjaa", sum := "17aaf31ac5172b7af1ff9525289f9bc7e6be2ce3557cb7cadfece6b30a188c28", checked := Try.checked }
namespace Rows
def none {H : Type} : Left H := { results := [], args := [] }

/-- 'inkwelllaw15.RawPuts': WHATEVER THE INPUT: true; the input reads as it did. -/
def rawPutsSpec : ChangeSpec := { name := "rawPuts", fn := fun _ => fun
  | [d] => { results := [.lit (.bool true)], args := [d] }
  | _ => none }
def rawPutsRow : OpenClaim := { program := "ytcoohjjjiakdjaa", sum := "17aaf31ac5172b7af1ff9525289f9bc7e6be2ce3557cb7cadfece6b30a188c28", func := "inkwell/inkwelllaw15.RawPuts", spec := "rawPuts", unfollowed := true, recurses := true, apart := false }
def RawPutsSaid : Prop := rawPutsRow.holds Try.pinned (OpenSpec.ofChange rawPutsSpec)

/-- ITS FALSE NEIGHBOUR: 'it returns false'. Refute it at one input. -/
def rawPutsWrong : ChangeSpec := { name := "rawPuts", fn := fun _ => fun
  | [d] => { results := [.lit (.bool false)], args := [d] }
  | _ => none }
def RawPutsWrongFalsely : Prop := rawPutsRow.holds Try.pinned (OpenSpec.ofChange rawPutsWrong)

/-- 'inkwelllaw15.RawBack': WHATEVER THE INPUT: true; the input reads as it did. -/
def rawBackSpec : ChangeSpec := { name := "rawBack", fn := fun _ => fun
  | [d1, d2] => { results := [.lit (.bool true)], args := [d1, d2] }
  | _ => none }
def rawBackRow : OpenClaim := { program := "ytcoohjjjiakdjaa", sum := "17aaf31ac5172b7af1ff9525289f9bc7e6be2ce3557cb7cadfece6b30a188c28", func := "inkwell/inkwelllaw15.RawBack", spec := "rawBack", unfollowed := true, recurses := true, apart := false }
def RawBackSaid : Prop := rawBackRow.holds Try.pinned (OpenSpec.ofChange rawBackSpec)

/-- ITS FALSE NEIGHBOUR: 'it returns false'. Refute it at one input. -/
def rawBackWrong : ChangeSpec := { name := "rawBack", fn := fun _ => fun
  | [d1, d2] => { results := [.lit (.bool false)], args := [d1, d2] }
  | _ => none }
def RawBackWrongFalsely : Prop := rawBackRow.holds Try.pinned (OpenSpec.ofChange rawBackWrong)

/-- 'inkwelllaw15.RawPads': WHATEVER THE INPUT: true; the input reads as it did. -/
def rawPadsSpec : ChangeSpec := { name := "rawPads", fn := fun _ => fun
  | [d1, d2] => { results := [.lit (.bool true)], args := [d1, d2] }
  | _ => none }
def rawPadsRow : OpenClaim := { program := "ytcoohjjjiakdjaa", sum := "17aaf31ac5172b7af1ff9525289f9bc7e6be2ce3557cb7cadfece6b30a188c28", func := "inkwell/inkwelllaw15.RawPads", spec := "rawPads", unfollowed := true, recurses := true, apart := false }
def RawPadsSaid : Prop := rawPadsRow.holds Try.pinned (OpenSpec.ofChange rawPadsSpec)

/-- ITS FALSE NEIGHBOUR: 'it returns false'. Refute it at one input. -/
def rawPadsWrong : ChangeSpec := { name := "rawPads", fn := fun _ => fun
  | [d1, d2] => { results := [.lit (.bool false)], args := [d1, d2] }
  | _ => none }
def RawPadsWrongFalsely : Prop := rawPadsRow.holds Try.pinned (OpenSpec.ofChange rawPadsWrong)

/-- 'inkwelllaw15.RawNulls': WHATEVER THE INPUT: true; the input reads as it did. -/
def rawNullsSpec : ChangeSpec := { name := "rawNulls", fn := fun _ => fun
  | [d] => { results := [.lit (.bool true)], args := [d] }
  | _ => none }
def rawNullsRow : OpenClaim := { program := "ytcoohjjjiakdjaa", sum := "17aaf31ac5172b7af1ff9525289f9bc7e6be2ce3557cb7cadfece6b30a188c28", func := "inkwell/inkwelllaw15.RawNulls", spec := "rawNulls", unfollowed := true, recurses := true, apart := false }
def RawNullsSaid : Prop := rawNullsRow.holds Try.pinned (OpenSpec.ofChange rawNullsSpec)

/-- ITS FALSE NEIGHBOUR: 'it returns false'. Refute it at one input. -/
def rawNullsWrong : ChangeSpec := { name := "rawNulls", fn := fun _ => fun
  | [d] => { results := [.lit (.bool false)], args := [d] }
  | _ => none }
def RawNullsWrongFalsely : Prop := rawNullsRow.holds Try.pinned (OpenSpec.ofChange rawNullsWrong)

/- THE SECOND FORM. 'bulk': how many values and letters a reading holds, each counted each time it is reached (what is shared counts as often as it is met; a slice's spare places count too). A statement '..UptoSaid' is the law's where the arguments, and the package variables that the reading takes, are together of bulk at most 1048576: NARROWER than '..Said'. Prove '..Said' where nothing that the law and all that it calls make is longer than what came in: it says more and counts as full. Else prove '..UptoSaid'. A law counts once. -/
mutual
def uptoBulk {H : Type} : DataW H → Nat
  | .lit (.string bytes) => bytes.length + 1
  | .lit _ => 1
  | .nil => 1
  | .ptr d => uptoBulk d + 1
  | .slice elems spare => uptoBulkAll elems + uptoBulkAll spare + 1
  | .agg parts => uptoBulkAll parts + 1
  | .iface _ d => uptoBulk d + 1
  | .map entries => uptoBulkEntries entries + 1
  | .held _ => 1
def uptoBulkAll {H : Type} : List (DataW H) → Nat
  | [] => 0
  | d :: r => uptoBulk d + uptoBulkAll r
def uptoBulkEntries {H : Type} : List (Lit × DataW H) → Nat
  | [] => 0
  | x :: r => uptoBulkEntry x + uptoBulkEntries r
def uptoBulkEntry {H : Type} : Lit × DataW H → Nat
  | (.string bytes, d) => bytes.length + uptoBulk d + 1
  | (_, d) => uptoBulk d + 1
 end
def uptoSmall : (H : Type) → List (DataW H) → Bool := fun _ ds => decide (uptoBulkAll ds ≤ 1048576)
def OpenSpec.upto (s : _root_.Go.ChangeSpec) : _root_.Go.OpenSpec := { _root_.Go.OpenSpec.ofChange s with cond := some uptoSmall }

/-- 'inkwelllaw15.RawPuts', WHERE WHAT IT READS IS OF BULK AT MOST 1048576: true; the input reads as it did. -/
def rawPutsUptoRow : OpenClaim := { program := "ytcoohjjjiakdjaa", sum := "17aaf31ac5172b7af1ff9525289f9bc7e6be2ce3557cb7cadfece6b30a188c28", func := "inkwell/inkwelllaw15.RawPuts", spec := "rawPuts", unfollowed := true, recurses := true, apart := false, narrowed := true }
def RawPutsUptoSaid : Prop := rawPutsUptoRow.holds Try.pinned (OpenSpec.upto rawPutsSpec)

/-- 'inkwelllaw15.RawBack', WHERE WHAT IT READS IS OF BULK AT MOST 1048576: true; the input reads as it did. -/
def rawBackUptoRow : OpenClaim := { program := "ytcoohjjjiakdjaa", sum := "17aaf31ac5172b7af1ff9525289f9bc7e6be2ce3557cb7cadfece6b30a188c28", func := "inkwell/inkwelllaw15.RawBack", spec := "rawBack", unfollowed := true, recurses := true, apart := false, narrowed := true }
def RawBackUptoSaid : Prop := rawBackUptoRow.holds Try.pinned (OpenSpec.upto rawBackSpec)

/-- 'inkwelllaw15.RawPads', WHERE WHAT IT READS IS OF BULK AT MOST 1048576: true; the input reads as it did. -/
def rawPadsUptoRow : OpenClaim := { program := "ytcoohjjjiakdjaa", sum := "17aaf31ac5172b7af1ff9525289f9bc7e6be2ce3557cb7cadfece6b30a188c28", func := "inkwell/inkwelllaw15.RawPads", spec := "rawPads", unfollowed := true, recurses := true, apart := false, narrowed := true }
def RawPadsUptoSaid : Prop := rawPadsUptoRow.holds Try.pinned (OpenSpec.upto rawPadsSpec)

/-- 'inkwelllaw15.RawNulls', WHERE WHAT IT READS IS OF BULK AT MOST 1048576: true; the input reads as it did. -/
def rawNullsUptoRow : OpenClaim := { program := "ytcoohjjjiakdjaa", sum := "17aaf31ac5172b7af1ff9525289f9bc7e6be2ce3557cb7cadfece6b30a188c28", func := "inkwell/inkwelllaw15.RawNulls", spec := "rawNulls", unfollowed := true, recurses := true, apart := false, narrowed := true }
def RawNullsUptoSaid : Prop := rawNullsUptoRow.holds Try.pinned (OpenSpec.upto rawNullsSpec)

end Rows
end Go.Proofs.Ytcoohjjjiakdjaa
