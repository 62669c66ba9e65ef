/-
  NARROWER THAN 'FOR EVERY INPUT', by the rows' own cells (each row's printed sentence says how): SymsTells: laid · SymsOf: laid · SymsBack: laid · SymsWeighs: laid · SymsFixed: laid · SymsRise: laid.
  DERIVED. THE GIVEN ROWS OF THIS SEAT. 6 by the template 'for every input the law returns true; each argument reads behind the call as it read before'; 0 by the template 'total and deterministic' (their statements: YtamcgenjlndfjaaDoorTotals.lean).
  GIVEN WITH THE SEED: the statements are not yours to turn. If you find one false, say at which input.
  Laid BY PROGRAM, IN A SANDBOX (cutbox-rows.mjs): the forced cells as the released guide's own fill.sh prints them over the translation b1435e7f424f5f94… (all of the seat's roots in one cut). By AI agents, Wed Nov 11 2026. No macro, syntax, notation, axiom, sorry.
-/
import Derived.Test.YtamcgenjlndfjaaDoorChecked
import GoSem.Claim
import GoSem.ClaimJoined
import GoSem.ClaimMapViews
import Derived.JoinedTies
import Derived.KernelRfl
namespace Go.Proofs.YtamcgenjlndfjaaDoor
/- THE CELL 'sum', in the pinned program and in every row, IS THE sha256 OF THE DUMP (.gsa) THAT YtamcgenjlndfjaaDoorProg.lean LOADS. Nothing in Lean hashes anything: it is a label: what it is worth is what the hold of that sum in a sandbox is worth. -/
noncomputable def Tryd.pinned : Pinned := { name := "ytamcgenjlndfjaadoor", sum := "b1435e7f424f5f94a3f5bc5556b9a943e9352bd8ed0ee4bfff25edfb8f5f7e2d", checked := Tryd.checked }
namespace Rows
def none {H : Type} : Left H := { results := [], args := [] }

/- WHAT THE LISTED PACKAGE-LEVEL VARIABLES READ AS WHEN THE CALL BEGINS. Each datum BY PROGRAM (the guide's laid-datum.mjs) off the statement by which the dump's own 'gosem.cut.vars' lays the variable. In a bare row this is a premise. The card (YtamcgenjlndfjaaDoorCards.lean) ties it to the program's text. -/
def laid_inkwell_syms_lengths {H : Type} : DataW H := .agg [.agg [.lit (.int .i64 3), .lit (.int .i64 0)], .agg [.lit (.int .i64 4), .lit (.int .i64 0)], .agg [.lit (.int .i64 5), .lit (.int .i64 0)], .agg [.lit (.int .i64 6), .lit (.int .i64 0)], .agg [.lit (.int .i64 7), .lit (.int .i64 0)], .agg [.lit (.int .i64 8), .lit (.int .i64 0)], .agg [.lit (.int .i64 9), .lit (.int .i64 0)], .agg [.lit (.int .i64 10), .lit (.int .i64 0)], .agg [.lit (.int .i64 11), .lit (.int .i64 1)], .agg [.lit (.int .i64 13), .lit (.int .i64 1)], .agg [.lit (.int .i64 15), .lit (.int .i64 1)], .agg [.lit (.int .i64 17), .lit (.int .i64 1)], .agg [.lit (.int .i64 19), .lit (.int .i64 2)], .agg [.lit (.int .i64 23), .lit (.int .i64 2)], .agg [.lit (.int .i64 27), .lit (.int .i64 2)], .agg [.lit (.int .i64 31), .lit (.int .i64 2)], .agg [.lit (.int .i64 35), .lit (.int .i64 3)], .agg [.lit (.int .i64 43), .lit (.int .i64 3)], .agg [.lit (.int .i64 51), .lit (.int .i64 3)], .agg [.lit (.int .i64 59), .lit (.int .i64 3)], .agg [.lit (.int .i64 67), .lit (.int .i64 4)], .agg [.lit (.int .i64 83), .lit (.int .i64 4)], .agg [.lit (.int .i64 99), .lit (.int .i64 4)], .agg [.lit (.int .i64 115), .lit (.int .i64 4)], .agg [.lit (.int .i64 131), .lit (.int .i64 5)], .agg [.lit (.int .i64 163), .lit (.int .i64 5)], .agg [.lit (.int .i64 195), .lit (.int .i64 5)], .agg [.lit (.int .i64 227), .lit (.int .i64 5)], .agg [.lit (.int .i64 258), .lit (.int .i64 0)]]
def laid_inkwell_syms_distances {H : Type} : DataW H := .agg [.agg [.lit (.int .i64 1), .lit (.int .i64 0)], .agg [.lit (.int .i64 2), .lit (.int .i64 0)], .agg [.lit (.int .i64 3), .lit (.int .i64 0)], .agg [.lit (.int .i64 4), .lit (.int .i64 0)], .agg [.lit (.int .i64 5), .lit (.int .i64 1)], .agg [.lit (.int .i64 7), .lit (.int .i64 1)], .agg [.lit (.int .i64 9), .lit (.int .i64 2)], .agg [.lit (.int .i64 13), .lit (.int .i64 2)], .agg [.lit (.int .i64 17), .lit (.int .i64 3)], .agg [.lit (.int .i64 25), .lit (.int .i64 3)], .agg [.lit (.int .i64 33), .lit (.int .i64 4)], .agg [.lit (.int .i64 49), .lit (.int .i64 4)], .agg [.lit (.int .i64 65), .lit (.int .i64 5)], .agg [.lit (.int .i64 97), .lit (.int .i64 5)], .agg [.lit (.int .i64 129), .lit (.int .i64 6)], .agg [.lit (.int .i64 193), .lit (.int .i64 6)], .agg [.lit (.int .i64 257), .lit (.int .i64 7)], .agg [.lit (.int .i64 385), .lit (.int .i64 7)], .agg [.lit (.int .i64 513), .lit (.int .i64 8)], .agg [.lit (.int .i64 769), .lit (.int .i64 8)], .agg [.lit (.int .i64 1025), .lit (.int .i64 9)], .agg [.lit (.int .i64 1537), .lit (.int .i64 9)], .agg [.lit (.int .i64 2049), .lit (.int .i64 10)], .agg [.lit (.int .i64 3073), .lit (.int .i64 10)], .agg [.lit (.int .i64 4097), .lit (.int .i64 11)], .agg [.lit (.int .i64 6145), .lit (.int .i64 11)], .agg [.lit (.int .i64 8193), .lit (.int .i64 12)], .agg [.lit (.int .i64 12289), .lit (.int .i64 12)], .agg [.lit (.int .i64 16385), .lit (.int .i64 13)], .agg [.lit (.int .i64 24577), .lit (.int .i64 13)]]

/-- 'inkwelllaw07.SymsTells': WHATEVER THE INPUT: true; the input reads as it did. -/
def symsTellsSpec : ChangeSpec := { name := "symsTells", fn := fun _ => fun
  | [d1, d2, d3] => { results := [.lit (.bool true)], args := [d1, d2, d3] }
  | _ => none }
def symsTellsRow : OpenClaim := { program := "ytamcgenjlndfjaadoor", sum := "b1435e7f424f5f94a3f5bc5556b9a943e9352bd8ed0ee4bfff25edfb8f5f7e2d", func := "inkwell/inkwelllaw07.SymsTells", spec := "symsTells", unfollowed := true, recurses := true, named := ["inkwell/syms.lengths", "inkwell/syms.distances"], apart := false, laid := [("inkwell/syms.lengths", laid_inkwell_syms_lengths), ("inkwell/syms.distances", laid_inkwell_syms_distances)] }
def SymsTellsSaid : Prop := symsTellsRow.holds Tryd.pinned (OpenSpec.ofChange symsTellsSpec)

/-- ITS FALSE NEIGHBOUR: 'it returns false'. Refute it at one input. -/
def symsTellsWrong : ChangeSpec := { name := "symsTells", fn := fun _ => fun
  | [d1, d2, d3] => { results := [.lit (.bool false)], args := [d1, d2, d3] }
  | _ => none }
def SymsTellsWrongFalsely : Prop := symsTellsRow.holds Tryd.pinned (OpenSpec.ofChange symsTellsWrong)

/-- 'inkwelllaw07.SymsOf': WHATEVER THE INPUT: true; the input reads as it did. -/
def symsOfSpec : ChangeSpec := { name := "symsOf", fn := fun _ => fun
  | [d] => { results := [.lit (.bool true)], args := [d] }
  | _ => none }
def symsOfRow : OpenClaim := { program := "ytamcgenjlndfjaadoor", sum := "b1435e7f424f5f94a3f5bc5556b9a943e9352bd8ed0ee4bfff25edfb8f5f7e2d", func := "inkwell/inkwelllaw07.SymsOf", spec := "symsOf", unfollowed := true, recurses := true, named := ["inkwell/syms.lengths", "inkwell/syms.distances"], apart := false, laid := [("inkwell/syms.lengths", laid_inkwell_syms_lengths), ("inkwell/syms.distances", laid_inkwell_syms_distances)] }
def SymsOfSaid : Prop := symsOfRow.holds Tryd.pinned (OpenSpec.ofChange symsOfSpec)

/-- ITS FALSE NEIGHBOUR: 'it returns false'. Refute it at one input. -/
def symsOfWrong : ChangeSpec := { name := "symsOf", fn := fun _ => fun
  | [d] => { results := [.lit (.bool false)], args := [d] }
  | _ => none }
def SymsOfWrongFalsely : Prop := symsOfRow.holds Tryd.pinned (OpenSpec.ofChange symsOfWrong)

/-- 'inkwelllaw07.SymsBack': WHATEVER THE INPUT: true; the input reads as it did. -/
def symsBackSpec : ChangeSpec := { name := "symsBack", fn := fun _ => fun
  | [d1, d2] => { results := [.lit (.bool true)], args := [d1, d2] }
  | _ => none }
def symsBackRow : OpenClaim := { program := "ytamcgenjlndfjaadoor", sum := "b1435e7f424f5f94a3f5bc5556b9a943e9352bd8ed0ee4bfff25edfb8f5f7e2d", func := "inkwell/inkwelllaw07.SymsBack", spec := "symsBack", unfollowed := true, recurses := true, named := ["inkwell/syms.lengths", "inkwell/syms.distances"], apart := false, laid := [("inkwell/syms.lengths", laid_inkwell_syms_lengths), ("inkwell/syms.distances", laid_inkwell_syms_distances)] }
def SymsBackSaid : Prop := symsBackRow.holds Tryd.pinned (OpenSpec.ofChange symsBackSpec)

/-- ITS FALSE NEIGHBOUR: 'it returns false'. Refute it at one input. -/
def symsBackWrong : ChangeSpec := { name := "symsBack", fn := fun _ => fun
  | [d1, d2] => { results := [.lit (.bool false)], args := [d1, d2] }
  | _ => none }
def SymsBackWrongFalsely : Prop := symsBackRow.holds Tryd.pinned (OpenSpec.ofChange symsBackWrong)

/-- 'inkwelllaw07.SymsWeighs': WHATEVER THE INPUT: true; the input reads as it did. -/
def symsWeighsSpec : ChangeSpec := { name := "symsWeighs", fn := fun _ => fun
  | [d] => { results := [.lit (.bool true)], args := [d] }
  | _ => none }
def symsWeighsRow : OpenClaim := { program := "ytamcgenjlndfjaadoor", sum := "b1435e7f424f5f94a3f5bc5556b9a943e9352bd8ed0ee4bfff25edfb8f5f7e2d", func := "inkwell/inkwelllaw07.SymsWeighs", spec := "symsWeighs", unfollowed := true, recurses := true, named := ["inkwell/syms.lengths", "inkwell/syms.distances"], apart := false, laid := [("inkwell/syms.lengths", laid_inkwell_syms_lengths), ("inkwell/syms.distances", laid_inkwell_syms_distances)] }
def SymsWeighsSaid : Prop := symsWeighsRow.holds Tryd.pinned (OpenSpec.ofChange symsWeighsSpec)

/-- ITS FALSE NEIGHBOUR: 'it returns false'. Refute it at one input. -/
def symsWeighsWrong : ChangeSpec := { name := "symsWeighs", fn := fun _ => fun
  | [d] => { results := [.lit (.bool false)], args := [d] }
  | _ => none }
def SymsWeighsWrongFalsely : Prop := symsWeighsRow.holds Tryd.pinned (OpenSpec.ofChange symsWeighsWrong)

/-- 'inkwelllaw07.SymsFixed': WHATEVER THE INPUT: true; the input reads as it did. -/
def symsFixedSpec : ChangeSpec := { name := "symsFixed", fn := fun _ => fun
  | [d] => { results := [.lit (.bool true)], args := [d] }
  | _ => none }
def symsFixedRow : OpenClaim := { program := "ytamcgenjlndfjaadoor", sum := "b1435e7f424f5f94a3f5bc5556b9a943e9352bd8ed0ee4bfff25edfb8f5f7e2d", func := "inkwell/inkwelllaw07.SymsFixed", spec := "symsFixed", unfollowed := true, recurses := true, named := ["inkwell/syms.lengths", "inkwell/syms.distances"], apart := false, laid := [("inkwell/syms.lengths", laid_inkwell_syms_lengths), ("inkwell/syms.distances", laid_inkwell_syms_distances)] }
def SymsFixedSaid : Prop := symsFixedRow.holds Tryd.pinned (OpenSpec.ofChange symsFixedSpec)

/-- ITS FALSE NEIGHBOUR: 'it returns false'. Refute it at one input. -/
def symsFixedWrong : ChangeSpec := { name := "symsFixed", fn := fun _ => fun
  | [d] => { results := [.lit (.bool false)], args := [d] }
  | _ => none }
def SymsFixedWrongFalsely : Prop := symsFixedRow.holds Tryd.pinned (OpenSpec.ofChange symsFixedWrong)

/-- 'inkwelllaw07.SymsRise': WHATEVER THE INPUT: true; the input reads as it did. -/
def symsRiseSpec : ChangeSpec := { name := "symsRise", fn := fun _ => fun
  | [d1, d2] => { results := [.lit (.bool true)], args := [d1, d2] }
  | _ => none }
def symsRiseRow : OpenClaim := { program := "ytamcgenjlndfjaadoor", sum := "b1435e7f424f5f94a3f5bc5556b9a943e9352bd8ed0ee4bfff25edfb8f5f7e2d", func := "inkwell/inkwelllaw07.SymsRise", spec := "symsRise", unfollowed := true, recurses := true, named := ["inkwell/syms.lengths", "inkwell/syms.distances"], apart := false, laid := [("inkwell/syms.lengths", laid_inkwell_syms_lengths), ("inkwell/syms.distances", laid_inkwell_syms_distances)] }
def SymsRiseSaid : Prop := symsRiseRow.holds Tryd.pinned (OpenSpec.ofChange symsRiseSpec)

/-- ITS FALSE NEIGHBOUR: 'it returns false'. Refute it at one input. -/
def symsRiseWrong : ChangeSpec := { name := "symsRise", fn := fun _ => fun
  | [d1, d2] => { results := [.lit (.bool false)], args := [d1, d2] }
  | _ => none }
def SymsRiseWrongFalsely : Prop := symsRiseRow.holds Tryd.pinned (OpenSpec.ofChange symsRiseWrong)

/- THE SECOND FORM. 'bulk': how many values and letters a reading holds, each counted each time it is reached (what is shared counts as often as it is met; a slice's spare places count too). A statement '..UptoSaid' is the law's where the arguments, and the package variables that the reading takes, are together of bulk at most 1048576: NARROWER than '..Said'. Prove '..Said' where nothing that the law and all that it calls make is longer than what came in: it says more and counts as full. Else prove '..UptoSaid'. A law counts once. -/
mutual
def uptoBulk {H : Type} : DataW H → Nat
  | .lit (.string bytes) => bytes.length + 1
  | .lit _ => 1
  | .nil => 1
  | .ptr d => uptoBulk d + 1
  | .slice elems spare => uptoBulkAll elems + uptoBulkAll spare + 1
  | .agg parts => uptoBulkAll parts + 1
  | .iface _ d => uptoBulk d + 1
  | .map entries => uptoBulkEntries entries + 1
  | .held _ => 1
def uptoBulkAll {H : Type} : List (DataW H) → Nat
  | [] => 0
  | d :: r => uptoBulk d + uptoBulkAll r
def uptoBulkEntries {H : Type} : List (Lit × DataW H) → Nat
  | [] => 0
  | x :: r => uptoBulkEntry x + uptoBulkEntries r
def uptoBulkEntry {H : Type} : Lit × DataW H → Nat
  | (.string bytes, d) => bytes.length + uptoBulk d + 1
  | (_, d) => uptoBulk d + 1
 end
def uptoSmall : (H : Type) → List (DataW H) → Bool := fun _ ds => decide (uptoBulkAll ds ≤ 1048576)
def OpenSpec.upto (s : _root_.Go.ChangeSpec) : _root_.Go.OpenSpec := { _root_.Go.OpenSpec.ofChange s with cond := some uptoSmall }

/-- 'inkwelllaw07.SymsTells', WHERE WHAT IT READS IS OF BULK AT MOST 1048576: true; the input reads as it did. -/
def symsTellsUptoRow : OpenClaim := { program := "ytamcgenjlndfjaadoor", sum := "b1435e7f424f5f94a3f5bc5556b9a943e9352bd8ed0ee4bfff25edfb8f5f7e2d", func := "inkwell/inkwelllaw07.SymsTells", spec := "symsTells", unfollowed := true, recurses := true, named := ["inkwell/syms.lengths", "inkwell/syms.distances"], apart := false, laid := [("inkwell/syms.lengths", laid_inkwell_syms_lengths), ("inkwell/syms.distances", laid_inkwell_syms_distances)], narrowed := true }
def SymsTellsUptoSaid : Prop := symsTellsUptoRow.holds Tryd.pinned (OpenSpec.upto symsTellsSpec)

/-- 'inkwelllaw07.SymsOf', WHERE WHAT IT READS IS OF BULK AT MOST 1048576: true; the input reads as it did. -/
def symsOfUptoRow : OpenClaim := { program := "ytamcgenjlndfjaadoor", sum := "b1435e7f424f5f94a3f5bc5556b9a943e9352bd8ed0ee4bfff25edfb8f5f7e2d", func := "inkwell/inkwelllaw07.SymsOf", spec := "symsOf", unfollowed := true, recurses := true, named := ["inkwell/syms.lengths", "inkwell/syms.distances"], apart := false, laid := [("inkwell/syms.lengths", laid_inkwell_syms_lengths), ("inkwell/syms.distances", laid_inkwell_syms_distances)], narrowed := true }
def SymsOfUptoSaid : Prop := symsOfUptoRow.holds Tryd.pinned (OpenSpec.upto symsOfSpec)

/-- 'inkwelllaw07.SymsBack', WHERE WHAT IT READS IS OF BULK AT MOST 1048576: true; the input reads as it did. -/
def symsBackUptoRow : OpenClaim := { program := "ytamcgenjlndfjaadoor", sum := "b1435e7f424f5f94a3f5bc5556b9a943e9352bd8ed0ee4bfff25edfb8f5f7e2d", func := "inkwell/inkwelllaw07.SymsBack", spec := "symsBack", unfollowed := true, recurses := true, named := ["inkwell/syms.lengths", "inkwell/syms.distances"], apart := false, laid := [("inkwell/syms.lengths", laid_inkwell_syms_lengths), ("inkwell/syms.distances", laid_inkwell_syms_distances)], narrowed := true }
def SymsBackUptoSaid : Prop := symsBackUptoRow.holds Tryd.pinned (OpenSpec.upto symsBackSpec)

/-- 'inkwelllaw07.SymsWeighs', WHERE WHAT IT READS IS OF BULK AT MOST 1048576: true; the input reads as it did. -/
def symsWeighsUptoRow : OpenClaim := { program := "ytamcgenjlndfjaadoor", sum := "b1435e7f424f5f94a3f5bc5556b9a943e9352bd8ed0ee4bfff25edfb8f5f7e2d", func := "inkwell/inkwelllaw07.SymsWeighs", spec := "symsWeighs", unfollowed := true, recurses := true, named := ["inkwell/syms.lengths", "inkwell/syms.distances"], apart := false, laid := [("inkwell/syms.lengths", laid_inkwell_syms_lengths), ("inkwell/syms.distances", laid_inkwell_syms_distances)], narrowed := true }
def SymsWeighsUptoSaid : Prop := symsWeighsUptoRow.holds Tryd.pinned (OpenSpec.upto symsWeighsSpec)

/-- 'inkwelllaw07.SymsFixed', WHERE WHAT IT READS IS OF BULK AT MOST 1048576: true; the input reads as it did. -/
def symsFixedUptoRow : OpenClaim := { program := "ytamcgenjlndfjaadoor", sum := "b1435e7f424f5f94a3f5bc5556b9a943e9352bd8ed0ee4bfff25edfb8f5f7e2d", func := "inkwell/inkwelllaw07.SymsFixed", spec := "symsFixed", unfollowed := true, recurses := true, named := ["inkwell/syms.lengths", "inkwell/syms.distances"], apart := false, laid := [("inkwell/syms.lengths", laid_inkwell_syms_lengths), ("inkwell/syms.distances", laid_inkwell_syms_distances)], narrowed := true }
def SymsFixedUptoSaid : Prop := symsFixedUptoRow.holds Tryd.pinned (OpenSpec.upto symsFixedSpec)

/-- 'inkwelllaw07.SymsRise', WHERE WHAT IT READS IS OF BULK AT MOST 1048576: true; the input reads as it did. -/
def symsRiseUptoRow : OpenClaim := { program := "ytamcgenjlndfjaadoor", sum := "b1435e7f424f5f94a3f5bc5556b9a943e9352bd8ed0ee4bfff25edfb8f5f7e2d", func := "inkwell/inkwelllaw07.SymsRise", spec := "symsRise", unfollowed := true, recurses := true, named := ["inkwell/syms.lengths", "inkwell/syms.distances"], apart := false, laid := [("inkwell/syms.lengths", laid_inkwell_syms_lengths), ("inkwell/syms.distances", laid_inkwell_syms_distances)], narrowed := true }
def SymsRiseUptoSaid : Prop := symsRiseUptoRow.holds Tryd.pinned (OpenSpec.upto symsRiseSpec)

end Rows
end Go.Proofs.YtamcgenjlndfjaaDoor
