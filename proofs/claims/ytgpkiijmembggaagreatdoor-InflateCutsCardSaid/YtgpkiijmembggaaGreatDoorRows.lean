/-
  NARROWER THAN 'FOR EVERY INPUT', by the rows' own cells (each row's printed sentence says how): InflateBack: laid · InflateCuts: laid · InflateJoins: laid · InflateEmpties: laid.
  DERIVED. THE GIVEN ROWS OF THIS SEAT. 4 by the template 'for every input the law returns true; each argument reads behind the call as it read before'; 0 by the template 'total and deterministic' (their statements: YtgpkiijmembggaaGreatDoorTotals.lean).
  GIVEN WITH THE SEED: the statements are not yours to turn. If you find one false, say at which input.
  Laid BY PROGRAM, IN A SANDBOX (cutbox-rows.mjs): the forced cells as the released guide's own fill.sh prints them over the translation a22e85516bf19b7b… (all of the seat's roots in one cut). By AI agents, Wed Nov 11 2026. No macro, syntax, notation, axiom, sorry.
-/
import Derived.Test.YtgpkiijmembggaaGreatDoorChecked
import GoSem.Claim
import GoSem.ClaimJoined
import GoSem.ClaimMapViews
import Derived.JoinedTies
import Derived.KernelRfl
namespace Go.Proofs.YtgpkiijmembggaaGreatDoor
/- THE CELL 'sum', in the pinned program and in every row, IS THE sha256 OF THE DUMP (.gsa) THAT YtgpkiijmembggaaGreatDoorProg.lean LOADS. Nothing in Lean hashes anything: it is a label: what it is worth is what the hold of that sum in a sandbox is worth. -/
noncomputable def Tryz.pinned : Pinned := { name := "ytgpkiijmembggaagreatdoor", sum := "a22e85516bf19b7b2fbebe728d82e8bbb28a5c35e8e4dc91cacdfccffdf039ce", checked := Tryz.checked }
namespace Rows
def none {H : Type} : Left H := { results := [], args := [] }

/- WHAT THE LISTED PACKAGE-LEVEL VARIABLES READ AS WHEN THE CALL BEGINS. Each datum BY PROGRAM (the guide's laid-datum.mjs) off the statement by which the dump's own 'gosem.cut.vars' lays the variable. In a bare row this is a premise. The card (YtgpkiijmembggaaGreatDoorCards.lean) ties it to the program's text. -/
def laid_inkwell_syms_lengths {H : Type} : DataW H := .agg [.agg [.lit (.int .i64 3), .lit (.int .i64 0)], .agg [.lit (.int .i64 4), .lit (.int .i64 0)], .agg [.lit (.int .i64 5), .lit (.int .i64 0)], .agg [.lit (.int .i64 6), .lit (.int .i64 0)], .agg [.lit (.int .i64 7), .lit (.int .i64 0)], .agg [.lit (.int .i64 8), .lit (.int .i64 0)], .agg [.lit (.int .i64 9), .lit (.int .i64 0)], .agg [.lit (.int .i64 10), .lit (.int .i64 0)], .agg [.lit (.int .i64 11), .lit (.int .i64 1)], .agg [.lit (.int .i64 13), .lit (.int .i64 1)], .agg [.lit (.int .i64 15), .lit (.int .i64 1)], .agg [.lit (.int .i64 17), .lit (.int .i64 1)], .agg [.lit (.int .i64 19), .lit (.int .i64 2)], .agg [.lit (.int .i64 23), .lit (.int .i64 2)], .agg [.lit (.int .i64 27), .lit (.int .i64 2)], .agg [.lit (.int .i64 31), .lit (.int .i64 2)], .agg [.lit (.int .i64 35), .lit (.int .i64 3)], .agg [.lit (.int .i64 43), .lit (.int .i64 3)], .agg [.lit (.int .i64 51), .lit (.int .i64 3)], .agg [.lit (.int .i64 59), .lit (.int .i64 3)], .agg [.lit (.int .i64 67), .lit (.int .i64 4)], .agg [.lit (.int .i64 83), .lit (.int .i64 4)], .agg [.lit (.int .i64 99), .lit (.int .i64 4)], .agg [.lit (.int .i64 115), .lit (.int .i64 4)], .agg [.lit (.int .i64 131), .lit (.int .i64 5)], .agg [.lit (.int .i64 163), .lit (.int .i64 5)], .agg [.lit (.int .i64 195), .lit (.int .i64 5)], .agg [.lit (.int .i64 227), .lit (.int .i64 5)], .agg [.lit (.int .i64 258), .lit (.int .i64 0)]]
def laid_inkwell_syms_distances {H : Type} : DataW H := .agg [.agg [.lit (.int .i64 1), .lit (.int .i64 0)], .agg [.lit (.int .i64 2), .lit (.int .i64 0)], .agg [.lit (.int .i64 3), .lit (.int .i64 0)], .agg [.lit (.int .i64 4), .lit (.int .i64 0)], .agg [.lit (.int .i64 5), .lit (.int .i64 1)], .agg [.lit (.int .i64 7), .lit (.int .i64 1)], .agg [.lit (.int .i64 9), .lit (.int .i64 2)], .agg [.lit (.int .i64 13), .lit (.int .i64 2)], .agg [.lit (.int .i64 17), .lit (.int .i64 3)], .agg [.lit (.int .i64 25), .lit (.int .i64 3)], .agg [.lit (.int .i64 33), .lit (.int .i64 4)], .agg [.lit (.int .i64 49), .lit (.int .i64 4)], .agg [.lit (.int .i64 65), .lit (.int .i64 5)], .agg [.lit (.int .i64 97), .lit (.int .i64 5)], .agg [.lit (.int .i64 129), .lit (.int .i64 6)], .agg [.lit (.int .i64 193), .lit (.int .i64 6)], .agg [.lit (.int .i64 257), .lit (.int .i64 7)], .agg [.lit (.int .i64 385), .lit (.int .i64 7)], .agg [.lit (.int .i64 513), .lit (.int .i64 8)], .agg [.lit (.int .i64 769), .lit (.int .i64 8)], .agg [.lit (.int .i64 1025), .lit (.int .i64 9)], .agg [.lit (.int .i64 1537), .lit (.int .i64 9)], .agg [.lit (.int .i64 2049), .lit (.int .i64 10)], .agg [.lit (.int .i64 3073), .lit (.int .i64 10)], .agg [.lit (.int .i64 4097), .lit (.int .i64 11)], .agg [.lit (.int .i64 6145), .lit (.int .i64 11)], .agg [.lit (.int .i64 8193), .lit (.int .i64 12)], .agg [.lit (.int .i64 12289), .lit (.int .i64 12)], .agg [.lit (.int .i64 16385), .lit (.int .i64 13)], .agg [.lit (.int .i64 24577), .lit (.int .i64 13)]]
def laid_inkwell_codes_spans {H : Type} : DataW H := .agg [.agg [.lit (.int .i64 3), .lit (.int .i64 6), .lit (.int .i64 2)], .agg [.lit (.int .i64 3), .lit (.int .i64 10), .lit (.int .i64 3)], .agg [.lit (.int .i64 11), .lit (.int .i64 138), .lit (.int .i64 7)]]
def laid_inkwell_codes_order {H : Type} : DataW H := .agg [.lit (.int .i64 16), .lit (.int .i64 17), .lit (.int .i64 18), .lit (.int .i64 0), .lit (.int .i64 8), .lit (.int .i64 7), .lit (.int .i64 9), .lit (.int .i64 6), .lit (.int .i64 10), .lit (.int .i64 5), .lit (.int .i64 11), .lit (.int .i64 4), .lit (.int .i64 12), .lit (.int .i64 3), .lit (.int .i64 13), .lit (.int .i64 2), .lit (.int .i64 14), .lit (.int .i64 1), .lit (.int .i64 15)]

/-- 'inkwelllaw10.InflateBack': WHATEVER THE INPUT: true; the input reads as it did. -/
def inflateBackSpec : ChangeSpec := { name := "inflateBack", fn := fun _ => fun
  | [d1, d2] => { results := [.lit (.bool true)], args := [d1, d2] }
  | _ => none }
def inflateBackRow : OpenClaim := { program := "ytgpkiijmembggaagreatdoor", sum := "a22e85516bf19b7b2fbebe728d82e8bbb28a5c35e8e4dc91cacdfccffdf039ce", func := "inkwell/inkwelllaw10.InflateBack", spec := "inflateBack", unfollowed := true, recurses := true, named := ["inkwell/syms.lengths", "inkwell/syms.distances", "inkwell/codes.order", "inkwell/codes.spans"], plainKeys := false, apart := false, laid := [("inkwell/syms.lengths", laid_inkwell_syms_lengths), ("inkwell/syms.distances", laid_inkwell_syms_distances), ("inkwell/codes.spans", laid_inkwell_codes_spans), ("inkwell/codes.order", laid_inkwell_codes_order)] }
def InflateBackSaid : Prop := inflateBackRow.holds Tryz.pinned (OpenSpec.ofChange inflateBackSpec)

/-- ITS FALSE NEIGHBOUR: 'it returns false'. Refute it at one input. -/
def inflateBackWrong : ChangeSpec := { name := "inflateBack", fn := fun _ => fun
  | [d1, d2] => { results := [.lit (.bool false)], args := [d1, d2] }
  | _ => none }
def InflateBackWrongFalsely : Prop := inflateBackRow.holds Tryz.pinned (OpenSpec.ofChange inflateBackWrong)

/-- 'inkwelllaw10.InflateCuts': WHATEVER THE INPUT: true; the input reads as it did. -/
def inflateCutsSpec : ChangeSpec := { name := "inflateCuts", fn := fun _ => fun
  | [d1, d2] => { results := [.lit (.bool true)], args := [d1, d2] }
  | _ => none }
def inflateCutsRow : OpenClaim := { program := "ytgpkiijmembggaagreatdoor", sum := "a22e85516bf19b7b2fbebe728d82e8bbb28a5c35e8e4dc91cacdfccffdf039ce", func := "inkwell/inkwelllaw10.InflateCuts", spec := "inflateCuts", unfollowed := true, recurses := true, named := ["inkwell/syms.lengths", "inkwell/syms.distances", "inkwell/codes.order", "inkwell/codes.spans"], plainKeys := false, apart := false, laid := [("inkwell/syms.lengths", laid_inkwell_syms_lengths), ("inkwell/syms.distances", laid_inkwell_syms_distances), ("inkwell/codes.spans", laid_inkwell_codes_spans), ("inkwell/codes.order", laid_inkwell_codes_order)] }
def InflateCutsSaid : Prop := inflateCutsRow.holds Tryz.pinned (OpenSpec.ofChange inflateCutsSpec)

/-- ITS FALSE NEIGHBOUR: 'it returns false'. Refute it at one input. -/
def inflateCutsWrong : ChangeSpec := { name := "inflateCuts", fn := fun _ => fun
  | [d1, d2] => { results := [.lit (.bool false)], args := [d1, d2] }
  | _ => none }
def InflateCutsWrongFalsely : Prop := inflateCutsRow.holds Tryz.pinned (OpenSpec.ofChange inflateCutsWrong)

/-- 'inkwelllaw10.InflateJoins': WHATEVER THE INPUT: true; the input reads as it did. -/
def inflateJoinsSpec : ChangeSpec := { name := "inflateJoins", fn := fun _ => fun
  | [d1, d2] => { results := [.lit (.bool true)], args := [d1, d2] }
  | _ => none }
def inflateJoinsRow : OpenClaim := { program := "ytgpkiijmembggaagreatdoor", sum := "a22e85516bf19b7b2fbebe728d82e8bbb28a5c35e8e4dc91cacdfccffdf039ce", func := "inkwell/inkwelllaw10.InflateJoins", spec := "inflateJoins", unfollowed := true, recurses := true, named := ["inkwell/syms.lengths", "inkwell/syms.distances", "inkwell/codes.order", "inkwell/codes.spans"], plainKeys := false, apart := false, laid := [("inkwell/syms.lengths", laid_inkwell_syms_lengths), ("inkwell/syms.distances", laid_inkwell_syms_distances), ("inkwell/codes.spans", laid_inkwell_codes_spans), ("inkwell/codes.order", laid_inkwell_codes_order)] }
def InflateJoinsSaid : Prop := inflateJoinsRow.holds Tryz.pinned (OpenSpec.ofChange inflateJoinsSpec)

/-- ITS FALSE NEIGHBOUR: 'it returns false'. Refute it at one input. -/
def inflateJoinsWrong : ChangeSpec := { name := "inflateJoins", fn := fun _ => fun
  | [d1, d2] => { results := [.lit (.bool false)], args := [d1, d2] }
  | _ => none }
def InflateJoinsWrongFalsely : Prop := inflateJoinsRow.holds Tryz.pinned (OpenSpec.ofChange inflateJoinsWrong)

/-- 'inkwelllaw10.InflateEmpties': WHATEVER THE INPUT: true; the input reads as it did. -/
def inflateEmptiesSpec : ChangeSpec := { name := "inflateEmpties", fn := fun _ => fun
  | [d1, d2] => { results := [.lit (.bool true)], args := [d1, d2] }
  | _ => none }
def inflateEmptiesRow : OpenClaim := { program := "ytgpkiijmembggaagreatdoor", sum := "a22e85516bf19b7b2fbebe728d82e8bbb28a5c35e8e4dc91cacdfccffdf039ce", func := "inkwell/inkwelllaw10.InflateEmpties", spec := "inflateEmpties", unfollowed := true, recurses := true, named := ["inkwell/syms.lengths", "inkwell/syms.distances", "inkwell/codes.order", "inkwell/codes.spans"], plainKeys := false, apart := false, laid := [("inkwell/syms.lengths", laid_inkwell_syms_lengths), ("inkwell/syms.distances", laid_inkwell_syms_distances), ("inkwell/codes.spans", laid_inkwell_codes_spans), ("inkwell/codes.order", laid_inkwell_codes_order)] }
def InflateEmptiesSaid : Prop := inflateEmptiesRow.holds Tryz.pinned (OpenSpec.ofChange inflateEmptiesSpec)

/-- ITS FALSE NEIGHBOUR: 'it returns false'. Refute it at one input. -/
def inflateEmptiesWrong : ChangeSpec := { name := "inflateEmpties", fn := fun _ => fun
  | [d1, d2] => { results := [.lit (.bool false)], args := [d1, d2] }
  | _ => none }
def InflateEmptiesWrongFalsely : Prop := inflateEmptiesRow.holds Tryz.pinned (OpenSpec.ofChange inflateEmptiesWrong)

/- THE SECOND FORM. 'bulk': how many values and letters a reading holds, each counted each time it is reached (what is shared counts as often as it is met; a slice's spare places count too). A statement '..UptoSaid' is the law's where the arguments, and the package variables that the reading takes, are together of bulk at most 1048576: NARROWER than '..Said'. Prove '..Said' where nothing that the law and all that it calls make is longer than what came in: it says more and counts as full. Else prove '..UptoSaid'. A law counts once. -/
mutual
def uptoBulk {H : Type} : DataW H → Nat
  | .lit (.string bytes) => bytes.length + 1
  | .lit _ => 1
  | .nil => 1
  | .ptr d => uptoBulk d + 1
  | .slice elems spare => uptoBulkAll elems + uptoBulkAll spare + 1
  | .agg parts => uptoBulkAll parts + 1
  | .iface _ d => uptoBulk d + 1
  | .map entries => uptoBulkEntries entries + 1
  | .held _ => 1
def uptoBulkAll {H : Type} : List (DataW H) → Nat
  | [] => 0
  | d :: r => uptoBulk d + uptoBulkAll r
def uptoBulkEntries {H : Type} : List (Lit × DataW H) → Nat
  | [] => 0
  | x :: r => uptoBulkEntry x + uptoBulkEntries r
def uptoBulkEntry {H : Type} : Lit × DataW H → Nat
  | (.string bytes, d) => bytes.length + uptoBulk d + 1
  | (_, d) => uptoBulk d + 1
 end
def uptoSmall : (H : Type) → List (DataW H) → Bool := fun _ ds => decide (uptoBulkAll ds ≤ 1048576)
def OpenSpec.upto (s : _root_.Go.ChangeSpec) : _root_.Go.OpenSpec := { _root_.Go.OpenSpec.ofChange s with cond := some uptoSmall }

/-- 'inkwelllaw10.InflateBack', WHERE WHAT IT READS IS OF BULK AT MOST 1048576: true; the input reads as it did. -/
def inflateBackUptoRow : OpenClaim := { program := "ytgpkiijmembggaagreatdoor", sum := "a22e85516bf19b7b2fbebe728d82e8bbb28a5c35e8e4dc91cacdfccffdf039ce", func := "inkwell/inkwelllaw10.InflateBack", spec := "inflateBack", unfollowed := true, recurses := true, named := ["inkwell/syms.lengths", "inkwell/syms.distances", "inkwell/codes.order", "inkwell/codes.spans"], plainKeys := false, apart := false, laid := [("inkwell/syms.lengths", laid_inkwell_syms_lengths), ("inkwell/syms.distances", laid_inkwell_syms_distances), ("inkwell/codes.spans", laid_inkwell_codes_spans), ("inkwell/codes.order", laid_inkwell_codes_order)], narrowed := true }
def InflateBackUptoSaid : Prop := inflateBackUptoRow.holds Tryz.pinned (OpenSpec.upto inflateBackSpec)

/-- 'inkwelllaw10.InflateCuts', WHERE WHAT IT READS IS OF BULK AT MOST 1048576: true; the input reads as it did. -/
def inflateCutsUptoRow : OpenClaim := { program := "ytgpkiijmembggaagreatdoor", sum := "a22e85516bf19b7b2fbebe728d82e8bbb28a5c35e8e4dc91cacdfccffdf039ce", func := "inkwell/inkwelllaw10.InflateCuts", spec := "inflateCuts", unfollowed := true, recurses := true, named := ["inkwell/syms.lengths", "inkwell/syms.distances", "inkwell/codes.order", "inkwell/codes.spans"], plainKeys := false, apart := false, laid := [("inkwell/syms.lengths", laid_inkwell_syms_lengths), ("inkwell/syms.distances", laid_inkwell_syms_distances), ("inkwell/codes.spans", laid_inkwell_codes_spans), ("inkwell/codes.order", laid_inkwell_codes_order)], narrowed := true }
def InflateCutsUptoSaid : Prop := inflateCutsUptoRow.holds Tryz.pinned (OpenSpec.upto inflateCutsSpec)

/-- 'inkwelllaw10.InflateJoins', WHERE WHAT IT READS IS OF BULK AT MOST 1048576: true; the input reads as it did. -/
def inflateJoinsUptoRow : OpenClaim := { program := "ytgpkiijmembggaagreatdoor", sum := "a22e85516bf19b7b2fbebe728d82e8bbb28a5c35e8e4dc91cacdfccffdf039ce", func := "inkwell/inkwelllaw10.InflateJoins", spec := "inflateJoins", unfollowed := true, recurses := true, named := ["inkwell/syms.lengths", "inkwell/syms.distances", "inkwell/codes.order", "inkwell/codes.spans"], plainKeys := false, apart := false, laid := [("inkwell/syms.lengths", laid_inkwell_syms_lengths), ("inkwell/syms.distances", laid_inkwell_syms_distances), ("inkwell/codes.spans", laid_inkwell_codes_spans), ("inkwell/codes.order", laid_inkwell_codes_order)], narrowed := true }
def InflateJoinsUptoSaid : Prop := inflateJoinsUptoRow.holds Tryz.pinned (OpenSpec.upto inflateJoinsSpec)

/-- 'inkwelllaw10.InflateEmpties', WHERE WHAT IT READS IS OF BULK AT MOST 1048576: true; the input reads as it did. -/
def inflateEmptiesUptoRow : OpenClaim := { program := "ytgpkiijmembggaagreatdoor", sum := "a22e85516bf19b7b2fbebe728d82e8bbb28a5c35e8e4dc91cacdfccffdf039ce", func := "inkwell/inkwelllaw10.InflateEmpties", spec := "inflateEmpties", unfollowed := true, recurses := true, named := ["inkwell/syms.lengths", "inkwell/syms.distances", "inkwell/codes.order", "inkwell/codes.spans"], plainKeys := false, apart := false, laid := [("inkwell/syms.lengths", laid_inkwell_syms_lengths), ("inkwell/syms.distances", laid_inkwell_syms_distances), ("inkwell/codes.spans", laid_inkwell_codes_spans), ("inkwell/codes.order", laid_inkwell_codes_order)], narrowed := true }
def InflateEmptiesUptoSaid : Prop := inflateEmptiesUptoRow.holds Tryz.pinned (OpenSpec.upto inflateEmptiesSpec)

end Rows
end Go.Proofs.YtgpkiijmembggaaGreatDoor
