/-
  NARROWER THAN 'FOR EVERY INPUT', by the rows' own cells (each row's printed sentence says how): CodesPresses: laid · CodesPuts: laid · CodesGets: laid · CodesBack: laid · CodesSays: laid · CodesFew: laid.
  DERIVED. THE GIVEN ROWS OF THIS SEAT. 6 by the template 'for every input the law returns true; each argument reads behind the call as it read before'; 0 by the template 'total and deterministic' (their statements: YtjghcacepneipaaDoorTotals.lean).
  GIVEN WITH THE SEED: the statements are not yours to turn. If you find one false, say at which input.
  Laid BY PROGRAM, IN A SANDBOX (cutbox-rows.mjs): the forced cells as the released guide's own fill.sh prints them over the translation 45cb5a4d72a35438… (all of the seat's roots in one cut). By AI agents, Wed Nov 11 2026. No macro, syntax, notation, axiom, sorry.
-/
import Derived.Test.YtjghcacepneipaaDoorChecked
import GoSem.Claim
import GoSem.ClaimJoined
import GoSem.ClaimMapViews
import Derived.JoinedTies
import Derived.KernelRfl
namespace Go.Proofs.YtjghcacepneipaaDoor
/- THE CELL 'sum', in the pinned program and in every row, IS THE sha256 OF THE DUMP (.gsa) THAT YtjghcacepneipaaDoorProg.lean LOADS. Nothing in Lean hashes anything: it is a label: what it is worth is what the hold of that sum in a sandbox is worth. -/
noncomputable def Tryd.pinned : Pinned := { name := "ytjghcacepneipaadoor", sum := "45cb5a4d72a354384307917ef5e3b34aa7122dacc898127c43653863fd41bf93", checked := Tryd.checked }
namespace Rows
def none {H : Type} : Left H := { results := [], args := [] }

/- WHAT THE LISTED PACKAGE-LEVEL VARIABLES READ AS WHEN THE CALL BEGINS. Each datum BY PROGRAM (the guide's laid-datum.mjs) off the statement by which the dump's own 'gosem.cut.vars' lays the variable. In a bare row this is a premise. The card (YtjghcacepneipaaDoorCards.lean) ties it to the program's text. -/
def laid_inkwell_codes_spans {H : Type} : DataW H := .agg [.agg [.lit (.int .i64 3), .lit (.int .i64 6), .lit (.int .i64 2)], .agg [.lit (.int .i64 3), .lit (.int .i64 10), .lit (.int .i64 3)], .agg [.lit (.int .i64 11), .lit (.int .i64 138), .lit (.int .i64 7)]]
def laid_inkwell_codes_order {H : Type} : DataW H := .agg [.lit (.int .i64 16), .lit (.int .i64 17), .lit (.int .i64 18), .lit (.int .i64 0), .lit (.int .i64 8), .lit (.int .i64 7), .lit (.int .i64 9), .lit (.int .i64 6), .lit (.int .i64 10), .lit (.int .i64 5), .lit (.int .i64 11), .lit (.int .i64 4), .lit (.int .i64 12), .lit (.int .i64 3), .lit (.int .i64 13), .lit (.int .i64 2), .lit (.int .i64 14), .lit (.int .i64 1), .lit (.int .i64 15)]

/-- 'inkwelllaw08.CodesPresses': WHATEVER THE INPUT: true; the input reads as it did. -/
def codesPressesSpec : ChangeSpec := { name := "codesPresses", fn := fun _ => fun
  | [d] => { results := [.lit (.bool true)], args := [d] }
  | _ => none }
def codesPressesRow : OpenClaim := { program := "ytjghcacepneipaadoor", sum := "45cb5a4d72a354384307917ef5e3b34aa7122dacc898127c43653863fd41bf93", func := "inkwell/inkwelllaw08.CodesPresses", spec := "codesPresses", named := ["inkwell/codes.spans"], apart := false, laid := [("inkwell/codes.spans", laid_inkwell_codes_spans)] }
def CodesPressesSaid : Prop := codesPressesRow.holds Tryd.pinned (OpenSpec.ofChange codesPressesSpec)

/-- ITS FALSE NEIGHBOUR: 'it returns false'. Refute it at one input. -/
def codesPressesWrong : ChangeSpec := { name := "codesPresses", fn := fun _ => fun
  | [d] => { results := [.lit (.bool false)], args := [d] }
  | _ => none }
def CodesPressesWrongFalsely : Prop := codesPressesRow.holds Tryd.pinned (OpenSpec.ofChange codesPressesWrong)

/-- 'inkwelllaw08.CodesPuts': WHATEVER THE INPUT: true; the input reads as it did. -/
def codesPutsSpec : ChangeSpec := { name := "codesPuts", fn := fun _ => fun
  | [d1, d2] => { results := [.lit (.bool true)], args := [d1, d2] }
  | _ => none }
def codesPutsRow : OpenClaim := { program := "ytjghcacepneipaadoor", sum := "45cb5a4d72a354384307917ef5e3b34aa7122dacc898127c43653863fd41bf93", func := "inkwell/inkwelllaw08.CodesPuts", spec := "codesPuts", unfollowed := true, recurses := true, named := ["inkwell/codes.spans", "inkwell/codes.order"], apart := false, laid := [("inkwell/codes.spans", laid_inkwell_codes_spans), ("inkwell/codes.order", laid_inkwell_codes_order)] }
def CodesPutsSaid : Prop := codesPutsRow.holds Tryd.pinned (OpenSpec.ofChange codesPutsSpec)

/-- ITS FALSE NEIGHBOUR: 'it returns false'. Refute it at one input. -/
def codesPutsWrong : ChangeSpec := { name := "codesPuts", fn := fun _ => fun
  | [d1, d2] => { results := [.lit (.bool false)], args := [d1, d2] }
  | _ => none }
def CodesPutsWrongFalsely : Prop := codesPutsRow.holds Tryd.pinned (OpenSpec.ofChange codesPutsWrong)

/-- 'inkwelllaw08.CodesGets': WHATEVER THE INPUT: true; the input reads as it did. -/
def codesGetsSpec : ChangeSpec := { name := "codesGets", fn := fun _ => fun
  | [d] => { results := [.lit (.bool true)], args := [d] }
  | _ => none }
def codesGetsRow : OpenClaim := { program := "ytjghcacepneipaadoor", sum := "45cb5a4d72a354384307917ef5e3b34aa7122dacc898127c43653863fd41bf93", func := "inkwell/inkwelllaw08.CodesGets", spec := "codesGets", unfollowed := true, recurses := true, named := ["inkwell/codes.spans", "inkwell/codes.order"], apart := false, laid := [("inkwell/codes.spans", laid_inkwell_codes_spans), ("inkwell/codes.order", laid_inkwell_codes_order)] }
def CodesGetsSaid : Prop := codesGetsRow.holds Tryd.pinned (OpenSpec.ofChange codesGetsSpec)

/-- ITS FALSE NEIGHBOUR: 'it returns false'. Refute it at one input. -/
def codesGetsWrong : ChangeSpec := { name := "codesGets", fn := fun _ => fun
  | [d] => { results := [.lit (.bool false)], args := [d] }
  | _ => none }
def CodesGetsWrongFalsely : Prop := codesGetsRow.holds Tryd.pinned (OpenSpec.ofChange codesGetsWrong)

/-- 'inkwelllaw08.CodesBack': WHATEVER THE INPUT: true; the input reads as it did. -/
def codesBackSpec : ChangeSpec := { name := "codesBack", fn := fun _ => fun
  | [d1, d2] => { results := [.lit (.bool true)], args := [d1, d2] }
  | _ => none }
def codesBackRow : OpenClaim := { program := "ytjghcacepneipaadoor", sum := "45cb5a4d72a354384307917ef5e3b34aa7122dacc898127c43653863fd41bf93", func := "inkwell/inkwelllaw08.CodesBack", spec := "codesBack", unfollowed := true, recurses := true, named := ["inkwell/codes.spans", "inkwell/codes.order"], apart := false, laid := [("inkwell/codes.spans", laid_inkwell_codes_spans), ("inkwell/codes.order", laid_inkwell_codes_order)] }
def CodesBackSaid : Prop := codesBackRow.holds Tryd.pinned (OpenSpec.ofChange codesBackSpec)

/-- ITS FALSE NEIGHBOUR: 'it returns false'. Refute it at one input. -/
def codesBackWrong : ChangeSpec := { name := "codesBack", fn := fun _ => fun
  | [d1, d2] => { results := [.lit (.bool false)], args := [d1, d2] }
  | _ => none }
def CodesBackWrongFalsely : Prop := codesBackRow.holds Tryd.pinned (OpenSpec.ofChange codesBackWrong)

/-- 'inkwelllaw08.CodesSays': WHATEVER THE INPUT: true; the input reads as it did. -/
def codesSaysSpec : ChangeSpec := { name := "codesSays", fn := fun _ => fun
  | [d] => { results := [.lit (.bool true)], args := [d] }
  | _ => none }
def codesSaysRow : OpenClaim := { program := "ytjghcacepneipaadoor", sum := "45cb5a4d72a354384307917ef5e3b34aa7122dacc898127c43653863fd41bf93", func := "inkwell/inkwelllaw08.CodesSays", spec := "codesSays", named := ["inkwell/codes.spans"], apart := false, laid := [("inkwell/codes.spans", laid_inkwell_codes_spans)] }
def CodesSaysSaid : Prop := codesSaysRow.holds Tryd.pinned (OpenSpec.ofChange codesSaysSpec)

/-- ITS FALSE NEIGHBOUR: 'it returns false'. Refute it at one input. -/
def codesSaysWrong : ChangeSpec := { name := "codesSays", fn := fun _ => fun
  | [d] => { results := [.lit (.bool false)], args := [d] }
  | _ => none }
def CodesSaysWrongFalsely : Prop := codesSaysRow.holds Tryd.pinned (OpenSpec.ofChange codesSaysWrong)

/-- 'inkwelllaw08.CodesFew': WHATEVER THE INPUT: true; the input reads as it did. -/
def codesFewSpec : ChangeSpec := { name := "codesFew", fn := fun _ => fun
  | [d1, d2, d3] => { results := [.lit (.bool true)], args := [d1, d2, d3] }
  | _ => none }
def codesFewRow : OpenClaim := { program := "ytjghcacepneipaadoor", sum := "45cb5a4d72a354384307917ef5e3b34aa7122dacc898127c43653863fd41bf93", func := "inkwell/inkwelllaw08.CodesFew", spec := "codesFew", named := ["inkwell/codes.spans"], apart := false, laid := [("inkwell/codes.spans", laid_inkwell_codes_spans)] }
def CodesFewSaid : Prop := codesFewRow.holds Tryd.pinned (OpenSpec.ofChange codesFewSpec)

/-- ITS FALSE NEIGHBOUR: 'it returns false'. Refute it at one input. -/
def codesFewWrong : ChangeSpec := { name := "codesFew", fn := fun _ => fun
  | [d1, d2, d3] => { results := [.lit (.bool false)], args := [d1, d2, d3] }
  | _ => none }
def CodesFewWrongFalsely : Prop := codesFewRow.holds Tryd.pinned (OpenSpec.ofChange codesFewWrong)

/- THE SECOND FORM. 'bulk': how many values and letters a reading holds, each counted each time it is reached (what is shared counts as often as it is met; a slice's spare places count too). A statement '..UptoSaid' is the law's where the arguments, and the package variables that the reading takes, are together of bulk at most 1048576: NARROWER than '..Said'. Prove '..Said' where nothing that the law and all that it calls make is longer than what came in: it says more and counts as full. Else prove '..UptoSaid'. A law counts once. -/
mutual
def uptoBulk {H : Type} : DataW H → Nat
  | .lit (.string bytes) => bytes.length + 1
  | .lit _ => 1
  | .nil => 1
  | .ptr d => uptoBulk d + 1
  | .slice elems spare => uptoBulkAll elems + uptoBulkAll spare + 1
  | .agg parts => uptoBulkAll parts + 1
  | .iface _ d => uptoBulk d + 1
  | .map entries => uptoBulkEntries entries + 1
  | .held _ => 1
def uptoBulkAll {H : Type} : List (DataW H) → Nat
  | [] => 0
  | d :: r => uptoBulk d + uptoBulkAll r
def uptoBulkEntries {H : Type} : List (Lit × DataW H) → Nat
  | [] => 0
  | x :: r => uptoBulkEntry x + uptoBulkEntries r
def uptoBulkEntry {H : Type} : Lit × DataW H → Nat
  | (.string bytes, d) => bytes.length + uptoBulk d + 1
  | (_, d) => uptoBulk d + 1
 end
def uptoSmall : (H : Type) → List (DataW H) → Bool := fun _ ds => decide (uptoBulkAll ds ≤ 1048576)
def OpenSpec.upto (s : _root_.Go.ChangeSpec) : _root_.Go.OpenSpec := { _root_.Go.OpenSpec.ofChange s with cond := some uptoSmall }

/-- 'inkwelllaw08.CodesPresses', WHERE WHAT IT READS IS OF BULK AT MOST 1048576: true; the input reads as it did. -/
def codesPressesUptoRow : OpenClaim := { program := "ytjghcacepneipaadoor", sum := "45cb5a4d72a354384307917ef5e3b34aa7122dacc898127c43653863fd41bf93", func := "inkwell/inkwelllaw08.CodesPresses", spec := "codesPresses", named := ["inkwell/codes.spans"], apart := false, laid := [("inkwell/codes.spans", laid_inkwell_codes_spans)], narrowed := true }
def CodesPressesUptoSaid : Prop := codesPressesUptoRow.holds Tryd.pinned (OpenSpec.upto codesPressesSpec)

/-- 'inkwelllaw08.CodesPuts', WHERE WHAT IT READS IS OF BULK AT MOST 1048576: true; the input reads as it did. -/
def codesPutsUptoRow : OpenClaim := { program := "ytjghcacepneipaadoor", sum := "45cb5a4d72a354384307917ef5e3b34aa7122dacc898127c43653863fd41bf93", func := "inkwell/inkwelllaw08.CodesPuts", spec := "codesPuts", unfollowed := true, recurses := true, named := ["inkwell/codes.spans", "inkwell/codes.order"], apart := false, laid := [("inkwell/codes.spans", laid_inkwell_codes_spans), ("inkwell/codes.order", laid_inkwell_codes_order)], narrowed := true }
def CodesPutsUptoSaid : Prop := codesPutsUptoRow.holds Tryd.pinned (OpenSpec.upto codesPutsSpec)

/-- 'inkwelllaw08.CodesGets', WHERE WHAT IT READS IS OF BULK AT MOST 1048576: true; the input reads as it did. -/
def codesGetsUptoRow : OpenClaim := { program := "ytjghcacepneipaadoor", sum := "45cb5a4d72a354384307917ef5e3b34aa7122dacc898127c43653863fd41bf93", func := "inkwell/inkwelllaw08.CodesGets", spec := "codesGets", unfollowed := true, recurses := true, named := ["inkwell/codes.spans", "inkwell/codes.order"], apart := false, laid := [("inkwell/codes.spans", laid_inkwell_codes_spans), ("inkwell/codes.order", laid_inkwell_codes_order)], narrowed := true }
def CodesGetsUptoSaid : Prop := codesGetsUptoRow.holds Tryd.pinned (OpenSpec.upto codesGetsSpec)

/-- 'inkwelllaw08.CodesBack', WHERE WHAT IT READS IS OF BULK AT MOST 1048576: true; the input reads as it did. -/
def codesBackUptoRow : OpenClaim := { program := "ytjghcacepneipaadoor", sum := "45cb5a4d72a354384307917ef5e3b34aa7122dacc898127c43653863fd41bf93", func := "inkwell/inkwelllaw08.CodesBack", spec := "codesBack", unfollowed := true, recurses := true, named := ["inkwell/codes.spans", "inkwell/codes.order"], apart := false, laid := [("inkwell/codes.spans", laid_inkwell_codes_spans), ("inkwell/codes.order", laid_inkwell_codes_order)], narrowed := true }
def CodesBackUptoSaid : Prop := codesBackUptoRow.holds Tryd.pinned (OpenSpec.upto codesBackSpec)

/-- 'inkwelllaw08.CodesSays', WHERE WHAT IT READS IS OF BULK AT MOST 1048576: true; the input reads as it did. -/
def codesSaysUptoRow : OpenClaim := { program := "ytjghcacepneipaadoor", sum := "45cb5a4d72a354384307917ef5e3b34aa7122dacc898127c43653863fd41bf93", func := "inkwell/inkwelllaw08.CodesSays", spec := "codesSays", named := ["inkwell/codes.spans"], apart := false, laid := [("inkwell/codes.spans", laid_inkwell_codes_spans)], narrowed := true }
def CodesSaysUptoSaid : Prop := codesSaysUptoRow.holds Tryd.pinned (OpenSpec.upto codesSaysSpec)

/-- 'inkwelllaw08.CodesFew', WHERE WHAT IT READS IS OF BULK AT MOST 1048576: true; the input reads as it did. -/
def codesFewUptoRow : OpenClaim := { program := "ytjghcacepneipaadoor", sum := "45cb5a4d72a354384307917ef5e3b34aa7122dacc898127c43653863fd41bf93", func := "inkwell/inkwelllaw08.CodesFew", spec := "codesFew", named := ["inkwell/codes.spans"], apart := false, laid := [("inkwell/codes.spans", laid_inkwell_codes_spans)], narrowed := true }
def CodesFewUptoSaid : Prop := codesFewUptoRow.holds Tryd.pinned (OpenSpec.upto codesFewSpec)

end Rows
end Go.Proofs.YtjghcacepneipaaDoor
