/-
  What reads as a table of triples holds its numbers: the tables spans, order.
-/
import Derived.Test.YtgpkiijmembggaaGreatDoorCards
import Derived.Test.YtgpkiijmembggaaGreatDoorTie
import Derived.Test.YtgpkiijmembggaaGreatDoorZm14
import Derived.Test.YtgpkiijmembggaaGreatDoorZm04
import Derived.Deep.Strs
import Derived.ProofKit
import Derived.OpenShut
import Derived.Deep.DeepHandedRow
import Derived.Lib.LaidTab
import Derived.Stop.LaidErr
namespace Go.Proofs.YtgpkiijmembggaaGreatDoor
open Go.ChangeShapes Go.WideShapes Go.ChangeAt Go.RowKit CoM Mem

/-- a table of triples, as a row lists it -/
def tripD {H : Type} (R : List (Nat × Nat × Nat)) : DataW H := .agg (R.map fun p => .agg [.lit (.int .i64 (p.1 : Int)), .lit (.int .i64 (p.2.1 : Int)), .lit (.int .i64 (p.2.2 : Int))])
theorem cSpan : Tryz.prog.cellsOf 155 = 3 := by kernel_rfl
theorem cInt : Tryz.prog.cellsOf 3 = 1 := by kernel_rfl
/-- what reads as such a table holds its numbers -/
theorem cells_of_trips {H : Type} {enc : TypeId × Value → H} {w : World} {base : Nat} {sp : Nat → Bool} {held : Bool} {fuel : Nat} {t : TypeId} {n : Nat} {cs : List Value} {R : List (Nat × Nat × Nat)} {p : List MemPlace}
    (ht : Tryz.prog.underlying t = some (.array n 155)) (h : DataW.trod enc Tryz.prog w base sp held fuel t cs = some (tripD R, p)) :
    ∀ i a b c, R[i]? = some (a, b, c) → cs[i * 3]? = some (.int .i64 (a : Int)) ∧ cs[i * 3 + 1]? = some (.int .i64 (b : Int)) ∧ cs[i * 3 + 2]? = some (.int .i64 (c : Int)) := by
  intro i a b c hR
  have hi := (List.getElem?_eq_some_iff.1 hR).1
  obtain ⟨xs, m, _, hx, _, hlen, hall⟩ := DataW.trod_array ht h
  have hxs : xs.map (·.1) = R.map fun p => (DataW.agg [.lit (.int .i64 (p.1 : Int)), .lit (.int .i64 (p.2.1 : Int)), .lit (.int .i64 (p.2.2 : Int))] : DataW H) := by
    have := congrArg Prod.fst hx
    simpa [tripD] using this.symm
  have hn : R.length = n := by
    have := congrArg List.length hxs
    simp at this
    omega
  obtain ⟨⟨y, q⟩, hy⟩ : ∃ y, xs[i]? = some y := ⟨_, List.getElem?_eq_getElem (by omega)⟩
  have h1 := hall i (by omega)
  rw [hy, cSpan] at h1
  have h2 : (xs.map (·.1))[i]? = some y := by simp [hy]
  rw [hxs, List.getElem?_map, hR] at h2
  simp only [Option.map_some, Option.some.injEq] at h2
  obtain ⟨y0, y1, y2, k, he, _, t0, t1, t2⟩ := Go.Deep.trod_struct3 Tryz.underlying155 h1
  obtain ⟨a0, ha, rfl, _⟩ := DataW.trod_int Tryz.underlying3 t0
  obtain ⟨b0, hb, rfl, _⟩ := DataW.trod_int Tryz.underlying3 t1
  obtain ⟨c0, hc, rfl, _⟩ := DataW.trod_int Tryz.underlying3 t2
  simp only [Prod.mk.injEq] at he
  obtain ⟨rfl, _⟩ := he
  rw [cInt] at ha hb hc
  simp only [DataW.agg.injEq, List.cons.injEq, DataW.lit.injEq, Lit.int.injEq, true_and, and_true] at h2
  obtain ⟨rfl, rfl, rfl⟩ := h2
  refine ⟨?_, ?_, ?_⟩
  · have := congrArg (·[0]?) ha
    simpa using this
  · have := congrArg (·[0]?) hb
    simpa using this
  · have := congrArg (·[0]?) hc
    simpa using this
theorem gOrd : Tryz.prog.globalNamed "inkwell/codes.order" = some 2 := by kernel_rfl
theorem gSpan : Tryz.prog.globalNamed "inkwell/codes.spans" = some 3 := by kernel_rfl
theorem tOrd : (Tryz.prog.globals[2]?).map (·.type) = some 136 := by kernel_rfl
theorem tSpan : (Tryz.prog.globals[3]?).map (·.type) = some 170 := by kernel_rfl
theorem c19 : Tryz.prog.cellsOf 136 = 19 := by kernel_rfl
theorem gls_of_head {W : World} {rest : List (String × DataW Unit)} (h : laidMet Tryz.prog (("inkwell/codes.spans", tripD spn) :: rest) W) : GlS W := by
  obtain ⟨ps, ⟨g', t', cs, fuel, p, q, hg', ht', hvar, hd, _, _⟩, _⟩ := h
  obtain rfl := Option.some.inj (gSpan.symm.trans hg')
  obtain rfl := Option.some.inj (tSpan.symm.trans ht')
  have hc := cells_of_trips Tryz.underlying170 hd
  intro i a b c hx
  have e1 := World.var?_cell gSpan hvar (i * 3)
  have e2 := World.var?_cell gSpan hvar (i * 3 + 1)
  have e3 := World.var?_cell gSpan hvar (i * 3 + 2)
  rw [e1, e2, e3]
  simpa using hc i a b c hx
theorem eSpan : (Rows.laid_inkwell_codes_spans : DataW Unit) = tripD spn := rfl
theorem eOrd : (Rows.laid_inkwell_codes_order : DataW Unit) = Lib.tabData .i64 (ord.map fun (n : Nat) => (n : Int)) := rfl
def layCells (cs : Array Value) : Obj → Obj
  | .cells _ t frozen => .cells cs t frozen
  | o => o
def tripC (R : List (Nat × Nat × Nat)) : List Value := R.flatMap fun p => [.int .i64 (p.1 : Int), .int .i64 (p.2.1 : Int), .int .i64 (p.2.2 : Int)]
theorem gl8_of {W : World} {rest : List (String × DataW Unit)} (h : laidMet Tryz.prog (("inkwell/codes.spans", tripD spn) :: ("inkwell/codes.order", Lib.tabData .i64 (ord.map fun (n : Nat) => (n : Int))) :: rest) W) : Gl8 W := by
  have t1 := Lib.tabIs_of_head (rest := rest) gOrd tOrd Tryz.underlying136 Tryz.underlying3 cInt c19 h.tail
  refine ⟨fun i x hx => ?_, gls_of_head h⟩
  have h1 := t1.cell gOrd i (by rw [List.length_map]; exact (List.getElem?_eq_some_iff.1 hx).1)
  rw [List.getD_eq_getElem?_getD, List.getElem?_map, hx] at h1
  exact h1
end Go.Proofs.YtgpkiijmembggaaGreatDoor
