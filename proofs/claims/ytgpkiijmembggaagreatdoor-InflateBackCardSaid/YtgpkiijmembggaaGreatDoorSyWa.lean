/-
  What reads as a table of pairs holds its numbers: the tables lengths, distances.
-/
import Derived.Test.YtgpkiijmembggaaGreatDoorCards
import Derived.Test.YtgpkiijmembggaaGreatDoorTie
import Derived.Test.YtgpkiijmembggaaGreatDoorZm13
import Derived.Test.YtgpkiijmembggaaGreatDoorZm04
import Derived.ProofKit
import Derived.OpenShut
import Derived.Deep.DeepHandedRow
import Derived.Lib.LaidTab
import Derived.Stop.LaidErr
namespace Go.Proofs.YtgpkiijmembggaaGreatDoor
open Go.ChangeShapes Go.WideShapes Go.ChangeAt Go.RowKit SyM Mem

/-- a table of pairs, as a row lists it -/
def pairD {H : Type} (R : List (Nat × Nat)) : DataW H := .agg (R.map fun p => .agg [.lit (.int .i64 (p.1 : Int)), .lit (.int .i64 (p.2 : Int))])
theorem cSpan7 : Tryz.prog.cellsOf 115 = 2 := by kernel_rfl
theorem cInt7 : Tryz.prog.cellsOf 3 = 1 := by kernel_rfl
/-- what reads as such a table holds its numbers -/
theorem cells_of_pairs {H : Type} {enc : TypeId × Value → H} {w : World} {base : Nat} {sp : Nat → Bool} {held : Bool} {fuel : Nat} {t : TypeId} {n : Nat} {cs : List Value} {R : List (Nat × Nat)} {p : List MemPlace}
    (ht : Tryz.prog.underlying t = some (.array n 115)) (h : DataW.trod enc Tryz.prog w base sp held fuel t cs = some (pairD R, p)) :
    ∀ i, i < R.length → cs[i * 2]? = some (.int .i64 (least R i : Int)) ∧ cs[i * 2 + 1]? = some (.int .i64 (wid R i : Int)) := by
  intro i hi
  obtain ⟨xs, m, _, hx, _, hlen, hall⟩ := DataW.trod_array ht h
  have hxs : xs.map (·.1) = R.map fun p => (DataW.agg [.lit (.int .i64 (p.1 : Int)), .lit (.int .i64 (p.2 : Int))] : DataW H) := by
    have := congrArg Prod.fst hx
    simpa [pairD] using this.symm
  have hn : R.length = n := by
    have := congrArg List.length hxs
    simp at this
    omega
  obtain ⟨⟨y, q⟩, hy⟩ : ∃ y, xs[i]? = some y := ⟨_, List.getElem?_eq_getElem (by omega)⟩
  have h1 := hall i (by omega)
  rw [hy, cSpan7] at h1
  have h2 : (xs.map (·.1))[i]? = some y := by simp [hy]
  rw [hxs, List.getElem?_map, List.getElem?_eq_getElem hi] at h2
  simp only [Option.map_some, Option.some.injEq] at h2
  obtain ⟨y0, y1, k, he, _, t0, t1⟩ := trod_struct2 Tryz.underlying115 h1
  obtain ⟨a, ha, rfl, _⟩ := DataW.trod_int Tryz.underlying3 t0
  obtain ⟨b, hb, rfl, _⟩ := DataW.trod_int Tryz.underlying3 t1
  simp only [Prod.mk.injEq] at he
  obtain ⟨rfl, _⟩ := he
  rw [cInt7] at ha hb
  simp only [DataW.agg.injEq, List.cons.injEq, DataW.lit.injEq, Lit.int.injEq, true_and, and_true] at h2
  obtain ⟨rfl, rfl⟩ := h2
  unfold least wid
  rw [getElem!_pos R i hi]
  constructor
  · have := congrArg (·[0]?) ha
    simpa using this
  · have := congrArg (·[0]?) hb
    simpa using this
theorem gLens : Tryz.prog.globalNamed "inkwell/syms.lengths" = some 0 := by kernel_rfl
theorem gDists : Tryz.prog.globalNamed "inkwell/syms.distances" = some 1 := by kernel_rfl
theorem tLens : (Tryz.prog.globals[0]?).map (·.type) = some 116 := by kernel_rfl
theorem tDists : (Tryz.prog.globals[1]?).map (·.type) = some 119 := by kernel_rfl
theorem tab_of_head {W : World} {name : String} {g : Nat} {t : TypeId} {n : Nat} {R : List (Nat × Nat)} {rest : List (String × DataW Unit)}
    (hg : Tryz.prog.globalNamed name = some g) (hty : (Tryz.prog.globals[g]?).map (·.type) = some t) (ht : Tryz.prog.underlying t = some (.array n 115)) (h : laidMet Tryz.prog ((name, pairD R) :: rest) W) : TabG W g R := by
  obtain ⟨ps, ⟨g', t', cs, fuel, p, q, hg', ht', hvar, hd, _, _⟩, _⟩ := h
  obtain rfl := Option.some.inj (hg.symm.trans hg')
  obtain rfl := Option.some.inj (hty.symm.trans ht')
  have hc := cells_of_pairs ht hd
  intro i hi
  have e1 := World.var?_cell hg hvar (i * 2)
  have e2 := World.var?_cell hg hvar (i * 2 + 1)
  rw [e1, e2]
  simpa using hc i hi
def pairC (R : List (Nat × Nat)) : List Value := R.flatMap fun p => [.int .i64 (p.1 : Int), .int .i64 (p.2 : Int)]
end Go.Proofs.YtgpkiijmembggaaGreatDoor
