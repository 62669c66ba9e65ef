/-
  From what the rows list (the tables first, keys) to the walks' premise; a world for the witness.
-/
import Derived.Test.YtjjeahijcibafaaDoorCards
import Derived.Test.YtjjeahijcibafaaDoorTie
import Derived.Test.YtjjeahijcibafaaDoorShqJ
import Derived.Test.YtjjeahijcibafaaDoorR
import Derived.ProofKit
import Derived.OpenShut
import Derived.Deep.DeepHandedRow
import Derived.Lib.LaidTab
import Derived.Stop.LaidErr
namespace Go.Proofs.YtjjeahijcibafaaDoor
open Go.ChangeShapes Go.WideShapes Go.ChangeAt Go.RowKit ShaM Mem

theorem gFirst : Tryd.prog.globalNamed "inkwell/sha.first" = some 0 := by kernel_rfl
theorem gKeys : Tryd.prog.globalNamed "inkwell/sha.keys" = some 1 := by kernel_rfl
theorem tFirst : (Tryd.prog.globals[0]?).map (·.type) = some 35 := by kernel_rfl
theorem tKeys : (Tryd.prog.globals[1]?).map (·.type) = some 62 := by kernel_rfl
theorem c8 : Tryd.prog.cellsOf 35 = 8 := by kernel_rfl
theorem c64 : Tryd.prog.cellsOf 62 = 64 := by kernel_rfl
theorem c1 : Tryd.prog.cellsOf 34 = 1 := by kernel_rfl
theorem eFirst : (Rows.laid_inkwell_sha_first : DataW Unit) = Lib.tabData .u32 (first.map fun (n : Nat) => (n : Int)) := rfl
theorem eKeys : (Rows.laid_inkwell_sha_keys : DataW Unit) = Lib.tabData .u32 (keys.map fun (n : Nat) => (n : Int)) := rfl
def laidL : List (String × DataW Unit) := [("inkwell/sha.first", Rows.laid_inkwell_sha_first), ("inkwell/sha.keys", Rows.laid_inkwell_sha_keys)]
theorem gl_of_laid {W : World} (h : laidMetH Tryd.prog laidL W) : Gl W := by
  have h0 : laidMet Tryd.prog (("inkwell/sha.first", Lib.tabData .u32 (first.map fun (n : Nat) => (n : Int))) :: [("inkwell/sha.keys", Lib.tabData .u32 (keys.map fun (n : Nat) => (n : Int)))]) W := h
  have t1 := Lib.tabIs_of_head gFirst tFirst Tryd.underlying35 Tryd.underlying34 c1 c8 h0
  have t2 := Lib.tabIs_of_head (rest := []) gKeys tKeys Tryd.underlying62 Tryd.underlying34 c1 c64 h0.tail
  refine ⟨fun i x hx => ?_, fun i x hx => ?_⟩
  · have h1 := t1.cell gFirst i (by rw [List.length_map]; exact (List.getElem?_eq_some_iff.1 hx).1)
    rw [List.getD_eq_getElem?_getD, List.getElem?_map, hx] at h1
    exact h1
  · have h1 := t2.cell gKeys i (by rw [List.length_map]; exact (List.getElem?_eq_some_iff.1 hx).1)
    rw [List.getD_eq_getElem?_getD, List.getElem?_map, hx] at h1
    exact h1
def layCells (cs : Array Value) : Obj → Obj
  | .cells _ t frozen => .cells cs t frozen
  | o => o
/-- the settled world, the tables holding what their initialisers lay -/
noncomputable def laidWorld (os : Os) : World :=
  { World.holding Tryd.prog os ⟨#[], #[], []⟩ with heap := ((World.holding Tryd.prog os ⟨#[], #[], []⟩).heap.modify 0 (layCells (first.map num32).toArray)).modify 1 (layCells (keys.map num32).toArray) }
end Go.Proofs.YtjjeahijcibafaaDoor
