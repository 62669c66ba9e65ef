/-
  From what the rows list (the tables of syms and codes) to the walks' premise; a world for the witness.
-/
import Derived.Test.YtgpkiijmembggaaGreatDoorZm14
import Derived.Test.YtgpkiijmembggaaGreatDoorSyWa
import Derived.Test.YtgpkiijmembggaaGreatDoorCpWa
namespace Go.Proofs.YtgpkiijmembggaaGreatDoor
open Go.ChangeShapes Go.WideShapes Go.ChangeAt Go.RowKit Mem

theorem gl_of_laid {W : World} (h : laidMetH Tryz.prog [("inkwell/syms.lengths", Rows.laid_inkwell_syms_lengths), ("inkwell/syms.distances", Rows.laid_inkwell_syms_distances), ("inkwell/codes.spans", Rows.laid_inkwell_codes_spans), ("inkwell/codes.order", Rows.laid_inkwell_codes_order)] W) : Gl9 W := by
  have h0 : laidMet Tryz.prog (("inkwell/syms.lengths", pairD SyM.lens) :: ("inkwell/syms.distances", pairD SyM.dists) :: ("inkwell/codes.spans", tripD spn) :: ("inkwell/codes.order", Lib.tabData .i64 (CoM.ord.map fun (n : Nat) => (n : Int))) :: []) W := h
  exact ⟨⟨tab_of_head gLens tLens Tryz.underlying116 h0, tab_of_head gDists tDists Tryz.underlying119 h0.tail⟩, gl8_of h0.tail.tail⟩
/-- the settled world, the tables holding what their initialisers lay -/
noncomputable def laidWorld (os : Os) : World :=
  { World.holding Tryz.prog os ⟨#[], #[], []⟩ with heap := (((World.holding Tryz.prog os ⟨#[], #[], []⟩).heap.modify 0 (layCells (pairC SyM.lens).toArray)).modify 1 (layCells (pairC SyM.dists).toArray)).modify 2 (layCells (CoM.ord.map natc).toArray) |>.modify 3 (layCells (tripC spn).toArray) }
end Go.Proofs.YtgpkiijmembggaaGreatDoor
