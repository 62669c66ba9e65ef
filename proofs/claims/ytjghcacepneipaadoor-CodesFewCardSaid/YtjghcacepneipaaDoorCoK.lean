/-
  Layer 8: a block that holds numbers.
-/
import Derived.Test.YtjghcacepneipaaDoorCom
import Derived.Test.YtjghcacepneipaaDoorRow
namespace Go.Proofs.YtjghcacepneipaaDoor
open Go.RowKit Mem Go.Lib

/-- block g holds these numbers -/
def NR (w : World) (g : Nat) (L : List Nat) : Prop := Row w g 3 (L.map natc)
theorem NR.zeros (w : World) (m : Nat) : NR (w.alloc (.cells (Array.replicate m (.int .i64 0)) 3)) w.heap.size (List.replicate m 0) := by
  have h := Row.new w 3 (List.replicate m (Value.int .i64 0))
  rw [List.toArray_replicate] at h
  unfold NR
  rw [List.map_replicate]
  exact h
theorem NR.at_ {w : World} {g : Nat} {L : List Nat} (h : NR w g L) {i : Nat} (hi : i < L.length) : w.cell? ⟨g, i, none⟩ = some (.int .i64 ((L[i]! : Nat) : Int)) := by
  refine Row.cell h ?_
  rw [List.getElem?_map, List.getElem?_eq_getElem hi, getElem!_pos L i hi]
  rfl
theorem NR.set {w : World} {g : Nat} {L : List Nat} (h : NR w g L) (i x : Nat) : NR (w.setCell ⟨g, i, none⟩ (.int .i64 (x : Int))) g (L.set i x) := by
  have := Row.set h i (natc x)
  rw [← List.map_set] at this
  exact this
theorem NR.rd {w : World} {g : Nat} {L : List Nat} (h : NR w g L) : Rd w (some ⟨g, 0, none⟩) L.length (L.map natc) := by
  have := Row.rd h 0 L.length (by simp)
  rw [List.drop_zero, List.take_of_length_le (by simp)] at this
  exact this
theorem fill_next {k i x : Nat} (h : i < k) : (List.replicate i x ++ List.replicate (k - i) 0).set i x = List.replicate (i + 1) x ++ List.replicate (k - (i + 1)) 0 := by
  obtain ⟨r, hr⟩ : ∃ r, k - i = r + 1 := ⟨k - i - 1, by omega⟩
  rw [hr, List.set_append_right _ _ (by simp), List.length_replicate, Nat.sub_self, List.replicate_succ, List.set_cons_zero, List.replicate_succ', show k - (i + 1) = r by omega, List.append_assoc]
  rfl
end Go.Proofs.YtjghcacepneipaaDoor
