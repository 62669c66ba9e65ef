/-
  Contracts of layer 3's reference: Put, Next, Where.
  Contract of layer 3's reference: Where.
  What layer 3's laws want of the program: the contracts of Next, Where, Valid, as one word; awake out of them.
-/
import Derived.Test.YtbagclhghcglbaaZm01
import Derived.Test.YtbagclhghcglbaaZm12
import Derived.Test.YtbagclhghcglbaaUtfM
import Derived.Lib.PathFns
import Derived.BigRegion
import Derived.BigQuiet
import Derived.Deep.QuietTactic
import Derived.Deep.RegionWith
import Derived.StillTailTactics
import Derived.Deep.DeepMust
import Derived.Deep.DrawnRows
namespace Go.Proofs.Ytbagclhghcglbaa
open Go.RowKit UtfM Mem Go.Lib
attribute [local go_sem ↓] Go.wp_at_zero Go.wp_at_succ

/-- 'string([]byte{..})' -/
theorem str_cells {w : World} {k : Nat} (hk : k = w.heap.size) (B : List UInt8) (us : Array Value) (hu : us = (B.map bytec).toArray) (n : Nat) (hn : n = B.length) :
    (convert 30 9 (.slice (some ⟨k, 0, none⟩) n n)).run Try.prog (w.alloc (.cells us 5)) = .ok (.string (txt B)) (w.alloc (.cells us 5)) := by
  subst hu hn
  have h := Rd.cells hk (B.map bytec) 5
  rw [List.length_map] at h
  exact str_rd h _

/-- a text's bytes -/
theorem txt_of (s : ByteArray) : s = txt s.data.toList := by cases s; simp [txt]
theorem txt_get (B : List UInt8) (i : Nat) (h : i < (txt B).size) : (txt B)[i] = B[i]'(by simpa [txt, ByteArray.size] using h) := by
  show (txt B).data[i] = _
  simp [txt]
theorem txt_sz (B : List UInt8) : (txt B).size = B.length := by simp [txt, ByteArray.size]
theorem ext_from (B : List UInt8) (k : Nat) : (txt B).extract k (txt B).size = txt (B.drop k) := by rw [Pa.extract_from]; simp [txt]
theorem ext_upto (B : List UInt8) (k : Nat) : (txt B).extract 0 k = txt (B.take k) := by rw [Pa.extract_upto]; simp [txt]

end Go.Proofs.Ytbagclhghcglbaa
namespace Go.Proofs.Ytbagclhghcglbaa
open Go.RowKit UtfM Mem Go.Lib

end Go.Proofs.Ytbagclhghcglbaa
namespace Go.Proofs.Ytbagclhghcglbaa
open Go.RowKit UtfM Mem Go.Lib

def strc (B : List UInt8) : Value := .string (txt B)
def okAll (l : List (List UInt8)) : Bool := l.all fun B => wh B == B.length
theorem wh_a : wh [97, 255] = 1 := by
  rw [wh_pos (by decide)]
  show 1 + wh [255] = 1
  rw [wh_zero (by decide)]
theorem wh_one : wh [97] = 1 := by
  rw [wh_pos (by decide)]
  show 1 + wh [] = 1
  rw [wh_nil]

end Go.Proofs.Ytbagclhghcglbaa
