/-
  Layer 8's laws, plain: lengths out of bytes.
-/
import Derived.Test.YtjghcacepneipaaDoorCoC
namespace Go.Proofs.YtjghcacepneipaaDoor
open Go.RowKit CoM Mem Go.Lib

/-- lengths out of bytes -/
def modL (B : List UInt8) : List Nat := B.map fun b => b.toNat % 16
theorem modL_len (B : List UInt8) : (modL B).length = B.length := by simp [modL]
theorem modL_le (B : List UInt8) : ∀ x ∈ modL B, x ≤ 15 := by
  intro x hx
  obtain ⟨b, _, rfl⟩ := List.mem_map.1 hx
  omega
theorem modL_take (B : List UInt8) {k : Nat} {b : UInt8} (h : B[k]? = some b) : (modL (B.take (k + 1))) = modL (B.take k) ++ [b.toNat % 16] := by
  have hk := (List.getElem?_eq_some_iff.1 h).1
  have he := (List.getElem?_eq_some_iff.1 h).2
  rw [List.take_succ_eq_append_getElem hk, he]
  simp [modL]
end Go.Proofs.YtjghcacepneipaaDoor
