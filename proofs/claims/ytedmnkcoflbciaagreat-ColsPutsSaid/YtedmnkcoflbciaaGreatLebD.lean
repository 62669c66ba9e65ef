/-
  Contracts of layer 2: GetU, GetS.
-/
import Derived.Test.YtedmnkcoflbciaaGreatLebC
import Derived.Deep.DeepMust
namespace Go.Proofs.YtedmnkcoflbciaaGreat
open Go.RowKit LebM Mem Go.Lib

/-- what is read of bytes: the number, how many bytes, the error -/
def gu (B : List UInt8) : Nat × Nat × Nat :=
  if spanE B ≠ 0 then (0, 0, spanE B) else
  if u (val (B.take (spanK B)) % 18446744073709551616) = B.take (spanK B) then (val (B.take (spanK B)) % 18446744073709551616, spanK B, 0) else (0, 0, 3)
def gs (B : List UInt8) : Int × Nat × Nat :=
  if spanE B ≠ 0 then (0, 0, spanE B) else
  if s (sgn (val (B.take (spanK B)) % 18446744073709551616) (spanK B)) = B.take (spanK B) then (sgn (val (B.take (spanK B)) % 18446744073709551616) (spanK B), spanK B, 0) else (0, 0, 3)

end Go.Proofs.YtedmnkcoflbciaaGreat
