/-
  The law UtfLong holds of the program: what has more bytes than it needs is no character.
  Conditions: none beyond those of the given statement.
-/
import Derived.Test.YtlkjhjoligljbaaPuf
import Derived.Test.YtlkjhjoligljbaaUtfP
namespace Go.Proofs.Ytlkjhjoligljbaa.utfLongRow
/-- the statement -/
theorem said : Rows.UtfLongSaid := proved utfP
#print axioms said
end Go.Proofs.Ytlkjhjoligljbaa.utfLongRow
