/-
  The law UtfPlays holds of the program: whether any text begins with a character, and as far as it is UTF-8, are the document's.
  Conditions: none beyond those of the given statement.
-/
import Derived.Test.YtlkjhjoligljbaaPuc
import Derived.Test.YtlkjhjoligljbaaUtfP
namespace Go.Proofs.Ytlkjhjoligljbaa.utfPlaysRow
/-- the statement -/
theorem said : Rows.UtfPlaysSaid := proved utfP
#print axioms said
end Go.Proofs.Ytlkjhjoligljbaa.utfPlaysRow
