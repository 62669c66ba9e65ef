/-
  The law UtfJoins holds of the program: texts that are UTF-8 are, one behind the other.
  Conditions: none beyond those of the given statement.
-/
import Derived.Test.YtlkjhjoligljbaaPue
import Derived.Test.YtlkjhjoligljbaaUtfP
namespace Go.Proofs.Ytlkjhjoligljbaa.utfJoinsRow
/-- the statement -/
theorem said : Rows.UtfJoinsSaid := proved utfP
#print axioms said
end Go.Proofs.Ytlkjhjoligljbaa.utfJoinsRow
