/-
  The law UtfFirst holds of the program: a text begins with a character just if some of it is UTF-8.
  Conditions: none beyond those of the given statement.
-/
import Derived.Test.YtlkjhjoligljbaaPug
import Derived.Test.YtlkjhjoligljbaaUtfP
namespace Go.Proofs.Ytlkjhjoligljbaa.utfFirstRow
/-- the statement -/
theorem said : Rows.UtfFirstSaid := proved utfP
#print axioms said
end Go.Proofs.Ytlkjhjoligljbaa.utfFirstRow
