/-
  The law UtfAll holds of the program: each number's bytes are one character, if the number is one.
  Conditions: none beyond those of the given statement.
-/
import Derived.Test.YtlkjhjoligljbaaPud
import Derived.Test.YtlkjhjoligljbaaUtfP
namespace Go.Proofs.Ytlkjhjoligljbaa.utfAllRow
/-- the statement -/
theorem said : Rows.UtfAllSaid := proved utfP
#print axioms said
end Go.Proofs.Ytlkjhjoligljbaa.utfAllRow
