/-
  The law HuffLengths holds of the program: the lengths by any weights are the document's.
  Conditions: none beyond those of the given statement.
-/
import Derived.Test.YtphalcpmeblkgaaPht
import Derived.Test.YtphalcpmeblkgaaHyF
namespace Go.Proofs.Ytphalcpmeblkgaa.huffLengthsRow
/-- the statement -/
theorem said : Rows.HuffLengthsSaid := proved pLengths_any refLens awake5
#print axioms said
end Go.Proofs.Ytphalcpmeblkgaa.huffLengthsRow
