/-
  The law HuffCodes holds of the program: whether there is a code of any lengths, and its codes, are the document's.
  Conditions: none beyond those of the given statement.
-/
import Derived.Test.YtphalcpmeblkgaaPhk
import Derived.Test.YtphalcpmeblkgaaHyF
namespace Go.Proofs.Ytphalcpmeblkgaa.huffCodesRow
/-- the statement -/
theorem said : Rows.HuffCodesSaid := proved huffC awake5
#print axioms said
end Go.Proofs.Ytphalcpmeblkgaa.huffCodesRow
