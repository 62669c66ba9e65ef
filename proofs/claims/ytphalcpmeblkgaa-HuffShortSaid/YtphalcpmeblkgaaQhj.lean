/-
  The law HuffShort holds of the program: lengths are within the most that may be, 0 just of who has no weight, no longer ones of who weighs more, and there is a code of them.
  Conditions: none beyond those of the given statement.
-/
import Derived.Test.YtphalcpmeblkgaaPhj
import Derived.Test.YtphalcpmeblkgaaHyF
namespace Go.Proofs.Ytphalcpmeblkgaa.huffShortRow
/-- the statement -/
theorem said : Rows.HuffShortSaid := proved pLengths_any huffC awake5
#print axioms said
end Go.Proofs.Ytphalcpmeblkgaa.huffShortRow
