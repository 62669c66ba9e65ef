/-
  The law HuffZero holds of the program: symbols of no weight behind change no other symbol's length.
  Conditions: none beyond those of the given statement.
-/
import Derived.Test.YtphalcpmeblkgaaPhn
import Derived.Test.YtphalcpmeblkgaaHyF
namespace Go.Proofs.Ytphalcpmeblkgaa.huffZeroRow
/-- the statement -/
theorem said : Rows.HuffZeroSaid := proved pLengths_any awake5
#print axioms said
end Go.Proofs.Ytphalcpmeblkgaa.huffZeroRow
