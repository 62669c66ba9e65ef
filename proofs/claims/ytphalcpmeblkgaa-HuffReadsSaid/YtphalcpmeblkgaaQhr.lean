/-
  The law HuffReads holds of the program: whatever bits a coder reads, each symbol is the document's.
  Conditions: none beyond those of the given statement.
-/
import Derived.Test.YtphalcpmeblkgaaPhr
import Derived.Test.YtphalcpmeblkgaaHyF
namespace Go.Proofs.Ytphalcpmeblkgaa.huffReadsRow
/-- the statement -/
theorem said : Rows.HuffReadsSaid := proved huffR awake5
#print axioms said
end Go.Proofs.Ytphalcpmeblkgaa.huffReadsRow
