/-
  Layer 11, the program: read (written by gen11.py out of rleT.src).
-/
import Derived.Test.YtedmnkcoflbciaaGreatZm23
import Derived.Test.YtedmnkcoflbciaaGreatZm26
import Derived.Test.YtedmnkcoflbciaaGreatZm04
namespace Go.Proofs.YtedmnkcoflbciaaGreat
open Go.RowKit Mem Go.Lib RleM LebM
attribute [local go_sem ↓] Go.wp_at_zero Go.wp_at_succ
set_option linter.unusedVariables false

end Go.Proofs.YtedmnkcoflbciaaGreat
