/-
  Layer 14, the program: Get (written by gen_pg.py).
-/
import Derived.Test.YtedmnkcoflbciaaGreatVaF
namespace Go.Proofs.YtedmnkcoflbciaaGreat
open Go.RowKit Mem Go.Lib VaM LebM UtfM
attribute [local go_sem ↓] Go.wp_at_zero Go.wp_at_succ
set_option linter.unusedVariables false


end Go.Proofs.YtedmnkcoflbciaaGreat
