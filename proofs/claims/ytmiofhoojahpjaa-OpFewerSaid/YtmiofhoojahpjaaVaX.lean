/-
  Layer 14, the reference: Put (written by gen_ref14.py).
-/
import Derived.Test.YtmiofhoojahpjaaVaJ
import Derived.Test.YtmiofhoojahpjaaLebB
namespace Go.Proofs.Ytmiofhoojahpjaa
open Go.RowKit Mem Go.Lib VaM LebM UtfM
attribute [local go_sem ↓] Go.wp_at_zero Go.wp_at_succ
set_option linter.unusedVariables false


end Go.Proofs.Ytmiofhoojahpjaa
