/-
  Layer 11, the reference: Cells, Texts (written by gen_ref.py).
-/
import Derived.Test.YtcoohjjjiakdjaaZm17
import Derived.Test.YtcoohjjjiakdjaaZm07
import Derived.Test.YtcoohjjjiakdjaaLebB
import Derived.Test.YtcoohjjjiakdjaaZm08
import Derived.Deep.DeepCutAuto
import Derived.Deep.CutRange
namespace Go.Proofs.Ytcoohjjjiakdjaa
open Go.RowKit Mem Go.Lib RleM LebM
attribute [local go_sem ↓] Go.wp_at_zero Go.wp_at_succ
set_option linter.unusedVariables false

end Go.Proofs.Ytcoohjjjiakdjaa
