import Derived.Test.YtbabgnadgdidmaaGreatZm00
import Derived.Test.YtbabgnadgdidmaaGreatZm01
import Derived.Test.YtbabgnadgdidmaaGreatZm10
namespace Go.Proofs.YtbabgnadgdidmaaGreat
section
open Go.RowKit LebM Mem Go.Lib
end
section
open Go.RowKit Mem Go.Lib VaM LebM UtfM
attribute [local go_sem ↓] Go.wp_at_zero Go.wp_at_succ
set_option linter.unusedVariables false
end
end Go.Proofs.YtbabgnadgdidmaaGreat
