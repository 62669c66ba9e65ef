/-
  Layer 14's laws: awake; Right of one, two, three values; all over what the program keeps.
  Layer 17, the program: rightOp, Right.
-/
import Derived.Test.YtohbcepbodcapaaZm17
import Derived.Test.YtohbcepbodcapaaZm20
namespace Go.Proofs.Ytohbcepbodcapaa
open Go.RowKit Mem Go.Lib VaM LebM UtfM
attribute [local go_sem ↓] Go.wp_at_zero Go.wp_at_succ
set_option linter.unusedVariables false

theorem put_m1 : putV ⟨4, 0, -1, []⟩ = [127] := by
  show s (-1) = [127]
  rw [s_small (by omega)]
  rfl
end Go.Proofs.Ytohbcepbodcapaa
namespace Go.Proofs.Ytohbcepbodcapaa
open Go.RowKit Mem Go.Lib LebM UtfM VaM OpM
attribute [local go_sem ↓] Go.wp_at_zero Go.wp_at_succ
set_option linter.unusedVariables false

def rightsB (L : List Om) : Bool := L.all fun x => rightO x.o
def zeroM : Om := ⟨zeroO, none, 0⟩
theorem new_zero (w : World) : ∃ g w1, w.heap.size = g ∧ w.alloc (.cells #[.int .i64 0, .string ⟨#[]⟩, .string ⟨#[]⟩, .bool false, .int .i64 0, .string ⟨#[]⟩, .bool false, .int .i64 0, .int .i64 0, .int .u64 0, .int .i64 0, .string ⟨#[]⟩, .slice none 0 0] 41) = w1 ∧ RowO w1 g zeroM ∧ Fr (fun _ => False) w w1 := ⟨_, _, rfl, rfl, RowO.new w zeroM, (Fr.refl _ _).alloc _⟩
end Go.Proofs.Ytohbcepbodcapaa
