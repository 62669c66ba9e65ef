/-
  Layer 17, the program: rightOp, Right.
-/
import Derived.Test.YtedmnkcoflbciaaGreatZm14
namespace Go.Proofs.YtedmnkcoflbciaaGreat
open Go.RowKit Mem Go.Lib LebM UtfM VaM OpM
attribute [local go_sem ↓] Go.wp_at_zero Go.wp_at_succ
set_option linter.unusedVariables false

def zeroM : Om := ⟨zeroO, none, 0⟩
theorem new_zero (w : World) : ∃ g w1, w.heap.size = g ∧ w.alloc (.cells #[.int .i64 0, .string ⟨#[]⟩, .string ⟨#[]⟩, .bool false, .int .i64 0, .string ⟨#[]⟩, .bool false, .int .i64 0, .int .i64 0, .int .u64 0, .int .i64 0, .string ⟨#[]⟩, .slice none 0 0] 55) = w1 ∧ RowO w1 g zeroM ∧ Fr (fun _ => False) w w1 := ⟨_, _, rfl, rfl, RowO.new w zeroM, (Fr.refl _ _).alloc _⟩
end Go.Proofs.YtedmnkcoflbciaaGreat
