/-
  Layer 17, the program: rightKey, rightPreds.
  Layer 14's laws: awake; Right of one, two, three values; all over what the program keeps.
-/
import Derived.Test.YtedmnkcoflbciaaGreatZm13
import Derived.Test.YtedmnkcoflbciaaGreatZm12
namespace Go.Proofs.YtedmnkcoflbciaaGreat
open Go.RowKit Mem Go.Lib LebM UtfM VaM OpM
attribute [local go_sem ↓] Go.wp_at_zero Go.wp_at_succ
set_option linter.unusedVariables false

/-- an op's texts are no longer than a machine has -/
def Om.short (x : Om) : Prop := x.o.obj.a.length ≤ 1000000 ∧ x.o.elem.a.length ≤ 1000000 ∧ x.o.key.length ≤ 1000000 ∧ x.o.val.s.length ≤ 1000000 ∧ x.o.pr.length ≤ 1000000 ∧ ∀ y ∈ x.o.pr, y.a.length ≤ 1000000
theorem new_ols (w : World) (x : Om) : ∃ g w1, w.heap.size = g ∧ w.alloc (.cells #[.int .i64 x.o.obj.c, .string (txt x.o.obj.a), .string (txt x.o.key), .bool x.o.keyed, .int .i64 x.o.elem.c, .string (txt x.o.elem.a), .bool x.o.ins, .int .i64 x.o.act,
  .int .i64 x.o.val.k, .int .u64 (x.o.val.u : Int), .int .i64 x.o.val.n, .string (txt x.o.val.s), .slice x.A x.o.pr.length x.c] 55) = w1 ∧ RowO w1 g x ∧ Fr (fun _ => False) w w1 := ⟨_, _, rfl, rfl, RowO.new w x, (Fr.refl _ _).alloc _⟩

end Go.Proofs.YtedmnkcoflbciaaGreat
namespace Go.Proofs.YtedmnkcoflbciaaGreat
open Go.RowKit Mem Go.Lib VaM LebM UtfM
attribute [local go_sem ↓] Go.wp_at_zero Go.wp_at_succ
set_option linter.unusedVariables false

end Go.Proofs.YtedmnkcoflbciaaGreat
