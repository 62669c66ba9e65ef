/-
  Layer 17, the program: Zero, Actor, Id, Compare, rightPoint.
  Layer 17, the program: Compare, rightKey, rightPreds.
-/
import Derived.Test.YtohbcepbodcapaaZm17
import Derived.Test.YtohbcepbodcapaaZm11
import Derived.Deep.DeepCutAuto
import Derived.Deep.CutRange
import Derived.Test.YtohbcepbodcapaaZm12
namespace Go.Proofs.Ytohbcepbodcapaa
open Go.RowKit Mem Go.Lib LebM UtfM VaM OpM
attribute [local go_sem ↓] Go.wp_at_zero Go.wp_at_succ
set_option linter.unusedVariables false

set_option maxRecDepth 100000 in
set_option maxHeartbeats 1600000 in
theorem zero_any (x : Nm) (w : World) : Calls Try.prog 31 #[nmc x] w fun e w' => e = .returned (.bool (zeroB x)) ∧ Fr (fun _ => False) w w' := by
  obtain ⟨b, hb⟩ : ∃ b, zeroB x = b := ⟨_, rfl⟩
  obtain ⟨q1, q2⟩ := n_eql0 x
  rw [hb] at q2 ⊢
  clear hb
  unfold nmc
  go_enter Try.func31, Try.ntmps31
  go_wp2_with fail
  go_ret
  exact ⟨rfl, (Fr.refl _ _).alloc _⟩
/-- all texts are actors -/
def actorsB (l : List (List UInt8)) : Bool := l.all actorB
end Go.Proofs.Ytohbcepbodcapaa
namespace Go.Proofs.Ytohbcepbodcapaa
open Go.RowKit Mem Go.Lib LebM UtfM VaM OpM
attribute [local go_sem ↓] Go.wp_at_zero Go.wp_at_succ
set_option linter.unusedVariables false

theorem i64_lt (a b : Int) : decide (a < b) = true ∨ decide (a < b) = false := by cases decide (a < b) <;> simp
end Go.Proofs.Ytohbcepbodcapaa
