/-
  Layer 14, the program: kindOf (written by gen_kind.py).
  Layer 14, the program: Put (written by gen_pg.py).
  Layer 14, the program: Get (written by gen_pg.py).
-/
import Derived.Test.YtbagclhghcglbaaZm17
namespace Go.Proofs.Ytbagclhghcglbaa
open Go.RowKit Mem Go.Lib VaM LebM UtfM
attribute [local go_sem ↓] Go.wp_at_zero Go.wp_at_succ
set_option linter.unusedVariables false


end Go.Proofs.Ytbagclhghcglbaa
namespace Go.Proofs.Ytbagclhghcglbaa
open Go.RowKit Mem Go.Lib VaM LebM UtfM
attribute [local go_sem ↓] Go.wp_at_zero Go.wp_at_succ
set_option linter.unusedVariables false


end Go.Proofs.Ytbagclhghcglbaa
namespace Go.Proofs.Ytbagclhghcglbaa
open Go.RowKit Mem Go.Lib VaM LebM UtfM
attribute [local go_sem ↓] Go.wp_at_zero Go.wp_at_succ
set_option linter.unusedVariables false


/-- what Get answers -/
def getR (r : V × Bool) : Value := .tuple #[valc r.1, .int .i64 (if r.2 = true then 0 else 3)]
theorem getC_k (c : Nat) (k : Int) (B : List UInt8) : getC c k B = if (getC c 0 B).2 = true then (⟨k, (getC c 0 B).1.u, (getC c 0 B).1.n, (getC c 0 B).1.s⟩, true) else (zeroV, false) := by
  rcases (show c = 0 ∨ c = 1 ∨ c = 2 ∨ c = 3 ∨ c = 4 ∨ 5 ≤ c by omega) with rfl | rfl | rfl | rfl | rfl | h
  all_goals (try (simp only [getC]; split <;> simp))
  match c, h with
  | c + 5, _ => simp [getC]

end Go.Proofs.Ytbagclhghcglbaa
