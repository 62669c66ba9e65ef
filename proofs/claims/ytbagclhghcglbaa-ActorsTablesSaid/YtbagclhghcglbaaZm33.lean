/-
  Layer 14, the reference: Put (written by gen_ref14.py).
  Layer 14, the reference: Right (written by gen_ref14.py).
-/
import Derived.Test.YtbagclhghcglbaaZm19
import Derived.Test.YtbagclhghcglbaaLebB
import Derived.Test.YtbagclhghcglbaaZm15
namespace Go.Proofs.Ytbagclhghcglbaa
open Go.RowKit Mem Go.Lib VaM LebM UtfM
attribute [local go_sem ↓] Go.wp_at_zero Go.wp_at_succ
set_option linter.unusedVariables false


end Go.Proofs.Ytbagclhghcglbaa
namespace Go.Proofs.Ytbagclhghcglbaa
open Go.RowKit Mem Go.Lib VaM LebM UtfM
attribute [local go_sem ↓] Go.wp_at_zero Go.wp_at_succ
set_option linter.unusedVariables false


theorem right_num (v : V) (h : cl v.k = 1) : eqV v ⟨v.k, v.u, 0, []⟩ = rightV v := by unfold rightV; rw [h]; simp [eqV]
theorem right_sgn (v : V) (h : cl v.k = 2) : eqV v ⟨v.k, 0, v.n, []⟩ = rightV v := by unfold rightV; rw [h]; simp [eqV]
theorem right_bare (v : V) (h : cl v.k = 0) : eqV v ⟨v.k, 0, 0, []⟩ = rightV v := by unfold rightV; rw [h]; simp [eqV, Bool.and_assoc]
theorem right_text (v : V) (h : cl v.k = 3) : (decide (v.s.length ≤ 4000) && (decide (wh v.s = v.s.length) && eqV v ⟨v.k, 0, 0, v.s⟩)) = rightV v := by
  unfold rightV
  rw [h]
  simp only [eqV, decide_true, Bool.true_and, Bool.and_true]
  cases decide (v.u = 0) <;> cases decide (v.n = 0) <;> cases decide (v.s.length ≤ 4000) <;> cases decide (wh v.s = v.s.length) <;> rfl
theorem right_bytes (v : V) (h : cl v.k = 4) : (decide (v.s.length ≤ 4000) && eqV v ⟨v.k, 0, 0, v.s⟩) = rightV v := by
  unfold rightV
  rw [h]
  simp only [eqV, decide_true, Bool.true_and, Bool.and_true]
  cases decide (v.u = 0) <;> cases decide (v.n = 0) <;> cases decide (v.s.length ≤ 4000) <;> rfl

end Go.Proofs.Ytbagclhghcglbaa
