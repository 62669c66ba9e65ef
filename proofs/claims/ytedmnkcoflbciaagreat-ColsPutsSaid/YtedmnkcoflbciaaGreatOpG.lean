/-
  Layer 17, the program: Names.
-/
import Derived.Test.YtedmnkcoflbciaaGreatZm13
import Derived.Test.YtedmnkcoflbciaaGreatOpE
namespace Go.Proofs.YtedmnkcoflbciaaGreat
open Go.RowKit Mem Go.Lib LebM UtfM VaM OpM
attribute [local go_sem ↓] Go.wp_at_zero Go.wp_at_succ
set_option linter.unusedVariables false

def namesM (L : List Om) : List Nm := L.flatMap fun x => namesO x.o
theorem namesM_len {L : List Om} (h : ∀ x ∈ L, x.o.pr.length ≤ 1000) : (namesM L).length ≤ L.length * 1002 := by
  induction L with
  | nil => simp [namesM]
  | cons x L ih =>
    have h1 := h x (List.mem_cons_self ..)
    have h2 := ih (fun y hy => h y (List.mem_cons_of_mem _ hy))
    have h3 : (namesO x.o).length ≤ 1002 := by
      have := List.length_filter_le (fun x => !zeroB x) (x.o.obj :: x.o.elem :: x.o.pr)
      unfold namesO
      simp only [List.length_cons] at this
      omega
    unfold namesM at h2 ⊢
    rw [List.flatMap_cons, List.length_append, List.length_cons]
    omega
end Go.Proofs.YtedmnkcoflbciaaGreat
