/-
  Layer 14, the program: the closures of numbers (written by gen_clos.py).
  Layer 14, the program: bare, number, text (written by gen_kind.py).
-/
import Derived.Test.YtbnkahjmeobblaaZm15
import Derived.Test.YtbnkahjmeobblaaZm03
import Derived.StillTailTactics
namespace Go.Proofs.Ytbnkahjmeobblaa
open Go.RowKit Mem Go.Lib VaM LebM UtfM
attribute [local go_sem ↓] Go.wp_at_zero Go.wp_at_succ
set_option linter.unusedVariables false

theorem sw14 {f : FuncId} {args : Array Value} {w : World} {v : Value} (h : Calls Try.prog f args w fun e w' => e = .returned v ∧ w = w') : Calls Try.prog f args w fun e w' => e = .returned v ∧ w' = w := h.mono fun _ _ h => ⟨h.1, h.2.symm⟩

end Go.Proofs.Ytbnkahjmeobblaa
namespace Go.Proofs.Ytbnkahjmeobblaa
open Go.RowKit Mem Go.Lib VaM LebM UtfM
attribute [local go_sem ↓] Go.wp_at_zero Go.wp_at_succ
set_option linter.unusedVariables false

/-- how values are told -/
def kindc (p g : Value) : Value := .agg #[p, g]
def fnc1 (F : FuncId) (a : Nat) : Value := .func (.func F) #[] #[.pointer (some ⟨a, 0, none⟩)]
def fnc2 (F : FuncId) (a b : Nat) : Value := .func (.func F) #[] #[.pointer (some ⟨a, 0, none⟩), .pointer (some ⟨b, 0, none⟩)]
theorem new_row {w : World} {k : Nat} (hk : k = w.heap.size) (t : TypeId) (L : List Value) : Row (w.alloc (.cells L.toArray t)) k t L := by subst hk; exact Row.new w _ _
theorem kind_one (F G : FuncId) (l m : Array Value) : ([Value.func (.func F) #[] l, .func (.func G) #[] m] : List Value).toArray.all (·.oneCell') = true := by simp [Value.oneCell']

end Go.Proofs.Ytbnkahjmeobblaa
