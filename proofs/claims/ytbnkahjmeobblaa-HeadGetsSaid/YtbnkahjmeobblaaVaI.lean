/-
  Layer 14, the program: mayBe (written by gen_may.py).
-/
import Derived.Test.YtbnkahjmeobblaaZm12
import Derived.Test.YtbnkahjmeobblaaZm18
namespace Go.Proofs.Ytbnkahjmeobblaa
open Go.RowKit Mem Go.Lib VaM LebM UtfM
attribute [local go_sem ↓] Go.wp_at_zero Go.wp_at_succ
set_option linter.unusedVariables false


theorem RowV.cells {w : World} {g : Nat} {v : V} (h : RowV w g v) : w.cell? ⟨g, 0, none⟩ = some (.int .i64 v.k) ∧ w.cell? ⟨g, 1, none⟩ = some (.int .u64 (v.u : Int)) ∧ w.cell? ⟨g, 2, none⟩ = some (.int .i64 v.n) ∧ w.cell? ⟨g, 3, none⟩ = some (.string (txt v.s)) := ⟨h.c0, h.c1, h.c2, h.c3⟩
end Go.Proofs.Ytbnkahjmeobblaa
