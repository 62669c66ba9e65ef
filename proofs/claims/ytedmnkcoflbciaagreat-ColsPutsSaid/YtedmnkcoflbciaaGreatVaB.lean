/-
  Layer 14, the program: the closures of texts and of numbers (written by gen_clos.py).
-/
import Derived.Test.YtedmnkcoflbciaaGreatZm06
import Derived.Test.YtedmnkcoflbciaaGreatLebD
import Derived.StillTailTactics
namespace Go.Proofs.YtedmnkcoflbciaaGreat
open Go.RowKit Mem Go.Lib VaM LebM UtfM
attribute [local go_sem ↓] Go.wp_at_zero Go.wp_at_succ
set_option linter.unusedVariables false

def vls (v : V) : List Value := [.int .i64 v.k, .int .u64 (v.u : Int), .int .i64 v.n, .string (txt v.s)]
theorem v_one (v : V) : (vls v).toArray.all (·.oneCell') = true := by simp [vls, Value.oneCell']
/-- block g holds a value -/
def RowV (w : World) (g : Nat) (v : V) : Prop := Row w g 52 (vls v)
theorem RowV.fr {w w' : World} {g : Nat} {v : V} {S : Nat → Prop} (h : RowV w g v) (hf : Fr S w w') (hg : ¬ S g) : RowV w' g v := Row.fr h hf hg
theorem RowV.new (w : World) (v : V) : RowV (w.alloc (.cells (vls v).toArray 52)) w.heap.size v := Row.new w _ _
theorem RowV.c0 {w : World} {g : Nat} {v : V} (h : RowV w g v) : w.cell? ⟨g, 0, none⟩ = some (.int .i64 v.k) := Row.cell h rfl
theorem RowV.c1 {w : World} {g : Nat} {v : V} (h : RowV w g v) : w.cell? ⟨g, 1, none⟩ = some (.int .u64 (v.u : Int)) := Row.cell h rfl
theorem RowV.c2 {w : World} {g : Nat} {v : V} (h : RowV w g v) : w.cell? ⟨g, 2, none⟩ = some (.int .i64 v.n) := Row.cell h rfl
theorem RowV.c3 {w : World} {g : Nat} {v : V} (h : RowV w g v) : w.cell? ⟨g, 3, none⟩ = some (.string (txt v.s)) := Row.cell h rfl
theorem RowV.lt {w : World} {g : Nat} {v : V} (h : RowV w g v) : g < w.heap.size := Row.lt h
end Go.Proofs.YtedmnkcoflbciaaGreat
