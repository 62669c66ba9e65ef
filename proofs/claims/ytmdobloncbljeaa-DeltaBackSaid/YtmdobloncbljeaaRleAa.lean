/-
  Layer 11's laws: awake, long.
-/
import Derived.Test.YtmdobloncbljeaaRleU
namespace Go.Proofs.Ytmdobloncbljeaa
open Go.RowKit Mem Go.Lib RleM LebM
attribute [local go_sem ↓] Go.wp_at_zero Go.wp_at_succ
set_option linter.unusedVariables false

theorem example_bytes : tellW kU (gatherG [(true, 5), (true, 5), (true, 5), (false, 0), (true, 7)]) = [3, 5, 0, 1, 127, 7] := by
  have hg : gatherG [((true, 5) : Bool × Int), (true, 5), (true, 5), (false, 0), (true, 7)] = [((true, 5), 3), ((false, 0), 1), ((true, 7), 1)] := by decide
  rw [hg]
  show tellG kU [((true, 5), 3), (kU.zero, 1), ((true, 7), 1)] = _
  rw [tell_same (by decide) (by decide), tell_none, tell_other (by decide) (by decide)]
  have ho : othersG kU.zero [(((true, 7) : Bool × Int), 1)] = 1 := by decide
  rw [ho]
  show s 3 ++ (u 5 ++ (s 0 ++ (u 1 ++ (s (-1) ++ (u 7 ++ [] ++ []))))) = _
  rw [s_small (by omega), u_small (by omega), s_small (by omega), u_small (by omega), s_small (by omega), u_small (by omega)]
  rfl
theorem run_min11 (a b m : Int) (h : min a b = m) (w : World) : (Builtin.min_ #[3, 3] 3 #[.int .i64 a, .int .i64 b]).run Try.prog w = .ok (.int .i64 m) w := by
  rw [← h]
  go_simp
  split <;> omega
end Go.Proofs.Ytmdobloncbljeaa
