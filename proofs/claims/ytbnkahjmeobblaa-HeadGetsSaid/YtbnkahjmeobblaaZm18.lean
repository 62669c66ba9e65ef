/-
  Layer 14, the program: Get (written by gen_pg.py).
  Layer 14: values by == and !=.
-/
import Derived.Test.YtbnkahjmeobblaaZm17
import Derived.Laws.StructEq
namespace Go.Proofs.Ytbnkahjmeobblaa
open Go.RowKit Mem Go.Lib VaM LebM UtfM
attribute [local go_sem ↓] Go.wp_at_zero Go.wp_at_succ
set_option linter.unusedVariables false


/-- what Get answers -/
def getR (r : V × Bool) : Value := .tuple #[valc r.1, .int .i64 (if r.2 = true then 0 else 3)]
theorem getC_k (c : Nat) (k : Int) (B : List UInt8) : getC c k B = if (getC c 0 B).2 = true then (⟨k, (getC c 0 B).1.u, (getC c 0 B).1.n, (getC c 0 B).1.s⟩, true) else (zeroV, false) := by
  rcases (show c = 0 ∨ c = 1 ∨ c = 2 ∨ c = 3 ∨ c = 4 ∨ 5 ≤ c by omega) with rfl | rfl | rfl | rfl | rfl | h
  all_goals (try (simp only [getC]; split <;> simp))
  match c, h with
  | c + 5, _ => simp [getC]

end Go.Proofs.Ytbnkahjmeobblaa
namespace Go.Proofs.Ytbnkahjmeobblaa
open Go.RowKit Mem Go.Lib VaM LebM UtfM
set_option linter.unusedVariables false

theorem v_equal (x y : V) (w : World) : (Op.equalIn 10000 47 (valc x) (valc y)).run Try.prog w = .ok (eqV x y) w := by
  unfold valc
  have h := run_equalIn_agg (P := Try.prog) w 9999 47 #[.int .i64 x.k, .int .u64 (x.u : Int), .int .i64 x.n, .string (txt x.s)] #[.int .i64 y.k, .int .u64 (y.u : Int), .int .i64 y.n, .string (txt y.s)] (by unfold Program.fieldsOf; rw [Try.underlying47]) (by kernel_rfl)
  rw [h]
  clear h
  unfold Program.fieldsOf
  rw [Try.underlying47]
  go_simp
  have hs : ((txt x.s).toList = (txt y.s).toList) ↔ x.s = y.s := by
    rw [show (txt x.s).toList = x.s from ByteArray.toList_mk _, show (txt y.s).toList = y.s from ByteArray.toList_mk _]
  have hu : ((x.u : Int) = (y.u : Int)) ↔ x.u = y.u := by omega
  unfold eqV
  by_cases h1 : x.k = y.k
  · by_cases h2 : x.u = y.u
    · by_cases h3 : x.n = y.n
      · by_cases h4 : x.s = y.s
        · simp [h1, h2, h3, h4]
        · rw [if_pos h1, if_pos (hu.2 h2), if_pos h3, if_neg (fun h => h4 (hs.1 h))]
          simp [h4]
      · simp [h1, h2, h3]
    · rw [if_pos h1, if_neg (fun h => h2 (hu.1 h))]
      simp [h2]
  · simp [h1]
theorem v_eql (x y : V) : (∀ (a b : Operand) (w : World), (eqGuard .eql 47 a b (.agg #[.int .i64 x.k, .int .u64 (x.u : Int), .int .i64 x.n, .string (txt x.s)]) (.agg #[.int .i64 y.k, .int .u64 (y.u : Int), .int .i64 y.n, .string (txt y.s)])).run Try.prog w = .ok () w) ∧
    (∀ w : World, (binOp .eql 47 (.agg #[.int .i64 x.k, .int .u64 (x.u : Int), .int .i64 x.n, .string (txt x.s)]) (.agg #[.int .i64 y.k, .int .u64 (y.u : Int), .int .i64 y.n, .string (txt y.s)])).run Try.prog w = .ok (.bool (eqV x y)) w) := by
  refine ⟨fun a b w => run_eqGuard_agg w .eql _ a b _ _ (by kernel_rfl), fun w => ?_⟩
  have h := v_equal x y w
  unfold valc at h
  rw [run_eql_struct, h]
  rfl
theorem v_neq (x y : V) : (∀ (a b : Operand) (w : World), (eqGuard .neq 47 a b (.agg #[.int .i64 x.k, .int .u64 (x.u : Int), .int .i64 x.n, .string (txt x.s)]) (.agg #[.int .i64 y.k, .int .u64 (y.u : Int), .int .i64 y.n, .string (txt y.s)])).run Try.prog w = .ok () w) ∧
    (∀ w : World, (binOp .neq 47 (.agg #[.int .i64 x.k, .int .u64 (x.u : Int), .int .i64 x.n, .string (txt x.s)]) (.agg #[.int .i64 y.k, .int .u64 (y.u : Int), .int .i64 y.n, .string (txt y.s)])).run Try.prog w = .ok (.bool (!eqV x y)) w) := by
  refine ⟨fun a b w => run_eqGuard_agg w .neq _ a b _ _ (by kernel_rfl), fun w => ?_⟩
  have h := v_equal x y w
  unfold valc at h
  rw [run_neq_struct, h]
  rfl
end Go.Proofs.Ytbnkahjmeobblaa
