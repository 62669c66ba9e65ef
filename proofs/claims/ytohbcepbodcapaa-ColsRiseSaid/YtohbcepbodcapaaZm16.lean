/-
  Layer 14: values by == and !=.
  Layer 14, the program: mayBe (written by gen_may.py).
-/
import Derived.Test.YtohbcepbodcapaaZm15
import Derived.Laws.StructEq
namespace Go.Proofs.Ytohbcepbodcapaa
open Go.RowKit Mem Go.Lib VaM LebM UtfM
set_option linter.unusedVariables false

theorem v_equal (x y : V) (w : World) : (Op.equalIn 10000 38 (valc x) (valc y)).run Try.prog w = .ok (eqV x y) w := by
  unfold valc
  have h := run_equalIn_agg (P := Try.prog) w 9999 38 #[.int .i64 x.k, .int .u64 (x.u : Int), .int .i64 x.n, .string (txt x.s)] #[.int .i64 y.k, .int .u64 (y.u : Int), .int .i64 y.n, .string (txt y.s)] (by unfold Program.fieldsOf; rw [Try.underlying38]) (by kernel_rfl)
  rw [h]
  clear h
  unfold Program.fieldsOf
  rw [Try.underlying38]
  go_simp
  have hs : ((txt x.s).toList = (txt y.s).toList) ↔ x.s = y.s := by
    rw [show (txt x.s).toList = x.s from ByteArray.toList_mk _, show (txt y.s).toList = y.s from ByteArray.toList_mk _]
  have hu : ((x.u : Int) = (y.u : Int)) ↔ x.u = y.u := by omega
  unfold eqV
  by_cases h1 : x.k = y.k
  · by_cases h2 : x.u = y.u
    · by_cases h3 : x.n = y.n
      · by_cases h4 : x.s = y.s
        · simp [h1, h2, h3, h4]
        · rw [if_pos h1, if_pos (hu.2 h2), if_pos h3, if_neg (fun h => h4 (hs.1 h))]
          simp [h4]
      · simp [h1, h2, h3]
    · rw [if_pos h1, if_neg (fun h => h2 (hu.1 h))]
      simp [h2]
  · simp [h1]
theorem v_eql (x y : V) : (∀ (a b : Operand) (w : World), (eqGuard .eql 38 a b (.agg #[.int .i64 x.k, .int .u64 (x.u : Int), .int .i64 x.n, .string (txt x.s)]) (.agg #[.int .i64 y.k, .int .u64 (y.u : Int), .int .i64 y.n, .string (txt y.s)])).run Try.prog w = .ok () w) ∧
    (∀ w : World, (binOp .eql 38 (.agg #[.int .i64 x.k, .int .u64 (x.u : Int), .int .i64 x.n, .string (txt x.s)]) (.agg #[.int .i64 y.k, .int .u64 (y.u : Int), .int .i64 y.n, .string (txt y.s)])).run Try.prog w = .ok (.bool (eqV x y)) w) := by
  refine ⟨fun a b w => run_eqGuard_agg w .eql _ a b _ _ (by kernel_rfl), fun w => ?_⟩
  have h := v_equal x y w
  unfold valc at h
  rw [run_eql_struct, h]
  rfl
theorem v_neq (x y : V) : (∀ (a b : Operand) (w : World), (eqGuard .neq 38 a b (.agg #[.int .i64 x.k, .int .u64 (x.u : Int), .int .i64 x.n, .string (txt x.s)]) (.agg #[.int .i64 y.k, .int .u64 (y.u : Int), .int .i64 y.n, .string (txt y.s)])).run Try.prog w = .ok () w) ∧
    (∀ w : World, (binOp .neq 38 (.agg #[.int .i64 x.k, .int .u64 (x.u : Int), .int .i64 x.n, .string (txt x.s)]) (.agg #[.int .i64 y.k, .int .u64 (y.u : Int), .int .i64 y.n, .string (txt y.s)])).run Try.prog w = .ok (.bool (!eqV x y)) w) := by
  refine ⟨fun a b w => run_eqGuard_agg w .neq _ a b _ _ (by kernel_rfl), fun w => ?_⟩
  have h := v_equal x y w
  unfold valc at h
  rw [run_neq_struct, h]
  rfl
end Go.Proofs.Ytohbcepbodcapaa
namespace Go.Proofs.Ytohbcepbodcapaa
open Go.RowKit Mem Go.Lib VaM LebM UtfM
attribute [local go_sem ↓] Go.wp_at_zero Go.wp_at_succ
set_option linter.unusedVariables false


theorem RowV.cells {w : World} {g : Nat} {v : V} (h : RowV w g v) : w.cell? ⟨g, 0, none⟩ = some (.int .i64 v.k) ∧ w.cell? ⟨g, 1, none⟩ = some (.int .u64 (v.u : Int)) ∧ w.cell? ⟨g, 2, none⟩ = some (.int .i64 v.n) ∧ w.cell? ⟨g, 3, none⟩ = some (.string (txt v.s)) := ⟨h.c0, h.c1, h.c2, h.c3⟩
end Go.Proofs.Ytohbcepbodcapaa
