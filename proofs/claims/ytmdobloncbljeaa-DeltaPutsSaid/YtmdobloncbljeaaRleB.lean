/-
  Layer 11: cells compared by == (written by gen11.py out of rleB.src).
-/
import Derived.Test.YtmdobloncbljeaaRleA
import Derived.Test.YtmdobloncbljeaaLebC
import Derived.Laws.StructEq
namespace Go.Proofs.Ytmdobloncbljeaa
open Go.RowKit Mem Go.Lib
set_option linter.unusedVariables false

theorem txt_list (B : List UInt8) : (txt B).toList = B := ByteArray.toList_mk B
/-- slice expressions, as equations -/
theorem cut_u8 (A : Option Addr) (n c f y : Nat) (hf : f ≤ y) (hy : y ≤ n) (hn : n ≤ c) (fi yi : Int) (ef : fi = (f : Int)) (ey : yi = (y : Int)) (w : World) :
    (Instr.sliceAt 25 (.slice A n c) (some (.int .i64 fi)) (some (.int .i64 yi)) none).run Try.prog w = .ok (.slice (if c = f then A else A.map (·.add f)) (y - f) (c - f)) w := by
  subst ef ey
  cases A with
  | none =>
    go_simp
    try (intro h; omega)
  | some ad =>
    go_simp
    try (intro h; omega)
theorem from_u8 (A : Option Addr) (n c f : Nat) (hf : f ≤ n) (hn : n ≤ c) (fi : Int) (ef : fi = (f : Int)) (w : World) :
    (Instr.sliceAt 25 (.slice A n c) (some (.int .i64 fi)) none none).run Try.prog w = .ok (.slice (if c = f then A else A.map (·.add f)) (n - f) (c - f)) w := by
  subst ef
  cases A with
  | none =>
    go_simp
    try (intro h; omega)
  | some ad =>
    go_simp
    try (intro h; omega)
theorem cell_equalC (a b : Bool) (x y : Int) (w : World) : (Op.equalIn 10000 30 (.agg #[.bool a, (.int .i64 x)]) (.agg #[.bool b, (.int .i64 y)])).run Try.prog w = .ok (decide ((a, x) = (b, y))) w := by
  have h := run_equalIn_agg (P := Try.prog) w 9999 30 #[.bool a, (.int .i64 x)] #[.bool b, (.int .i64 y)] (by unfold Program.fieldsOf; rw [Try.underlying30]) (by kernel_rfl)
  rw [h]
  clear h
  unfold Program.fieldsOf
  rw [Try.underlying30]
  go_simp
  cases a <;> cases b <;> by_cases h : x = y <;> simp [h]
theorem cell_eqlC (a b : Bool) (x y : Int) (w : World) : (binOp .eql 30 (.agg #[.bool a, (.int .i64 x)]) (.agg #[.bool b, (.int .i64 y)])).run Try.prog w = .ok (.bool (decide ((a, x) = (b, y)))) w := by
  rw [run_eql_struct, cell_equalC]
  rfl
theorem cell_neqC (a b : Bool) (x y : Int) (w : World) : (binOp .neq 30 (.agg #[.bool a, (.int .i64 x)]) (.agg #[.bool b, (.int .i64 y)])).run Try.prog w = .ok (.bool (!decide ((a, x) = (b, y)))) w := by
  rw [run_neq_struct, cell_equalC]
  rfl
theorem cell_gdC (op : BinOp) (a b : Bool) (x y : Int) (o p : Operand) (w : World) : (eqGuard op 30 o p (.agg #[.bool a, (.int .i64 x)]) (.agg #[.bool b, (.int .i64 y)])).run Try.prog w = .ok () w := run_eqGuard_agg w op _ o p _ _ (by kernel_rfl)
theorem from_gC (A : Option Addr) (n c f : Nat) (hf : f ≤ n) (hn : n ≤ c) (fi : Int) (ef : fi = (f : Int)) (w : World) :
    (Instr.sliceAt 48 (.slice A n c) (some (.int .i64 fi)) none none).run Try.prog w = .ok (.slice (if c = f then A else A.map (·.add (f * 3))) (n - f) (c - f)) w := by
  subst ef
  cases A with
  | none =>
    go_simp
    try (intro h; omega)
  | some ad =>
    go_simp
    try (intro h; omega)
theorem to_gC (A : Option Addr) (n c y : Nat) (hy : y ≤ n) (hn : n ≤ c) (yi : Int) (ey : yi = (y : Int)) (w : World) :
    (Instr.sliceAt 48 (.slice A n c) none (some (.int .i64 yi)) none).run Try.prog w = .ok (.slice A y c) w := by
  subst ey
  cases A with
  | none =>
    go_simp
    try (intro h; omega)
  | some ad =>
    go_simp
    try (intro h; omega)
theorem cell_equalR (a b : Bool) (x y : (List UInt8)) (w : World) : (Op.equalIn 10000 51 (.agg #[.bool a, (.string (txt x))]) (.agg #[.bool b, (.string (txt y))])).run Try.prog w = .ok (decide ((a, x) = (b, y))) w := by
  have h := run_equalIn_agg (P := Try.prog) w 9999 51 #[.bool a, (.string (txt x))] #[.bool b, (.string (txt y))] (by unfold Program.fieldsOf; rw [Try.underlying51]) (by kernel_rfl)
  rw [h]
  clear h
  unfold Program.fieldsOf
  rw [Try.underlying51]
  go_simp
  simp only [txt_list]
  cases a <;> cases b <;> by_cases h : x = y <;> simp [h]
theorem cell_eqlR (a b : Bool) (x y : (List UInt8)) (w : World) : (binOp .eql 51 (.agg #[.bool a, (.string (txt x))]) (.agg #[.bool b, (.string (txt y))])).run Try.prog w = .ok (.bool (decide ((a, x) = (b, y)))) w := by
  rw [run_eql_struct, cell_equalR]
  rfl
theorem cell_neqR (a b : Bool) (x y : (List UInt8)) (w : World) : (binOp .neq 51 (.agg #[.bool a, (.string (txt x))]) (.agg #[.bool b, (.string (txt y))])).run Try.prog w = .ok (.bool (!decide ((a, x) = (b, y)))) w := by
  rw [run_neq_struct, cell_equalR]
  rfl
theorem cell_gdR (op : BinOp) (a b : Bool) (x y : (List UInt8)) (o p : Operand) (w : World) : (eqGuard op 51 o p (.agg #[.bool a, (.string (txt x))]) (.agg #[.bool b, (.string (txt y))])).run Try.prog w = .ok () w := run_eqGuard_agg w op _ o p _ _ (by kernel_rfl)
end Go.Proofs.Ytmdobloncbljeaa
