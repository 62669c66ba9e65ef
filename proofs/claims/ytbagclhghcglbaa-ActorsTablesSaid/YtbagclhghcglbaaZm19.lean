/-
  Layer 14: values by == and !=.
  Layer 14, the program: mayBe (written by gen_may.py).
  Layer 14, the program: Right; slices of values. THE CONTRACTS as one word.
-/
import Derived.Test.YtbagclhghcglbaaZm18
import Derived.Laws.StructEq
namespace Go.Proofs.Ytbagclhghcglbaa
open Go.RowKit Mem Go.Lib VaM LebM UtfM
set_option linter.unusedVariables false

theorem v_equal (x y : V) (w : World) : (Op.equalIn 10000 48 (valc x) (valc y)).run Try.prog w = .ok (eqV x y) w := by
  unfold valc
  have h := run_equalIn_agg (P := Try.prog) w 9999 48 #[.int .i64 x.k, .int .u64 (x.u : Int), .int .i64 x.n, .string (txt x.s)] #[.int .i64 y.k, .int .u64 (y.u : Int), .int .i64 y.n, .string (txt y.s)] (by unfold Program.fieldsOf; rw [Try.underlying48]) (by kernel_rfl)
  rw [h]
  clear h
  unfold Program.fieldsOf
  rw [Try.underlying48]
  go_simp
  have hs : ((txt x.s).toList = (txt y.s).toList) ↔ x.s = y.s := by
    rw [show (txt x.s).toList = x.s from ByteArray.toList_mk _, show (txt y.s).toList = y.s from ByteArray.toList_mk _]
  have hu : ((x.u : Int) = (y.u : Int)) ↔ x.u = y.u := by omega
  unfold eqV
  by_cases h1 : x.k = y.k
  · by_cases h2 : x.u = y.u
    · by_cases h3 : x.n = y.n
      · by_cases h4 : x.s = y.s
        · simp [h1, h2, h3, h4]
        · rw [if_pos h1, if_pos (hu.2 h2), if_pos h3, if_neg (fun h => h4 (hs.1 h))]
          simp [h4]
      · simp [h1, h2, h3]
    · rw [if_pos h1, if_neg (fun h => h2 (hu.1 h))]
      simp [h2]
  · simp [h1]
theorem v_eql (x y : V) : (∀ (a b : Operand) (w : World), (eqGuard .eql 48 a b (.agg #[.int .i64 x.k, .int .u64 (x.u : Int), .int .i64 x.n, .string (txt x.s)]) (.agg #[.int .i64 y.k, .int .u64 (y.u : Int), .int .i64 y.n, .string (txt y.s)])).run Try.prog w = .ok () w) ∧
    (∀ w : World, (binOp .eql 48 (.agg #[.int .i64 x.k, .int .u64 (x.u : Int), .int .i64 x.n, .string (txt x.s)]) (.agg #[.int .i64 y.k, .int .u64 (y.u : Int), .int .i64 y.n, .string (txt y.s)])).run Try.prog w = .ok (.bool (eqV x y)) w) := by
  refine ⟨fun a b w => run_eqGuard_agg w .eql _ a b _ _ (by kernel_rfl), fun w => ?_⟩
  have h := v_equal x y w
  unfold valc at h
  rw [run_eql_struct, h]
  rfl
theorem v_neq (x y : V) : (∀ (a b : Operand) (w : World), (eqGuard .neq 48 a b (.agg #[.int .i64 x.k, .int .u64 (x.u : Int), .int .i64 x.n, .string (txt x.s)]) (.agg #[.int .i64 y.k, .int .u64 (y.u : Int), .int .i64 y.n, .string (txt y.s)])).run Try.prog w = .ok () w) ∧
    (∀ w : World, (binOp .neq 48 (.agg #[.int .i64 x.k, .int .u64 (x.u : Int), .int .i64 x.n, .string (txt x.s)]) (.agg #[.int .i64 y.k, .int .u64 (y.u : Int), .int .i64 y.n, .string (txt y.s)])).run Try.prog w = .ok (.bool (!eqV x y)) w) := by
  refine ⟨fun a b w => run_eqGuard_agg w .neq _ a b _ _ (by kernel_rfl), fun w => ?_⟩
  have h := v_equal x y w
  unfold valc at h
  rw [run_neq_struct, h]
  rfl
end Go.Proofs.Ytbagclhghcglbaa
namespace Go.Proofs.Ytbagclhghcglbaa
open Go.RowKit Mem Go.Lib VaM LebM UtfM
attribute [local go_sem ↓] Go.wp_at_zero Go.wp_at_succ
set_option linter.unusedVariables false


theorem RowV.cells {w : World} {g : Nat} {v : V} (h : RowV w g v) : w.cell? ⟨g, 0, none⟩ = some (.int .i64 v.k) ∧ w.cell? ⟨g, 1, none⟩ = some (.int .u64 (v.u : Int)) ∧ w.cell? ⟨g, 2, none⟩ = some (.int .i64 v.n) ∧ w.cell? ⟨g, 3, none⟩ = some (.string (txt v.s)) := ⟨h.c0, h.c1, h.c2, h.c3⟩
end Go.Proofs.Ytbagclhghcglbaa
namespace Go.Proofs.Ytbagclhghcglbaa
open Go.RowKit Mem Go.Lib VaM LebM UtfM
attribute [local go_sem ↓] Go.wp_at_zero Go.wp_at_succ
set_option linter.unusedVariables false

/-- a slice reads as these values -/
def Vls (w : World) (A : Option Addr) (n : Nat) (L : List V) : Prop := L.length = n ∧ ∀ k v, L[k]? = some v → ∃ b o, A = some ⟨b, o, none⟩ ∧ b < w.heap.size ∧
  w.cell? ⟨b, o + k * 4, none⟩ = some (.int .i64 v.k) ∧ w.cell? ⟨b, o + k * 4 + 1, none⟩ = some (.int .u64 (v.u : Int)) ∧ w.cell? ⟨b, o + k * 4 + 2, none⟩ = some (.int .i64 v.n) ∧ w.cell? ⟨b, o + k * 4 + 3, none⟩ = some (.string (txt v.s))
theorem Vls.fr {S : Nat → Prop} {w w' : World} {A : Option Addr} {n : Nat} {L : List V} (h : Vls w A n L) (hf : Fr S w w') (hS : ∀ ad, A = some ad → ¬ S ad.block) : Vls w' A n L :=
  ⟨h.1, fun k v hk => by
    obtain ⟨b, o, e, hb, h0, h1, h2, h3⟩ := h.2 k v hk
    exact ⟨b, o, e, Nat.lt_of_lt_of_le hb hf.size, hf.cell h0 (hS ⟨b, o, none⟩ e), hf.cell h1 (hS ⟨b, o, none⟩ e), hf.cell h2 (hS ⟨b, o, none⟩ e), hf.cell h3 (hS ⟨b, o, none⟩ e)⟩⟩
theorem Vls.nil (w : World) (A : Option Addr) : Vls w A 0 [] := ⟨rfl, fun k t h => by simp at h⟩
theorem v_flat : ∀ (T : List V) (k : Nat) (t : V), T[k]? = some t → ∀ j, j < 4 → (T.flatMap vls)[k * 4 + j]? = (vls t)[j]?
  | [], k, t, h, j, hj => by simp at h
  | s :: T, 0, t, h, j, hj => by
    simp at h
    subst h
    rw [List.flatMap_cons, List.getElem?_append_left (by show _ < 4; omega), Nat.zero_mul, Nat.zero_add]
  | s :: T, k + 1, t, h, j, hj => by
    rw [List.flatMap_cons, List.getElem?_append_right (by show 4 ≤ _; omega), show (k + 1) * 4 + j - (vls s).length = k * 4 + j by show (k + 1) * 4 + j - 4 = _; omega]
    exact v_flat T k t (by simpa using h) j hj
/-- a block of values -/
theorem Vls.row {w : World} {b : Nat} {L : List V} (h : Row w b 48 (L.flatMap vls)) : Vls w (some ⟨b, 0, none⟩) L.length L := by
  refine ⟨rfl, fun k v hk => ⟨b, 0, rfl, h.lt, ?_, ?_, ?_, ?_⟩⟩
  all_goals rw [Nat.zero_add]
  · exact h.cell (v_flat L k v hk 0 (by omega))
  · exact h.cell (v_flat L k v hk 1 (by omega))
  · exact h.cell (v_flat L k v hk 2 (by omega))
  · exact h.cell (v_flat L k v hk 3 (by omega))

end Go.Proofs.Ytbagclhghcglbaa
