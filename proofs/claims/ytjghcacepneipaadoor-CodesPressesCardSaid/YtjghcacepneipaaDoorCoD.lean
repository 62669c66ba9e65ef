/-
  Layer 8's laws: awake, out of the contract of Press.
-/
import Derived.Test.YtjghcacepneipaaDoorCoC
import Derived.Deep.DrawnRows
import Derived.Deep.QuietTactic
import Derived.BigQuiet
namespace Go.Proofs.YtjghcacepneipaaDoor
open Go.RowKit CoM Mem Go.Lib
attribute [local go_sem ↓] Go.wp_at_zero Go.wp_at_succ
set_option linter.unusedVariables false

theorem itm_equal (s b x : Nat) (w : World) : (Op.equalIn 10000 32 (.agg #[.int .i64 (s : Int), .int .i64 (b : Int), .int .u64 (x : Int)]) (.agg #[.int .i64 (s : Int), .int .i64 (b : Int), .int .u64 (x : Int)])).run Tryd.prog w = .ok true w := by
  have h := run_equalIn_agg (P := Tryd.prog) w 9999 32 #[.int .i64 (s : Int), .int .i64 (b : Int), .int .u64 (x : Int)] #[.int .i64 (s : Int), .int .i64 (b : Int), .int .u64 (x : Int)] (by unfold Program.fieldsOf; rw [Tryd.underlying32]) (by kernel_rfl)
  rw [h]
  clear h
  unfold Program.fieldsOf
  rw [Tryd.underlying32]
  go_simp
theorem itm_eql (s b x : Nat) : (∀ (p q : Operand) (w : World), (eqGuard .eql 32 p q (.agg #[.int .i64 (s : Int), .int .i64 (b : Int), .int .u64 (x : Int)]) (.agg #[.int .i64 (s : Int), .int .i64 (b : Int), .int .u64 (x : Int)])).run Tryd.prog w = .ok () w) ∧ (∀ w : World, (binOp .eql 32 (.agg #[.int .i64 (s : Int), .int .i64 (b : Int), .int .u64 (x : Int)]) (.agg #[.int .i64 (s : Int), .int .i64 (b : Int), .int .u64 (x : Int)])).run Tryd.prog w = .ok (.bool true) w) := by
  refine ⟨fun p q w => run_eqGuard_agg w .eql _ p q _ _ (by kernel_rfl), fun w => ?_⟩
  have h := itm_equal s b x w
  rw [run_eql_struct, h]
  rfl
theorem items_5555 : items [5, 5, 5, 5] = [⟨5, 0, 0⟩, ⟨16, 2, 0⟩] := by decide +kernel

def Awake8 (w0 : World) : Prop := ∀ w, Fr (fun _ => False) w0 w → Calls Tryd.prog 9 #[] w fun e w' => e = .returned (.bool true) ∧ Fr (fun _ => False) w w'
set_option maxRecDepth 100000 in
set_option maxHeartbeats 1600000 in
theorem awake8_any {w0 : World} (HP : PressC w0) : Awake8 w0 := by
  intro w hw0
  have HW0 := Lib.hid hw0
  have HPX := Lib.hid HP
  clear HP hw0
  go_enter Tryd.func9, Tryd.ntmps9
  go_wp2_with fail
  obtain ⟨w1, hw1⟩ : ∃ w1, w.alloc (.cells #[.int .i64 5, .int .i64 5, .int .i64 5, .int .i64 5] 3) = w1 := ⟨_, rfl⟩
  rw [hw1]
  have hf1 : Fr (fun _ => False) w w1 := by rw [← hw1]; exact (Fr.refl _ _).alloc _
  have hr1 : Rd w1 (some ⟨w.heap.size, 0, none⟩) 4 (([5, 5, 5, 5] : List Nat).map natc) := by
    rw [← hw1]
    exact Rd.cells rfl [.int .i64 5, .int .i64 5, .int .i64 5, .int .i64 5] _
  refine (HPX.out _ 4 4 [5, 5, 5, 5] w1 (HW0.out.trans hf1 (fun _ _ h => h)) hr1 (by omega) (by unfold maxLen; omega) (by omega) (by simp)).mono ?_
  rintro e w2 ⟨A2, c2, rfl, hO, hf2⟩
  rw [items_5555] at hO ⊢
  have HF := Lib.hid (hf1.trans hf2 (fun _ _ h => h))
  obtain ⟨g, o, rfl, hg, h1, h2, h3⟩ := hO.2 0 _ rfl
  obtain ⟨g', o', e, hg', k1, k2, k3⟩ := hO.2 1 _ rfl
  obtain ⟨rfl, rfl⟩ : g = g' ∧ o = o' := by injection e with e; injection e with e1 e2; exact ⟨e1, e2⟩
  clear hw1 hf1 hr1 hO hf2 hg hg' e
  have a1 : w2.cell? ⟨g, o, none⟩ = some (.int .i64 5) := h1
  have a2 : w2.cell? ⟨g, o + 1, none⟩ = some (.int .i64 0) := h2
  have a3 : w2.cell? ⟨g, o + 2, none⟩ = some (.int .u64 0) := h3
  have b1 : w2.cell? ⟨g, o + 3, none⟩ = some (.int .i64 16) := k1
  have b2 : w2.cell? ⟨g, o + 3 + 1, none⟩ = some (.int .i64 2) := k2
  have b3 : w2.cell? ⟨g, o + 3 + 2, none⟩ = some (.int .u64 0) := k3
  have q1 : ∀ (x y : Operand) (w : World), (eqGuard .eql 32 x y (.agg #[.int .i64 5, .int .i64 0, .int .u64 0]) (.agg #[.int .i64 5, .int .i64 0, .int .u64 0])).run Tryd.prog w = .ok () w := (itm_eql 5 0 0).1
  have q2 : ∀ w : World, (binOp .eql 32 (.agg #[.int .i64 5, .int .i64 0, .int .u64 0]) (.agg #[.int .i64 5, .int .i64 0, .int .u64 0])).run Tryd.prog w = .ok (.bool true) w := (itm_eql 5 0 0).2
  have q3 : ∀ (x y : Operand) (w : World), (eqGuard .eql 32 x y (.agg #[.int .i64 16, .int .i64 2, .int .u64 0]) (.agg #[.int .i64 16, .int .i64 2, .int .u64 0])).run Tryd.prog w = .ok () w := (itm_eql 16 2 0).1
  have q4 : ∀ w : World, (binOp .eql 32 (.agg #[.int .i64 16, .int .i64 2, .int .u64 0]) (.agg #[.int .i64 16, .int .i64 2, .int .u64 0])).run Tryd.prog w = .ok (.bool true) w := (itm_eql 16 2 0).2
  clear h1 h2 h3 k1 k2 k3
  go_wp2_with fail
  go_ret
  exact ⟨rfl, HF.out⟩
end Go.Proofs.YtjghcacepneipaaDoor
