/-
  Layer 8's laws: the lengths of two codes that a law makes of bytes.
  Layer 8's laws: awake, out of the contract of Press.
  What layer 8's laws want of the program: its contracts, over a condition of the world that calls keep (its tables, in blocks below T).
  The loop of layer 5's reference once that makes the groups (written by gen_once.py).
  Region 23 of layer 5's reference once: two groups are joined (written by gen_once2.py).
-/
import Derived.Test.YtgpkiijmembggaaGreatDoorZm30
import Derived.Test.YtgpkiijmembggaaGreatDoorZm22
import Derived.Test.YtgpkiijmembggaaGreatDoorZm01
import Derived.Deep.DrawnRows
import Derived.StillTailTactics
import Derived.Deep.DeepCutAuto
import Derived.Deep.QuietTactic
import Derived.BigQuiet
import Derived.Test.YtgpkiijmembggaaGreatDoorZm09
import Derived.Test.YtgpkiijmembggaaGreatDoorZm16
import Derived.Test.YtgpkiijmembggaaGreatDoorZm25
import Derived.Test.YtgpkiijmembggaaGreatDoorZm05
namespace Go.Proofs.YtgpkiijmembggaaGreatDoor
open Go.RowKit CoM Mem Go.Lib
attribute [local go_sem ↓] Go.wp_at_zero Go.wp_at_succ
set_option linter.unusedVariables false

/-- N lengths out of bytes, 0 behind them -/
def padL (N : Nat) (B : List UInt8) : List Nat := (modL B).take N ++ List.replicate (N - B.length) 0
theorem padL_len (N : Nat) (B : List UInt8) : (padL N B).length = N := by
  unfold padL
  rw [List.length_append, List.length_take, modL_len, List.length_replicate]
  omega
theorem padL_le (N : Nat) (B : List UInt8) : ∀ x ∈ padL N B, x ≤ 15 := by
  intro x hx
  rcases List.mem_append.1 hx with h | h
  · exact modL_le B x (List.mem_of_mem_take h)
  · have := List.eq_of_mem_replicate h; omega
/-- the first k are filled in -/
def part (N : Nat) (B : List UInt8) (k : Nat) : List Nat := (modL B).take k ++ List.replicate (N - k) 0
theorem part_zero (N : Nat) (B : List UInt8) : part N B 0 = List.replicate N 0 := by simp [part]
theorem part_len (N : Nat) (B : List UInt8) (k : Nat) (h1 : k ≤ N) (h2 : k ≤ B.length) : (part N B k).length = N := by
  unfold part
  rw [List.length_append, List.length_take, modL_len, List.length_replicate]
  omega
theorem part_set (N : Nat) (B : List UInt8) (k : Nat) (b : UInt8) (h1 : k < N) (hb : B[k]? = some b) : (part N B k).set k (b.toNat % 16) = part N B (k + 1) := by
  have hk := (List.getElem?_eq_some_iff.1 hb).1
  have he := (List.getElem?_eq_some_iff.1 hb).2
  unfold part
  rw [List.set_append_right _ _ (by rw [List.length_take, modL_len]; omega), List.length_take, modL_len, Nat.min_eq_left (by omega), Nat.sub_self, show N - k = (N - (k + 1)) + 1 by omega, List.replicate_succ, List.set_cons_zero, ← List.take_append_getElem (show k < (modL B).length by rw [modL_len]; exact hk), List.append_assoc]
  congr 1
  show _ :: _ = _
  rw [List.singleton_append]
  congr 1
  simp [modL, he]
theorem part_all (N : Nat) (B : List UInt8) (k : Nat) (h1 : k ≤ N) (h2 : k ≤ B.length) (h : k = N ∨ k = B.length) : part N B k = padL N B := by
  unfold part padL
  rcases h with rfl | rfl
  · rw [show k - k = 0 by omega, show k - B.length = 0 by omega]
  · rw [List.take_of_length_le (by rw [modL_len]; exact Nat.le_refl _), List.take_of_length_le (by rw [modL_len]; exact h1)]
theorem byte_cell {w : World} {A : Option Addr} {n : Nat} {B : List UInt8} (h : Rd w A n (B.map bytec)) {k : Nat} (hk : k < n) : ∃ ad b, A = some ad ∧ B[k]? = some b ∧ w.cell? (ad.add k) = some (.int .u8 (b.toNat : Int)) := by
  have hl : B.length = n := by simpa using h.1
  obtain ⟨ad, u, e, h1, h2⟩ := h.at_ hk
  rw [List.getElem?_map, List.getElem?_eq_getElem (by omega)] at h1
  refine ⟨ad, B[k], e, List.getElem?_eq_getElem _, ?_⟩
  rw [h2, ← h1]
  rfl

end Go.Proofs.YtgpkiijmembggaaGreatDoor
namespace Go.Proofs.YtgpkiijmembggaaGreatDoor
open Go.RowKit CoM Mem Go.Lib
attribute [local go_sem ↓] Go.wp_at_zero Go.wp_at_succ
set_option linter.unusedVariables false

theorem itm_equal (s b x : Nat) (w : World) : (Op.equalIn 10000 133 (.agg #[.int .i64 (s : Int), .int .i64 (b : Int), .int .u64 (x : Int)]) (.agg #[.int .i64 (s : Int), .int .i64 (b : Int), .int .u64 (x : Int)])).run Tryz.prog w = .ok true w := by
  have h := run_equalIn_agg (P := Tryz.prog) w 9999 133 #[.int .i64 (s : Int), .int .i64 (b : Int), .int .u64 (x : Int)] #[.int .i64 (s : Int), .int .i64 (b : Int), .int .u64 (x : Int)] (by unfold Program.fieldsOf; rw [Tryz.underlying133]) (by kernel_rfl)
  rw [h]
  clear h
  unfold Program.fieldsOf
  rw [Tryz.underlying133]
  go_simp
theorem itm_eql (s b x : Nat) : (∀ (p q : Operand) (w : World), (eqGuard .eql 133 p q (.agg #[.int .i64 (s : Int), .int .i64 (b : Int), .int .u64 (x : Int)]) (.agg #[.int .i64 (s : Int), .int .i64 (b : Int), .int .u64 (x : Int)])).run Tryz.prog w = .ok () w) ∧ (∀ w : World, (binOp .eql 133 (.agg #[.int .i64 (s : Int), .int .i64 (b : Int), .int .u64 (x : Int)]) (.agg #[.int .i64 (s : Int), .int .i64 (b : Int), .int .u64 (x : Int)])).run Tryz.prog w = .ok (.bool true) w) := by
  refine ⟨fun p q w => run_eqGuard_agg w .eql _ p q _ _ (by kernel_rfl), fun w => ?_⟩
  have h := itm_equal s b x w
  rw [run_eql_struct, h]
  rfl
theorem items_5555 : items [5, 5, 5, 5] = [⟨5, 0, 0⟩, ⟨16, 2, 0⟩] := by decide +kernel

end Go.Proofs.YtgpkiijmembggaaGreatDoor
namespace Go.Proofs.YtgpkiijmembggaaGreatDoor
open Go.RowKit CoM BitsM Mem Go.Lib

/-- what the program's Get answers, and where the reader stands then -/
def GotP (lo : Nat) (bits : List Bool) (w' : World) (e : Ending) (p' : Nat) : Option (List Nat × List Nat × List Bool) → Prop
  | none => ∃ A1 c1 A2 c2, e = .returned (.tuple #[.slice A1 0 c1, .slice A2 0 c2, .bool false])
  | some (u, v, r) => ∃ A1 c1 A2 c2, e = .returned (.tuple #[.slice A1 u.length c1, .slice A2 v.length c2, .bool true]) ∧ u.length ≤ c1 ∧ v.length ≤ c2 ∧ Rd w' A1 u.length (u.map natc) ∧ Rd w' A2 v.length (v.map natc) ∧ (∀ ad, A1 = some ad → lo ≤ ad.block) ∧ (∀ ad, A2 = some ad → lo ≤ ad.block) ∧ r = bits.drop p'
/-- the program's contracts -/
structure CodesC (T : Nat) (Gl : World → Prop) : Prop where
  fr : ∀ {S : Nat → Prop} {w w' : World}, Gl w → Fr S w w' → (∀ k, S k → T ≤ k) → Gl w'
  size : ∀ {w : World}, Gl w → T ≤ w.heap.size
  press : ∀ w : World, Gl w → PressC w
  put : ∀ (g c : Nat) (A : Option Addr) (bs : List Bool) (A1 A2 : Option Addr) (n1 c1 n2 c2 : Nat) (X Y : List Nat) (w : World), Gl w → T ≤ g → (∀ k, bl A = some k → T ≤ k) → Wr w g A c bs → bs.length ≤ 1000000000 →
    Rd w A1 n1 (X.map natc) → Rd w A2 n2 (Y.map natc) → n1 ≤ c1 → n2 ≤ c2 → 257 ≤ n1 → n1 ≤ 286 → 1 ≤ n2 → n2 ≤ 30 → (∀ x ∈ X, x ≤ 15) → (∀ x ∈ Y, x ≤ 15) → (∀ ad, A1 = some ad → ¬ Ft g A ad.block) → (∀ ad, A2 = some ad → ¬ Ft g A ad.block) →
    Calls Tryz.prog 32 #[.pointer (some ⟨g, 0, none⟩), .slice A1 n1 c1, .slice A2 n2 c2] w fun e w' => ∃ A' c', e = .returned (.tuple #[]) ∧ Wr w' g A' c' (bs ++ putBits (trimL X 257) (trimL Y 1)) ∧ Fr (Ft g A) w w' ∧ Nx w A A'
  get : ∀ (r c p : Nat) (A : Option Addr) (B : List UInt8) (w : World), Gl w → T ≤ r → Re w r A c B p → B.length ≤ 1000000 →
    Calls Tryz.prog 83 #[.pointer (some ⟨r, 0, none⟩)] w fun e w' => ∃ p', Re w' r A c B p' ∧ Fr (fun k => k = r) w w' ∧ GotP w.heap.size (bitsOf B) w' e p' (getB ((bitsOf B).drop p))

end Go.Proofs.YtgpkiijmembggaaGreatDoor
namespace Go.Proofs.YtgpkiijmembggaaGreatDoor
open Go.RowKit HuffM Mem Go.Lib
attribute [local go_sem ↓] Go.wp_at_zero Go.wp_at_succ
set_option linter.unusedVariables false

end Go.Proofs.YtgpkiijmembggaaGreatDoor
namespace Go.Proofs.YtgpkiijmembggaaGreatDoor
open Go.RowKit HuffM Mem Go.Lib
attribute [local go_sem ↓] Go.wp_at_zero Go.wp_at_succ
set_option linter.unusedVariables false

theorem pair_all (x : Int) (A : Option Addr) (n c : Nat) : (#[Value.int .i64 x, Value.slice A n c]).all (·.oneCell') = true := by
  show ([Value.int .i64 x, Value.slice A n c].toArray).all (·.oneCell') = true
  rw [List.all_toArray]
  rfl
end Go.Proofs.YtgpkiijmembggaaGreatDoor
