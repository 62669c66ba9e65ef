/-
  Layer 17, the reference: Right (written by gen_right.py).
  Layer 17's laws: awake; Right of one op, of two; what Few tells.
-/
import Derived.Test.YtbagclhghcglbaaZm25
import Derived.Test.YtbagclhghcglbaaOpX
import Derived.Test.YtbagclhghcglbaaZm33
import Derived.Test.YtbagclhghcglbaaZm15
import Derived.Test.YtbagclhghcglbaaZm12
import Derived.BigQuiet
import Derived.Test.YtbagclhghcglbaaOpW
namespace Go.Proofs.Ytbagclhghcglbaa
open Go.RowKit Mem Go.Lib LebM UtfM VaM OpM
attribute [local go_sem ↓] Go.wp_at_zero Go.wp_at_succ
set_option linter.unusedVariables false

theorem right_bools (p1 n2 i2 kd il a b c d vl e5 e6 rs : Bool) : (p1 && (if kd then a && b && (!n2) && !il else e6 && (!n2 || i2)) && c && d && vl && (e5 && rs)) =
  ((p1 && (!n2 || i2)) && !(kd && (n2 || il || !a || !b)) && !(!kd && !e6 || !c || !d || !vl || !e5) && rs) := by
  cases kd <;> cases n2 <;> cases p1 <;> simp [Bool.and_assoc, Bool.and_comm, Bool.and_left_comm]
end Go.Proofs.Ytbagclhghcglbaa
namespace Go.Proofs.Ytbagclhghcglbaa
open Go.RowKit Mem Go.Lib LebM UtfM VaM OpM
attribute [local go_sem ↓] Go.wp_at_zero Go.wp_at_succ
set_option linter.unusedVariables false

def Om.lens (x : Om) : Prop := x.o.obj.a.length ≤ 9223372036854775807 ∧ x.o.elem.a.length ≤ 9223372036854775807 ∧ x.o.key.length ≤ 9223372036854775807 ∧ x.o.val.s.length ≤ 9223372036854775807 ∧ x.o.pr.length ≤ 9223372036854775807 ∧ ∀ y ∈ x.o.pr, y.a.length ≤ 9223372036854775807
theorem few_short {L : List Om} (h : fewB L = true) : ∀ x ∈ L, x.short ∧ x.o.pr.length ≤ 40 := by
  intro x hx
  have h1 := List.all_eq_true.1 h x hx
  unfold fewO at h1
  simp only [Bool.and_eq_true, decide_eq_true_eq, List.all_eq_true] at h1
  obtain ⟨⟨⟨⟨⟨h1, h2⟩, h3⟩, h4⟩, h5⟩, h6⟩ := h1
  exact ⟨⟨by omega, by omega, by omega, by omega, by omega, fun y hy => by have := h6 y hy; omega⟩, h1⟩
theorem prd_nil (w : World) (o : O) (h : o.pr = []) : Prd w ⟨o, none, 0⟩ := by
  unfold Prd
  rw [h]
  exact ⟨Prs.nil _ _, Nat.le_refl _, Nat.zero_le _⟩
theorem ops1 {w : World} {q : Nat} {x : Om} (h : Row w q 50 (ols x)) (hx : Prd w x) : Ops w (some ⟨q, 0, none⟩) 1 [x] :=
  Ops.row (L := [x]) (by simpa using h) (fun z hz => by rw [List.mem_singleton.1 hz]; exact hx)
theorem ops2 {w : World} {q : Nat} {x y : Om} (h : Row w q 50 (ols x ++ ols y)) (hx : Prd w x) (hy : Prd w y) : Ops w (some ⟨q, 0, none⟩) 2 [x, y] :=
  Ops.row (L := [x, y]) (by simpa using h) (fun z hz => by
    rcases List.mem_cons.1 hz with rfl | hz
    · exact hx
    · rw [List.mem_singleton.1 hz]; exact hy)
theorem few1 {L : List Om} {n m : Nat} (h : (decide (n ≤ m) && fewB L) = true) : n ≤ m ∧ fewB L = true := by
  rw [Bool.and_eq_true, decide_eq_true_eq] at h
  exact h
/-- Few of two ops, out of the argument's row that was just made -/
theorem rfew2 (x y : Om) (w : World) {k : Nat} (hk : k = w.heap.size) (hx : Prd w x) (hy : Prd w y) (lx : x.lens) (ly : y.lens) :
    Calls Try.prog 9 #[.slice (some ⟨k, 0, none⟩) 2 2, .int .i64 2] (w.alloc (.cells #[.int .i64 x.o.obj.c, .string (txt x.o.obj.a), .string (txt x.o.key), .bool x.o.keyed, .int .i64 x.o.elem.c, .string (txt x.o.elem.a), .bool x.o.ins, .int .i64 x.o.act, .int .i64 x.o.val.k, .int .u64 (x.o.val.u : Int), .int .i64 x.o.val.n, .string (txt x.o.val.s), .slice x.A x.o.pr.length x.c, .int .i64 y.o.obj.c, .string (txt y.o.obj.a), .string (txt y.o.key), .bool y.o.keyed, .int .i64 y.o.elem.c, .string (txt y.o.elem.a), .bool y.o.ins, .int .i64 y.o.act, .int .i64 y.o.val.k, .int .u64 (y.o.val.u : Int), .int .i64 y.o.val.n, .string (txt y.o.val.s), .slice y.A y.o.pr.length y.c] 50)) fun e w' => e = .returned (.bool (fewB [x, y])) ∧ Fr (fun _ => False) w w' := by
  subst hk
  have hf : Fr (fun _ => False) w (w.alloc (.cells (ols x ++ ols y).toArray 50)) := (Fr.refl _ _).alloc _
  have hr : Row (w.alloc (.cells (ols x ++ ols y).toArray 50)) w.heap.size 50 (ols x ++ ols y) := Row.new w _ _
  have h := rfew_any (some ⟨w.heap.size, 0, none⟩) 2 2 [x, y] 2 _ (ops2 hr (hx.fr0 hf) (hy.fr0 hf)) (by omega) (by omega) (fun z hz => by
    rcases List.mem_cons.1 hz with rfl | hz
    · exact lx
    · rw [List.mem_singleton.1 hz]; exact ly)
  refine h.mono ?_
  rintro e w' ⟨rfl, rfl⟩
  exact ⟨by simp, hf⟩
def exA : Om := ⟨⟨zeroN, [97], true, zeroN, false, 0, zeroV, []⟩, none, 0⟩
def exB : Om := ⟨⟨zeroN, [97], false, zeroN, false, 0, zeroV, []⟩, none, 0⟩
theorem wh_1 : wh [97] = 1 := by
  rw [wh_pos (by decide)]
  show 1 + wh [] = 1
  rw [wh_nil]
theorem exA_right : rightO exA.o = true := by
  have h : keyB exA.o = true := by
    unfold keyB exA
    simp only [if_true, wh_1]
    rfl
  unfold rightO
  rw [h]
  rfl
theorem exB_right : rightO exB.o = false := rfl
theorem zeroO_right : rightO zeroM.o = true := rfl
theorem zeroV_ok : zeroV.ok := ⟨⟨by decide, by decide⟩, by decide, by decide, by decide⟩
theorem ex_short (k : List UInt8) (b : Bool) (hk : k.length ≤ 10) : (⟨⟨zeroN, k, b, zeroN, false, 0, zeroV, []⟩, none, 0⟩ : Om).short := by
  refine ⟨?_, ?_, ?_, ?_, ?_, fun y hy => by cases hy⟩
  · show (0 : Nat) ≤ _; omega
  · show (0 : Nat) ≤ _; omega
  · show k.length ≤ _; omega
  · show (0 : Nat) ≤ _; omega
  · show (0 : Nat) ≤ _; omega
end Go.Proofs.Ytbagclhghcglbaa
