/-
  Layer 18's laws: awake.
-/
import Derived.Test.YtbagclhghcglbaaAcB
import Derived.Test.YtbagclhghcglbaaAcC
import Derived.Test.YtbagclhghcglbaaZm34
namespace Go.Proofs.Ytbagclhghcglbaa
open Go.RowKit Mem Go.Lib LebM UtfM VaM OpM AcM
attribute [local go_sem ↓] Go.wp_at_zero Go.wp_at_succ
set_option linter.unusedVariables false

def exL : Om := ⟨⟨zeroN, [], false, ⟨1, [97]⟩, false, 0, zeroV, []⟩, none, 0⟩
theorem exL_tab : tabA [98] (namesM [exL]) = [[98], [97]] := by decide
theorem exL_put : putA [[98], [97]] = [1, 1, 97] := by
  simp [putA, oneA, u_small]
theorem exL_short : exL.short ∧ exL.o.pr.length ≤ 1000 := by
  refine ⟨⟨?_, ?_, ?_, ?_, ?_, fun y hy => by cases hy⟩, ?_⟩
  · show (0 : Nat) ≤ _; omega
  · show (1 : Nat) ≤ _; omega
  · show (0 : Nat) ≤ _; omega
  · show (0 : Nat) ≤ _; omega
  · show (0 : Nat) ≤ _; omega
  · show (0 : Nat) ≤ _; omega
set_option maxRecDepth 100000 in
set_option maxHeartbeats 3200000 in
theorem awake18_any (w : World) : Calls Try.prog 8 #[] w fun e w' => e = .returned (.bool true) ∧ Fr (fun _ => False) w w' := by
  obtain ⟨w1, hw1⟩ : ∃ w1, w.alloc (.cells #[.int .i64 0, .string ⟨#[]⟩, .string ⟨#[]⟩, .bool false, .int .i64 1, .string ⟨#[97]⟩, .bool false, .int .i64 0, .int .i64 0, .int .u64 0, .int .i64 0, .string ⟨#[]⟩, .slice none 0 0] 50) = w1 := ⟨_, rfl⟩
  obtain ⟨q, hq⟩ : ∃ q, w.heap.size = q := ⟨_, rfl⟩
  have hf1 : Fr (fun _ => False) w w1 := by rw [← hw1]; exact (Fr.refl _ _).alloc _
  have hr1 : Row w1 q 50 (ols exL) := by rw [← hw1, ← hq]; exact Row.new w _ _
  have htb : Calls Try.prog 10 #[.string ⟨#[98]⟩, .slice (some ⟨q, 0, none⟩) 1 1] w1 _ := acTable_any [98] (some ⟨q, 0, none⟩) 1 1 [exL] w1 (ops1 hr1 (prd_nil _ _ rfl)) (by omega) (by show (1 : Nat) ≤ _; omega) (fun x hx => by rw [List.mem_singleton.1 hx]; exact exL_short)
  rw [exL_tab] at htb
  have HTB := Lib.hid htb
  have HF1 := Lib.hid hf1
  clear htb hf1 hr1
  go_enter Try.func8, Try.ntmps8
  go_wp2_with fail
  clear hw1 hq
  refine HTB.out.mono ?_
  rintro e w2 ⟨A2, c2, rfl, ho2, hf2⟩
  have hc := ho2.cap.1
  obtain ⟨g, rfl, h0, _⟩ := own_at (i := 0) (u := .string ⟨#[98]⟩) ho2 rfl
  obtain ⟨g', e', h1, _⟩ := own_at (i := 1) (u := .string ⟨#[97]⟩) ho2 rfl
  injection e' with e'
  injection e' with e'
  subst e'
  have hpu : Calls Try.prog 15 #[.slice (some ⟨g, 0, none⟩) 2 c2] w2 fun e w' => Gives w2 (putA [[98], [97]]) e w' := acPut_any _ _ _ [[98], [97]] w2 ho2.rd hc (by show (2 : Nat) ≤ _; omega) (by
    intro x hx
    rcases List.mem_cons.1 hx with rfl | hx
    · show (1 : Nat) ≤ _; omega
    · rw [List.mem_singleton.1 hx]; show (1 : Nat) ≤ _; omega)
  rw [exL_put] at hpu
  have HPU := Lib.hid hpu
  have HF2 := Lib.hid (HF1.out.trans hf2 (fun _ _ h => h))
  clear hpu ho2 hf2 hc
  have hlen : ([[98], [97]] : List Tx).length = 2 := rfl
  rw [hlen]
  go_wp2_with fail
  refine HPU.out.mono ?_
  intro e w3 h3
  obtain ⟨A3, c3, rfl, ho3, hf3⟩ := h3
  have hst : (convert 30 9 (.slice A3 3 c3)).run Try.prog w3 = .ok (.string ⟨#[1, 1, 97]⟩) w3 := ho3.str
  have HF3 := Lib.hid (HF2.out.trans hf3 (fun _ _ h => h))
  clear ho3 hf3
  go_wp2_with fail
  go_ret
  exact ⟨rfl, HF3.out⟩
end Go.Proofs.Ytbagclhghcglbaa
