import Derived.Test.YtbabgnadgdidmaaGreatZm06
import Derived.Test.YtbabgnadgdidmaaGreatZm44
import Derived.Test.YtbabgnadgdidmaaGreatZm01
import Derived.Lib.SliceRun
import Derived.Deep.DeepCutAuto
import Derived.Deep.CutRange
set_option linter.unusedVariables false
namespace Go.Proofs.YtbabgnadgdidmaaGreat
section
open Go.RowKit Mem Go.Lib LebM DirM
attribute [local go_sem ↓] Go.wp_at_zero Go.wp_at_succ
set_option maxRecDepth 1000000 in
theorem cloneB_any (A : Option Addr) (n c : Nat) (B : List UInt8) (w : World) (hr : Rd w A n (B.map bytec)) (hn : n ≤ 1000000000) :
    Calls Tryz.prog 103 #[.slice A n c] w (Gives w B) := by
 have hBn : B.length = n := by simpa using hr.1
 cases A with
 | none =>
  have h0 : n = 0 := by
   rcases Nat.eq_zero_or_pos n with h | h
   · exact h
   · obtain ⟨ad, e, _⟩ := hr.2 h;cases e
  subst h0;obtain rfl : B = [] := List.eq_nil_of_length_eq_zero hBn;have hq : (binOp .eql 34 (.slice none 0 c) (.slice none 0 0)).run Tryz.prog w = .ok (.bool true) w := by rfl
  clear hr hBn;go_enter Tryz.func103, Tryz.ntmps103
  go_wp2
  go_ret;exact ⟨none, 0, rfl, Own.nil _ _, Fr.refl _ _⟩
 | some ad =>
  have hmade := World.ownsRow_made (base := w.heap.size) (e := 5) (size := 1) w #[] 0 (Nat.le_refl _) (Nat.zero_le _) rfl;have hq : (binOp .eql 34 (.slice (some ad) n c) (.slice none 0 0)).run Tryz.prog w = .ok (.bool false) w := run_eql_slice_nil w _ _ _ n c 0 0 Tryz.underlying34;have HR := hid (hr.fr ((Fr.refl (fun _ => False) w).alloc (.cells #[] 5)) (fun _ _ h => h));have HM := hid hmade;have HB := hid hBn;clear hr hmade hBn;go_enter Tryz.func103, Tryz.ntmps103;go_wp2_with (at_builtin; refine wpList_app u8T _ rfl _ _ rfl w.heap.size _ _ _ rfl HM.out _ _ _ _ rfl HR.out (bytec_one _) (by unfold maxLen; omega) (by omega) (by simp) ?_)
  intro A' c' w' _ _ hown' hfr' _;have hf : Fr (fun _ => False) w w' := ((Fr.refl (fun _ => False) w).alloc _).trans hfr' (fun b hb h => by simp [Value.ownBlock] at h; omega);have ho : Own w' w.heap.size A' c' B := by unfold Own; rw [HB.out]; simpa using hown'
  have HF := hid hf;have HO := hid ho;clear hown' hfr' hf ho;go_wp2_with fail;go_ret;exact ⟨A', c', by rw [HB.out]; simp, HO.out, HF.out⟩
end
section
open Go.RowKit Mem Go.Lib LebM DirM
attribute [local go_sem ↓] Go.wp_at_zero Go.wp_at_succ
def Apart (v1 v2 : Value) : Prop := ∀ k, v1.ownBlock = some k → v2.ownBlock ≠ some k
theorem Apart.symm {v1 v2 : Value} (h : Apart v1 v2) : Apart v2 v1 := fun k h2 h1 => h k h1 h2
theorem Apart.grow {v1 v1' v2 : Value} {n : Nat} (h : Apart v1 v2) (hl : ∀ k, v2.ownBlock = some k → k < n) (hg : v1'.ownBlock = v1.ownBlock ∨ v1'.ownBlock = some n) : Apart v1' v2 := by
 intro k hk h2;rcases hg with e | e
 · exact h k (by rw [← e]; exact hk) h2
 · rw [e] at hk;injection hk with hk
   have := hl k h2;omega
theorem colSzD : (Tryz.prog.info? 37).map (·.size) = some 2 := by kernel_rfl
end
end Go.Proofs.YtbabgnadgdidmaaGreat
