/-
  Layer 11, the program: how a kind's cells are put and read (written by gen11.py out of rleH.src).
  Taking a loop's body out of a function's code, by a region that it holds; what the program is does not matter here.
-/
import Derived.Test.YtcoohjjjiakdjaaZm04
import Derived.Test.YtcoohjjjiakdjaaZm08
import Derived.Deep.DeepCutAuto
import Derived.Deep.CutRange
import Derived.Deep.DrawnRows
import Derived.WalkKit
namespace Go.Proofs.Ytcoohjjjiakdjaa
open Go.RowKit Mem Go.Lib RleM LebM
attribute [local go_sem ↓] Go.wp_at_zero Go.wp_at_succ
set_option linter.unusedVariables false

set_option maxRecDepth 100000 in
set_option maxHeartbeats 1600000 in
theorem putU_any (i : Bool) (x : Int) (w : World) (hx : okU (i, x)) : Calls Try.prog 53 #[.agg #[.bool i, (.int .i64 x)]] w (Gives w (kU.put (i, x))) := by
  obtain ⟨m, rfl⟩ : ∃ m : Nat, x = (m : Int) := ⟨x.toNat, by have h : 0 ≤ x := hx.1; omega⟩
  have hm : m < 9223372036854775808 := by have h : (m : Int) < 9223372036854775808 := hx.2; omega
  rw [show kU.put (i, (m : Int)) = u m from rfl]
  have r1 : IntKind.u64.wrap (m : Int) = (m : Int) := by rw [IntKind.wrap_u64]; omega
  clear hx
  go_enter Try.func53, Try.ntmps53
  go_wp2_with fail
  refine (U_any m _ (by omega)).mono ?_
  rintro e w2 ⟨A2, c2, rfl, hown2, hfr2⟩
  have H2 := Lib.hid (hown2.base (b' := w.heap.size) (by simp))
  have HF2 := Lib.hid (((Fr.refl (fun _ => False) w).alloc _).trans hfr2 (fun _ _ h => h))
  clear hown2 hfr2
  go_wp2_with fail
  go_ret
  exact ⟨A2, c2, rfl, H2.out, HF2.out⟩

set_option maxRecDepth 100000 in
set_option maxHeartbeats 1600000 in
theorem getU_any (A : Option Addr) (n c : Nat) (B : List UInt8) (w : World) (hr : Rd w A n (B.map bytec)) (hc : n ≤ c) (hn : n ≤ 1000000) :
    Calls Try.prog 54 #[.slice A n c] w fun e w' => e = .returned (.tuple #[.agg #[.bool (kU.get B).1.1, (.int .i64 (kU.get B).1.2)], .int .i64 ((kU.get B).2.1 : Int), .int .i64 ((kU.get B).2.2 : Int)]) ∧ Fr (fun _ => False) w w' := by
  have hBn : B.length = n := by simpa using hr.1
  have hbd := gu_bd B
  obtain ⟨N, hN⟩ : ∃ N, N = (gu B).1 := ⟨_, rfl⟩
  obtain ⟨k, hk⟩ : ∃ k, k = (gu B).2.1 := ⟨_, rfl⟩
  obtain ⟨E, hE⟩ : ∃ E, E = (gu B).2.2 := ⟨_, rfl⟩
  have hg := fun w hr => GetU_any A n c B w hr hc
  rw [← hN, ← hk, ← hE] at hbd
  rw [← hN, ← hk, ← hE] at hg
  obtain ⟨G, hG⟩ : ∃ G, G = kU.get B := ⟨_, rfl⟩
  rw [← hG]
  have hG2 := hG
  unfold kU at hG2
  simp only at hG2
  rw [← hN, ← hk, ← hE] at hG2
  clear hN hk hE hG
  obtain ⟨w1, hw1⟩ : ∃ w1, w.alloc (.cells #[.bool false, (.int .i64 0)] 50) = w1 := ⟨_, rfl⟩
  obtain ⟨q, hq⟩ : ∃ q, w.heap.size = q := ⟨_, rfl⟩
  have hf1 : Fr (fun _ => False) w w1 := by rw [← hw1]; exact (Fr.refl _ _).alloc _
  have hqb : Row w1 q 50 [.bool false, (.int .i64 0)] := by rw [← hw1, ← hq]; exact Row.new w _ _
  have hgw := hg w1 (hr.fr hf1 (fun _ _ h => h))
  have HGW := Lib.hid hgw
  have HR := Lib.hid hr
  have HF1 := Lib.hid hf1
  have HQB := Lib.hid hqb
  have HQ := Lib.hid hq
  have HBN := Lib.hid hBn
  have hkn : k ≤ n := by omega
  clear hr hf1 hqb hgw hg hBn
  go_enter Try.func54, Try.ntmps54
  go_wp2_with fail
  clear hw1 hq
  refine HGW.out.mono ?_
  rintro e w2 ⟨rfl, hf2⟩
  have hq2 := HQB.out.fr hf2 (fun h => h)
  have f0 : w2.frozen? ⟨q, 0, none⟩ = false := hq2.free 0
  have f1 : w2.frozen? ⟨q, 1, none⟩ = false := hq2.free 1
  have d0 : w2.cell? ⟨q, 0, none⟩ = some (.bool false) := hq2.cell rfl
  have d1 : w2.cell? ⟨q, 1, none⟩ = some (.int .i64 0) := hq2.cell rfl
  have HQ2 := Lib.hid hq2
  have HF2 := Lib.hid (HF1.out.trans hf2 (fun _ _ h => h))
  clear hf2 hq2 HGW HQB HF1
  by_cases he : E = 0
  · have t0 : ((E : Int) != 0) = false := by simp; omega
    have t0' : (E != 0) = false := by simp; omega
    rw [if_neg (by omega)] at hG2
    by_cases hlong : 9223372036854775807 < N
    · rw [if_pos hlong] at hG2
      have HG := Lib.hid hG2
      have t1 : decide ((9223372036854775807 : Int) < (N : Int)) = true := by simp; omega
      have t2 : decide (9223372036854775807 < N) = true := by simp; omega
      clear he hG2 hbd hlong
      go_wp2_with fail
      clear d0 d1
      obtain ⟨w5, hw5⟩ : ∃ w5, w5 = (w2.setCell ⟨q, 0, none⟩ (.bool false)).setCell ⟨q, 1, none⟩ (.int .i64 0) := ⟨_, rfl⟩
      rw [← hw5]
      have hr5 : Row w5 q 50 [.bool false, (.int .i64 0)] := by rw [hw5]; exact (HQ2.out.set 0 _).set 1 _
      have HF5 : Hid (Fr (fun _ => False) w w5) := Lib.hid (by rw [hw5]; exact (HF2.out.setCell (fun h => by have h1 := HQ.out; have h2 : q < w.heap.size := h; omega) _).setCell (fun h => by have h1 := HQ.out; have h2 : q < w.heap.size := h; omega) _)
      have d0 : w5.cell? ⟨q, 0, none⟩ = some (.bool false) := hr5.cell rfl
      have d1 : w5.cell? ⟨q, 1, none⟩ = some (.int .i64 0) := hr5.cell rfl
      clear hr5 hw5
      rw [HG.out]
      exact bodyPost_ret (v := .tuple #[.agg #[.bool false, (.int .i64 0)], .int .i64 0, .int .i64 4]) (by simp [results, Try.results54, go_sem, d0, d1]) rfl ⟨rfl, HF5.out⟩
    · rw [if_neg hlong] at hG2
      have HG := Lib.hid hG2
      have t1 : decide ((9223372036854775807 : Int) < (N : Int)) = false := by simp; omega
      have t2 : decide (9223372036854775807 < N) = false := by simp; omega
      have r1 : IntKind.i64.wrap (N : Int) = (N : Int) := by rw [IntKind.wrap_i64]; omega
      clear he hG2 hbd hlong
      go_wp2_with fail
      clear d0 d1
      obtain ⟨w5, hw5⟩ : ∃ w5, w5 = (w2.setCell ⟨q, 0, none⟩ (.bool true)).setCell ⟨q, 1, none⟩ (.int .i64 (N : Int)) := ⟨_, rfl⟩
      rw [← hw5]
      have hr5 : Row w5 q 50 [.bool true, .int .i64 (N : Int)] := by rw [hw5]; exact (HQ2.out.set 0 _).set 1 _
      have HF5 : Hid (Fr (fun _ => False) w w5) := Lib.hid (by rw [hw5]; exact (HF2.out.setCell (fun h => by have h1 := HQ.out; have h2 : q < w.heap.size := h; omega) _).setCell (fun h => by have h1 := HQ.out; have h2 : q < w.heap.size := h; omega) _)
      have d0 : w5.cell? ⟨q, 0, none⟩ = some (.bool true) := hr5.cell rfl
      have d1 : w5.cell? ⟨q, 1, none⟩ = some (.int .i64 (N : Int)) := hr5.cell rfl
      clear hr5 hw5
      rw [HG.out]
      exact bodyPost_ret (v := .tuple #[.agg #[.bool true, .int .i64 (N : Int)], .int .i64 (k : Int), .int .i64 0]) (by simp [results, Try.results54, go_sem, d0, d1]) rfl ⟨rfl, HF5.out⟩
  · have t0 : ((E : Int) != 0) = true := by simp; omega
    have t0' : (E != 0) = true := by simp; omega
    rw [if_pos he] at hG2
    have HG := Lib.hid hG2
    clear he hG2 hbd
    go_wp2_with fail
    clear d0 d1
    obtain ⟨w5, hw5⟩ : ∃ w5, w5 = (w2.setCell ⟨q, 0, none⟩ (.bool false)).setCell ⟨q, 1, none⟩ (.int .i64 0) := ⟨_, rfl⟩
    rw [← hw5]
    have hr5 : Row w5 q 50 [.bool false, (.int .i64 0)] := by rw [hw5]; exact (HQ2.out.set 0 _).set 1 _
    have HF5 : Hid (Fr (fun _ => False) w w5) := Lib.hid (by rw [hw5]; exact (HF2.out.setCell (fun h => by have h1 := HQ.out; have h2 : q < w.heap.size := h; omega) _).setCell (fun h => by have h1 := HQ.out; have h2 : q < w.heap.size := h; omega) _)
    have d0 : w5.cell? ⟨q, 0, none⟩ = some (.bool false) := hr5.cell rfl
    have d1 : w5.cell? ⟨q, 1, none⟩ = some (.int .i64 0) := hr5.cell rfl
    clear hr5 hw5
    rw [HG.out]
    exact bodyPost_ret (v := .tuple #[.agg #[.bool false, (.int .i64 0)], .int .i64 0, .int .i64 (E : Int)]) (by simp [results, Try.results54, go_sem, d0, d1]) rfl ⟨rfl, HF5.out⟩

end Go.Proofs.Ytcoohjjjiakdjaa
namespace Go.Proofs.Ytcoohjjjiakdjaa
open Go

def hasRegion (r : Nat) : Code → Bool
  | .region id _ _ => id == r
  | .seq a b => hasRegion r a || hasRegion r b
  | .cond _ a b => hasRegion r a || hasRegion r b
  | .block _ c => hasRegion r c
  | .loop c => hasRegion r c
  | .scope c => hasRegion r c
  | _ => false
/-- the body of the innermost loop that holds region r -/
def loopAt (r : Nat) : Code → Option Code
  | .seq a b => match loopAt r a with
    | some c => some c
    | none => loopAt r b
  | .cond _ a b => match loopAt r a with
    | some c => some c
    | none => loopAt r b
  | .block _ c => loopAt r c
  | .scope c => loopAt r c
  | .loop c => match loopAt r c with
    | some d => some d
    | none => bif hasRegion r c then some c else none
  | _ => none
/-- region r -/
def regionAt (r : Nat) : Code → Option Code
  | .region id ops d => bif id == r then some (.region id ops d) else none
  | .seq a b => match regionAt r a with
    | some c => some c
    | none => regionAt r b
  | .cond _ a b => match regionAt r a with
    | some c => some c
    | none => regionAt r b
  | .block _ c => regionAt r c
  | .loop c => regionAt r c
  | .scope c => regionAt r c
  | _ => none
/-- a post that is asked of one exit alone: blind at a panic (go_region's short way wants that) -/
def onExit (n : Nat) (Q1 : Act → World → Prop) : Exit → Act → World → Prop
  | .exit m, a, w => m = n ∧ Q1 a w
  | _, _, _ => False
theorem onExit_imp {n : Nat} {Q0 : Exit → Act → World → Prop} : ∀ e a w, onExit n (Q0 (.exit n)) e a w → Q0 e a w := by
  intro e a w h
  cases e with
  | exit m => obtain ⟨rfl, h⟩ := h; exact h
  | _ => exact h.elim
end Go.Proofs.Ytcoohjjjiakdjaa
