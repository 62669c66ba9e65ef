/-
  Layer 11, the program: how a kind's cells are put and read (written by gen11.py out of rleH.src).
-/
import Derived.Test.YtmdobloncbljeaaRleB
import Derived.Test.YtmdobloncbljeaaRleK
import Derived.Test.YtmdobloncbljeaaReg
import Derived.Deep.DeepCutAuto
import Derived.Deep.CutRange
import Derived.Deep.DrawnRows
namespace Go.Proofs.Ytmdobloncbljeaa
open Go.RowKit Mem Go.Lib RleM LebM
attribute [local go_sem ↓] Go.wp_at_zero Go.wp_at_succ
set_option linter.unusedVariables false

set_option maxRecDepth 100000 in
set_option maxHeartbeats 1600000 in
theorem putS_any (i : Bool) (x : Int) (w : World) (hx : okS (i, x)) : Calls Try.prog 30 #[.agg #[.bool i, (.int .i64 x)]] w (Gives w (kS.put (i, x))) := by
  obtain ⟨h0, h1⟩ := hx
  simp only at h0 h1
  rw [show kS.put (i, x) = s x from rfl]
  go_enter Try.func30, Try.ntmps30
  go_wp2_with fail
  refine (S_any x _ h0 h1).mono ?_
  rintro e w2 ⟨A2, c2, rfl, hown2, hfr2⟩
  have H2 := Lib.hid (hown2.base (b' := w.heap.size) (by simp))
  have HF2 := Lib.hid (((Fr.refl (fun _ => False) w).alloc _).trans hfr2 (fun _ _ h => h))
  clear hown2 hfr2
  go_wp2_with fail
  go_ret
  exact ⟨A2, c2, rfl, H2.out, HF2.out⟩

set_option maxRecDepth 100000 in
set_option maxHeartbeats 1600000 in
theorem getS_any (A : Option Addr) (n c : Nat) (B : List UInt8) (w : World) (hr : Rd w A n (B.map bytec)) (hc : n ≤ c) (hn : n ≤ 1000000) :
    Calls Try.prog 31 #[.slice A n c] w fun e w' => e = .returned (.tuple #[.agg #[.bool (kS.get B).1.1, (.int .i64 (kS.get B).1.2)], .int .i64 ((kS.get B).2.1 : Int), .int .i64 ((kS.get B).2.2 : Int)]) ∧ Fr (fun _ => False) w w' := by
  have hBn : B.length = n := by simpa using hr.1
  have hbd := gs_bd B
  obtain ⟨N, hN⟩ : ∃ N, N = (gs B).1 := ⟨_, rfl⟩
  obtain ⟨k, hk⟩ : ∃ k, k = (gs B).2.1 := ⟨_, rfl⟩
  obtain ⟨E, hE⟩ : ∃ E, E = (gs B).2.2 := ⟨_, rfl⟩
  have hg := fun w hr => GetS_any A n c B w hr hc
  rw [← hN, ← hk, ← hE] at hbd
  rw [← hN, ← hk, ← hE] at hg
  obtain ⟨G, hG⟩ : ∃ G, G = kS.get B := ⟨_, rfl⟩
  rw [← hG]
  have hG2 := hG
  unfold kS at hG2
  simp only at hG2
  rw [← hN, ← hk, ← hE] at hG2
  clear hN hk hE hG
  obtain ⟨w1, hw1⟩ : ∃ w1, w.alloc (.cells #[.bool false, (.int .i64 0)] 30) = w1 := ⟨_, rfl⟩
  obtain ⟨q, hq⟩ : ∃ q, w.heap.size = q := ⟨_, rfl⟩
  have hf1 : Fr (fun _ => False) w w1 := by rw [← hw1]; exact (Fr.refl _ _).alloc _
  have hqb : Row w1 q 30 [.bool false, (.int .i64 0)] := by rw [← hw1, ← hq]; exact Row.new w _ _
  have hgw := hg w1 (hr.fr hf1 (fun _ _ h => h))
  have HGW := Lib.hid hgw
  have HR := Lib.hid hr
  have HF1 := Lib.hid hf1
  have HQB := Lib.hid hqb
  have HQ := Lib.hid hq
  have HBN := Lib.hid hBn
  have hkn : k ≤ n := by omega
  clear hr hf1 hqb hgw hg hBn
  go_enter Try.func31, Try.ntmps31
  go_wp2_with fail
  clear hw1 hq
  refine HGW.out.mono ?_
  rintro e w2 ⟨rfl, hf2⟩
  have hq2 := HQB.out.fr hf2 (fun h => h)
  have f0 : w2.frozen? ⟨q, 0, none⟩ = false := hq2.free 0
  have f1 : w2.frozen? ⟨q, 1, none⟩ = false := hq2.free 1
  have d0 : w2.cell? ⟨q, 0, none⟩ = some (.bool false) := hq2.cell rfl
  have d1 : w2.cell? ⟨q, 1, none⟩ = some (.int .i64 0) := hq2.cell rfl
  have HQ2 := Lib.hid hq2
  have HF2 := Lib.hid (HF1.out.trans hf2 (fun _ _ h => h))
  clear hf2 hq2 HGW HQB HF1
  by_cases he : E = 0
  · have t0 : ((E : Int) != 0) = false := by simp; omega
    have t0' : (E != 0) = false := by simp; omega
    rw [if_neg (by omega)] at hG2
    have HG := Lib.hid hG2
    obtain ⟨hb0, hb1, hb2, hb3⟩ := hbd
    clear he hG2
    go_wp2_with fail
    clear d0 d1
    obtain ⟨w5, hw5⟩ : ∃ w5, w5 = (w2.setCell ⟨q, 0, none⟩ (.bool true)).setCell ⟨q, 1, none⟩ (.int .i64 N) := ⟨_, rfl⟩
    rw [← hw5]
    have hr5 : Row w5 q 30 [.bool true, .int .i64 N] := by rw [hw5]; exact (HQ2.out.set 0 _).set 1 _
    have HF5 : Hid (Fr (fun _ => False) w w5) := Lib.hid (by rw [hw5]; exact (HF2.out.setCell (fun h => by have h1 := HQ.out; have h2 : q < w.heap.size := h; omega) _).setCell (fun h => by have h1 := HQ.out; have h2 : q < w.heap.size := h; omega) _)
    have d0 : w5.cell? ⟨q, 0, none⟩ = some (.bool true) := hr5.cell rfl
    have d1 : w5.cell? ⟨q, 1, none⟩ = some (.int .i64 N) := hr5.cell rfl
    clear hr5 hw5
    rw [HG.out]
    exact bodyPost_ret (v := .tuple #[.agg #[.bool true, .int .i64 N], .int .i64 (k : Int), .int .i64 0]) (by simp [results, Try.results31, go_sem, d0, d1]) rfl ⟨rfl, HF5.out⟩
  · have t0 : ((E : Int) != 0) = true := by simp; omega
    have t0' : (E != 0) = true := by simp; omega
    rw [if_pos he] at hG2
    have HG := Lib.hid hG2
    clear he hG2 hbd
    go_wp2_with fail
    clear d0 d1
    obtain ⟨w5, hw5⟩ : ∃ w5, w5 = (w2.setCell ⟨q, 0, none⟩ (.bool false)).setCell ⟨q, 1, none⟩ (.int .i64 0) := ⟨_, rfl⟩
    rw [← hw5]
    have hr5 : Row w5 q 30 [.bool false, (.int .i64 0)] := by rw [hw5]; exact (HQ2.out.set 0 _).set 1 _
    have HF5 : Hid (Fr (fun _ => False) w w5) := Lib.hid (by rw [hw5]; exact (HF2.out.setCell (fun h => by have h1 := HQ.out; have h2 : q < w.heap.size := h; omega) _).setCell (fun h => by have h1 := HQ.out; have h2 : q < w.heap.size := h; omega) _)
    have d0 : w5.cell? ⟨q, 0, none⟩ = some (.bool false) := hr5.cell rfl
    have d1 : w5.cell? ⟨q, 1, none⟩ = some (.int .i64 0) := hr5.cell rfl
    clear hr5 hw5
    rw [HG.out]
    exact bodyPost_ret (v := .tuple #[.agg #[.bool false, (.int .i64 0)], .int .i64 0, .int .i64 (E : Int)]) (by simp [results, Try.results31, go_sem, d0, d1]) rfl ⟨rfl, HF5.out⟩

end Go.Proofs.Ytmdobloncbljeaa
