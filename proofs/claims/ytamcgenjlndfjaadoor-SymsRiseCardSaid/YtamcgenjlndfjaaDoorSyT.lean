/-
  Contracts of layer 7's program: LengthOf, DistanceOf (written by gen_lenof.py).
-/
import Derived.Test.YtamcgenjlndfjaaDoorSyS
namespace Go.Proofs.YtamcgenjlndfjaaDoor
open Go.RowKit SyM LzM Mem Go.Lib
attribute [local go_sem ↓] Go.wp_at_zero Go.wp_at_succ
set_option linter.unusedVariables false

set_option maxRecDepth 100000 in
set_option maxHeartbeats 1600000 in
theorem lengthOf_any (s : Int) (w : World) (hG : Gl w) (hs : inI s) : Calls Tryd.prog 16 #[.int .i64 s] w fun e w' => e = .returned (trip (lenOfV s)) ∧ Fr (fun _ => False) w w' := by
  obtain ⟨h1, h2⟩ := hs
  by_cases hlo : s < 257
  · have ev : lenOfV s = (0, 0, false) := by unfold lenOfV; rw [if_neg (by omega)]
    rw [ev]
    clear ev hG
    unfold trip
    go_enter Tryd.func16, Tryd.ntmps16
    go_wp2_with fail
    exact bodyPost_ret (v := .tuple #[.int .i64 0, .int .i64 0, .bool false]) (by simp [results, Tryd.results16, go_sem]) rfl ⟨rfl, Fr.refl _ _⟩
  by_cases hhi : 286 ≤ s
  · have ev : lenOfV s = (0, 0, false) := by unfold lenOfV; rw [if_neg (by omega)]
    rw [ev]
    clear ev hG
    unfold trip
    go_enter Tryd.func16, Tryd.ntmps16
    go_wp2_with fail
    exact bodyPost_ret (v := .tuple #[.int .i64 0, .int .i64 0, .bool false]) (by simp [results, Tryd.results16, go_sem]) rfl ⟨rfl, Fr.refl _ _⟩
  obtain ⟨k, hk⟩ : ∃ k : Nat, (k : Int) = s - 257 := ⟨(s - 257).toNat, by omega⟩
  have hk29 : k < 29 := by omega
  obtain ⟨a, ha⟩ : ∃ a, a = least lens k := ⟨_, rfl⟩
  obtain ⟨b, hb⟩ : ∃ b, b = wid lens k := ⟨_, rfl⟩
  have ev : lenOfV s = (a, b, true) := by unfold lenOfV; rw [if_pos (by omega)]; rw [show (s - 257).toNat = k by omega, ← ha, ← hb]
  rw [ev]
  obtain ⟨e0, e1⟩ := hG.1 k hk29
  rw [← ha] at e0
  rw [← hb] at e1
  have hki : (k : Int) < 29 := by omega
  obtain ⟨z, hz⟩ : ∃ z : Nat, s = (z : Int) := ⟨s.toNat, by omega⟩
  subst hz
  have hzk : (z : Int) - 257 = (k : Int) := by omega
  have hz1 : decide ((z : Int) < 257) = false := decide_eq_false (by omega)
  have hz2 : decide (286 ≤ (z : Int)) = false := decide_eq_false (by omega)
  have hz3 : decide ((z : Int) ≥ 286) = false := decide_eq_false (by omega)
  have hzw : IntKind.i64.wrap ((z : Int) - 257) = (k : Int) := by rw [IntKind.wrap_i64]; omega
  have hzb : (z : Int) < 1000 := by omega

  clear ev hG ha hb hk29 hk h1 h2 hlo hhi
  unfold trip
  go_enter Tryd.func16, Tryd.ntmps16
  go_upto_region 3 with fail
  go_wp2_with fail
  obtain ⟨w1, hw1⟩ : ∃ w1, w1 = w.alloc (.cells #[Value.int .i64 (a : Int), .int .i64 (b : Int)] 55) := ⟨_, rfl⟩
  have hr1 : Row w1 w.heap.size 55 [Value.int .i64 (a : Int), .int .i64 (b : Int)] := by rw [hw1]; exact Row.new w _ _
  have hf1 : Fr (fun _ => False) w w1 := by rw [hw1]; exact (Fr.refl _ w).alloc _
  obtain ⟨p, hp⟩ : ∃ p, p = w.heap.size := ⟨_, rfl⟩
  rw [← hw1]
  rw [← hp] at hr1 ⊢
  have d0 : w1.cell? ⟨p, 0, none⟩ = some (.int .i64 (a : Int)) := hr1.cell rfl
  have d1 : w1.cell? ⟨p, 1, none⟩ = some (.int .i64 (b : Int)) := hr1.cell rfl
  have HF1 := Lib.hid hf1
  clear hw1 hr1 hf1 hp e0 e1
  go_still (by kernel_rfl)
  go_wp2_with fail
  exact bodyPost_ret (v := .tuple #[.int .i64 (a : Int), .int .i64 (b : Int), .bool true]) (by simp [results, Tryd.results16, go_sem]) rfl ⟨rfl, HF1.out.drew⟩

set_option maxRecDepth 100000 in
set_option maxHeartbeats 1600000 in
theorem distanceOf_any (s : Int) (w : World) (hG : Gl w) (hs : inI s) : Calls Tryd.prog 17 #[.int .i64 s] w fun e w' => e = .returned (trip (distOfV s)) ∧ Fr (fun _ => False) w w' := by
  obtain ⟨h1, h2⟩ := hs
  by_cases hlo : s < 0
  · have ev : distOfV s = (0, 0, false) := by unfold distOfV; rw [if_neg (by omega)]
    rw [ev]
    clear ev hG
    unfold trip
    go_enter Tryd.func17, Tryd.ntmps17
    go_wp2_with fail
    exact bodyPost_ret (v := .tuple #[.int .i64 0, .int .i64 0, .bool false]) (by simp [results, Tryd.results17, go_sem]) rfl ⟨rfl, Fr.refl _ _⟩
  by_cases hhi : 30 ≤ s
  · have ev : distOfV s = (0, 0, false) := by unfold distOfV; rw [if_neg (by omega)]
    rw [ev]
    clear ev hG
    unfold trip
    go_enter Tryd.func17, Tryd.ntmps17
    go_wp2_with fail
    exact bodyPost_ret (v := .tuple #[.int .i64 0, .int .i64 0, .bool false]) (by simp [results, Tryd.results17, go_sem]) rfl ⟨rfl, Fr.refl _ _⟩
  obtain ⟨k, hk⟩ : ∃ k : Nat, (k : Int) = s - 0 := ⟨(s - 0).toNat, by omega⟩
  have hk29 : k < 30 := by omega
  obtain ⟨a, ha⟩ : ∃ a, a = least dists k := ⟨_, rfl⟩
  obtain ⟨b, hb⟩ : ∃ b, b = wid dists k := ⟨_, rfl⟩
  have ev : distOfV s = (a, b, true) := by unfold distOfV; rw [if_pos (by omega)]; rw [show (s).toNat = k by omega, ← ha, ← hb]
  rw [ev]
  obtain ⟨e0, e1⟩ := hG.2 k hk29
  rw [← ha] at e0
  rw [← hb] at e1
  have hki : (k : Int) < 30 := by omega
  obtain rfl : s = (k : Int) := by omega
  have hz1 : decide ((k : Int) < 0) = false := decide_eq_false (by omega)
  have hz2 : decide (30 ≤ (k : Int)) = false := decide_eq_false (by omega)

  clear ev hG ha hb hk29 hk h1 h2 hlo hhi
  unfold trip
  go_enter Tryd.func17, Tryd.ntmps17
  go_upto_region 3 with fail
  go_wp2_with fail
  obtain ⟨w1, hw1⟩ : ∃ w1, w1 = w.alloc (.cells #[Value.int .i64 (a : Int), .int .i64 (b : Int)] 55) := ⟨_, rfl⟩
  have hr1 : Row w1 w.heap.size 55 [Value.int .i64 (a : Int), .int .i64 (b : Int)] := by rw [hw1]; exact Row.new w _ _
  have hf1 : Fr (fun _ => False) w w1 := by rw [hw1]; exact (Fr.refl _ w).alloc _
  obtain ⟨p, hp⟩ : ∃ p, p = w.heap.size := ⟨_, rfl⟩
  rw [← hw1]
  rw [← hp] at hr1 ⊢
  have d0 : w1.cell? ⟨p, 0, none⟩ = some (.int .i64 (a : Int)) := hr1.cell rfl
  have d1 : w1.cell? ⟨p, 1, none⟩ = some (.int .i64 (b : Int)) := hr1.cell rfl
  have HF1 := Lib.hid hf1
  clear hw1 hr1 hf1 hp e0 e1
  go_still (by kernel_rfl)
  go_wp2_with fail
  exact bodyPost_ret (v := .tuple #[.int .i64 (a : Int), .int .i64 (b : Int), .bool true]) (by simp [results, Tryd.results17, go_sem]) rfl ⟨rfl, HF1.out.drew⟩
end Go.Proofs.YtamcgenjlndfjaaDoor
