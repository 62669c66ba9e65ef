/-
  Layer 14, the reference: Put (written by gen_ref14.py).
-/
import Derived.Test.YtcoohjjjiakdjaaVaJ
import Derived.Test.YtcoohjjjiakdjaaLebB
namespace Go.Proofs.Ytcoohjjjiakdjaa
open Go.RowKit Mem Go.Lib VaM LebM UtfM
attribute [local go_sem ↓] Go.wp_at_zero Go.wp_at_succ
set_option linter.unusedVariables false


set_option maxRecDepth 100000 in
set_option maxHeartbeats 1600000 in
theorem rputO0_any (v : V) (w : World) (hv : v.ok) (h : cl v.k = 0) : Calls Try.prog 21 #[valc v] w (Tells w (putV v)) := by
  rw [show putV v = [] from by simp [putV, h]]
  obtain ⟨g, hg⟩ : ∃ g, w.heap.size = g := ⟨_, rfl⟩
  obtain ⟨w1, hw1⟩ : ∃ w1, w.alloc (.cells #[.int .i64 v.k, .int .u64 (v.u : Int), .int .i64 v.n, .string (txt v.s)] 46) = w1 := ⟨_, rfl⟩
  have hf1 : Fr (fun _ => False) w w1 := by rw [← hw1]; exact (Fr.refl _ _).alloc _
  have hr1 : RowV w1 g v := by rw [← hw1, ← hg]; exact RowV.new w v
  obtain ⟨j0, j1, j2, j3⟩ := hr1.cells
  obtain ⟨k, hk⟩ : ∃ k, v.k = k := ⟨_, rfl⟩
  unfold valc
  rw [hk] at h hw1 j0 ⊢
  have HF1 := Lib.hid hf1
  clear hf1 hr1 hk hv
  rcases cl0 h with rfl | rfl | rfl
  all_goals
    go_enter Try.func21, Try.ntmps21
    go_wp2_with fail
    go_ret
    exact ⟨none, 0, rfl, Nat.le_refl _, Rd.nil _ _, HF1.out⟩

set_option maxRecDepth 100000 in
set_option maxHeartbeats 1600000 in
theorem rputO1_any (v : V) (w : World) (hv : v.ok) (h : cl v.k = 1) : Calls Try.prog 21 #[valc v] w (Tells w (putV v)) := by
  rw [show putV v = u v.u from by simp [putV, h]]
  obtain ⟨g, hg⟩ : ∃ g, w.heap.size = g := ⟨_, rfl⟩
  obtain ⟨w1, hw1⟩ : ∃ w1, w.alloc (.cells #[.int .i64 v.k, .int .u64 (v.u : Int), .int .i64 v.n, .string (txt v.s)] 46) = w1 := ⟨_, rfl⟩
  have hf1 : Fr (fun _ => False) w w1 := by rw [← hw1]; exact (Fr.refl _ _).alloc _
  have hr1 : RowV w1 g v := by rw [← hw1, ← hg]; exact RowV.new w v
  obtain ⟨j0, j1, j2, j3⟩ := hr1.cells
  obtain ⟨k, hk⟩ : ∃ k, v.k = k := ⟨_, rfl⟩
  unfold valc
  rw [hk] at h hw1 j0 ⊢
  have HF1 := Lib.hid hf1
  have hc := rU_any v.u w1 hv.2.1
  have HC := Lib.hid hc
  clear hc
  clear hf1 hr1 hk hv
  obtain rfl := cl1 h
  all_goals
    go_enter Try.func21, Try.ntmps21
    go_wp2_with fail
    refine HC.out.mono ?_
    intro e w5 h5
    obtain ⟨A5, c5, rfl, ho5, hf5⟩ := h5
    have HO5 := Lib.hid ho5
    have HF5 := Lib.hid (HF1.out.trans hf5 (fun _ _ h => h))
    clear ho5 hf5
    go_wp2_with fail
    go_ret
    exact ⟨A5, c5, rfl, HO5.out.cap.1, HO5.out.rd, HF5.out⟩

set_option maxRecDepth 100000 in
set_option maxHeartbeats 1600000 in
theorem rputO2_any (v : V) (w : World) (hv : v.ok) (h : cl v.k = 2) : Calls Try.prog 21 #[valc v] w (Tells w (putV v)) := by
  rw [show putV v = s v.n from by simp [putV, h]]
  obtain ⟨g, hg⟩ : ∃ g, w.heap.size = g := ⟨_, rfl⟩
  obtain ⟨w1, hw1⟩ : ∃ w1, w.alloc (.cells #[.int .i64 v.k, .int .u64 (v.u : Int), .int .i64 v.n, .string (txt v.s)] 46) = w1 := ⟨_, rfl⟩
  have hf1 : Fr (fun _ => False) w w1 := by rw [← hw1]; exact (Fr.refl _ _).alloc _
  have hr1 : RowV w1 g v := by rw [← hw1, ← hg]; exact RowV.new w v
  obtain ⟨j0, j1, j2, j3⟩ := hr1.cells
  obtain ⟨k, hk⟩ : ∃ k, v.k = k := ⟨_, rfl⟩
  unfold valc
  rw [hk] at h hw1 j0 ⊢
  have HF1 := Lib.hid hf1
  have hc := rS_any v.n w1 hv.2.2.1 hv.2.2.2
  have HC := Lib.hid hc
  clear hc
  clear hf1 hr1 hk hv
  rcases cl2 h with rfl | rfl | rfl
  all_goals
    go_enter Try.func21, Try.ntmps21
    go_wp2_with fail
    refine HC.out.mono ?_
    intro e w5 h5
    obtain ⟨A5, c5, rfl, ho5, hf5⟩ := h5
    have HO5 := Lib.hid ho5
    have HF5 := Lib.hid (HF1.out.trans hf5 (fun _ _ h => h))
    clear ho5 hf5
    go_wp2_with fail
    go_ret
    exact ⟨A5, c5, rfl, HO5.out.cap.1, HO5.out.rd, HF5.out⟩

set_option maxRecDepth 100000 in
set_option maxHeartbeats 1600000 in
theorem rputO3_any (v : V) (w : World) (hv : v.ok) (h : cl v.k = 3) : Calls Try.prog 21 #[valc v] w (Tells w (putV v)) := by
  rw [show putV v = v.s from by simp [putV, h]]
  obtain ⟨g, hg⟩ : ∃ g, w.heap.size = g := ⟨_, rfl⟩
  obtain ⟨w1, hw1⟩ : ∃ w1, w.alloc (.cells #[.int .i64 v.k, .int .u64 (v.u : Int), .int .i64 v.n, .string (txt v.s)] 46) = w1 := ⟨_, rfl⟩
  have hf1 : Fr (fun _ => False) w w1 := by rw [← hw1]; exact (Fr.refl _ _).alloc _
  have hr1 : RowV w1 g v := by rw [← hw1, ← hg]; exact RowV.new w v
  obtain ⟨j0, j1, j2, j3⟩ := hr1.cells
  obtain ⟨k, hk⟩ : ∃ k, v.k = k := ⟨_, rfl⟩
  unfold valc
  rw [hk] at h hw1 j0 ⊢
  have HF1 := Lib.hid hf1
  obtain ⟨A2, c2, w2, hb2, hc2, hr2, hf2⟩ := run_bytes v.s w1
  have HF2 := Lib.hid (hf1.trans hf2 (fun _ _ h => h))
  have HR2 := Lib.hid hr2
  have HC2 := Lib.hid hc2
  clear hr2 hc2 hf2
  clear hf1 hr1 hk hv
  obtain rfl := cl3 h
  all_goals
    go_enter Try.func21, Try.ntmps21
    go_wp2_with fail
    go_ret
    exact ⟨A2, c2, rfl, HC2.out, HR2.out, HF2.out⟩

set_option maxRecDepth 100000 in
set_option maxHeartbeats 1600000 in
theorem rputO4_any (v : V) (w : World) (hv : v.ok) (h : cl v.k = 4) : Calls Try.prog 21 #[valc v] w (Tells w (putV v)) := by
  rw [show putV v = v.s from by simp [putV, h]]
  obtain ⟨g, hg⟩ : ∃ g, w.heap.size = g := ⟨_, rfl⟩
  obtain ⟨w1, hw1⟩ : ∃ w1, w.alloc (.cells #[.int .i64 v.k, .int .u64 (v.u : Int), .int .i64 v.n, .string (txt v.s)] 46) = w1 := ⟨_, rfl⟩
  have hf1 : Fr (fun _ => False) w w1 := by rw [← hw1]; exact (Fr.refl _ _).alloc _
  have hr1 : RowV w1 g v := by rw [← hw1, ← hg]; exact RowV.new w v
  obtain ⟨j0, j1, j2, j3⟩ := hr1.cells
  obtain ⟨k, hk⟩ : ∃ k, v.k = k := ⟨_, rfl⟩
  unfold valc
  rw [hk] at h hw1 j0 ⊢
  have HF1 := Lib.hid hf1
  obtain ⟨A2, c2, w2, hb2, hc2, hr2, hf2⟩ := run_bytes v.s w1
  have HF2 := Lib.hid (hf1.trans hf2 (fun _ _ h => h))
  have HR2 := Lib.hid hr2
  have HC2 := Lib.hid hc2
  clear hr2 hc2 hf2
  clear hf1 hr1 hk hv
  obtain rfl := cl4 h
  all_goals
    go_enter Try.func21, Try.ntmps21
    go_wp2_with fail
    go_ret
    exact ⟨A2, c2, rfl, HC2.out, HR2.out, HF2.out⟩

set_option maxRecDepth 100000 in
set_option maxHeartbeats 1600000 in
theorem rputO5_any (v : V) (w : World) (hv : v.ok) (h : cl v.k = 5) : Calls Try.prog 21 #[valc v] w (Tells w (putV v)) := by
  rw [show putV v = [] from by simp [putV, h]]
  obtain ⟨g, hg⟩ : ∃ g, w.heap.size = g := ⟨_, rfl⟩
  obtain ⟨w1, hw1⟩ : ∃ w1, w.alloc (.cells #[.int .i64 v.k, .int .u64 (v.u : Int), .int .i64 v.n, .string (txt v.s)] 46) = w1 := ⟨_, rfl⟩
  have hf1 : Fr (fun _ => False) w w1 := by rw [← hw1]; exact (Fr.refl _ _).alloc _
  have hr1 : RowV w1 g v := by rw [← hw1, ← hg]; exact RowV.new w v
  obtain ⟨j0, j1, j2, j3⟩ := hr1.cells
  obtain ⟨k, hk⟩ : ∃ k, v.k = k := ⟨_, rfl⟩
  unfold valc
  rw [hk] at h hw1 j0 ⊢
  have HF1 := Lib.hid hf1
  have h5 := cl5 h
  have t3 : (k == 3) = false := by simp; omega
  have t4 : (k == 4) = false := by simp; omega
  have t5 : (k == 5) = false := by simp; omega
  have t6 : (k == 6) = false := by simp; omega
  have t7 : (k == 7) = false := by simp; omega
  have t8 : (k == 8) = false := by simp; omega
  clear h5
  clear hf1 hr1 hk hv
  skip
  all_goals
    go_enter Try.func21, Try.ntmps21
    go_wp2_with fail
    go_ret
    exact ⟨none, 0, rfl, Nat.le_refl _, Rd.nil _ _, HF1.out⟩

theorem rvPut_any (v : V) (w : World) (hv : v.ok) : Calls Try.prog 21 #[valc v] w (Tells w (putV v)) := by
  have hc := cl_le v.k
  rcases (show cl v.k = 0 ∨ cl v.k = 1 ∨ cl v.k = 2 ∨ cl v.k = 3 ∨ cl v.k = 4 ∨ cl v.k = 5 by omega) with e | e | e | e | e | e
  · exact rputO0_any v w hv e
  · exact rputO1_any v w hv e
  · exact rputO2_any v w hv e
  · exact rputO3_any v w hv e
  · exact rputO4_any v w hv e
  · exact rputO5_any v w hv e
end Go.Proofs.Ytcoohjjjiakdjaa
