/-
  Layer 14, the reference: Right (written by gen_ref14.py).
-/
import Derived.Test.YtedmnkcoflbciaaGreatZm04
import Derived.Test.YtedmnkcoflbciaaGreatZm35
import Derived.Test.YtedmnkcoflbciaaGreatZm06
namespace Go.Proofs.YtedmnkcoflbciaaGreat
open Go.RowKit Mem Go.Lib VaM LebM UtfM
attribute [local go_sem ↓] Go.wp_at_zero Go.wp_at_succ
set_option linter.unusedVariables false


theorem right_num (v : V) (h : cl v.k = 1) : eqV v ⟨v.k, v.u, 0, []⟩ = rightV v := by unfold rightV; rw [h]; simp [eqV]
theorem right_sgn (v : V) (h : cl v.k = 2) : eqV v ⟨v.k, 0, v.n, []⟩ = rightV v := by unfold rightV; rw [h]; simp [eqV]
theorem right_bare (v : V) (h : cl v.k = 0) : eqV v ⟨v.k, 0, 0, []⟩ = rightV v := by unfold rightV; rw [h]; simp [eqV, Bool.and_assoc]
theorem right_text (v : V) (h : cl v.k = 3) : (decide (v.s.length ≤ 4000) && (decide (wh v.s = v.s.length) && eqV v ⟨v.k, 0, 0, v.s⟩)) = rightV v := by
  unfold rightV
  rw [h]
  simp only [eqV, decide_true, Bool.true_and, Bool.and_true]
  cases decide (v.u = 0) <;> cases decide (v.n = 0) <;> cases decide (v.s.length ≤ 4000) <;> cases decide (wh v.s = v.s.length) <;> rfl
theorem right_bytes (v : V) (h : cl v.k = 4) : (decide (v.s.length ≤ 4000) && eqV v ⟨v.k, 0, 0, v.s⟩) = rightV v := by
  unfold rightV
  rw [h]
  simp only [eqV, decide_true, Bool.true_and, Bool.and_true]
  cases decide (v.u = 0) <;> cases decide (v.n = 0) <;> cases decide (v.s.length ≤ 4000) <;> rfl

set_option maxRecDepth 100000 in
set_option maxHeartbeats 1600000 in
theorem rrightO0_any (v : V) (w : World) (hv : v.ok) (hb : v.s.length ≤ 1000000) (h : cl v.k = 0) : Calls Tryz.prog 44 #[valc v] w fun e w' => e = .returned (.bool (rightV v)) ∧ Fr (fun _ => False) w w' := by
  obtain ⟨r, hr⟩ : ∃ r, rightV v = r := ⟨_, rfl⟩
  rw [hr]
  obtain ⟨g, hg⟩ : ∃ g, w.heap.size = g := ⟨_, rfl⟩
  obtain ⟨w1, hw1⟩ : ∃ w1, w.alloc (.cells #[.int .i64 v.k, .int .u64 (v.u : Int), .int .i64 v.n, .string (txt v.s)] 52) = w1 := ⟨_, rfl⟩
  have hf1 : Fr (fun _ => False) w w1 := by rw [← hw1]; exact (Fr.refl _ _).alloc _
  have hr1 : RowV w1 g v := by rw [← hw1, ← hg]; exact RowV.new w v
  obtain ⟨j0, j1, j2, j3⟩ := hr1.cells
  obtain ⟨p, hp⟩ : ∃ p, w1.heap.size = p := ⟨_, rfl⟩
  obtain ⟨w2, hw2⟩ : ∃ w2, w1.alloc (.cells #[.int .i64 0, .int .u64 0, .int .i64 0, .string ⟨#[]⟩] 52) = w2 := ⟨_, rfl⟩
  have hf2 : Fr (fun _ => False) w1 w2 := by rw [← hw2]; exact (Fr.refl _ _).alloc _
  have hp2 : RowV w2 p zeroV := by rw [← hw2, ← hp]; exact RowV.new w1 zeroV
  have HR2 := Lib.hid (hr1.fr hf2 (fun h => h))
  have HP2 := Lib.hid hp2
  have HGP : Hid (g ≠ p ∧ w.heap.size ≤ p) := Lib.hid (by have h1 := hr1.lt; have h2 := hf1.size; omega)
  have HF2 := Lib.hid (hf1.trans hf2 (fun _ _ h => h))
  obtain ⟨k, hk⟩ : ∃ k, v.k = k := ⟨_, rfl⟩
  have hrr : eqV v ⟨v.k, 0, 0, []⟩ = r := by rw [right_bare v h, hr]
  have HRR := Lib.hid hrr
  unfold valc
  rw [hk] at h hw1 j0 ⊢
  have HK := Lib.hid hk
  clear hf1 hr1 hk hv hf2 hp2 hrr hr
  rcases cl0 h with rfl | rfl | rfl
  all_goals
    go_enter Tryz.func44, Tryz.ntmps44
    go_upto_region 2 with (refine store_st vSz rfl (.tmp 3) (.tmp 6) rfl p (by rfl) (vls ⟨_, 0, 0, []⟩) (by rfl) _ _ HP2.out rfl rfl (v_one _) ?_)
    intro w3 hr3 hf3
    clear hw1 hw2 hg hp j0 j1 j2 j3
    have hp3 : RowV w3 p ⟨_, 0, 0, []⟩ := hr3
    have hg3 : RowV w3 g v := HR2.out.fr hf3 HGP.out.1
    have HF3 := Lib.hid (HF2.out.trans hf3 (fun b hb h => by have := HGP.out.2; omega))
    obtain ⟨j0, j1, j2, j3⟩ := hg3.cells
    rw [HK.out] at j0
    obtain ⟨e0, e1, e2, e3⟩ := hp3.cells
    obtain ⟨q1, q2⟩ := v_eql v ⟨v.k, 0, 0, []⟩
    rw [HK.out] at q1 q2
    (try dsimp only at q1 q2)
    (try rw [show ((0 : Nat) : Int) = 0 from rfl] at q1 q2)
    obtain ⟨b, hb⟩ : ∃ b, eqV v ⟨v.k, 0, 0, []⟩ = b := ⟨_, rfl⟩
    have hb2 := hb
    rw [HK.out] at hb2
    rw [hb2] at q2
    rw [hb] at HRR
    clear hb hb2 hr3 hf3 hp3 hg3
    go_wp2_with fail
    go_ret
    exact ⟨by rw [← HRR.out]; rfl, HF3.out⟩

set_option maxRecDepth 100000 in
set_option maxHeartbeats 1600000 in
theorem rrightO1_any (v : V) (w : World) (hv : v.ok) (hb : v.s.length ≤ 1000000) (h : cl v.k = 1) : Calls Tryz.prog 44 #[valc v] w fun e w' => e = .returned (.bool (rightV v)) ∧ Fr (fun _ => False) w w' := by
  obtain ⟨r, hr⟩ : ∃ r, rightV v = r := ⟨_, rfl⟩
  rw [hr]
  obtain ⟨g, hg⟩ : ∃ g, w.heap.size = g := ⟨_, rfl⟩
  obtain ⟨w1, hw1⟩ : ∃ w1, w.alloc (.cells #[.int .i64 v.k, .int .u64 (v.u : Int), .int .i64 v.n, .string (txt v.s)] 52) = w1 := ⟨_, rfl⟩
  have hf1 : Fr (fun _ => False) w w1 := by rw [← hw1]; exact (Fr.refl _ _).alloc _
  have hr1 : RowV w1 g v := by rw [← hw1, ← hg]; exact RowV.new w v
  obtain ⟨j0, j1, j2, j3⟩ := hr1.cells
  obtain ⟨p, hp⟩ : ∃ p, w1.heap.size = p := ⟨_, rfl⟩
  obtain ⟨w2, hw2⟩ : ∃ w2, w1.alloc (.cells #[.int .i64 0, .int .u64 0, .int .i64 0, .string ⟨#[]⟩] 52) = w2 := ⟨_, rfl⟩
  have hf2 : Fr (fun _ => False) w1 w2 := by rw [← hw2]; exact (Fr.refl _ _).alloc _
  have hp2 : RowV w2 p zeroV := by rw [← hw2, ← hp]; exact RowV.new w1 zeroV
  have HR2 := Lib.hid (hr1.fr hf2 (fun h => h))
  have HP2 := Lib.hid hp2
  have HGP : Hid (g ≠ p ∧ w.heap.size ≤ p) := Lib.hid (by have h1 := hr1.lt; have h2 := hf1.size; omega)
  have HF2 := Lib.hid (hf1.trans hf2 (fun _ _ h => h))
  obtain ⟨k, hk⟩ : ∃ k, v.k = k := ⟨_, rfl⟩
  have hrr : eqV v ⟨v.k, v.u, 0, []⟩ = r := by rw [right_num v h, hr]
  have HRR := Lib.hid hrr
  unfold valc
  rw [hk] at h hw1 j0 ⊢
  have HK := Lib.hid hk
  clear hf1 hr1 hk hv hf2 hp2 hrr hr
  obtain rfl := cl1 h
  all_goals
    go_enter Tryz.func44, Tryz.ntmps44
    go_upto_region 2 with (refine store_st vSz rfl (.tmp 3) (.tmp 6) rfl p (by rfl) (vls ⟨_, 0, 0, []⟩) (by rfl) _ _ HP2.out rfl rfl (v_one _) ?_)
    intro w3 hr3 hf3
    clear hw1 hw2 hg hp j0 j1 j2 j3
    have hp3 : RowV w3 p ⟨_, 0, 0, []⟩ := hr3
    have hg3 : RowV w3 g v := HR2.out.fr hf3 HGP.out.1
    have HF3 := Lib.hid (HF2.out.trans hf3 (fun b hb h => by have := HGP.out.2; omega))
    obtain ⟨j0, j1, j2, j3⟩ := hg3.cells
    rw [HK.out] at j0
    have f1 : w3.frozen? ⟨p, 1, none⟩ = false := Row.free hr3 1
    have i0 : w3.cell? ⟨p, 1, none⟩ = some (.int .u64 0) := Row.cell hr3 rfl
    obtain ⟨w4, hw4⟩ : ∃ w4, w3.setCell ⟨p, 1, none⟩ (.int .u64 (v.u : Int)) = w4 := ⟨_, rfl⟩
    have h4 := Row.set hr3 1 (.int .u64 (v.u : Int))
    rw [hw4] at h4
    have hp4 : RowV w4 p (⟨v.k, v.u, 0, []⟩) := by rw [HK.out]; exact h4
    have hf4 : Fr (fun b => b = p) w3 w4 := by rw [← hw4]; exact Fr.set1 _ _ _ _
    have hg4 := hg3.fr hf4 HGP.out.1
    have HF4 := Lib.hid (HF3.out.trans hf4 (fun b hb h => by have := HGP.out.2; omega))
    obtain ⟨e0, e1, e2, e3⟩ := hp4.cells
    (try dsimp only at e0 e1 e2 e3)
    rw [HK.out] at e0
    (try rw [show ((0 : Nat) : Int) = 0 from rfl] at e1)
    obtain ⟨z0, z1, z2, z3⟩ := hg4.cells
    rw [HK.out] at z0
    obtain ⟨q1, q2⟩ := v_eql v (⟨v.k, v.u, 0, []⟩)
    obtain ⟨b, hb⟩ : ∃ b, eqV v (⟨v.k, v.u, 0, []⟩) = b := ⟨_, rfl⟩
    rw [hb] at q2
    (try dsimp only at q1 q2)
    rw [HK.out] at q1 q2
    (try dsimp only at q1 q2)
    (try rw [show ((0 : Nat) : Int) = 0 from rfl] at q1 q2)
    have HB := Lib.hid hb
    clear hb hr3 hf3 hp3 hg3 h4 hp4 hf4 hg4
    go_wp2_with fail
    go_ret
    exact ⟨by rw [← HRR.out, HB.out]; rfl, HF4.out⟩

set_option maxRecDepth 100000 in
set_option maxHeartbeats 1600000 in
theorem rrightO2_any (v : V) (w : World) (hv : v.ok) (hb : v.s.length ≤ 1000000) (h : cl v.k = 2) : Calls Tryz.prog 44 #[valc v] w fun e w' => e = .returned (.bool (rightV v)) ∧ Fr (fun _ => False) w w' := by
  obtain ⟨r, hr⟩ : ∃ r, rightV v = r := ⟨_, rfl⟩
  rw [hr]
  obtain ⟨g, hg⟩ : ∃ g, w.heap.size = g := ⟨_, rfl⟩
  obtain ⟨w1, hw1⟩ : ∃ w1, w.alloc (.cells #[.int .i64 v.k, .int .u64 (v.u : Int), .int .i64 v.n, .string (txt v.s)] 52) = w1 := ⟨_, rfl⟩
  have hf1 : Fr (fun _ => False) w w1 := by rw [← hw1]; exact (Fr.refl _ _).alloc _
  have hr1 : RowV w1 g v := by rw [← hw1, ← hg]; exact RowV.new w v
  obtain ⟨j0, j1, j2, j3⟩ := hr1.cells
  obtain ⟨p, hp⟩ : ∃ p, w1.heap.size = p := ⟨_, rfl⟩
  obtain ⟨w2, hw2⟩ : ∃ w2, w1.alloc (.cells #[.int .i64 0, .int .u64 0, .int .i64 0, .string ⟨#[]⟩] 52) = w2 := ⟨_, rfl⟩
  have hf2 : Fr (fun _ => False) w1 w2 := by rw [← hw2]; exact (Fr.refl _ _).alloc _
  have hp2 : RowV w2 p zeroV := by rw [← hw2, ← hp]; exact RowV.new w1 zeroV
  have HR2 := Lib.hid (hr1.fr hf2 (fun h => h))
  have HP2 := Lib.hid hp2
  have HGP : Hid (g ≠ p ∧ w.heap.size ≤ p) := Lib.hid (by have h1 := hr1.lt; have h2 := hf1.size; omega)
  have HF2 := Lib.hid (hf1.trans hf2 (fun _ _ h => h))
  obtain ⟨k, hk⟩ : ∃ k, v.k = k := ⟨_, rfl⟩
  have hrr : eqV v ⟨v.k, 0, v.n, []⟩ = r := by rw [right_sgn v h, hr]
  have HRR := Lib.hid hrr
  unfold valc
  rw [hk] at h hw1 j0 ⊢
  have HK := Lib.hid hk
  clear hf1 hr1 hk hv hf2 hp2 hrr hr
  rcases cl2 h with rfl | rfl | rfl
  all_goals
    go_enter Tryz.func44, Tryz.ntmps44
    go_upto_region 2 with (refine store_st vSz rfl (.tmp 3) (.tmp 6) rfl p (by rfl) (vls ⟨_, 0, 0, []⟩) (by rfl) _ _ HP2.out rfl rfl (v_one _) ?_)
    intro w3 hr3 hf3
    clear hw1 hw2 hg hp j0 j1 j2 j3
    have hp3 : RowV w3 p ⟨_, 0, 0, []⟩ := hr3
    have hg3 : RowV w3 g v := HR2.out.fr hf3 HGP.out.1
    have HF3 := Lib.hid (HF2.out.trans hf3 (fun b hb h => by have := HGP.out.2; omega))
    obtain ⟨j0, j1, j2, j3⟩ := hg3.cells
    rw [HK.out] at j0
    have f1 : w3.frozen? ⟨p, 2, none⟩ = false := Row.free hr3 2
    have i0 : w3.cell? ⟨p, 2, none⟩ = some (.int .i64 0) := Row.cell hr3 rfl
    obtain ⟨w4, hw4⟩ : ∃ w4, w3.setCell ⟨p, 2, none⟩ (.int .i64 v.n) = w4 := ⟨_, rfl⟩
    have h4 := Row.set hr3 2 (.int .i64 v.n)
    rw [hw4] at h4
    have hp4 : RowV w4 p (⟨v.k, 0, v.n, []⟩) := by rw [HK.out]; exact h4
    have hf4 : Fr (fun b => b = p) w3 w4 := by rw [← hw4]; exact Fr.set1 _ _ _ _
    have hg4 := hg3.fr hf4 HGP.out.1
    have HF4 := Lib.hid (HF3.out.trans hf4 (fun b hb h => by have := HGP.out.2; omega))
    obtain ⟨e0, e1, e2, e3⟩ := hp4.cells
    (try dsimp only at e0 e1 e2 e3)
    rw [HK.out] at e0
    (try rw [show ((0 : Nat) : Int) = 0 from rfl] at e1)
    obtain ⟨z0, z1, z2, z3⟩ := hg4.cells
    rw [HK.out] at z0
    obtain ⟨q1, q2⟩ := v_eql v (⟨v.k, 0, v.n, []⟩)
    obtain ⟨b, hb⟩ : ∃ b, eqV v (⟨v.k, 0, v.n, []⟩) = b := ⟨_, rfl⟩
    rw [hb] at q2
    (try dsimp only at q1 q2)
    rw [HK.out] at q1 q2
    (try dsimp only at q1 q2)
    (try rw [show ((0 : Nat) : Int) = 0 from rfl] at q1 q2)
    have HB := Lib.hid hb
    clear hb hr3 hf3 hp3 hg3 h4 hp4 hf4 hg4
    go_wp2_with fail
    go_ret
    exact ⟨by rw [← HRR.out, HB.out]; rfl, HF4.out⟩

set_option maxRecDepth 100000 in
set_option maxHeartbeats 1600000 in
theorem rrightO3b_any (v : V) (w : World) (hv : v.ok) (hb : v.s.length ≤ 1000000) (h : cl v.k = 3) (hbig : 4000 < v.s.length) : Calls Tryz.prog 44 #[valc v] w fun e w' => e = .returned (.bool (rightV v)) ∧ Fr (fun _ => False) w w' := by
  obtain ⟨r, hr⟩ : ∃ r, rightV v = r := ⟨_, rfl⟩
  rw [hr]
  obtain ⟨g, hg⟩ : ∃ g, w.heap.size = g := ⟨_, rfl⟩
  obtain ⟨w1, hw1⟩ : ∃ w1, w.alloc (.cells #[.int .i64 v.k, .int .u64 (v.u : Int), .int .i64 v.n, .string (txt v.s)] 52) = w1 := ⟨_, rfl⟩
  have hf1 : Fr (fun _ => False) w w1 := by rw [← hw1]; exact (Fr.refl _ _).alloc _
  have hr1 : RowV w1 g v := by rw [← hw1, ← hg]; exact RowV.new w v
  obtain ⟨j0, j1, j2, j3⟩ := hr1.cells
  obtain ⟨p, hp⟩ : ∃ p, w1.heap.size = p := ⟨_, rfl⟩
  obtain ⟨w2, hw2⟩ : ∃ w2, w1.alloc (.cells #[.int .i64 0, .int .u64 0, .int .i64 0, .string ⟨#[]⟩] 52) = w2 := ⟨_, rfl⟩
  have hf2 : Fr (fun _ => False) w1 w2 := by rw [← hw2]; exact (Fr.refl _ _).alloc _
  have hp2 : RowV w2 p zeroV := by rw [← hw2, ← hp]; exact RowV.new w1 zeroV
  have HR2 := Lib.hid (hr1.fr hf2 (fun h => h))
  have HP2 := Lib.hid hp2
  have HGP : Hid (g ≠ p ∧ w.heap.size ≤ p) := Lib.hid (by have h1 := hr1.lt; have h2 := hf1.size; omega)
  have HF2 := Lib.hid (hf1.trans hf2 (fun _ _ h => h))
  obtain ⟨k, hk⟩ : ∃ k, v.k = k := ⟨_, rfl⟩
  have hrr := right_text v h
  rw [hr] at hrr
  obtain ⟨l, hl⟩ : ∃ l, l = v.s.length := ⟨_, rfl⟩
  have hsz : (txt v.s).size = l := by rw [txt_sz, hl]
  rw [← hl] at hrr hb
  rw [← hl] at hbig
  rw [show decide (l ≤ 4000) = false from by simp; omega, Bool.false_and] at hrr
  have HRB := Lib.hid hrr
  have HRR := Lib.hid hrr
  have t : decide ((4000 : Int) < (l : Int)) = true := by simp; omega
  have t2 : decide (4000 < l) = true := by simp; omega
  clear hl
  unfold valc
  rw [hk] at h hw1 j0 ⊢
  have HK := Lib.hid hk
  clear hf1 hr1 hk hv hf2 hp2 hrr hr
  obtain rfl := cl3 h
  all_goals
    go_enter Tryz.func44, Tryz.ntmps44
    go_upto_region 2 with (refine store_st vSz rfl (.tmp 3) (.tmp 6) rfl p (by rfl) (vls ⟨_, 0, 0, []⟩) (by rfl) _ _ HP2.out rfl rfl (v_one _) ?_)
    intro w3 hr3 hf3
    clear hw1 hw2 hg hp j0 j1 j2 j3
    have hp3 : RowV w3 p ⟨_, 0, 0, []⟩ := hr3
    have hg3 : RowV w3 g v := HR2.out.fr hf3 HGP.out.1
    have HF3 := Lib.hid (HF2.out.trans hf3 (fun b hb h => by have := HGP.out.2; omega))
    obtain ⟨j0, j1, j2, j3⟩ := hg3.cells
    rw [HK.out] at j0
    have f1 : w3.frozen? ⟨p, 3, none⟩ = false := Row.free hr3 3
    have i0 : w3.cell? ⟨p, 3, none⟩ = some (.string ⟨#[]⟩) := Row.cell hr3 rfl
    obtain ⟨w4, hw4⟩ : ∃ w4, w3.setCell ⟨p, 3, none⟩ (.string (txt v.s)) = w4 := ⟨_, rfl⟩
    have h4 := Row.set hr3 3 (.string (txt v.s))
    rw [hw4] at h4
    have hp4 : RowV w4 p (⟨v.k, 0, 0, v.s⟩) := by rw [HK.out]; exact h4
    have hf4 : Fr (fun b => b = p) w3 w4 := by rw [← hw4]; exact Fr.set1 _ _ _ _
    have hg4 := hg3.fr hf4 HGP.out.1
    have HF4 := Lib.hid (HF3.out.trans hf4 (fun b hb h => by have := HGP.out.2; omega))
    obtain ⟨e0, e1, e2, e3⟩ := hp4.cells
    (try dsimp only at e0 e1 e2 e3)
    rw [HK.out] at e0
    (try rw [show ((0 : Nat) : Int) = 0 from rfl] at e1)
    obtain ⟨z0, z1, z2, z3⟩ := hg4.cells
    rw [HK.out] at z0
    obtain ⟨q1, q2⟩ := v_eql v (⟨v.k, 0, 0, v.s⟩)
    obtain ⟨b, hb⟩ : ∃ b, eqV v (⟨v.k, 0, 0, v.s⟩) = b := ⟨_, rfl⟩
    rw [hb] at q2
    (try dsimp only at q1 q2)
    rw [HK.out] at q1 q2
    (try dsimp only at q1 q2)
    (try rw [show ((0 : Nat) : Int) = 0 from rfl] at q1 q2)
    have HB := Lib.hid hb
    clear hb hr3 hf3 hp3 hg3 h4 hp4 hf4 hg4
    go_upto_region 17 with fail
    clear hw4 f1 i0
    go_quiet (fail)
    go_wp2_with fail
    go_ret
    exact ⟨by rw [← HRR.out]; rfl, HF4.out.drewN _⟩

set_option maxRecDepth 100000 in
set_option maxHeartbeats 1600000 in
theorem rrightO4b_any (v : V) (w : World) (hv : v.ok) (hb : v.s.length ≤ 1000000) (h : cl v.k = 4) (hbig : 4000 < v.s.length) : Calls Tryz.prog 44 #[valc v] w fun e w' => e = .returned (.bool (rightV v)) ∧ Fr (fun _ => False) w w' := by
  obtain ⟨r, hr⟩ : ∃ r, rightV v = r := ⟨_, rfl⟩
  rw [hr]
  obtain ⟨g, hg⟩ : ∃ g, w.heap.size = g := ⟨_, rfl⟩
  obtain ⟨w1, hw1⟩ : ∃ w1, w.alloc (.cells #[.int .i64 v.k, .int .u64 (v.u : Int), .int .i64 v.n, .string (txt v.s)] 52) = w1 := ⟨_, rfl⟩
  have hf1 : Fr (fun _ => False) w w1 := by rw [← hw1]; exact (Fr.refl _ _).alloc _
  have hr1 : RowV w1 g v := by rw [← hw1, ← hg]; exact RowV.new w v
  obtain ⟨j0, j1, j2, j3⟩ := hr1.cells
  obtain ⟨p, hp⟩ : ∃ p, w1.heap.size = p := ⟨_, rfl⟩
  obtain ⟨w2, hw2⟩ : ∃ w2, w1.alloc (.cells #[.int .i64 0, .int .u64 0, .int .i64 0, .string ⟨#[]⟩] 52) = w2 := ⟨_, rfl⟩
  have hf2 : Fr (fun _ => False) w1 w2 := by rw [← hw2]; exact (Fr.refl _ _).alloc _
  have hp2 : RowV w2 p zeroV := by rw [← hw2, ← hp]; exact RowV.new w1 zeroV
  have HR2 := Lib.hid (hr1.fr hf2 (fun h => h))
  have HP2 := Lib.hid hp2
  have HGP : Hid (g ≠ p ∧ w.heap.size ≤ p) := Lib.hid (by have h1 := hr1.lt; have h2 := hf1.size; omega)
  have HF2 := Lib.hid (hf1.trans hf2 (fun _ _ h => h))
  obtain ⟨k, hk⟩ : ∃ k, v.k = k := ⟨_, rfl⟩
  have hrr := right_bytes v h
  rw [hr] at hrr
  obtain ⟨l, hl⟩ : ∃ l, l = v.s.length := ⟨_, rfl⟩
  have hsz : (txt v.s).size = l := by rw [txt_sz, hl]
  rw [← hl] at hrr hb
  rw [← hl] at hbig
  rw [show decide (l ≤ 4000) = false from by simp; omega, Bool.false_and] at hrr
  have HRB := Lib.hid hrr
  have HRR := Lib.hid hrr
  have t : decide ((4000 : Int) < (l : Int)) = true := by simp; omega
  have t2 : decide (4000 < l) = true := by simp; omega
  clear hl
  unfold valc
  rw [hk] at h hw1 j0 ⊢
  have HK := Lib.hid hk
  clear hf1 hr1 hk hv hf2 hp2 hrr hr
  obtain rfl := cl4 h
  all_goals
    go_enter Tryz.func44, Tryz.ntmps44
    go_upto_region 2 with (refine store_st vSz rfl (.tmp 3) (.tmp 6) rfl p (by rfl) (vls ⟨_, 0, 0, []⟩) (by rfl) _ _ HP2.out rfl rfl (v_one _) ?_)
    intro w3 hr3 hf3
    clear hw1 hw2 hg hp j0 j1 j2 j3
    have hp3 : RowV w3 p ⟨_, 0, 0, []⟩ := hr3
    have hg3 : RowV w3 g v := HR2.out.fr hf3 HGP.out.1
    have HF3 := Lib.hid (HF2.out.trans hf3 (fun b hb h => by have := HGP.out.2; omega))
    obtain ⟨j0, j1, j2, j3⟩ := hg3.cells
    rw [HK.out] at j0
    have f1 : w3.frozen? ⟨p, 3, none⟩ = false := Row.free hr3 3
    have i0 : w3.cell? ⟨p, 3, none⟩ = some (.string ⟨#[]⟩) := Row.cell hr3 rfl
    obtain ⟨w4, hw4⟩ : ∃ w4, w3.setCell ⟨p, 3, none⟩ (.string (txt v.s)) = w4 := ⟨_, rfl⟩
    have h4 := Row.set hr3 3 (.string (txt v.s))
    rw [hw4] at h4
    have hp4 : RowV w4 p (⟨v.k, 0, 0, v.s⟩) := by rw [HK.out]; exact h4
    have hf4 : Fr (fun b => b = p) w3 w4 := by rw [← hw4]; exact Fr.set1 _ _ _ _
    have hg4 := hg3.fr hf4 HGP.out.1
    have HF4 := Lib.hid (HF3.out.trans hf4 (fun b hb h => by have := HGP.out.2; omega))
    obtain ⟨e0, e1, e2, e3⟩ := hp4.cells
    (try dsimp only at e0 e1 e2 e3)
    rw [HK.out] at e0
    (try rw [show ((0 : Nat) : Int) = 0 from rfl] at e1)
    obtain ⟨z0, z1, z2, z3⟩ := hg4.cells
    rw [HK.out] at z0
    obtain ⟨q1, q2⟩ := v_eql v (⟨v.k, 0, 0, v.s⟩)
    obtain ⟨b, hb⟩ : ∃ b, eqV v (⟨v.k, 0, 0, v.s⟩) = b := ⟨_, rfl⟩
    rw [hb] at q2
    (try dsimp only at q1 q2)
    rw [HK.out] at q1 q2
    (try dsimp only at q1 q2)
    (try rw [show ((0 : Nat) : Int) = 0 from rfl] at q1 q2)
    have HB := Lib.hid hb
    clear hb hr3 hf3 hp3 hg3 h4 hp4 hf4 hg4
    go_upto_region 17 with fail
    clear hw4 f1 i0
    go_quiet (fail)
    go_wp2_with fail
    go_ret
    exact ⟨by rw [← HRR.out]; rfl, HF4.out.drewN _⟩

set_option maxRecDepth 100000 in
set_option maxHeartbeats 1600000 in
theorem rrightO4s_any (v : V) (w : World) (hv : v.ok) (hb : v.s.length ≤ 1000000) (h : cl v.k = 4) (hbig : ¬ 4000 < v.s.length) : Calls Tryz.prog 44 #[valc v] w fun e w' => e = .returned (.bool (rightV v)) ∧ Fr (fun _ => False) w w' := by
  obtain ⟨r, hr⟩ : ∃ r, rightV v = r := ⟨_, rfl⟩
  rw [hr]
  obtain ⟨g, hg⟩ : ∃ g, w.heap.size = g := ⟨_, rfl⟩
  obtain ⟨w1, hw1⟩ : ∃ w1, w.alloc (.cells #[.int .i64 v.k, .int .u64 (v.u : Int), .int .i64 v.n, .string (txt v.s)] 52) = w1 := ⟨_, rfl⟩
  have hf1 : Fr (fun _ => False) w w1 := by rw [← hw1]; exact (Fr.refl _ _).alloc _
  have hr1 : RowV w1 g v := by rw [← hw1, ← hg]; exact RowV.new w v
  obtain ⟨j0, j1, j2, j3⟩ := hr1.cells
  obtain ⟨p, hp⟩ : ∃ p, w1.heap.size = p := ⟨_, rfl⟩
  obtain ⟨w2, hw2⟩ : ∃ w2, w1.alloc (.cells #[.int .i64 0, .int .u64 0, .int .i64 0, .string ⟨#[]⟩] 52) = w2 := ⟨_, rfl⟩
  have hf2 : Fr (fun _ => False) w1 w2 := by rw [← hw2]; exact (Fr.refl _ _).alloc _
  have hp2 : RowV w2 p zeroV := by rw [← hw2, ← hp]; exact RowV.new w1 zeroV
  have HR2 := Lib.hid (hr1.fr hf2 (fun h => h))
  have HP2 := Lib.hid hp2
  have HGP : Hid (g ≠ p ∧ w.heap.size ≤ p) := Lib.hid (by have h1 := hr1.lt; have h2 := hf1.size; omega)
  have HF2 := Lib.hid (hf1.trans hf2 (fun _ _ h => h))
  obtain ⟨k, hk⟩ : ∃ k, v.k = k := ⟨_, rfl⟩
  have hrr := right_bytes v h
  rw [hr] at hrr
  obtain ⟨l, hl⟩ : ∃ l, l = v.s.length := ⟨_, rfl⟩
  have hsz : (txt v.s).size = l := by rw [txt_sz, hl]
  rw [← hl] at hrr hb
  rw [← hl] at hbig
  rw [show decide (l ≤ 4000) = true from by simp; omega, Bool.true_and] at hrr
  have HRR := Lib.hid hrr
  have t : decide ((4000 : Int) < (l : Int)) = false := by simp; omega
  have t2 : decide (4000 < l) = false := by simp; omega
  clear hl
  unfold valc
  rw [hk] at h hw1 j0 ⊢
  have HK := Lib.hid hk
  clear hf1 hr1 hk hv hf2 hp2 hrr hr
  obtain rfl := cl4 h
  all_goals
    go_enter Tryz.func44, Tryz.ntmps44
    go_upto_region 2 with (refine store_st vSz rfl (.tmp 3) (.tmp 6) rfl p (by rfl) (vls ⟨_, 0, 0, []⟩) (by rfl) _ _ HP2.out rfl rfl (v_one _) ?_)
    intro w3 hr3 hf3
    clear hw1 hw2 hg hp j0 j1 j2 j3
    have hp3 : RowV w3 p ⟨_, 0, 0, []⟩ := hr3
    have hg3 : RowV w3 g v := HR2.out.fr hf3 HGP.out.1
    have HF3 := Lib.hid (HF2.out.trans hf3 (fun b hb h => by have := HGP.out.2; omega))
    obtain ⟨j0, j1, j2, j3⟩ := hg3.cells
    rw [HK.out] at j0
    have f1 : w3.frozen? ⟨p, 3, none⟩ = false := Row.free hr3 3
    have i0 : w3.cell? ⟨p, 3, none⟩ = some (.string ⟨#[]⟩) := Row.cell hr3 rfl
    obtain ⟨w4, hw4⟩ : ∃ w4, w3.setCell ⟨p, 3, none⟩ (.string (txt v.s)) = w4 := ⟨_, rfl⟩
    have h4 := Row.set hr3 3 (.string (txt v.s))
    rw [hw4] at h4
    have hp4 : RowV w4 p (⟨v.k, 0, 0, v.s⟩) := by rw [HK.out]; exact h4
    have hf4 : Fr (fun b => b = p) w3 w4 := by rw [← hw4]; exact Fr.set1 _ _ _ _
    have hg4 := hg3.fr hf4 HGP.out.1
    have HF4 := Lib.hid (HF3.out.trans hf4 (fun b hb h => by have := HGP.out.2; omega))
    obtain ⟨e0, e1, e2, e3⟩ := hp4.cells
    (try dsimp only at e0 e1 e2 e3)
    rw [HK.out] at e0
    (try rw [show ((0 : Nat) : Int) = 0 from rfl] at e1)
    obtain ⟨z0, z1, z2, z3⟩ := hg4.cells
    rw [HK.out] at z0
    obtain ⟨q1, q2⟩ := v_eql v (⟨v.k, 0, 0, v.s⟩)
    obtain ⟨b, hb⟩ : ∃ b, eqV v (⟨v.k, 0, 0, v.s⟩) = b := ⟨_, rfl⟩
    rw [hb] at q2
    (try dsimp only at q1 q2)
    rw [HK.out] at q1 q2
    (try dsimp only at q1 q2)
    (try rw [show ((0 : Nat) : Int) = 0 from rfl] at q1 q2)
    have HB := Lib.hid hb
    clear hb hr3 hf3 hp3 hg3 h4 hp4 hf4 hg4
    go_upto_region 17 with fail
    clear hw4 f1 i0
    go_quiet (fail)
    go_wp2_with fail
    go_ret
    exact ⟨by rw [← HRR.out, HB.out]; rfl, HF4.out.drewN _⟩

set_option maxRecDepth 100000 in
set_option maxHeartbeats 1600000 in
theorem rrightO3n_any (v : V) (w : World) (hv : v.ok) (hb : v.s.length ≤ 1000000) (h : cl v.k = 3) (hbig : ¬ 4000 < v.s.length) (hw0 : ¬ wh v.s = v.s.length) : Calls Tryz.prog 44 #[valc v] w fun e w' => e = .returned (.bool (rightV v)) ∧ Fr (fun _ => False) w w' := by
  obtain ⟨r, hr⟩ : ∃ r, rightV v = r := ⟨_, rfl⟩
  rw [hr]
  obtain ⟨g, hg⟩ : ∃ g, w.heap.size = g := ⟨_, rfl⟩
  obtain ⟨w1, hw1⟩ : ∃ w1, w.alloc (.cells #[.int .i64 v.k, .int .u64 (v.u : Int), .int .i64 v.n, .string (txt v.s)] 52) = w1 := ⟨_, rfl⟩
  have hf1 : Fr (fun _ => False) w w1 := by rw [← hw1]; exact (Fr.refl _ _).alloc _
  have hr1 : RowV w1 g v := by rw [← hw1, ← hg]; exact RowV.new w v
  obtain ⟨j0, j1, j2, j3⟩ := hr1.cells
  obtain ⟨p, hp⟩ : ∃ p, w1.heap.size = p := ⟨_, rfl⟩
  obtain ⟨w2, hw2⟩ : ∃ w2, w1.alloc (.cells #[.int .i64 0, .int .u64 0, .int .i64 0, .string ⟨#[]⟩] 52) = w2 := ⟨_, rfl⟩
  have hf2 : Fr (fun _ => False) w1 w2 := by rw [← hw2]; exact (Fr.refl _ _).alloc _
  have hp2 : RowV w2 p zeroV := by rw [← hw2, ← hp]; exact RowV.new w1 zeroV
  have HR2 := Lib.hid (hr1.fr hf2 (fun h => h))
  have HP2 := Lib.hid hp2
  have HGP : Hid (g ≠ p ∧ w.heap.size ≤ p) := Lib.hid (by have h1 := hr1.lt; have h2 := hf1.size; omega)
  have HF2 := Lib.hid (hf1.trans hf2 (fun _ _ h => h))
  obtain ⟨k, hk⟩ : ∃ k, v.k = k := ⟨_, rfl⟩
  have hrr := right_text v h
  rw [hr] at hrr
  obtain ⟨l, hl⟩ : ∃ l, l = v.s.length := ⟨_, rfl⟩
  have hsz : (txt v.s).size = l := by rw [txt_sz, hl]
  rw [← hl] at hrr hb
  obtain ⟨m, hm⟩ : ∃ m, m = wh v.s := ⟨_, rfl⟩
  have hwh := fun w => rWhere_any v.s w (by omega)
  rw [← hm] at hwh hrr hw0
  rw [← hl] at hw0
  have HWH := Lib.hid hwh
  rw [← hl] at hbig
  rw [show decide (l ≤ 4000) = true from by simp; omega, Bool.true_and] at hrr
  rw [show decide (m = l) = false from by simp; omega, Bool.false_and] at hrr
  have HRB := Lib.hid hrr
  have HRR := Lib.hid hrr
  have t : decide ((4000 : Int) < (l : Int)) = false := by simp; omega
  have t2 : decide (4000 < l) = false := by simp; omega
  have t3 : ((m : Int) != (l : Int)) = true := by simp; omega
  clear hl hm hwh
  unfold valc
  rw [hk] at h hw1 j0 ⊢
  have HK := Lib.hid hk
  clear hf1 hr1 hk hv hf2 hp2 hrr hr
  obtain rfl := cl3 h
  all_goals
    go_enter Tryz.func44, Tryz.ntmps44
    go_upto_region 2 with (refine store_st vSz rfl (.tmp 3) (.tmp 6) rfl p (by rfl) (vls ⟨_, 0, 0, []⟩) (by rfl) _ _ HP2.out rfl rfl (v_one _) ?_)
    intro w3 hr3 hf3
    clear hw1 hw2 hg hp j0 j1 j2 j3
    have hp3 : RowV w3 p ⟨_, 0, 0, []⟩ := hr3
    have hg3 : RowV w3 g v := HR2.out.fr hf3 HGP.out.1
    have HF3 := Lib.hid (HF2.out.trans hf3 (fun b hb h => by have := HGP.out.2; omega))
    obtain ⟨j0, j1, j2, j3⟩ := hg3.cells
    rw [HK.out] at j0
    have f1 : w3.frozen? ⟨p, 3, none⟩ = false := Row.free hr3 3
    have i0 : w3.cell? ⟨p, 3, none⟩ = some (.string ⟨#[]⟩) := Row.cell hr3 rfl
    obtain ⟨w4, hw4⟩ : ∃ w4, w3.setCell ⟨p, 3, none⟩ (.string (txt v.s)) = w4 := ⟨_, rfl⟩
    have h4 := Row.set hr3 3 (.string (txt v.s))
    rw [hw4] at h4
    have hp4 : RowV w4 p (⟨v.k, 0, 0, v.s⟩) := by rw [HK.out]; exact h4
    have hf4 : Fr (fun b => b = p) w3 w4 := by rw [← hw4]; exact Fr.set1 _ _ _ _
    have hg4 := hg3.fr hf4 HGP.out.1
    have HF4 := Lib.hid (HF3.out.trans hf4 (fun b hb h => by have := HGP.out.2; omega))
    obtain ⟨e0, e1, e2, e3⟩ := hp4.cells
    (try dsimp only at e0 e1 e2 e3)
    rw [HK.out] at e0
    (try rw [show ((0 : Nat) : Int) = 0 from rfl] at e1)
    obtain ⟨z0, z1, z2, z3⟩ := hg4.cells
    rw [HK.out] at z0
    obtain ⟨q1, q2⟩ := v_eql v (⟨v.k, 0, 0, v.s⟩)
    obtain ⟨b, hb⟩ : ∃ b, eqV v (⟨v.k, 0, 0, v.s⟩) = b := ⟨_, rfl⟩
    rw [hb] at q2
    (try dsimp only at q1 q2)
    rw [HK.out] at q1 q2
    (try dsimp only at q1 q2)
    (try rw [show ((0 : Nat) : Int) = 0 from rfl] at q1 q2)
    have HB := Lib.hid hb
    have HG4 := Lib.hid hg4
    have HP4 := Lib.hid hp4
    clear hb hr3 hf3 hp3 hg3 h4 hp4 hf4 hg4
    go_upto_region 17 with fail
    clear hw4 f1 i0 e0 e1 e2 e3 z1 z2 j0 j1 j2 j3
    refine wp_region_held_drew (S := fun w' => w'.cell? ⟨g, 0, none⟩ = some (.int .i64 5) ∧ w'.cell? ⟨g, 3, none⟩ = some (.string (txt v.s))) (by kernel_rfl) ?_ (fun hHeld => ?_)
    · exact ⟨z0, z3⟩
    refine tk 0 hHeld ?_
    refine tk 1 hHeld ?_
    refine tk 2 hHeld ?_
    refine tk 3 hHeld ?_
    refine tk 4 hHeld ?_
    refine tk 5 hHeld ?_
    refine tk 6 hHeld ?_
    refine tk 7 hHeld ?_
    refine tk 8 hHeld ?_
    refine tk 9 hHeld ?_
    refine tk 10 hHeld ?_
    refine tk 12 hHeld ?_
    refine tk 13 hHeld ?_
    refine tk 14 hHeld ?_
    refine rdo 11 (fun Kx hKx => ?_)
    go_simp
    refine (HWH.out _).mono ?_
    rintro e w5 ⟨rfl, hf5⟩
    have HG5 := Lib.hid ((show RowV w4.drew g v from HG4.out).fr hf5 (fun h => h))
    have HP5 := Lib.hid ((show RowV w4.drew p ⟨v.k, 0, 0, v.s⟩ from HP4.out).fr hf5 (fun h => h))
    have HF5 := Lib.hid (HF4.out.drew.trans hf5 (fun _ _ h => h))
    clear hf5
    refine hKx.out _ _ ?_ (fun hHeld => ?_)
    · exact ⟨by rw [← HK.out]; exact HG5.out.c0, HG5.out.c3⟩
    clear hKx Kx
    refine tk 15 hHeld ?_
    refine tk 16 hHeld ?_
    refine tk 17 hHeld ?_
    refine wpAnyH_done (by kernel_rfl) ?_ _
    go_wp2_with fail
    go_ret
    exact ⟨by rw [← HRR.out]; rfl, HF5.out⟩

set_option maxRecDepth 100000 in
set_option maxHeartbeats 1600000 in
theorem rrightO3y_any (v : V) (w : World) (hv : v.ok) (hb : v.s.length ≤ 1000000) (h : cl v.k = 3) (hbig : ¬ 4000 < v.s.length) (hw0 : wh v.s = v.s.length) : Calls Tryz.prog 44 #[valc v] w fun e w' => e = .returned (.bool (rightV v)) ∧ Fr (fun _ => False) w w' := by
  obtain ⟨r, hr⟩ : ∃ r, rightV v = r := ⟨_, rfl⟩
  rw [hr]
  obtain ⟨g, hg⟩ : ∃ g, w.heap.size = g := ⟨_, rfl⟩
  obtain ⟨w1, hw1⟩ : ∃ w1, w.alloc (.cells #[.int .i64 v.k, .int .u64 (v.u : Int), .int .i64 v.n, .string (txt v.s)] 52) = w1 := ⟨_, rfl⟩
  have hf1 : Fr (fun _ => False) w w1 := by rw [← hw1]; exact (Fr.refl _ _).alloc _
  have hr1 : RowV w1 g v := by rw [← hw1, ← hg]; exact RowV.new w v
  obtain ⟨j0, j1, j2, j3⟩ := hr1.cells
  obtain ⟨p, hp⟩ : ∃ p, w1.heap.size = p := ⟨_, rfl⟩
  obtain ⟨w2, hw2⟩ : ∃ w2, w1.alloc (.cells #[.int .i64 0, .int .u64 0, .int .i64 0, .string ⟨#[]⟩] 52) = w2 := ⟨_, rfl⟩
  have hf2 : Fr (fun _ => False) w1 w2 := by rw [← hw2]; exact (Fr.refl _ _).alloc _
  have hp2 : RowV w2 p zeroV := by rw [← hw2, ← hp]; exact RowV.new w1 zeroV
  have HR2 := Lib.hid (hr1.fr hf2 (fun h => h))
  have HP2 := Lib.hid hp2
  have HGP : Hid (g ≠ p ∧ w.heap.size ≤ p) := Lib.hid (by have h1 := hr1.lt; have h2 := hf1.size; omega)
  have HF2 := Lib.hid (hf1.trans hf2 (fun _ _ h => h))
  obtain ⟨k, hk⟩ : ∃ k, v.k = k := ⟨_, rfl⟩
  have hrr := right_text v h
  rw [hr] at hrr
  obtain ⟨l, hl⟩ : ∃ l, l = v.s.length := ⟨_, rfl⟩
  have hsz : (txt v.s).size = l := by rw [txt_sz, hl]
  rw [← hl] at hrr hb
  obtain ⟨m, hm⟩ : ∃ m, m = wh v.s := ⟨_, rfl⟩
  have hwh := fun w => rWhere_any v.s w (by omega)
  rw [← hm] at hwh hrr hw0
  rw [← hl] at hw0
  have HWH := Lib.hid hwh
  rw [← hl] at hbig
  rw [show decide (l ≤ 4000) = true from by simp; omega, Bool.true_and] at hrr
  rw [show decide (m = l) = true from by simp; omega, Bool.true_and] at hrr
  have HRR := Lib.hid hrr
  have t : decide ((4000 : Int) < (l : Int)) = false := by simp; omega
  have t2 : decide (4000 < l) = false := by simp; omega
  have t3 : ((m : Int) != (l : Int)) = false := by simp; omega
  clear hl hm hwh hw0
  unfold valc
  rw [hk] at h hw1 j0 ⊢
  have HK := Lib.hid hk
  clear hf1 hr1 hk hv hf2 hp2 hrr hr
  obtain rfl := cl3 h
  all_goals
    go_enter Tryz.func44, Tryz.ntmps44
    go_upto_region 2 with (refine store_st vSz rfl (.tmp 3) (.tmp 6) rfl p (by rfl) (vls ⟨_, 0, 0, []⟩) (by rfl) _ _ HP2.out rfl rfl (v_one _) ?_)
    intro w3 hr3 hf3
    clear hw1 hw2 hg hp j0 j1 j2 j3
    have hp3 : RowV w3 p ⟨_, 0, 0, []⟩ := hr3
    have hg3 : RowV w3 g v := HR2.out.fr hf3 HGP.out.1
    have HF3 := Lib.hid (HF2.out.trans hf3 (fun b hb h => by have := HGP.out.2; omega))
    obtain ⟨j0, j1, j2, j3⟩ := hg3.cells
    rw [HK.out] at j0
    have f1 : w3.frozen? ⟨p, 3, none⟩ = false := Row.free hr3 3
    have i0 : w3.cell? ⟨p, 3, none⟩ = some (.string ⟨#[]⟩) := Row.cell hr3 rfl
    obtain ⟨w4, hw4⟩ : ∃ w4, w3.setCell ⟨p, 3, none⟩ (.string (txt v.s)) = w4 := ⟨_, rfl⟩
    have h4 := Row.set hr3 3 (.string (txt v.s))
    rw [hw4] at h4
    have hp4 : RowV w4 p (⟨v.k, 0, 0, v.s⟩) := by rw [HK.out]; exact h4
    have hf4 : Fr (fun b => b = p) w3 w4 := by rw [← hw4]; exact Fr.set1 _ _ _ _
    have hg4 := hg3.fr hf4 HGP.out.1
    have HF4 := Lib.hid (HF3.out.trans hf4 (fun b hb h => by have := HGP.out.2; omega))
    obtain ⟨e0, e1, e2, e3⟩ := hp4.cells
    (try dsimp only at e0 e1 e2 e3)
    rw [HK.out] at e0
    (try rw [show ((0 : Nat) : Int) = 0 from rfl] at e1)
    obtain ⟨z0, z1, z2, z3⟩ := hg4.cells
    rw [HK.out] at z0
    obtain ⟨q1, q2⟩ := v_eql v (⟨v.k, 0, 0, v.s⟩)
    obtain ⟨b, hb⟩ : ∃ b, eqV v (⟨v.k, 0, 0, v.s⟩) = b := ⟨_, rfl⟩
    rw [hb] at q2
    (try dsimp only at q1 q2)
    rw [HK.out] at q1 q2
    (try dsimp only at q1 q2)
    (try rw [show ((0 : Nat) : Int) = 0 from rfl] at q1 q2)
    have HB := Lib.hid hb
    have HG4 := Lib.hid hg4
    have HP4 := Lib.hid hp4
    clear hb hr3 hf3 hp3 hg3 h4 hp4 hf4 hg4
    go_upto_region 17 with fail
    clear hw4 f1 i0 e0 e1 e2 e3 z1 z2 j0 j1 j2 j3
    refine wp_region_held_drew (S := fun w' => w'.cell? ⟨g, 0, none⟩ = some (.int .i64 5) ∧ w'.cell? ⟨g, 3, none⟩ = some (.string (txt v.s))) (by kernel_rfl) ?_ (fun hHeld => ?_)
    · exact ⟨z0, z3⟩
    refine tk 0 hHeld ?_
    refine tk 1 hHeld ?_
    refine tk 2 hHeld ?_
    refine tk 3 hHeld ?_
    refine tk 4 hHeld ?_
    refine tk 5 hHeld ?_
    refine tk 6 hHeld ?_
    refine tk 7 hHeld ?_
    refine tk 8 hHeld ?_
    refine tk 9 hHeld ?_
    refine tk 10 hHeld ?_
    refine tk 12 hHeld ?_
    refine tk 13 hHeld ?_
    refine tk 14 hHeld ?_
    refine rdo 11 (fun Kx hKx => ?_)
    go_simp
    refine (HWH.out _).mono ?_
    rintro e w5 ⟨rfl, hf5⟩
    have HG5 := Lib.hid ((show RowV w4.drew g v from HG4.out).fr hf5 (fun h => h))
    have HP5 := Lib.hid ((show RowV w4.drew p ⟨v.k, 0, 0, v.s⟩ from HP4.out).fr hf5 (fun h => h))
    have HF5 := Lib.hid (HF4.out.drew.trans hf5 (fun _ _ h => h))
    clear hf5
    refine hKx.out _ _ ?_ (fun hHeld => ?_)
    · exact ⟨by rw [← HK.out]; exact HG5.out.c0, HG5.out.c3⟩
    clear hKx Kx
    refine tk 15 hHeld ?_
    refine tk 16 hHeld ?_
    refine tk 17 hHeld ?_
    refine wpAnyH_done (by kernel_rfl) ?_ _
    have x0 := HG5.out.c0
    rw [HK.out] at x0
    obtain ⟨_, x1, x2, x3⟩ := HG5.out.cells
    have y0 := HP5.out.c0
    obtain ⟨_, y1, y2, y3⟩ := HP5.out.cells
    (try dsimp only at y0 y1 y2 y3)
    rw [HK.out] at y0
    (try rw [show ((0 : Nat) : Int) = 0 from rfl] at y1)
    go_wp2_with fail
    go_ret
    exact ⟨by rw [← HRR.out, HB.out]; rfl, HF5.out⟩

set_option maxRecDepth 100000 in
set_option maxHeartbeats 1600000 in
theorem rrightO5_any (v : V) (w : World) (hv : v.ok) (hb : v.s.length ≤ 1000000) (h : cl v.k = 5) : Calls Tryz.prog 44 #[valc v] w fun e w' => e = .returned (.bool (rightV v)) ∧ Fr (fun _ => False) w w' := by
  obtain ⟨r, hr⟩ : ∃ r, rightV v = r := ⟨_, rfl⟩
  rw [hr]
  obtain ⟨g, hg⟩ : ∃ g, w.heap.size = g := ⟨_, rfl⟩
  obtain ⟨w1, hw1⟩ : ∃ w1, w.alloc (.cells #[.int .i64 v.k, .int .u64 (v.u : Int), .int .i64 v.n, .string (txt v.s)] 52) = w1 := ⟨_, rfl⟩
  have hf1 : Fr (fun _ => False) w w1 := by rw [← hw1]; exact (Fr.refl _ _).alloc _
  have hr1 : RowV w1 g v := by rw [← hw1, ← hg]; exact RowV.new w v
  obtain ⟨j0, j1, j2, j3⟩ := hr1.cells
  obtain ⟨p, hp⟩ : ∃ p, w1.heap.size = p := ⟨_, rfl⟩
  obtain ⟨w2, hw2⟩ : ∃ w2, w1.alloc (.cells #[.int .i64 0, .int .u64 0, .int .i64 0, .string ⟨#[]⟩] 52) = w2 := ⟨_, rfl⟩
  have hf2 : Fr (fun _ => False) w1 w2 := by rw [← hw2]; exact (Fr.refl _ _).alloc _
  have hp2 : RowV w2 p zeroV := by rw [← hw2, ← hp]; exact RowV.new w1 zeroV
  have HR2 := Lib.hid (hr1.fr hf2 (fun h => h))
  have HP2 := Lib.hid hp2
  have HGP : Hid (g ≠ p ∧ w.heap.size ≤ p) := Lib.hid (by have h1 := hr1.lt; have h2 := hf1.size; omega)
  have HF2 := Lib.hid (hf1.trans hf2 (fun _ _ h => h))
  obtain ⟨k, hk⟩ : ∃ k, v.k = k := ⟨_, rfl⟩
  have hrr : false = r := by rw [← hr]; unfold rightV; rw [h]; rfl
  have HRR := Lib.hid hrr
  have h5 := cl5 h
  rw [hk] at h5
  have t0 : (k == 0) = false := by simp; omega
  have t1 : (k == 1) = false := by simp; omega
  have t2 : (k == 2) = false := by simp; omega
  have t3 : (k == 3) = false := by simp; omega
  have t4 : (k == 4) = false := by simp; omega
  have t5 : (k == 5) = false := by simp; omega
  have t6 : (k == 6) = false := by simp; omega
  have t7 : (k == 7) = false := by simp; omega
  have t8 : (k == 8) = false := by simp; omega
  clear h5
  unfold valc
  rw [hk] at h hw1 j0 ⊢
  have HK := Lib.hid hk
  clear hf1 hr1 hk hv hf2 hp2 hrr hr
  skip
  all_goals
    go_enter Tryz.func44, Tryz.ntmps44
    go_upto_region 2 with (refine store_st vSz rfl (.tmp 3) (.tmp 6) rfl p (by rfl) (vls ⟨_, 0, 0, []⟩) (by rfl) _ _ HP2.out rfl rfl (v_one _) ?_)
    intro w3 hr3 hf3
    clear hw1 hw2 hg hp j0 j1 j2 j3
    have hp3 : RowV w3 p ⟨_, 0, 0, []⟩ := hr3
    have hg3 : RowV w3 g v := HR2.out.fr hf3 HGP.out.1
    have HF3 := Lib.hid (HF2.out.trans hf3 (fun b hb h => by have := HGP.out.2; omega))
    obtain ⟨j0, j1, j2, j3⟩ := hg3.cells
    rw [HK.out] at j0
    clear hr3 hf3 hp3 hg3
    go_wp2_with fail
    go_ret
    exact ⟨by rw [← HRR.out]; rfl, HF3.out⟩

theorem rvRight_any (v : V) (w : World) (hv : v.ok) (hb : v.s.length ≤ 1000000) : Calls Tryz.prog 44 #[valc v] w fun e w' => e = .returned (.bool (rightV v)) ∧ Fr (fun _ => False) w w' := by
  have hc := cl_le v.k
  rcases (show cl v.k = 0 ∨ cl v.k = 1 ∨ cl v.k = 2 ∨ cl v.k = 3 ∨ cl v.k = 4 ∨ cl v.k = 5 by omega) with e | e | e | e | e | e
  · exact rrightO0_any v w hv hb e
  · exact rrightO1_any v w hv hb e
  · exact rrightO2_any v w hv hb e
  · by_cases h : 4000 < v.s.length
    · exact rrightO3b_any v w hv hb e h
    · by_cases h2 : wh v.s = v.s.length
      · exact rrightO3y_any v w hv hb e h h2
      · exact rrightO3n_any v w hv hb e h h2
  · by_cases h : 4000 < v.s.length
    · exact rrightO4b_any v w hv hb e h
    · exact rrightO4s_any v w hv hb e h
  · exact rrightO5_any v w hv hb e
end Go.Proofs.YtedmnkcoflbciaaGreat
