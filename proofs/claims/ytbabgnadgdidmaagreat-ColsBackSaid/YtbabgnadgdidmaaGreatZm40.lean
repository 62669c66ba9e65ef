import Derived.Test.YtbabgnadgdidmaaGreatZm00
import Derived.Test.YtbabgnadgdidmaaGreatZm06
import Derived.Test.YtbabgnadgdidmaaGreatZm39
import Derived.Test.YtbabgnadgdidmaaGreatZm07
import Derived.Test.YtbabgnadgdidmaaGreatZm12
import Derived.Test.YtbabgnadgdidmaaGreatZm11
import Derived.Test.YtbabgnadgdidmaaGreatZm05
import Derived.BigQuiet
set_option linter.unusedVariables false
set_option maxRecDepth 100000
set_option maxHeartbeats 12800000
namespace Go.Proofs.YtbabgnadgdidmaaGreat
section
open Go.RowKit Mem Go.Lib VaM LebM UtfM
attribute [local go_sem ↓] Go.wp_at_zero Go.wp_at_succ
theorem right_num (v : V) (h : cl v.k = 1) : eqV v ⟨v.k, v.u, 0, []⟩ = rightV v := by unfold rightV; rw [h]; simp [eqV]
theorem right_sgn (v : V) (h : cl v.k = 2) : eqV v ⟨v.k, 0, v.n, []⟩ = rightV v := by unfold rightV; rw [h]; simp [eqV]
theorem right_bare (v : V) (h : cl v.k = 0) : eqV v ⟨v.k, 0, 0, []⟩ = rightV v := by unfold rightV; rw [h]; simp [eqV, Bool.and_assoc]
theorem right_text (v : V) (h : cl v.k = 3) : (decide (v.s.length ≤ 4000) && (decide (wh v.s = v.s.length) && eqV v ⟨v.k, 0, 0, v.s⟩)) = rightV v := by
 unfold rightV;rw [h];simp only [eqV, decide_true, Bool.true_and, Bool.and_true];cases decide (v.u = 0) <;> cases decide (v.n = 0) <;> cases decide (v.s.length ≤ 4000) <;> cases decide (wh v.s = v.s.length) <;> rfl
theorem right_bytes (v : V) (h : cl v.k = 4) : (decide (v.s.length ≤ 4000) && eqV v ⟨v.k, 0, 0, v.s⟩) = rightV v := by
 unfold rightV;rw [h];simp only [eqV, decide_true, Bool.true_and, Bool.and_true];cases decide (v.u = 0) <;> cases decide (v.n = 0) <;> cases decide (v.s.length ≤ 4000) <;> rfl
theorem rrightO0_any (v : V) (w : World) (hv : v.ok) (hb : v.s.length ≤ 1000000) (h : cl v.k = 0) : Calls Tryz.prog 45 #[valc v] w fun e w' => e = .returned (.bool (rightV v)) ∧ Fr (fun _ => False) w w' := by
 obtain ⟨r, hr⟩ := nm_ (rightV v);rw [hr];obtain ⟨g, hg⟩ := nm_ w.heap.size;obtain ⟨w1, hw1⟩ := nm_ (w.alloc (.cells #[.int .i64 v.k, .int .u64 (v.u : Int), .int .i64 v.n, .string (txt v.s)] 53));have hf1 : Fr (fun _ => False) w w1 := by rw [← hw1]; exact (Fr.refl _ _).alloc _
 have hr1 : RowV w1 g v := by rw [← hw1, ← hg]; exact RowV.new w v
 obtain ⟨j0, j1, j2, j3⟩ := hr1.cells;obtain ⟨p, hp⟩ := nm_ w1.heap.size;obtain ⟨w2, hw2⟩ : ∃ w2, w1.alloc (.cells #[.int .i64 0, .int .u64 0, .int .i64 0, .string ⟨#[]⟩] 53) = w2 := ⟨_, rfl⟩
 have hf2 : Fr (fun _ => False) w1 w2 := by rw [← hw2]; exact (Fr.refl _ _).alloc _
 have hp2 : RowV w2 p zeroV := by rw [← hw2, ← hp]; exact RowV.new w1 zeroV
 have HR2 := hid (hr1.fr hf2 (fun h => h));have HP2 := hid hp2;have HGP : Hid (g ≠ p ∧ w.heap.size ≤ p) := hid (by have h1 := hr1.lt; have h2 := hf1.size; omega);have HF2 := hid (hf1.trans hf2 im_);obtain ⟨k, hk⟩ := nm_ v.k;have hrr : eqV v ⟨v.k, 0, 0, []⟩ = r := by rw [right_bare v h, hr]
 have HRR := hid hrr;unfold valc;rw [hk] at h hw1 j0 ⊢;have HK := hid hk;clear hf1 hr1 hk hv hf2 hp2 hrr hr;rcases cl0 h with rfl | rfl | rfl
 all_goals
  go_enter Tryz.func45, Tryz.ntmps45
  go_upto_region 2 with (refine store_st vSz rfl (.tmp 3) (.tmp 6) rfl p (by rfl) (vls ⟨_, 0, 0, []⟩) (by rfl) _ _ HP2.out rfl rfl (v_one _) ?_)
  intro w3 hr3 hf3;clear hw1 hw2 hg hp j0 j1 j2 j3;have hp3 : RowV w3 p ⟨_, 0, 0, []⟩ := hr3;have hg3 : RowV w3 g v := HR2.out.fr hf3 HGP.out.1;have HF3 := hid (HF2.out.trans hf3 (fun b hb h => by have := HGP.out.2; omega));obtain ⟨j0, j1, j2, j3⟩ := hg3.cells;rw [HK.out] at j0;obtain ⟨e0, e1, e2, e3⟩ := hp3.cells;obtain ⟨q1, q2⟩ := v_eql v ⟨v.k, 0, 0, []⟩;rw [HK.out] at q1 q2
  (try dsimp only at q1 q2)
  (try rw [show ((0 : Nat) : Int) = 0 from rfl] at q1 q2)
  obtain ⟨b, hb⟩ : ∃ b, eqV v ⟨v.k, 0, 0, []⟩ = b := ⟨_, rfl⟩
  have hb2 := hb;rw [HK.out] at hb2;rw [hb2] at q2;rw [hb] at HRR;clear hb hb2 hr3 hf3 hp3 hg3;go_wp2_with fail;go_ret;exact ⟨by rw [← HRR.out]; rfl, HF3.out⟩
theorem rrightO1_any (v : V) (w : World) (hv : v.ok) (hb : v.s.length ≤ 1000000) (h : cl v.k = 1) : Calls Tryz.prog 45 #[valc v] w fun e w' => e = .returned (.bool (rightV v)) ∧ Fr (fun _ => False) w w' := by
 obtain ⟨r, hr⟩ := nm_ (rightV v);rw [hr];obtain ⟨g, hg⟩ := nm_ w.heap.size;obtain ⟨w1, hw1⟩ := nm_ (w.alloc (.cells #[.int .i64 v.k, .int .u64 (v.u : Int), .int .i64 v.n, .string (txt v.s)] 53));have hf1 : Fr (fun _ => False) w w1 := by rw [← hw1]; exact (Fr.refl _ _).alloc _
 have hr1 : RowV w1 g v := by rw [← hw1, ← hg]; exact RowV.new w v
 obtain ⟨j0, j1, j2, j3⟩ := hr1.cells;obtain ⟨p, hp⟩ := nm_ w1.heap.size;obtain ⟨w2, hw2⟩ : ∃ w2, w1.alloc (.cells #[.int .i64 0, .int .u64 0, .int .i64 0, .string ⟨#[]⟩] 53) = w2 := ⟨_, rfl⟩
 have hf2 : Fr (fun _ => False) w1 w2 := by rw [← hw2]; exact (Fr.refl _ _).alloc _
 have hp2 : RowV w2 p zeroV := by rw [← hw2, ← hp]; exact RowV.new w1 zeroV
 have HR2 := hid (hr1.fr hf2 (fun h => h));have HP2 := hid hp2;have HGP : Hid (g ≠ p ∧ w.heap.size ≤ p) := hid (by have h1 := hr1.lt; have h2 := hf1.size; omega);have HF2 := hid (hf1.trans hf2 im_);obtain ⟨k, hk⟩ := nm_ v.k;have hrr : eqV v ⟨v.k, v.u, 0, []⟩ = r := by rw [right_num v h, hr]
 have HRR := hid hrr;unfold valc;rw [hk] at h hw1 j0 ⊢;have HK := hid hk;clear hf1 hr1 hk hv hf2 hp2 hrr hr;obtain rfl := cl1 h
 all_goals
  go_enter Tryz.func45, Tryz.ntmps45
  go_upto_region 2 with (refine store_st vSz rfl (.tmp 3) (.tmp 6) rfl p (by rfl) (vls ⟨_, 0, 0, []⟩) (by rfl) _ _ HP2.out rfl rfl (v_one _) ?_)
  intro w3 hr3 hf3;clear hw1 hw2 hg hp j0 j1 j2 j3;have hp3 : RowV w3 p ⟨_, 0, 0, []⟩ := hr3;have hg3 : RowV w3 g v := HR2.out.fr hf3 HGP.out.1;have HF3 := hid (HF2.out.trans hf3 (fun b hb h => by have := HGP.out.2; omega));obtain ⟨j0, j1, j2, j3⟩ := hg3.cells;rw [HK.out] at j0;have f1 : w3.frozen? ⟨p, 1, none⟩ = false := Row.free hr3 1;have i0 : w3.cell? ⟨p, 1, none⟩ = some (.int .u64 0) := Row.cell hr3 rfl;obtain ⟨w4, hw4⟩ : ∃ w4, w3.setCell ⟨p, 1, none⟩ (.int .u64 (v.u : Int)) = w4 := ⟨_, rfl⟩
  have h4 := Row.set hr3 1 (.int .u64 (v.u : Int));rw [hw4] at h4;have hp4 : RowV w4 p (⟨v.k, v.u, 0, []⟩) := by rw [HK.out]; exact h4
  have hf4 : Fr (fun b => b = p) w3 w4 := by rw [← hw4]; exact Fr.set1 _ _ _ _
  have hg4 := hg3.fr hf4 HGP.out.1;have HF4 := hid (HF3.out.trans hf4 (fun b hb h => by have := HGP.out.2; omega));obtain ⟨e0, e1, e2, e3⟩ := hp4.cells
  (try dsimp only at e0 e1 e2 e3)
  rw [HK.out] at e0
  (try rw [show ((0 : Nat) : Int) = 0 from rfl] at e1)
  obtain ⟨z0, z1, z2, z3⟩ := hg4.cells;rw [HK.out] at z0;obtain ⟨q1, q2⟩ := v_eql v (⟨v.k, v.u, 0, []⟩);obtain ⟨b, hb⟩ : ∃ b, eqV v (⟨v.k, v.u, 0, []⟩) = b := ⟨_, rfl⟩
  rw [hb] at q2
  (try dsimp only at q1 q2)
  rw [HK.out] at q1 q2
  (try dsimp only at q1 q2)
  (try rw [show ((0 : Nat) : Int) = 0 from rfl] at q1 q2)
  have HB := hid hb;clear hb hr3 hf3 hp3 hg3 h4 hp4 hf4 hg4;go_wp2_with fail;go_ret;exact ⟨by rw [← HRR.out, HB.out]; rfl, HF4.out⟩
theorem rrightO2_any (v : V) (w : World) (hv : v.ok) (hb : v.s.length ≤ 1000000) (h : cl v.k = 2) : Calls Tryz.prog 45 #[valc v] w fun e w' => e = .returned (.bool (rightV v)) ∧ Fr (fun _ => False) w w' := by
 obtain ⟨r, hr⟩ := nm_ (rightV v);rw [hr];obtain ⟨g, hg⟩ := nm_ w.heap.size;obtain ⟨w1, hw1⟩ := nm_ (w.alloc (.cells #[.int .i64 v.k, .int .u64 (v.u : Int), .int .i64 v.n, .string (txt v.s)] 53));have hf1 : Fr (fun _ => False) w w1 := by rw [← hw1]; exact (Fr.refl _ _).alloc _
 have hr1 : RowV w1 g v := by rw [← hw1, ← hg]; exact RowV.new w v
 obtain ⟨j0, j1, j2, j3⟩ := hr1.cells;obtain ⟨p, hp⟩ := nm_ w1.heap.size;obtain ⟨w2, hw2⟩ : ∃ w2, w1.alloc (.cells #[.int .i64 0, .int .u64 0, .int .i64 0, .string ⟨#[]⟩] 53) = w2 := ⟨_, rfl⟩
 have hf2 : Fr (fun _ => False) w1 w2 := by rw [← hw2]; exact (Fr.refl _ _).alloc _
 have hp2 : RowV w2 p zeroV := by rw [← hw2, ← hp]; exact RowV.new w1 zeroV
 have HR2 := hid (hr1.fr hf2 (fun h => h));have HP2 := hid hp2;have HGP : Hid (g ≠ p ∧ w.heap.size ≤ p) := hid (by have h1 := hr1.lt; have h2 := hf1.size; omega);have HF2 := hid (hf1.trans hf2 im_);obtain ⟨k, hk⟩ := nm_ v.k;have hrr : eqV v ⟨v.k, 0, v.n, []⟩ = r := by rw [right_sgn v h, hr]
 have HRR := hid hrr;unfold valc;rw [hk] at h hw1 j0 ⊢;have HK := hid hk;clear hf1 hr1 hk hv hf2 hp2 hrr hr;rcases cl2 h with rfl | rfl | rfl
 all_goals
  go_enter Tryz.func45, Tryz.ntmps45
  go_upto_region 2 with (refine store_st vSz rfl (.tmp 3) (.tmp 6) rfl p (by rfl) (vls ⟨_, 0, 0, []⟩) (by rfl) _ _ HP2.out rfl rfl (v_one _) ?_)
  intro w3 hr3 hf3;clear hw1 hw2 hg hp j0 j1 j2 j3;have hp3 : RowV w3 p ⟨_, 0, 0, []⟩ := hr3;have hg3 : RowV w3 g v := HR2.out.fr hf3 HGP.out.1;have HF3 := hid (HF2.out.trans hf3 (fun b hb h => by have := HGP.out.2; omega));obtain ⟨j0, j1, j2, j3⟩ := hg3.cells;rw [HK.out] at j0;have f1 : w3.frozen? ⟨p, 2, none⟩ = false := Row.free hr3 2;have i0 : w3.cell? ⟨p, 2, none⟩ = some (.int .i64 0) := Row.cell hr3 rfl;obtain ⟨w4, hw4⟩ : ∃ w4, w3.setCell ⟨p, 2, none⟩ (.int .i64 v.n) = w4 := ⟨_, rfl⟩
  have h4 := Row.set hr3 2 (.int .i64 v.n);rw [hw4] at h4;have hp4 : RowV w4 p (⟨v.k, 0, v.n, []⟩) := by rw [HK.out]; exact h4
  have hf4 : Fr (fun b => b = p) w3 w4 := by rw [← hw4]; exact Fr.set1 _ _ _ _
  have hg4 := hg3.fr hf4 HGP.out.1;have HF4 := hid (HF3.out.trans hf4 (fun b hb h => by have := HGP.out.2; omega));obtain ⟨e0, e1, e2, e3⟩ := hp4.cells
  (try dsimp only at e0 e1 e2 e3)
  rw [HK.out] at e0
  (try rw [show ((0 : Nat) : Int) = 0 from rfl] at e1)
  obtain ⟨z0, z1, z2, z3⟩ := hg4.cells;rw [HK.out] at z0;obtain ⟨q1, q2⟩ := v_eql v (⟨v.k, 0, v.n, []⟩);obtain ⟨b, hb⟩ : ∃ b, eqV v (⟨v.k, 0, v.n, []⟩) = b := ⟨_, rfl⟩
  rw [hb] at q2
  (try dsimp only at q1 q2)
  rw [HK.out] at q1 q2
  (try dsimp only at q1 q2)
  (try rw [show ((0 : Nat) : Int) = 0 from rfl] at q1 q2)
  have HB := hid hb;clear hb hr3 hf3 hp3 hg3 h4 hp4 hf4 hg4;go_wp2_with fail;go_ret;exact ⟨by rw [← HRR.out, HB.out]; rfl, HF4.out⟩
theorem rrightO3b_any (v : V) (w : World) (hv : v.ok) (hb : v.s.length ≤ 1000000) (h : cl v.k = 3) (hbig : 4000 < v.s.length) : Calls Tryz.prog 45 #[valc v] w fun e w' => e = .returned (.bool (rightV v)) ∧ Fr (fun _ => False) w w' := by
 obtain ⟨r, hr⟩ := nm_ (rightV v);rw [hr];obtain ⟨g, hg⟩ := nm_ w.heap.size;obtain ⟨w1, hw1⟩ := nm_ (w.alloc (.cells #[.int .i64 v.k, .int .u64 (v.u : Int), .int .i64 v.n, .string (txt v.s)] 53));have hf1 : Fr (fun _ => False) w w1 := by rw [← hw1]; exact (Fr.refl _ _).alloc _
 have hr1 : RowV w1 g v := by rw [← hw1, ← hg]; exact RowV.new w v
 obtain ⟨j0, j1, j2, j3⟩ := hr1.cells;obtain ⟨p, hp⟩ := nm_ w1.heap.size;obtain ⟨w2, hw2⟩ : ∃ w2, w1.alloc (.cells #[.int .i64 0, .int .u64 0, .int .i64 0, .string ⟨#[]⟩] 53) = w2 := ⟨_, rfl⟩
 have hf2 : Fr (fun _ => False) w1 w2 := by rw [← hw2]; exact (Fr.refl _ _).alloc _
 have hp2 : RowV w2 p zeroV := by rw [← hw2, ← hp]; exact RowV.new w1 zeroV
 have HR2 := hid (hr1.fr hf2 (fun h => h));have HP2 := hid hp2;have HGP : Hid (g ≠ p ∧ w.heap.size ≤ p) := hid (by have h1 := hr1.lt; have h2 := hf1.size; omega);have HF2 := hid (hf1.trans hf2 im_);obtain ⟨k, hk⟩ := nm_ v.k;have hrr := right_text v h;rw [hr] at hrr;obtain ⟨l, hl⟩ : ∃ l, l = v.s.length := ⟨_, rfl⟩
 have hsz : (txt v.s).size = l := by rw [txt_sz, hl]
 rw [← hl] at hrr hb;rw [← hl] at hbig;rw [show decide (l ≤ 4000) = false from by simp; omega, Bool.false_and] at hrr;have HRB := hid hrr;have HRR := hid hrr;have t : decide ((4000 : Int) < (l : Int)) = true := by simp; omega
 have t2 : decide (4000 < l) = true := by simp; omega
 clear hl;unfold valc;rw [hk] at h hw1 j0 ⊢;have HK := hid hk;clear hf1 hr1 hk hv hf2 hp2 hrr hr;obtain rfl := cl3 h
 all_goals
  go_enter Tryz.func45, Tryz.ntmps45
  go_upto_region 2 with (refine store_st vSz rfl (.tmp 3) (.tmp 6) rfl p (by rfl) (vls ⟨_, 0, 0, []⟩) (by rfl) _ _ HP2.out rfl rfl (v_one _) ?_)
  intro w3 hr3 hf3;clear hw1 hw2 hg hp j0 j1 j2 j3;have hp3 : RowV w3 p ⟨_, 0, 0, []⟩ := hr3;have hg3 : RowV w3 g v := HR2.out.fr hf3 HGP.out.1;have HF3 := hid (HF2.out.trans hf3 (fun b hb h => by have := HGP.out.2; omega));obtain ⟨j0, j1, j2, j3⟩ := hg3.cells;rw [HK.out] at j0;have f1 : w3.frozen? ⟨p, 3, none⟩ = false := Row.free hr3 3;have i0 : w3.cell? ⟨p, 3, none⟩ = some (.string ⟨#[]⟩) := Row.cell hr3 rfl;obtain ⟨w4, hw4⟩ : ∃ w4, w3.setCell ⟨p, 3, none⟩ (.string (txt v.s)) = w4 := ⟨_, rfl⟩
  have h4 := Row.set hr3 3 (.string (txt v.s));rw [hw4] at h4;have hp4 : RowV w4 p (⟨v.k, 0, 0, v.s⟩) := by rw [HK.out]; exact h4
  have hf4 : Fr (fun b => b = p) w3 w4 := by rw [← hw4]; exact Fr.set1 _ _ _ _
  have hg4 := hg3.fr hf4 HGP.out.1;have HF4 := hid (HF3.out.trans hf4 (fun b hb h => by have := HGP.out.2; omega));obtain ⟨e0, e1, e2, e3⟩ := hp4.cells
  (try dsimp only at e0 e1 e2 e3)
  rw [HK.out] at e0
  (try rw [show ((0 : Nat) : Int) = 0 from rfl] at e1)
  obtain ⟨z0, z1, z2, z3⟩ := hg4.cells;rw [HK.out] at z0;obtain ⟨q1, q2⟩ := v_eql v (⟨v.k, 0, 0, v.s⟩);obtain ⟨b, hb⟩ : ∃ b, eqV v (⟨v.k, 0, 0, v.s⟩) = b := ⟨_, rfl⟩
  rw [hb] at q2
  (try dsimp only at q1 q2)
  rw [HK.out] at q1 q2
  (try dsimp only at q1 q2)
  (try rw [show ((0 : Nat) : Int) = 0 from rfl] at q1 q2)
  have HB := hid hb;clear hb hr3 hf3 hp3 hg3 h4 hp4 hf4 hg4
  go_upto_region 17 with fail
  clear hw4 f1 i0
  go_quiet (fail)
  go_wp2_with fail;go_ret;exact ⟨by rw [← HRR.out]; rfl, HF4.out.drewN _⟩
theorem rrightO4b_any (v : V) (w : World) (hv : v.ok) (hb : v.s.length ≤ 1000000) (h : cl v.k = 4) (hbig : 4000 < v.s.length) : Calls Tryz.prog 45 #[valc v] w fun e w' => e = .returned (.bool (rightV v)) ∧ Fr (fun _ => False) w w' := by
 obtain ⟨r, hr⟩ := nm_ (rightV v);rw [hr];obtain ⟨g, hg⟩ := nm_ w.heap.size;obtain ⟨w1, hw1⟩ := nm_ (w.alloc (.cells #[.int .i64 v.k, .int .u64 (v.u : Int), .int .i64 v.n, .string (txt v.s)] 53));have hf1 : Fr (fun _ => False) w w1 := by rw [← hw1]; exact (Fr.refl _ _).alloc _
 have hr1 : RowV w1 g v := by rw [← hw1, ← hg]; exact RowV.new w v
 obtain ⟨j0, j1, j2, j3⟩ := hr1.cells;obtain ⟨p, hp⟩ := nm_ w1.heap.size;obtain ⟨w2, hw2⟩ : ∃ w2, w1.alloc (.cells #[.int .i64 0, .int .u64 0, .int .i64 0, .string ⟨#[]⟩] 53) = w2 := ⟨_, rfl⟩
 have hf2 : Fr (fun _ => False) w1 w2 := by rw [← hw2]; exact (Fr.refl _ _).alloc _
 have hp2 : RowV w2 p zeroV := by rw [← hw2, ← hp]; exact RowV.new w1 zeroV
 have HR2 := hid (hr1.fr hf2 (fun h => h));have HP2 := hid hp2;have HGP : Hid (g ≠ p ∧ w.heap.size ≤ p) := hid (by have h1 := hr1.lt; have h2 := hf1.size; omega);have HF2 := hid (hf1.trans hf2 im_);obtain ⟨k, hk⟩ := nm_ v.k;have hrr := right_bytes v h;rw [hr] at hrr;obtain ⟨l, hl⟩ : ∃ l, l = v.s.length := ⟨_, rfl⟩
 have hsz : (txt v.s).size = l := by rw [txt_sz, hl]
 rw [← hl] at hrr hb;rw [← hl] at hbig;rw [show decide (l ≤ 4000) = false from by simp; omega, Bool.false_and] at hrr;have HRB := hid hrr;have HRR := hid hrr;have t : decide ((4000 : Int) < (l : Int)) = true := by simp; omega
 have t2 : decide (4000 < l) = true := by simp; omega
 clear hl;unfold valc;rw [hk] at h hw1 j0 ⊢;have HK := hid hk;clear hf1 hr1 hk hv hf2 hp2 hrr hr;obtain rfl := cl4 h
 all_goals
  go_enter Tryz.func45, Tryz.ntmps45
  go_upto_region 2 with (refine store_st vSz rfl (.tmp 3) (.tmp 6) rfl p (by rfl) (vls ⟨_, 0, 0, []⟩) (by rfl) _ _ HP2.out rfl rfl (v_one _) ?_)
  intro w3 hr3 hf3;clear hw1 hw2 hg hp j0 j1 j2 j3;have hp3 : RowV w3 p ⟨_, 0, 0, []⟩ := hr3;have hg3 : RowV w3 g v := HR2.out.fr hf3 HGP.out.1;have HF3 := hid (HF2.out.trans hf3 (fun b hb h => by have := HGP.out.2; omega));obtain ⟨j0, j1, j2, j3⟩ := hg3.cells;rw [HK.out] at j0;have f1 : w3.frozen? ⟨p, 3, none⟩ = false := Row.free hr3 3;have i0 : w3.cell? ⟨p, 3, none⟩ = some (.string ⟨#[]⟩) := Row.cell hr3 rfl;obtain ⟨w4, hw4⟩ : ∃ w4, w3.setCell ⟨p, 3, none⟩ (.string (txt v.s)) = w4 := ⟨_, rfl⟩
  have h4 := Row.set hr3 3 (.string (txt v.s));rw [hw4] at h4;have hp4 : RowV w4 p (⟨v.k, 0, 0, v.s⟩) := by rw [HK.out]; exact h4
  have hf4 : Fr (fun b => b = p) w3 w4 := by rw [← hw4]; exact Fr.set1 _ _ _ _
  have hg4 := hg3.fr hf4 HGP.out.1;have HF4 := hid (HF3.out.trans hf4 (fun b hb h => by have := HGP.out.2; omega));obtain ⟨e0, e1, e2, e3⟩ := hp4.cells
  (try dsimp only at e0 e1 e2 e3)
  rw [HK.out] at e0
  (try rw [show ((0 : Nat) : Int) = 0 from rfl] at e1)
  obtain ⟨z0, z1, z2, z3⟩ := hg4.cells;rw [HK.out] at z0;obtain ⟨q1, q2⟩ := v_eql v (⟨v.k, 0, 0, v.s⟩);obtain ⟨b, hb⟩ : ∃ b, eqV v (⟨v.k, 0, 0, v.s⟩) = b := ⟨_, rfl⟩
  rw [hb] at q2
  (try dsimp only at q1 q2)
  rw [HK.out] at q1 q2
  (try dsimp only at q1 q2)
  (try rw [show ((0 : Nat) : Int) = 0 from rfl] at q1 q2)
  have HB := hid hb;clear hb hr3 hf3 hp3 hg3 h4 hp4 hf4 hg4
  go_upto_region 17 with fail
  clear hw4 f1 i0
  go_quiet (fail)
  go_wp2_with fail;go_ret;exact ⟨by rw [← HRR.out]; rfl, HF4.out.drewN _⟩
theorem rrightO4s_any (v : V) (w : World) (hv : v.ok) (hb : v.s.length ≤ 1000000) (h : cl v.k = 4) (hbig : ¬ 4000 < v.s.length) : Calls Tryz.prog 45 #[valc v] w fun e w' => e = .returned (.bool (rightV v)) ∧ Fr (fun _ => False) w w' := by
 obtain ⟨r, hr⟩ := nm_ (rightV v);rw [hr];obtain ⟨g, hg⟩ := nm_ w.heap.size;obtain ⟨w1, hw1⟩ := nm_ (w.alloc (.cells #[.int .i64 v.k, .int .u64 (v.u : Int), .int .i64 v.n, .string (txt v.s)] 53));have hf1 : Fr (fun _ => False) w w1 := by rw [← hw1]; exact (Fr.refl _ _).alloc _
 have hr1 : RowV w1 g v := by rw [← hw1, ← hg]; exact RowV.new w v
 obtain ⟨j0, j1, j2, j3⟩ := hr1.cells;obtain ⟨p, hp⟩ := nm_ w1.heap.size;obtain ⟨w2, hw2⟩ : ∃ w2, w1.alloc (.cells #[.int .i64 0, .int .u64 0, .int .i64 0, .string ⟨#[]⟩] 53) = w2 := ⟨_, rfl⟩
 have hf2 : Fr (fun _ => False) w1 w2 := by rw [← hw2]; exact (Fr.refl _ _).alloc _
 have hp2 : RowV w2 p zeroV := by rw [← hw2, ← hp]; exact RowV.new w1 zeroV
 have HR2 := hid (hr1.fr hf2 (fun h => h));have HP2 := hid hp2;have HGP : Hid (g ≠ p ∧ w.heap.size ≤ p) := hid (by have h1 := hr1.lt; have h2 := hf1.size; omega);have HF2 := hid (hf1.trans hf2 im_);obtain ⟨k, hk⟩ := nm_ v.k;have hrr := right_bytes v h;rw [hr] at hrr;obtain ⟨l, hl⟩ : ∃ l, l = v.s.length := ⟨_, rfl⟩
 have hsz : (txt v.s).size = l := by rw [txt_sz, hl]
 rw [← hl] at hrr hb;rw [← hl] at hbig;rw [show decide (l ≤ 4000) = true from by simp; omega, Bool.true_and] at hrr;have HRR := hid hrr;have t : decide ((4000 : Int) < (l : Int)) = false := by simp; omega
 have t2 : decide (4000 < l) = false := by simp; omega
 clear hl;unfold valc;rw [hk] at h hw1 j0 ⊢;have HK := hid hk;clear hf1 hr1 hk hv hf2 hp2 hrr hr;obtain rfl := cl4 h
 all_goals
  go_enter Tryz.func45, Tryz.ntmps45
  go_upto_region 2 with (refine store_st vSz rfl (.tmp 3) (.tmp 6) rfl p (by rfl) (vls ⟨_, 0, 0, []⟩) (by rfl) _ _ HP2.out rfl rfl (v_one _) ?_)
  intro w3 hr3 hf3;clear hw1 hw2 hg hp j0 j1 j2 j3;have hp3 : RowV w3 p ⟨_, 0, 0, []⟩ := hr3;have hg3 : RowV w3 g v := HR2.out.fr hf3 HGP.out.1;have HF3 := hid (HF2.out.trans hf3 (fun b hb h => by have := HGP.out.2; omega));obtain ⟨j0, j1, j2, j3⟩ := hg3.cells;rw [HK.out] at j0;have f1 : w3.frozen? ⟨p, 3, none⟩ = false := Row.free hr3 3;have i0 : w3.cell? ⟨p, 3, none⟩ = some (.string ⟨#[]⟩) := Row.cell hr3 rfl;obtain ⟨w4, hw4⟩ : ∃ w4, w3.setCell ⟨p, 3, none⟩ (.string (txt v.s)) = w4 := ⟨_, rfl⟩
  have h4 := Row.set hr3 3 (.string (txt v.s));rw [hw4] at h4;have hp4 : RowV w4 p (⟨v.k, 0, 0, v.s⟩) := by rw [HK.out]; exact h4
  have hf4 : Fr (fun b => b = p) w3 w4 := by rw [← hw4]; exact Fr.set1 _ _ _ _
  have hg4 := hg3.fr hf4 HGP.out.1;have HF4 := hid (HF3.out.trans hf4 (fun b hb h => by have := HGP.out.2; omega));obtain ⟨e0, e1, e2, e3⟩ := hp4.cells
  (try dsimp only at e0 e1 e2 e3)
  rw [HK.out] at e0
  (try rw [show ((0 : Nat) : Int) = 0 from rfl] at e1)
  obtain ⟨z0, z1, z2, z3⟩ := hg4.cells;rw [HK.out] at z0;obtain ⟨q1, q2⟩ := v_eql v (⟨v.k, 0, 0, v.s⟩);obtain ⟨b, hb⟩ : ∃ b, eqV v (⟨v.k, 0, 0, v.s⟩) = b := ⟨_, rfl⟩
  rw [hb] at q2
  (try dsimp only at q1 q2)
  rw [HK.out] at q1 q2
  (try dsimp only at q1 q2)
  (try rw [show ((0 : Nat) : Int) = 0 from rfl] at q1 q2)
  have HB := hid hb;clear hb hr3 hf3 hp3 hg3 h4 hp4 hf4 hg4
  go_upto_region 17 with fail
  clear hw4 f1 i0
  go_quiet (fail)
  go_wp2_with fail;go_ret;exact ⟨by rw [← HRR.out, HB.out]; rfl, HF4.out.drewN _⟩
theorem rrightO3n_any (v : V) (w : World) (hv : v.ok) (hb : v.s.length ≤ 1000000) (h : cl v.k = 3) (hbig : ¬ 4000 < v.s.length) (hw0 : ¬ wh v.s = v.s.length) : Calls Tryz.prog 45 #[valc v] w fun e w' => e = .returned (.bool (rightV v)) ∧ Fr (fun _ => False) w w' := by
 obtain ⟨r, hr⟩ := nm_ (rightV v);rw [hr];obtain ⟨g, hg⟩ := nm_ w.heap.size;obtain ⟨w1, hw1⟩ := nm_ (w.alloc (.cells #[.int .i64 v.k, .int .u64 (v.u : Int), .int .i64 v.n, .string (txt v.s)] 53));have hf1 : Fr (fun _ => False) w w1 := by rw [← hw1]; exact (Fr.refl _ _).alloc _
 have hr1 : RowV w1 g v := by rw [← hw1, ← hg]; exact RowV.new w v
 obtain ⟨j0, j1, j2, j3⟩ := hr1.cells;obtain ⟨p, hp⟩ := nm_ w1.heap.size;obtain ⟨w2, hw2⟩ : ∃ w2, w1.alloc (.cells #[.int .i64 0, .int .u64 0, .int .i64 0, .string ⟨#[]⟩] 53) = w2 := ⟨_, rfl⟩
 have hf2 : Fr (fun _ => False) w1 w2 := by rw [← hw2]; exact (Fr.refl _ _).alloc _
 have hp2 : RowV w2 p zeroV := by rw [← hw2, ← hp]; exact RowV.new w1 zeroV
 have HR2 := hid (hr1.fr hf2 (fun h => h));have HP2 := hid hp2;have HGP : Hid (g ≠ p ∧ w.heap.size ≤ p) := hid (by have h1 := hr1.lt; have h2 := hf1.size; omega);have HF2 := hid (hf1.trans hf2 im_);obtain ⟨k, hk⟩ := nm_ v.k;have hrr := right_text v h;rw [hr] at hrr;obtain ⟨l, hl⟩ : ∃ l, l = v.s.length := ⟨_, rfl⟩
 have hsz : (txt v.s).size = l := by rw [txt_sz, hl]
 rw [← hl] at hrr hb;obtain ⟨m, hm⟩ : ∃ m, m = wh v.s := ⟨_, rfl⟩
 have hwh := fun w => rWhere_any v.s w (by omega);rw [← hm] at hwh hrr hw0;rw [← hl] at hw0;have HWH := hid hwh;rw [← hl] at hbig;rw [show decide (l ≤ 4000) = true from by simp; omega, Bool.true_and] at hrr;rw [show decide (m = l) = false from by simp; omega, Bool.false_and] at hrr;have HRB := hid hrr;have HRR := hid hrr;have t : decide ((4000 : Int) < (l : Int)) = false := by simp; omega
 have t2 : decide (4000 < l) = false := by simp; omega
 have t3 : ((m : Int) != (l : Int)) = true := by simp; omega
 clear hl hm hwh;unfold valc;rw [hk] at h hw1 j0 ⊢;have HK := hid hk;clear hf1 hr1 hk hv hf2 hp2 hrr hr;obtain rfl := cl3 h
 all_goals
  go_enter Tryz.func45, Tryz.ntmps45
  go_upto_region 2 with (refine store_st vSz rfl (.tmp 3) (.tmp 6) rfl p (by rfl) (vls ⟨_, 0, 0, []⟩) (by rfl) _ _ HP2.out rfl rfl (v_one _) ?_)
  intro w3 hr3 hf3;clear hw1 hw2 hg hp j0 j1 j2 j3;have hp3 : RowV w3 p ⟨_, 0, 0, []⟩ := hr3;have hg3 : RowV w3 g v := HR2.out.fr hf3 HGP.out.1;have HF3 := hid (HF2.out.trans hf3 (fun b hb h => by have := HGP.out.2; omega));obtain ⟨j0, j1, j2, j3⟩ := hg3.cells;rw [HK.out] at j0;have f1 : w3.frozen? ⟨p, 3, none⟩ = false := Row.free hr3 3;have i0 : w3.cell? ⟨p, 3, none⟩ = some (.string ⟨#[]⟩) := Row.cell hr3 rfl;obtain ⟨w4, hw4⟩ : ∃ w4, w3.setCell ⟨p, 3, none⟩ (.string (txt v.s)) = w4 := ⟨_, rfl⟩
  have h4 := Row.set hr3 3 (.string (txt v.s));rw [hw4] at h4;have hp4 : RowV w4 p (⟨v.k, 0, 0, v.s⟩) := by rw [HK.out]; exact h4
  have hf4 : Fr (fun b => b = p) w3 w4 := by rw [← hw4]; exact Fr.set1 _ _ _ _
  have hg4 := hg3.fr hf4 HGP.out.1;have HF4 := hid (HF3.out.trans hf4 (fun b hb h => by have := HGP.out.2; omega));obtain ⟨e0, e1, e2, e3⟩ := hp4.cells
  (try dsimp only at e0 e1 e2 e3)
  rw [HK.out] at e0
  (try rw [show ((0 : Nat) : Int) = 0 from rfl] at e1)
  obtain ⟨z0, z1, z2, z3⟩ := hg4.cells;rw [HK.out] at z0;obtain ⟨q1, q2⟩ := v_eql v (⟨v.k, 0, 0, v.s⟩);obtain ⟨b, hb⟩ : ∃ b, eqV v (⟨v.k, 0, 0, v.s⟩) = b := ⟨_, rfl⟩
  rw [hb] at q2
  (try dsimp only at q1 q2)
  rw [HK.out] at q1 q2
  (try dsimp only at q1 q2)
  (try rw [show ((0 : Nat) : Int) = 0 from rfl] at q1 q2)
  have HB := hid hb;have HG4 := hid hg4;have HP4 := hid hp4;clear hb hr3 hf3 hp3 hg3 h4 hp4 hf4 hg4
  go_upto_region 17 with fail
  clear hw4 f1 i0 e0 e1 e2 e3 z1 z2 j0 j1 j2 j3;refine wp_region_held_drew (S := fun w' => w'.cell? ⟨g, 0, none⟩ = some (.int .i64 5) ∧ w'.cell? ⟨g, 3, none⟩ = some (.string (txt v.s))) (by kernel_rfl) ?_ (fun hHeld => ?_)
  · exact ⟨z0, z3⟩
  refine tk 0 hHeld ?_;refine tk 1 hHeld ?_;refine tk 2 hHeld ?_;refine tk 3 hHeld ?_;refine tk 4 hHeld ?_;refine tk 5 hHeld ?_;refine tk 6 hHeld ?_;refine tk 7 hHeld ?_;refine tk 8 hHeld ?_;refine tk 9 hHeld ?_;refine tk 10 hHeld ?_;refine tk 12 hHeld ?_;refine tk 13 hHeld ?_;refine tk 14 hHeld ?_;refine rdo 11 (fun Kx hKx => ?_)
  go_simp
  refine (HWH.out _).mono ?_;rintro e w5 ⟨rfl, hf5⟩;have HG5 := hid ((show RowV w4.drew g v from HG4.out).fr hf5 (fun h => h));have HP5 := hid ((show RowV w4.drew p ⟨v.k, 0, 0, v.s⟩ from HP4.out).fr hf5 (fun h => h));have HF5 := hid (HF4.out.drew.trans hf5 im_);clear hf5;refine hKx.out _ _ ?_ (fun hHeld => ?_)
  · exact ⟨by rw [← HK.out]; exact HG5.out.c0, HG5.out.c3⟩
  clear hKx Kx;refine tk 15 hHeld ?_;refine tk 16 hHeld ?_;refine tk 17 hHeld ?_;refine wpAnyH_done (by kernel_rfl) ?_ _;go_wp2_with fail;go_ret;exact ⟨by rw [← HRR.out]; rfl, HF5.out⟩
theorem rrightO3y_any (v : V) (w : World) (hv : v.ok) (hb : v.s.length ≤ 1000000) (h : cl v.k = 3) (hbig : ¬ 4000 < v.s.length) (hw0 : wh v.s = v.s.length) : Calls Tryz.prog 45 #[valc v] w fun e w' => e = .returned (.bool (rightV v)) ∧ Fr (fun _ => False) w w' := by
 obtain ⟨r, hr⟩ := nm_ (rightV v);rw [hr];obtain ⟨g, hg⟩ := nm_ w.heap.size;obtain ⟨w1, hw1⟩ := nm_ (w.alloc (.cells #[.int .i64 v.k, .int .u64 (v.u : Int), .int .i64 v.n, .string (txt v.s)] 53));have hf1 : Fr (fun _ => False) w w1 := by rw [← hw1]; exact (Fr.refl _ _).alloc _
 have hr1 : RowV w1 g v := by rw [← hw1, ← hg]; exact RowV.new w v
 obtain ⟨j0, j1, j2, j3⟩ := hr1.cells;obtain ⟨p, hp⟩ := nm_ w1.heap.size;obtain ⟨w2, hw2⟩ : ∃ w2, w1.alloc (.cells #[.int .i64 0, .int .u64 0, .int .i64 0, .string ⟨#[]⟩] 53) = w2 := ⟨_, rfl⟩
 have hf2 : Fr (fun _ => False) w1 w2 := by rw [← hw2]; exact (Fr.refl _ _).alloc _
 have hp2 : RowV w2 p zeroV := by rw [← hw2, ← hp]; exact RowV.new w1 zeroV
 have HR2 := hid (hr1.fr hf2 (fun h => h));have HP2 := hid hp2;have HGP : Hid (g ≠ p ∧ w.heap.size ≤ p) := hid (by have h1 := hr1.lt; have h2 := hf1.size; omega);have HF2 := hid (hf1.trans hf2 im_);obtain ⟨k, hk⟩ := nm_ v.k;have hrr := right_text v h;rw [hr] at hrr;obtain ⟨l, hl⟩ : ∃ l, l = v.s.length := ⟨_, rfl⟩
 have hsz : (txt v.s).size = l := by rw [txt_sz, hl]
 rw [← hl] at hrr hb;obtain ⟨m, hm⟩ : ∃ m, m = wh v.s := ⟨_, rfl⟩
 have hwh := fun w => rWhere_any v.s w (by omega);rw [← hm] at hwh hrr hw0;rw [← hl] at hw0;have HWH := hid hwh;rw [← hl] at hbig;rw [show decide (l ≤ 4000) = true from by simp; omega, Bool.true_and] at hrr;rw [show decide (m = l) = true from by simp; omega, Bool.true_and] at hrr;have HRR := hid hrr;have t : decide ((4000 : Int) < (l : Int)) = false := by simp; omega
 have t2 : decide (4000 < l) = false := by simp; omega
 have t3 : ((m : Int) != (l : Int)) = false := by simp; omega
 clear hl hm hwh hw0;unfold valc;rw [hk] at h hw1 j0 ⊢;have HK := hid hk;clear hf1 hr1 hk hv hf2 hp2 hrr hr;obtain rfl := cl3 h
 all_goals
  go_enter Tryz.func45, Tryz.ntmps45
  go_upto_region 2 with (refine store_st vSz rfl (.tmp 3) (.tmp 6) rfl p (by rfl) (vls ⟨_, 0, 0, []⟩) (by rfl) _ _ HP2.out rfl rfl (v_one _) ?_)
  intro w3 hr3 hf3;clear hw1 hw2 hg hp j0 j1 j2 j3;have hp3 : RowV w3 p ⟨_, 0, 0, []⟩ := hr3;have hg3 : RowV w3 g v := HR2.out.fr hf3 HGP.out.1;have HF3 := hid (HF2.out.trans hf3 (fun b hb h => by have := HGP.out.2; omega));obtain ⟨j0, j1, j2, j3⟩ := hg3.cells;rw [HK.out] at j0;have f1 : w3.frozen? ⟨p, 3, none⟩ = false := Row.free hr3 3;have i0 : w3.cell? ⟨p, 3, none⟩ = some (.string ⟨#[]⟩) := Row.cell hr3 rfl;obtain ⟨w4, hw4⟩ : ∃ w4, w3.setCell ⟨p, 3, none⟩ (.string (txt v.s)) = w4 := ⟨_, rfl⟩
  have h4 := Row.set hr3 3 (.string (txt v.s));rw [hw4] at h4;have hp4 : RowV w4 p (⟨v.k, 0, 0, v.s⟩) := by rw [HK.out]; exact h4
  have hf4 : Fr (fun b => b = p) w3 w4 := by rw [← hw4]; exact Fr.set1 _ _ _ _
  have hg4 := hg3.fr hf4 HGP.out.1;have HF4 := hid (HF3.out.trans hf4 (fun b hb h => by have := HGP.out.2; omega));obtain ⟨e0, e1, e2, e3⟩ := hp4.cells
  (try dsimp only at e0 e1 e2 e3)
  rw [HK.out] at e0
  (try rw [show ((0 : Nat) : Int) = 0 from rfl] at e1)
  obtain ⟨z0, z1, z2, z3⟩ := hg4.cells;rw [HK.out] at z0;obtain ⟨q1, q2⟩ := v_eql v (⟨v.k, 0, 0, v.s⟩);obtain ⟨b, hb⟩ : ∃ b, eqV v (⟨v.k, 0, 0, v.s⟩) = b := ⟨_, rfl⟩
  rw [hb] at q2
  (try dsimp only at q1 q2)
  rw [HK.out] at q1 q2
  (try dsimp only at q1 q2)
  (try rw [show ((0 : Nat) : Int) = 0 from rfl] at q1 q2)
  have HB := hid hb;have HG4 := hid hg4;have HP4 := hid hp4;clear hb hr3 hf3 hp3 hg3 h4 hp4 hf4 hg4
  go_upto_region 17 with fail
  clear hw4 f1 i0 e0 e1 e2 e3 z1 z2 j0 j1 j2 j3;refine wp_region_held_drew (S := fun w' => w'.cell? ⟨g, 0, none⟩ = some (.int .i64 5) ∧ w'.cell? ⟨g, 3, none⟩ = some (.string (txt v.s))) (by kernel_rfl) ?_ (fun hHeld => ?_)
  · exact ⟨z0, z3⟩
  refine tk 0 hHeld ?_;refine tk 1 hHeld ?_;refine tk 2 hHeld ?_;refine tk 3 hHeld ?_;refine tk 4 hHeld ?_;refine tk 5 hHeld ?_;refine tk 6 hHeld ?_;refine tk 7 hHeld ?_;refine tk 8 hHeld ?_;refine tk 9 hHeld ?_;refine tk 10 hHeld ?_;refine tk 12 hHeld ?_;refine tk 13 hHeld ?_;refine tk 14 hHeld ?_;refine rdo 11 (fun Kx hKx => ?_)
  go_simp
  refine (HWH.out _).mono ?_;rintro e w5 ⟨rfl, hf5⟩;have HG5 := hid ((show RowV w4.drew g v from HG4.out).fr hf5 (fun h => h));have HP5 := hid ((show RowV w4.drew p ⟨v.k, 0, 0, v.s⟩ from HP4.out).fr hf5 (fun h => h));have HF5 := hid (HF4.out.drew.trans hf5 im_);clear hf5;refine hKx.out _ _ ?_ (fun hHeld => ?_)
  · exact ⟨by rw [← HK.out]; exact HG5.out.c0, HG5.out.c3⟩
  clear hKx Kx;refine tk 15 hHeld ?_;refine tk 16 hHeld ?_;refine tk 17 hHeld ?_;refine wpAnyH_done (by kernel_rfl) ?_ _;have x0 := HG5.out.c0;rw [HK.out] at x0;obtain ⟨_, x1, x2, x3⟩ := HG5.out.cells;have y0 := HP5.out.c0;obtain ⟨_, y1, y2, y3⟩ := HP5.out.cells
  (try dsimp only at y0 y1 y2 y3)
  rw [HK.out] at y0
  (try rw [show ((0 : Nat) : Int) = 0 from rfl] at y1)
  go_wp2_with fail;go_ret;exact ⟨by rw [← HRR.out, HB.out]; rfl, HF5.out⟩
theorem rrightO5_any (v : V) (w : World) (hv : v.ok) (hb : v.s.length ≤ 1000000) (h : cl v.k = 5) : Calls Tryz.prog 45 #[valc v] w fun e w' => e = .returned (.bool (rightV v)) ∧ Fr (fun _ => False) w w' := by
 obtain ⟨r, hr⟩ := nm_ (rightV v);rw [hr];obtain ⟨g, hg⟩ := nm_ w.heap.size;obtain ⟨w1, hw1⟩ := nm_ (w.alloc (.cells #[.int .i64 v.k, .int .u64 (v.u : Int), .int .i64 v.n, .string (txt v.s)] 53));have hf1 : Fr (fun _ => False) w w1 := by rw [← hw1]; exact (Fr.refl _ _).alloc _
 have hr1 : RowV w1 g v := by rw [← hw1, ← hg]; exact RowV.new w v
 obtain ⟨j0, j1, j2, j3⟩ := hr1.cells;obtain ⟨p, hp⟩ := nm_ w1.heap.size;obtain ⟨w2, hw2⟩ : ∃ w2, w1.alloc (.cells #[.int .i64 0, .int .u64 0, .int .i64 0, .string ⟨#[]⟩] 53) = w2 := ⟨_, rfl⟩
 have hf2 : Fr (fun _ => False) w1 w2 := by rw [← hw2]; exact (Fr.refl _ _).alloc _
 have hp2 : RowV w2 p zeroV := by rw [← hw2, ← hp]; exact RowV.new w1 zeroV
 have HR2 := hid (hr1.fr hf2 (fun h => h));have HP2 := hid hp2;have HGP : Hid (g ≠ p ∧ w.heap.size ≤ p) := hid (by have h1 := hr1.lt; have h2 := hf1.size; omega);have HF2 := hid (hf1.trans hf2 im_);obtain ⟨k, hk⟩ := nm_ v.k;have hrr : false = r := by rw [← hr]; unfold rightV; rw [h]; rfl
 have HRR := hid hrr;have h5 := cl5 h;rw [hk] at h5;have t0 : (k == 0) = false := by simp; omega
 have t1 : (k == 1) = false := by simp; omega
 have t2 : (k == 2) = false := by simp; omega
 have t3 : (k == 3) = false := by simp; omega
 have t4 : (k == 4) = false := by simp; omega
 have t5 : (k == 5) = false := by simp; omega
 have t6 : (k == 6) = false := by simp; omega
 have t7 : (k == 7) = false := by simp; omega
 have t8 : (k == 8) = false := by simp; omega
 clear h5;unfold valc;rw [hk] at h hw1 j0 ⊢;have HK := hid hk;clear hf1 hr1 hk hv hf2 hp2 hrr hr
 skip
 all_goals
  go_enter Tryz.func45, Tryz.ntmps45
  go_upto_region 2 with (refine store_st vSz rfl (.tmp 3) (.tmp 6) rfl p (by rfl) (vls ⟨_, 0, 0, []⟩) (by rfl) _ _ HP2.out rfl rfl (v_one _) ?_)
  intro w3 hr3 hf3;clear hw1 hw2 hg hp j0 j1 j2 j3;have hp3 : RowV w3 p ⟨_, 0, 0, []⟩ := hr3;have hg3 : RowV w3 g v := HR2.out.fr hf3 HGP.out.1;have HF3 := hid (HF2.out.trans hf3 (fun b hb h => by have := HGP.out.2; omega));obtain ⟨j0, j1, j2, j3⟩ := hg3.cells;rw [HK.out] at j0;clear hr3 hf3 hp3 hg3;go_wp2_with fail;go_ret;exact ⟨by rw [← HRR.out]; rfl, HF3.out⟩
theorem rvRight_any (v : V) (w : World) (hv : v.ok) (hb : v.s.length ≤ 1000000) : Calls Tryz.prog 45 #[valc v] w fun e w' => e = .returned (.bool (rightV v)) ∧ Fr (fun _ => False) w w' := by
 have hc := cl_le v.k;rcases (show cl v.k = 0 ∨ cl v.k = 1 ∨ cl v.k = 2 ∨ cl v.k = 3 ∨ cl v.k = 4 ∨ cl v.k = 5 by omega) with e | e | e | e | e | e
 · exact rrightO0_any v w hv hb e
 · exact rrightO1_any v w hv hb e
 · exact rrightO2_any v w hv hb e
 · by_cases h : 4000 < v.s.length
   · exact rrightO3b_any v w hv hb e h
   · by_cases h2 : wh v.s = v.s.length
     · exact rrightO3y_any v w hv hb e h h2
     · exact rrightO3n_any v w hv hb e h h2
 · by_cases h : 4000 < v.s.length
   · exact rrightO4b_any v w hv hb e h
   · exact rrightO4s_any v w hv hb e h
 · exact rrightO5_any v w hv hb e
end
section
open Go.RowKit Mem Go.Lib LebM UtfM VaM OpM
attribute [local go_sem ↓] Go.wp_at_zero Go.wp_at_succ
theorem right_bools (p1 n2 i2 kd il a b c d vl e5 e6 rs : Bool) : (p1 && (if kd then a && b && (!n2) && !il else e6 && (!n2 || i2)) && c && d && vl && (e5 && rs)) =
 ((p1 && (!n2 || i2)) && !(kd && (n2 || il || !a || !b)) && !(!kd && !e6 || !c || !d || !vl || !e5) && rs) := by
 cases kd <;> cases n2 <;> cases p1 <;> simp [Bool.and_assoc, Bool.and_comm, Bool.and_left_comm]
theorem roRight_any (x : Om) (w : World) (hs : x.short) (hv : x.o.val.ok) (hpr : Prd w x) : Calls Tryz.prog 18 #[opc x] w fun e w' => e = .returned (.bool (rightO x.o)) ∧ Fr (fun _ => False) w w' := by
 obtain ⟨g, w1, hg, hw1, hr1, hf1⟩ := new_ols w x;obtain ⟨b1, b2, b3, b4, b5, b6⟩ := hs;obtain ⟨g3, hg3⟩ := nm_ w1.heap.size;obtain ⟨w2, hw2⟩ : ∃ w2, w1.alloc (.cells #[.int .i64 0, .string ⟨#[]⟩] 50) = w2 := ⟨_, rfl⟩
 have hf2 : Fr (fun _ => False) w1 w2 := by rw [← hw2]; exact (Fr.refl _ _).alloc _
 have hz2 : RowN w2 g3 zeroN := by rw [← hw2, ← hg3]; exact RowN.new w1 zeroN
 have hgg : g < g3 := by have := hr1.lt; omega
 have HGG : Hid (g ≠ g3 ∧ w.heap.size ≤ g3) := Lib.hid (by have := hf1.size; omega);have HX2 := Lib.hid (hr1.fr hf2 (fun h => h));have HZ2 := Lib.hid hz2;have HF2 := Lib.hid (hf1.trans hf2 im_);have hi1 := fun w => rid_any x.o.obj w (by omega);have hi2 := fun w => rid_any x.o.elem w (by omega);have hwh := fun w => rWhere_any x.o.key w (by omega);have hrv := fun w => rvRight_any x.o.val w hv b4;obtain ⟨n1, hn1⟩ := nm_ ((!zeroB x.o.obj));obtain ⟨n2, hn2⟩ := nm_ ((!zeroB x.o.elem));obtain ⟨i1, hie1⟩ := nm_ (idB x.o.obj);obtain ⟨i2, hie2⟩ := nm_ (idB x.o.elem);obtain ⟨kd, hkd⟩ := nm_ x.o.keyed;obtain ⟨il, hil⟩ := nm_ x.o.ins;obtain ⟨vl, hvl⟩ := nm_ (rightV x.o.val);obtain ⟨wk, hwk⟩ := nm_ (wh x.o.key);obtain ⟨lk, hlk⟩ : ∃ z, z = x.o.key.length := ⟨_, rfl⟩
 obtain ⟨lp, hlp⟩ := nm_ x.o.pr.length;have hwl := wh_le x.o.key;have hke : decide (x.o.key = []) = decide (lk = 0) := by rw [hlk]; exact decide_eq_decide.2 List.length_eq_zero_iff.symm
 have hq1 := n_neq0 x.o.obj;have hq2 := n_neq0 x.o.elem;have hsk := txt_sz x.o.key;have hz1 : zeroB x.o.obj = !n1 := by rw [← hn1]; simp
 have hz2 : zeroB x.o.elem = !n2 := by rw [← hn2]; simp
 have hro : rightO x.o = (((!n1 || i1) && (!n2 || i2)) && !(kd && (n2 || il || decide (4000 < lk) || decide (wk < lk))) && !(!kd && decide (0 < lk) || decide (x.o.act < 0) || decide (1000 < x.o.act) || !vl || decide (16 < lp)) && riseB zeroN x.o.pr) := by
  unfold rightO keyB ptB predsB;rw [hz1, hz2, hie1, hie2, hkd, hil, hvl, hwk, ← hlk, hlp, hke];have e1 : decide (4000 < lk) = !decide (lk ≤ 4000) := by rw [← decide_not]; exact decide_eq_decide.2 (by omega)
  have e2 : decide (wk < lk) = !(wk == lk) := by
   rw [hwk, ← hlk] at hwl;by_cases h : wk = lk
   · simp [h]
   · have h1 : (wk == lk) = false := by simp [h]
     rw [h1];simp;omega
  have e3 : decide (x.o.act < 0) = !decide (0 ≤ x.o.act) := by rw [← decide_not]; exact decide_eq_decide.2 (by omega)
  have e4 : decide (1000 < x.o.act) = !decide (x.o.act ≤ 1000) := by rw [← decide_not]; exact decide_eq_decide.2 (by omega)
  have e5 : decide (16 < lp) = !decide (lp ≤ 16) := by rw [← decide_not]; exact decide_eq_decide.2 (by omega)
  have e6 : decide (0 < lk) = !decide (lk = 0) := by rw [← decide_not]; exact decide_eq_decide.2 (by omega)
  rw [e1, e2, e3, e4, e5, e6];exact right_bools _ _ _ _ _ _ _ _ _ _ _ _ _
 rw [hro];obtain ⟨p, hpe⟩ := nm_ (((!n1 || i1) && (!n2 || i2)));obtain ⟨q4, hq4⟩ := nm_ ((kd && (n2 || il || decide (4000 < lk) || decide (wk < lk))));obtain ⟨q6, hq6⟩ := nm_ ((!kd && decide (0 < lk) || decide (x.o.act < 0) || decide (1000 < x.o.act) || !vl || decide (16 < lp)));obtain ⟨r, hr⟩ := nm_ (riseB zeroN x.o.pr);rw [hpe, hq4, hq6, hr];rw [hn1] at hq1;rw [hn2] at hq2;obtain ⟨q1a, q1b⟩ := hq1;obtain ⟨q2a, q2b⟩ := hq2;simp only [hie1] at hi1;simp only [hie2] at hi2;simp only [hwk] at hwh;simp only [hvl] at hrv;rw [← hlk] at hsk b3;unfold nmc at hi1 hi2;unfold valc at hrv;unfold opc;have HPE := Lib.hid hpe;have HQ4 := Lib.hid hq4;have HQ6 := Lib.hid hq6;have HR := Lib.hid hr;have HI1 := Lib.hid hi1;have HI2 := Lib.hid hi2;have HWH := Lib.hid hwh;have HRV := Lib.hid hrv;have HKD := Lib.hid hkd;have HIN := Lib.hid hil;have HLP := Lib.hid hlp;have HPR := Lib.hid hpr;have HB6 := Lib.hid b6;rw [hlp] at b5;clear hf1 hf2 hr1 hz2 hgg hi1 hi2 hwh hrv hn1 hn2 hie1 hie2 hkd hil hvl hwk hlk hlp hwl hke hz1 hro hpe hq4 hq6 hr hpr hv b1 b2 b4 b6;go_enter Tryz.func18, Tryz.ntmps18
 go_upto_region 2 with (refine store_st nSz rfl (.tmp 3) (.tmp 5) rfl g3 (by rfl) (nls zeroN) (by rfl) _ _ HZ2.out rfl rfl (n_one _) ?_)
 intro w3 hr3 hf3;have HZ3 : Hid (RowN w3 g3 zeroN) := Lib.hid hr3;have HX3 := Lib.hid (HX2.out.fr hf3 HGG.out.1);have HF3 := Lib.hid (HF2.out.trans hf3 (fun b hb h => by have := HGG.out.2; omega));clear hw1 hw2 hg hg3 hr3 hf3;obtain ⟨c0, c1, c2, c3, c4, c5, c6, c7, c8, c9, c10, c11, c12⟩ := HX3.out.cells;rw [HKD.out] at c3;rw [HIN.out] at c6;rw [HLP.out] at c12;have z0 : w3.cell? ⟨g3, 0, none⟩ = some (.int .i64 0) := HZ3.out.cells.1;have z1 : w3.cell? ⟨g3, 1, none⟩ = some (.string ⟨#[]⟩) := HZ3.out.cells.2
 go_upto_region 2 with fail
 go_cut [27] (fun v wx => v = .bool (!p) ∧ RowO wx g x ∧ RowN wx g3 zeroN ∧ Fr (fun _ => False) w wx)
 case first =>
  cases n1 with
  | false =>
   cases n2 with
   | false =>
    go_wp2_with fail
    go_meet
    exact ⟨by rw [← HPE.out]; first | rfl | (cases i2 <;> rfl), HX3.out, HZ3.out, HF3.out⟩
   | true =>
    go_wp2_with fail;refine (HI2.out _).mono ?_;rintro e w4 ⟨rfl, hf⟩;have HF4 := Lib.hid (HF3.out.trans hf im_);have HX4 := Lib.hid (HX3.out.fr hf (fun h => h));have HZ4 := Lib.hid (HZ3.out.fr hf (fun h => h));clear hf c0 c1 c2 c3 c4 c5 c6 c7 c8 c9 c10 c11 c12 z0 z1;obtain ⟨c0, c1, c2, c3, c4, c5, c6, c7, c8, c9, c10, c11, c12⟩ := HX4.out.cells;rw [HKD.out] at c3;rw [HIN.out] at c6;rw [HLP.out] at c12;have z0 : w4.cell? ⟨g3, 0, none⟩ = some (.int .i64 0) := HZ4.out.cells.1;have z1 : w4.cell? ⟨g3, 1, none⟩ = some (.string ⟨#[]⟩) := HZ4.out.cells.2;go_wp2_with fail
    go_meet
    exact ⟨by rw [← HPE.out]; first | rfl | (cases i2 <;> rfl), HX4.out, HZ4.out, HF4.out⟩
  | true =>
   go_wp2_with fail;refine (HI1.out _).mono ?_;rintro e w4 ⟨rfl, hf⟩;have HF4 := Lib.hid (HF3.out.trans hf im_);have HX4 := Lib.hid (HX3.out.fr hf (fun h => h));have HZ4 := Lib.hid (HZ3.out.fr hf (fun h => h));clear hf c0 c1 c2 c3 c4 c5 c6 c7 c8 c9 c10 c11 c12 z0 z1;obtain ⟨c0, c1, c2, c3, c4, c5, c6, c7, c8, c9, c10, c11, c12⟩ := HX4.out.cells;rw [HKD.out] at c3;rw [HIN.out] at c6;rw [HLP.out] at c12;have z0 : w4.cell? ⟨g3, 0, none⟩ = some (.int .i64 0) := HZ4.out.cells.1;have z1 : w4.cell? ⟨g3, 1, none⟩ = some (.string ⟨#[]⟩) := HZ4.out.cells.2;cases i1 with
   | false =>
    go_wp2_with fail
    go_meet
    exact ⟨by rw [← HPE.out]; first | rfl | (cases i2 <;> rfl), HX4.out, HZ4.out, HF4.out⟩
   | true =>
    cases n2 with
    | false =>
     go_wp2_with fail
     go_meet
     exact ⟨by rw [← HPE.out]; first | rfl | (cases i2 <;> rfl), HX4.out, HZ4.out, HF4.out⟩
    | true =>
     go_wp2_with fail;refine (HI2.out _).mono ?_;rintro e w5 ⟨rfl, hf⟩;have HF5 := Lib.hid (HF4.out.trans hf im_);have HX5 := Lib.hid (HX4.out.fr hf (fun h => h));have HZ5 := Lib.hid (HZ4.out.fr hf (fun h => h));clear hf c0 c1 c2 c3 c4 c5 c6 c7 c8 c9 c10 c11 c12 z0 z1;obtain ⟨c0, c1, c2, c3, c4, c5, c6, c7, c8, c9, c10, c11, c12⟩ := HX5.out.cells;rw [HKD.out] at c3;rw [HIN.out] at c6;rw [HLP.out] at c12;have z0 : w5.cell? ⟨g3, 0, none⟩ = some (.int .i64 0) := HZ5.out.cells.1;have z1 : w5.cell? ⟨g3, 1, none⟩ = some (.string ⟨#[]⟩) := HZ5.out.cells.2;go_wp2_with fail
     go_meet
     exact ⟨by rw [← HPE.out]; first | rfl | (cases i2 <;> rfl), HX5.out, HZ5.out, HF5.out⟩
 case rest =>
 clear c0 c1 c2 c3 c4 c5 c6 c7 c8 c9 c10 c11 c12 z0 z1;obtain ⟨rfl, hx, hz, hf⟩ := hcut
 rename World => w5
 have HX5 := Lib.hid hx;have HZ5 := Lib.hid hz;have HF5 := Lib.hid hf;clear hx hz hf;obtain ⟨c0, c1, c2, c3, c4, c5, c6, c7, c8, c9, c10, c11, c12⟩ := HX5.out.cells;rw [HKD.out] at c3;rw [HIN.out] at c6;rw [HLP.out] at c12;have z0 : w5.cell? ⟨g3, 0, none⟩ = some (.int .i64 0) := HZ5.out.cells.1;have z1 : w5.cell? ⟨g3, 1, none⟩ = some (.string ⟨#[]⟩) := HZ5.out.cells.2;cases p with
 | false =>
  go_wp2_with fail;go_ret;exact ⟨rfl, HF5.out⟩
 | true =>
  go_upto_region 4 with fail
  go_cut [54] (fun v wx => v = .bool q4 ∧ RowO wx g x ∧ RowN wx g3 zeroN ∧ Fr (fun _ => False) w wx)
  case first =>
   cases kd with
   | false =>
    go_quiet (fail)
    go_wp2_with fail
    go_meet
    exact ⟨by rw [← HQ4.out]; rfl, HX5.out, HZ5.out, HF5.out.drewN _⟩
   | true =>
    cases n2 with
    | true =>
     go_quiet (fail)
     go_wp2_with fail
     go_meet
     exact ⟨by rw [← HQ4.out]; rfl, HX5.out, HZ5.out, HF5.out.drewN _⟩
    | false =>
     cases il with
     | true =>
      go_quiet (fail)
      go_wp2_with fail
      go_meet
      exact ⟨by rw [← HQ4.out]; rfl, HX5.out, HZ5.out, HF5.out.drewN _⟩
     | false =>
      by_cases h4 : 4000 < lk
      · have t1 : decide ((4000 : Int) < (lk : Int)) = true := decide_eq_true (by omega);have t1' : decide (4000 < lk) = true := decide_eq_true (by omega)
        go_quiet (fail)
        go_wp2_with fail
        go_meet
        exact ⟨by rw [← HQ4.out, t1']; rfl, HX5.out, HZ5.out, HF5.out.drewN _⟩
      · have t1 : decide ((4000 : Int) < (lk : Int)) = false := decide_eq_false (by omega);have t1' : decide (4000 < lk) = false := decide_eq_false (by omega);obtain ⟨s, hs⟩ := nm_ (decide (wk < lk));have t2 : decide ((wk : Int) < (lk : Int)) = s := by rw [← hs]; exact decide_eq_decide.2 (by omega)
        have HS := Lib.hid hs;clear h4 hs;refine wp_region_noPanic ?_;refine wp_region_held_drew (S := fun w' => Fr (fun _ => False) w5 w') (by kernel_rfl) ?_ (fun hHeld => ?_)
        · exact (Fr.refl _ _).drew
        refine tk 0 hHeld ?_;refine tk 1 hHeld ?_ (hy := by intro w hSw; (try dsimp only at hSw); obtain ⟨c0, c1, c2, c3, c4, c5, c6, c7, c8, c9, c10, c11, c12⟩ := (HX5.out.fr hSw (fun h => h)).cells; rw [HKD.out] at c3; rw [HIN.out] at c6; have z0 : _ = some (Value.int .i64 0) := (HZ5.out.fr hSw (fun h => h)).cells.1; have z1 : _ = some (Value.string ⟨#[]⟩) := (HZ5.out.fr hSw (fun h => h)).cells.2; go_simp; try (with_reducible rfl));refine tk 2 hHeld ?_;refine tk 3 hHeld ?_;refine tk 4 hHeld ?_ (hy := by intro w hSw; (try dsimp only at hSw); obtain ⟨c0, c1, c2, c3, c4, c5, c6, c7, c8, c9, c10, c11, c12⟩ := (HX5.out.fr hSw (fun h => h)).cells; rw [HKD.out] at c3; rw [HIN.out] at c6; have z0 : _ = some (Value.int .i64 0) := (HZ5.out.fr hSw (fun h => h)).cells.1; have z1 : _ = some (Value.string ⟨#[]⟩) := (HZ5.out.fr hSw (fun h => h)).cells.2; go_simp; try (with_reducible rfl));refine tk 5 hHeld ?_ (hy := by intro w hSw; (try dsimp only at hSw); obtain ⟨c0, c1, c2, c3, c4, c5, c6, c7, c8, c9, c10, c11, c12⟩ := (HX5.out.fr hSw (fun h => h)).cells; rw [HKD.out] at c3; rw [HIN.out] at c6; have z0 : _ = some (Value.int .i64 0) := (HZ5.out.fr hSw (fun h => h)).cells.1; have z1 : _ = some (Value.string ⟨#[]⟩) := (HZ5.out.fr hSw (fun h => h)).cells.2; go_simp; try (with_reducible rfl));refine tk 6 hHeld ?_;refine tk 7 hHeld ?_;refine tk 8 hHeld ?_;refine tk 9 hHeld ?_ (hy := by intro w hSw; (try dsimp only at hSw); obtain ⟨c0, c1, c2, c3, c4, c5, c6, c7, c8, c9, c10, c11, c12⟩ := (HX5.out.fr hSw (fun h => h)).cells; rw [HKD.out] at c3; rw [HIN.out] at c6; have z0 : _ = some (Value.int .i64 0) := (HZ5.out.fr hSw (fun h => h)).cells.1; have z1 : _ = some (Value.string ⟨#[]⟩) := (HZ5.out.fr hSw (fun h => h)).cells.2; go_simp; try (with_reducible rfl));refine tk 10 hHeld ?_;refine tk 11 hHeld ?_;refine tk 12 hHeld ?_;refine tk 13 hHeld ?_ (hy := by intro w hSw; (try dsimp only at hSw); obtain ⟨c0, c1, c2, c3, c4, c5, c6, c7, c8, c9, c10, c11, c12⟩ := (HX5.out.fr hSw (fun h => h)).cells; rw [HKD.out] at c3; rw [HIN.out] at c6; have z0 : _ = some (Value.int .i64 0) := (HZ5.out.fr hSw (fun h => h)).cells.1; have z1 : _ = some (Value.string ⟨#[]⟩) := (HZ5.out.fr hSw (fun h => h)).cells.2; go_simp; try (with_reducible rfl));refine tk 14 hHeld ?_;refine tk 15 hHeld ?_;refine tk 16 hHeld ?_;refine tk 17 hHeld ?_;refine tk 18 hHeld ?_;refine tk 19 hHeld ?_ (hy := by intro w hSw; (try dsimp only at hSw); obtain ⟨c0, c1, c2, c3, c4, c5, c6, c7, c8, c9, c10, c11, c12⟩ := (HX5.out.fr hSw (fun h => h)).cells; rw [HKD.out] at c3; rw [HIN.out] at c6; have z0 : _ = some (Value.int .i64 0) := (HZ5.out.fr hSw (fun h => h)).cells.1; have z1 : _ = some (Value.string ⟨#[]⟩) := (HZ5.out.fr hSw (fun h => h)).cells.2; go_simp; try (with_reducible rfl));refine tk 21 hHeld ?_;refine tk 22 hHeld ?_ (hy := by intro w hSw; (try dsimp only at hSw); obtain ⟨c0, c1, c2, c3, c4, c5, c6, c7, c8, c9, c10, c11, c12⟩ := (HX5.out.fr hSw (fun h => h)).cells; rw [HKD.out] at c3; rw [HIN.out] at c6; have z0 : _ = some (Value.int .i64 0) := (HZ5.out.fr hSw (fun h => h)).cells.1; have z1 : _ = some (Value.string ⟨#[]⟩) := (HZ5.out.fr hSw (fun h => h)).cells.2; go_simp; try (with_reducible rfl));refine tk 23 hHeld ?_;refine rdo 20 (fun Kx hKx => ?_)
        go_simp
        have hcon := HWH.out (w5.drew)
        with_reducible refine hcon.mono ?_
        clear hcon;rintro e' w6 ⟨rfl, hff⟩;have HFw6 : Hid (Fr (fun _ => False) w5 w6) := Lib.hid ((Fr.refl _ _).drew.trans hff im_);have HX6 := Lib.hid (HX5.out.fr HFw6.out (fun h => h));have HZ6 := Lib.hid (HZ5.out.fr HFw6.out (fun h => h));have HF6 := Lib.hid (HF5.out.trans HFw6.out im_);refine hKx.out _ _ ?_ (fun hHeld => ?_)
        · exact HFw6.out
        clear hKx Kx hff
        (try simp only [Act.put, List.setIfInBounds_toArray, List.set_cons_zero, List.set_cons_succ, List.getElem_toArray, List.getElem_cons_zero, List.getElem_cons_succ])
        refine wpAnyH_more (fun w' => Fr (fun _ => False) w6 w') (fun _ h => HFw6.out.trans h im_) ?_ (fun hHeld => ?_)
        · exact Fr.refl _ _
        refine tk 24 hHeld ?_;refine tk 25 hHeld ?_;refine tk 26 hHeld ?_;refine wpAnyH_done (by kernel_rfl) ?_ _;refine NoPanic.normal ?_;go_wp2_with fail
        go_meet
        exact ⟨by rw [← HQ4.out, t1', HS.out]; rfl, HX6.out, HZ6.out, HF6.out⟩
  case rest =>
  clear c0 c1 c2 c3 c4 c5 c6 c7 c8 c9 c10 c11 c12 z0 z1;obtain ⟨rfl, hx, hz, hf⟩ := hcut
  rename World => w7
  have HX7 := Lib.hid hx;have HZ7 := Lib.hid hz;have HF7 := Lib.hid hf;clear hx hz hf;obtain ⟨c0, c1, c2, c3, c4, c5, c6, c7, c8, c9, c10, c11, c12⟩ := HX7.out.cells;rw [HKD.out] at c3;rw [HIN.out] at c6;rw [HLP.out] at c12;have z0 : w7.cell? ⟨g3, 0, none⟩ = some (.int .i64 0) := HZ7.out.cells.1;have z1 : w7.cell? ⟨g3, 1, none⟩ = some (.string ⟨#[]⟩) := HZ7.out.cells.2;cases q4 with
  | true =>
   go_wp2_with fail;go_ret;exact ⟨rfl, HF7.out⟩
  | false =>
   go_upto_region 6 with fail
   go_cut [85] (fun v wx => v = .bool q6 ∧ RowO wx g x ∧ RowN wx g3 zeroN ∧ Fr (fun _ => False) w wx)
   case first =>
    cases kd with
    | true =>
     by_cases g1 : x.o.act < 0
     · have t1 : decide (x.o.act < 0) = true := decide_eq_true g1;go_wp2_with fail
       go_meet
       exact ⟨by rw [← HQ6.out]; simp [t1], HX7.out, HZ7.out, HF7.out⟩
     · have t1 : decide (x.o.act < 0) = false := decide_eq_false g1;by_cases g2 : 1000 < x.o.act
       · have t2 : decide (1000 < x.o.act) = true := decide_eq_true g2;go_wp2_with fail
         go_meet
         exact ⟨by rw [← HQ6.out]; simp [t2], HX7.out, HZ7.out, HF7.out⟩
       · have t2 : decide (1000 < x.o.act) = false := decide_eq_false g2;go_wp2_with fail;refine (HRV.out _).mono ?_;rintro e w8 ⟨rfl, hf⟩;have HF8 := Lib.hid (HF7.out.trans hf im_);have HX8 := Lib.hid (HX7.out.fr hf (fun h => h));have HZ8 := Lib.hid (HZ7.out.fr hf (fun h => h));clear hf c0 c1 c2 c3 c4 c5 c6 c7 c8 c9 c10 c11 c12 z0 z1;obtain ⟨c0, c1, c2, c3, c4, c5, c6, c7, c8, c9, c10, c11, c12⟩ := HX8.out.cells;rw [HKD.out] at c3;rw [HIN.out] at c6;rw [HLP.out] at c12;have z0 : w8.cell? ⟨g3, 0, none⟩ = some (.int .i64 0) := HZ8.out.cells.1;have z1 : w8.cell? ⟨g3, 1, none⟩ = some (.string ⟨#[]⟩) := HZ8.out.cells.2;cases vl with
         | false =>
          go_wp2_with fail
          go_meet
          exact ⟨by rw [← HQ6.out]; simp, HX8.out, HZ8.out, HF8.out⟩
         | true =>
          by_cases g3' : 16 < lp
          · have t3 : decide ((16 : Int) < (lp : Int)) = true := decide_eq_true (by omega);have t3' : decide (16 < lp) = true := decide_eq_true (by omega);go_wp2_with fail
            go_meet
            exact ⟨by rw [← HQ6.out]; simp [t3'], HX8.out, HZ8.out, HF8.out⟩
          · have t3 : decide ((16 : Int) < (lp : Int)) = false := decide_eq_false (by omega);have t3' : decide (16 < lp) = false := decide_eq_false (by omega);go_wp2_with fail
            go_meet
            exact ⟨by rw [← HQ6.out]; simp [*], HX8.out, HZ8.out, HF8.out⟩
    | false =>
     by_cases g0 : 0 < lk
     · have t0 : decide ((0 : Int) < (lk : Int)) = true := decide_eq_true (by omega);have t0' : decide (0 < lk) = true := decide_eq_true (by omega);go_wp2_with fail
       go_meet
       exact ⟨by rw [← HQ6.out, t0']; rfl, HX7.out, HZ7.out, HF7.out⟩
     · have t0 : decide ((0 : Int) < (lk : Int)) = false := decide_eq_false (by omega);have t0' : decide (0 < lk) = false := decide_eq_false (by omega);by_cases g1 : x.o.act < 0
       · have t1 : decide (x.o.act < 0) = true := decide_eq_true g1;go_wp2_with fail
         go_meet
         exact ⟨by rw [← HQ6.out]; simp [t1], HX7.out, HZ7.out, HF7.out⟩
       · have t1 : decide (x.o.act < 0) = false := decide_eq_false g1;by_cases g2 : 1000 < x.o.act
         · have t2 : decide (1000 < x.o.act) = true := decide_eq_true g2;go_wp2_with fail
           go_meet
           exact ⟨by rw [← HQ6.out]; simp [t2], HX7.out, HZ7.out, HF7.out⟩
         · have t2 : decide (1000 < x.o.act) = false := decide_eq_false g2;go_wp2_with fail;refine (HRV.out _).mono ?_;rintro e w8 ⟨rfl, hf⟩;have HF8 := Lib.hid (HF7.out.trans hf im_);have HX8 := Lib.hid (HX7.out.fr hf (fun h => h));have HZ8 := Lib.hid (HZ7.out.fr hf (fun h => h));clear hf c0 c1 c2 c3 c4 c5 c6 c7 c8 c9 c10 c11 c12 z0 z1;obtain ⟨c0, c1, c2, c3, c4, c5, c6, c7, c8, c9, c10, c11, c12⟩ := HX8.out.cells;rw [HKD.out] at c3;rw [HIN.out] at c6;rw [HLP.out] at c12;have z0 : w8.cell? ⟨g3, 0, none⟩ = some (.int .i64 0) := HZ8.out.cells.1;have z1 : w8.cell? ⟨g3, 1, none⟩ = some (.string ⟨#[]⟩) := HZ8.out.cells.2;cases vl with
           | false =>
            go_wp2_with fail
            go_meet
            exact ⟨by rw [← HQ6.out]; simp, HX8.out, HZ8.out, HF8.out⟩
           | true =>
            by_cases g3' : 16 < lp
            · have t3 : decide ((16 : Int) < (lp : Int)) = true := decide_eq_true (by omega);have t3' : decide (16 < lp) = true := decide_eq_true (by omega);go_wp2_with fail
              go_meet
              exact ⟨by rw [← HQ6.out]; simp [t3'], HX8.out, HZ8.out, HF8.out⟩
            · have t3 : decide ((16 : Int) < (lp : Int)) = false := decide_eq_false (by omega);have t3' : decide (16 < lp) = false := decide_eq_false (by omega);go_wp2_with fail
              go_meet
              exact ⟨by rw [← HQ6.out]; simp [*], HX8.out, HZ8.out, HF8.out⟩
   case rest =>
   clear c0 c1 c2 c3 c4 c5 c6 c7 c8 c9 c10 c11 c12 z0 z1;obtain ⟨rfl, hx, hz, hf⟩ := hcut
   rename World => w8
   have HX8 := Lib.hid hx;have HZ8 := Lib.hid hz;have HF8 := Lib.hid hf;clear hx hz hf;obtain ⟨c0, c1, c2, c3, c4, c5, c6, c7, c8, c9, c10, c11, c12⟩ := HX8.out.cells;rw [HKD.out] at c3;rw [HIN.out] at c6;rw [HLP.out] at c12;have z0 : w8.cell? ⟨g3, 0, none⟩ = some (.int .i64 0) := HZ8.out.cells.1;have z1 : w8.cell? ⟨g3, 1, none⟩ = some (.string ⟨#[]⟩) := HZ8.out.cells.2;cases q6 with
   | true =>
    go_wp2_with fail;go_ret;exact ⟨by simp, HF8.out⟩
   | false =>
    go_wp2_with fail;clear c0 c1 c2 c3 c4 c5 c6 c7 c8 c9 c10 c11 c12 z0 z1
    go_loopw [4] (fun i wr => ∃ k : Nat, k ≤ lp ∧ i = .int .i64 (k : Int) ∧ Hid (riseB zeroN (x.o.pr.take k) = true) ∧ Hid (RowO wr g x) ∧ Hid (RowN wr g3 zeroN) ∧ Hid (Fr (fun _ => False) w wr)) (fun i _ => lp - (intOf i).toNat)
    case atStart => exact ⟨0, Nat.zero_le _, rfl, (rfl : riseB zeroN (x.o.pr.take 0) = true), HX8, HZ8, HF8⟩
    case round =>
     obtain ⟨k, hk, rfl, HRS, HX9, HZ9, HF9⟩ := hrel
     rename World => w9
     by_cases hlt : k < lp
     · obtain ⟨y, hy⟩ : ∃ y, x.o.pr[k]? = some y := ⟨_, List.getElem?_eq_getElem (by have := HLP.out; omega)⟩
       obtain ⟨gb, ob, hA, _, _, _⟩ := HPR.out.1.2 k y hy;have HE : Hid (∀ w', Fr (fun _ => False) w w' → w'.cell? ⟨gb, ob + k * 2, none⟩ = some (.int .i64 y.c) ∧ w'.cell? ⟨gb, ob + k * 2 + 1, none⟩ = some (.string (txt y.a))) := Lib.hid (fun w' hf => by
        obtain ⟨g', o', e, _, e0, e1⟩ := HPR.out.1.2 k y hy;rw [hA] at e;injection e with e
        injection e with e1' e2'
        subst e1' e2';exact ⟨hf.cell e0 (fun h => h), hf.cell e1 (fun h => h)⟩)
       obtain ⟨j, hj⟩ : ∃ j, j = k - 1 := ⟨_, rfl⟩
       obtain ⟨u, hu⟩ : ∃ u, x.o.pr[j]? = some u := ⟨_, List.getElem?_eq_getElem (by have := HLP.out; omega)⟩
       have HP : Hid (∀ w', Fr (fun _ => False) w w' → w'.cell? ⟨gb, ob + j * 2, none⟩ = some (.int .i64 u.c) ∧ w'.cell? ⟨gb, ob + j * 2 + 1, none⟩ = some (.string (txt u.a))) := Lib.hid (fun w' hf => by
        obtain ⟨g', o', e, _, e0, e1⟩ := HPR.out.1.2 j u hu;rw [hA] at e;injection e with e
        injection e with e1' e2'
        subst e1' e2';exact ⟨hf.cell e0 (fun h => h), hf.cell e1 (fun h => h)⟩)
       have hyl := HB6.out y (List.mem_of_getElem? hy);have hul := HB6.out u (List.mem_of_getElem? hu);have hid := fun w => rid_any y w (by omega);have hls := fun w => rless_any u y w (by omega) (by omega);have htk : x.o.pr.take (k + 1) = x.o.pr.take k ++ [y] := by rw [List.take_add_one, hy]; rfl
       have hrs : riseB zeroN (x.o.pr.take (k + 1)) = (idB y && (!decide (0 < k) || lessN u y)) := by
        rw [htk, rise_snoc, HRS.out, Bool.true_and];cases hid : idB y with
        | false => rfl
        | true =>
         rw [Bool.true_and, Bool.true_and];by_cases h0 : 0 < k
         · rw [decide_eq_true h0, Bool.not_true, Bool.false_or];have e : k = j + 1 := by omega
           have : lastN (x.o.pr.take k) = u := by
            rw [e, List.take_add_one, hu];unfold lastN;rw [List.getLast?_append];rfl
           rw [this]
         · obtain rfl : k = 0 := by omega
           exact zero_less hid
       obtain ⟨i, hi⟩ := nm_ (idB y);obtain ⟨s, hs⟩ := nm_ (lessN u y);rw [hi, hs] at hrs;simp only [hi] at hid;simp only [hs] at hls;unfold nmc at hid hls;have hjl : j < lp := by omega
       have hjl' : (j : Int) < (lp : Int) := by omega
       have hlt' : (k : Int) < (lp : Int) := by omega
       have HID := Lib.hid hid;have HLS := Lib.hid hls;have HRS2 := Lib.hid hrs;have HA := Lib.hid hA;obtain ⟨v, hv⟩ := nm_ ((i && (!decide (0 < k) || s)));have HV := Lib.hid hv;have hw : 0 < k → IntKind.i64.wrap ((k : Int) - 1) = (j : Int) := fun h => by rw [IntKind.wrap_i64]; omega
       have HW := Lib.hid hw;clear hy hu hyl hul hid hls htk hrs hi hs hA hv hj hw;obtain ⟨c0, c1, c2, c3, c4, c5, c6, c7, c8, c9, c10, c11, c12⟩ := HX9.out.cells;rw [HLP.out, HA.out] at c12
       go_upto_region 11 with fail
       clear c0 c1 c2 c3 c4 c5 c6 c7 c8 c9 c10 c11 c12
       go_cut [118] (fun t wx => t = .bool (!v) ∧ RowO wx g x ∧ RowN wx g3 zeroN ∧ Fr (fun _ => False) w wx)
       case first =>
        cases i with
        | false =>
         refine wp_region_noPanic ?_;refine wp_region_held_drew (S := fun w' => Fr (fun _ => False) w9 w') (by kernel_rfl) ?_ (fun hHeld => ?_)
         · exact (Fr.refl _ _).drew
         refine tk 0 hHeld ?_;refine tk 1 hHeld ?_ (hy := by intro w hSw; (try dsimp only at hSw); obtain ⟨c0, c1, c2, c3, c4, c5, c6, c7, c8, c9, c10, c11, c12⟩ := (HX9.out.fr hSw (fun h => h)).cells; rw [HLP.out, HA.out] at c12; obtain ⟨e0, e1⟩ := HE.out w (HF9.out.trans hSw im_); obtain ⟨f0, f1⟩ := HP.out w (HF9.out.trans hSw im_); go_simp; try (with_reducible rfl));refine tk 2 hHeld ?_;refine tk 3 hHeld ?_;refine tk 4 hHeld ?_ (hy := by intro w hSw; (try dsimp only at hSw); obtain ⟨c0, c1, c2, c3, c4, c5, c6, c7, c8, c9, c10, c11, c12⟩ := (HX9.out.fr hSw (fun h => h)).cells; rw [HLP.out, HA.out] at c12; obtain ⟨e0, e1⟩ := HE.out w (HF9.out.trans hSw im_); obtain ⟨f0, f1⟩ := HP.out w (HF9.out.trans hSw im_); go_simp; try (with_reducible rfl));refine rdo 5 (fun Kx hKx => ?_)
         go_simp
         have hcon := HID.out (w9.drew)
         with_reducible refine hcon.mono ?_
         clear hcon;rintro e' w10 ⟨rfl, hff⟩;have HFw10 : Hid (Fr (fun _ => False) w9 w10) := Lib.hid ((Fr.refl _ _).drew.trans hff im_);have HX10 := Lib.hid (HX9.out.fr HFw10.out (fun h => h));have HZ10 := Lib.hid (HZ9.out.fr HFw10.out (fun h => h));have HF10 := Lib.hid (HF9.out.trans HFw10.out im_);refine hKx.out _ _ ?_ (fun hHeld => ?_)
         · exact HFw10.out
         clear hKx Kx hff
         (try simp only [Act.put, List.setIfInBounds_toArray, List.set_cons_zero, List.set_cons_succ, List.getElem_toArray, List.getElem_cons_zero, List.getElem_cons_succ])
         refine wpAnyH_more (fun w' => Fr (fun _ => False) w10 w') (fun _ h => HFw10.out.trans h im_) ?_ (fun hHeld => ?_)
         · exact Fr.refl _ _
         refine tk 6 hHeld ?_;refine tk 7 hHeld ?_;refine wpAnyH_take (i := 8) (v := undef) rfl (by kernel_rfl) (by kernel_rfl) (by kernel_rfl) (fun _ _ _ h => h) (Or.inr ⟨by rfl, rfl⟩) hHeld ?_
         (try simp only [Act.put, List.setIfInBounds_toArray, List.set_cons_zero, List.set_cons_succ, List.getElem_toArray, List.getElem_cons_zero, List.getElem_cons_succ])
         refine wpAnyH_take (i := 9) (v := undef) rfl (by kernel_rfl) (by kernel_rfl) (by kernel_rfl) (fun _ _ _ h => h) (Or.inr ⟨by rfl, rfl⟩) hHeld ?_
         (try simp only [Act.put, List.setIfInBounds_toArray, List.set_cons_zero, List.set_cons_succ, List.getElem_toArray, List.getElem_cons_zero, List.getElem_cons_succ])
         refine wpAnyH_take (i := 10) (v := undef) rfl (by kernel_rfl) (by kernel_rfl) (by kernel_rfl) (fun _ _ _ h => h) (Or.inr ⟨by rfl, rfl⟩) hHeld ?_
         (try simp only [Act.put, List.setIfInBounds_toArray, List.set_cons_zero, List.set_cons_succ, List.getElem_toArray, List.getElem_cons_zero, List.getElem_cons_succ])
         refine wpAnyH_take (i := 11) (v := undef) rfl (by kernel_rfl) (by kernel_rfl) (by kernel_rfl) (fun _ _ _ h => h) (Or.inr ⟨by rfl, rfl⟩) hHeld ?_
         (try simp only [Act.put, List.setIfInBounds_toArray, List.set_cons_zero, List.set_cons_succ, List.getElem_toArray, List.getElem_cons_zero, List.getElem_cons_succ])
         refine wpAnyH_take (i := 12) (v := undef) rfl (by kernel_rfl) (by kernel_rfl) (by kernel_rfl) (fun _ _ _ h => h) (Or.inr ⟨by rfl, rfl⟩) hHeld ?_
         (try simp only [Act.put, List.setIfInBounds_toArray, List.set_cons_zero, List.set_cons_succ, List.getElem_toArray, List.getElem_cons_zero, List.getElem_cons_succ])
         refine wpAnyH_take (i := 13) (v := undef) rfl (by kernel_rfl) (by kernel_rfl) (by kernel_rfl) (fun _ _ _ h => h) (Or.inr ⟨by rfl, rfl⟩) hHeld ?_
         (try simp only [Act.put, List.setIfInBounds_toArray, List.set_cons_zero, List.set_cons_succ, List.getElem_toArray, List.getElem_cons_zero, List.getElem_cons_succ])
         refine wpAnyH_take (i := 14) (v := undef) rfl (by kernel_rfl) (by kernel_rfl) (by kernel_rfl) (fun _ _ _ h => h) (Or.inr ⟨by rfl, rfl⟩) hHeld ?_
         (try simp only [Act.put, List.setIfInBounds_toArray, List.set_cons_zero, List.set_cons_succ, List.getElem_toArray, List.getElem_cons_zero, List.getElem_cons_succ])
         refine wpAnyH_take (i := 15) (v := undef) rfl (by kernel_rfl) (by kernel_rfl) (by kernel_rfl) (fun _ _ _ h => h) (Or.inr ⟨by rfl, rfl⟩) hHeld ?_
         (try simp only [Act.put, List.setIfInBounds_toArray, List.set_cons_zero, List.set_cons_succ, List.getElem_toArray, List.getElem_cons_zero, List.getElem_cons_succ])
         refine wpAnyH_take (i := 16) (v := undef) rfl (by kernel_rfl) (by kernel_rfl) (by kernel_rfl) (fun _ _ _ h => h) (Or.inr ⟨by rfl, rfl⟩) hHeld ?_
         (try simp only [Act.put, List.setIfInBounds_toArray, List.set_cons_zero, List.set_cons_succ, List.getElem_toArray, List.getElem_cons_zero, List.getElem_cons_succ])
         refine wpAnyH_take (i := 17) (v := undef) rfl (by kernel_rfl) (by kernel_rfl) (by kernel_rfl) (fun _ _ _ h => h) (Or.inr ⟨by rfl, rfl⟩) hHeld ?_
         (try simp only [Act.put, List.setIfInBounds_toArray, List.set_cons_zero, List.set_cons_succ, List.getElem_toArray, List.getElem_cons_zero, List.getElem_cons_succ])
         refine wpAnyH_take (i := 18) (v := undef) rfl (by kernel_rfl) (by kernel_rfl) (by kernel_rfl) (fun _ _ _ h => h) (Or.inr ⟨by rfl, rfl⟩) hHeld ?_
         (try simp only [Act.put, List.setIfInBounds_toArray, List.set_cons_zero, List.set_cons_succ, List.getElem_toArray, List.getElem_cons_zero, List.getElem_cons_succ])
         refine wpAnyH_take (i := 19) (v := undef) rfl (by kernel_rfl) (by kernel_rfl) (by kernel_rfl) (fun _ _ _ h => h) (Or.inr ⟨by rfl, rfl⟩) hHeld ?_
         (try simp only [Act.put, List.setIfInBounds_toArray, List.set_cons_zero, List.set_cons_succ, List.getElem_toArray, List.getElem_cons_zero, List.getElem_cons_succ])
         refine wpAnyH_take (i := 20) (v := undef) rfl (by kernel_rfl) (by kernel_rfl) (by kernel_rfl) (fun _ _ _ h => h) (Or.inr ⟨by rfl, rfl⟩) hHeld ?_
         (try simp only [Act.put, List.setIfInBounds_toArray, List.set_cons_zero, List.set_cons_succ, List.getElem_toArray, List.getElem_cons_zero, List.getElem_cons_succ])
         refine wpAnyH_take (i := 21) (v := undef) rfl (by kernel_rfl) (by kernel_rfl) (by kernel_rfl) (fun _ _ _ h => h) (Or.inr ⟨by rfl, rfl⟩) hHeld ?_
         (try simp only [Act.put, List.setIfInBounds_toArray, List.set_cons_zero, List.set_cons_succ, List.getElem_toArray, List.getElem_cons_zero, List.getElem_cons_succ])
         refine wpAnyH_take (i := 22) (v := undef) rfl (by kernel_rfl) (by kernel_rfl) (by kernel_rfl) (fun _ _ _ h => h) (Or.inr ⟨by rfl, rfl⟩) hHeld ?_
         (try simp only [Act.put, List.setIfInBounds_toArray, List.set_cons_zero, List.set_cons_succ, List.getElem_toArray, List.getElem_cons_zero, List.getElem_cons_succ])
         refine wpAnyH_take (i := 23) (v := undef) rfl (by kernel_rfl) (by kernel_rfl) (by kernel_rfl) (fun _ _ _ h => h) (Or.inr ⟨by rfl, rfl⟩) hHeld ?_
         (try simp only [Act.put, List.setIfInBounds_toArray, List.set_cons_zero, List.set_cons_succ, List.getElem_toArray, List.getElem_cons_zero, List.getElem_cons_succ])
         refine wpAnyH_take (i := 24) (v := undef) rfl (by kernel_rfl) (by kernel_rfl) (by kernel_rfl) (fun _ _ _ h => h) (Or.inr ⟨by rfl, rfl⟩) hHeld ?_;refine tk 25 hHeld ?_;refine wpAnyH_done (by kernel_rfl) ?_ _;refine NoPanic.normal ?_;go_wp2_with fail
         go_meet
         exact ⟨by rw [← HV.out]; rfl, HX10.out, HZ10.out, HF10.out⟩
        | true =>
         by_cases h0 : 0 < k
         · have t0 : decide ((0 : Int) < (k : Int)) = true := decide_eq_true (by omega);have t0' : decide (0 < k) = true := decide_eq_true h0;have tw := HW.out h0;clear h0;refine wp_region_noPanic ?_;refine wp_region_held_drew (S := fun w' => Fr (fun _ => False) w9 w') (by kernel_rfl) ?_ (fun hHeld => ?_)
           · exact (Fr.refl _ _).drew
           refine tk 0 hHeld ?_;refine tk 1 hHeld ?_ (hy := by intro w hSw; (try dsimp only at hSw); obtain ⟨c0, c1, c2, c3, c4, c5, c6, c7, c8, c9, c10, c11, c12⟩ := (HX9.out.fr hSw (fun h => h)).cells; rw [HLP.out, HA.out] at c12; obtain ⟨e0, e1⟩ := HE.out w (HF9.out.trans hSw im_); obtain ⟨f0, f1⟩ := HP.out w (HF9.out.trans hSw im_); go_simp; try (with_reducible rfl));refine tk 2 hHeld ?_;refine tk 3 hHeld ?_;refine tk 4 hHeld ?_ (hy := by intro w hSw; (try dsimp only at hSw); obtain ⟨c0, c1, c2, c3, c4, c5, c6, c7, c8, c9, c10, c11, c12⟩ := (HX9.out.fr hSw (fun h => h)).cells; rw [HLP.out, HA.out] at c12; obtain ⟨e0, e1⟩ := HE.out w (HF9.out.trans hSw im_); obtain ⟨f0, f1⟩ := HP.out w (HF9.out.trans hSw im_); go_simp; try (with_reducible rfl));refine rdo 5 (fun Kx hKx => ?_)
           go_simp
           have hcon := HID.out (w9.drew)
           with_reducible refine hcon.mono ?_
           clear hcon;rintro e' w10 ⟨rfl, hff⟩;have HFw10 : Hid (Fr (fun _ => False) w9 w10) := Lib.hid ((Fr.refl _ _).drew.trans hff im_);have HX10 := Lib.hid (HX9.out.fr HFw10.out (fun h => h));have HZ10 := Lib.hid (HZ9.out.fr HFw10.out (fun h => h));have HF10 := Lib.hid (HF9.out.trans HFw10.out im_);refine hKx.out _ _ ?_ (fun hHeld => ?_)
           · exact HFw10.out
           clear hKx Kx hff
           (try simp only [Act.put, List.setIfInBounds_toArray, List.set_cons_zero, List.set_cons_succ, List.getElem_toArray, List.getElem_cons_zero, List.getElem_cons_succ])
           refine wpAnyH_more (fun w' => Fr (fun _ => False) w10 w') (fun _ h => HFw10.out.trans h im_) ?_ (fun hHeld => ?_)
           · exact Fr.refl _ _
           refine tk 6 hHeld ?_;refine tk 7 hHeld ?_;refine tk 8 hHeld ?_;refine tk 9 hHeld ?_;refine tk 10 hHeld ?_;refine tk 11 hHeld ?_;refine tk 12 hHeld ?_ (hy := by intro w hSw; (try dsimp only at hSw); obtain ⟨c0, c1, c2, c3, c4, c5, c6, c7, c8, c9, c10, c11, c12⟩ := (HX10.out.fr hSw (fun h => h)).cells; rw [HLP.out, HA.out] at c12; obtain ⟨e0, e1⟩ := HE.out w (HF10.out.trans hSw im_); obtain ⟨f0, f1⟩ := HP.out w (HF10.out.trans hSw im_); go_simp; try (with_reducible rfl));refine tk 13 hHeld ?_;refine tk 14 hHeld ?_;refine tk 15 hHeld ?_;refine tk 16 hHeld ?_ (hy := by intro w hSw; (try dsimp only at hSw); obtain ⟨c0, c1, c2, c3, c4, c5, c6, c7, c8, c9, c10, c11, c12⟩ := (HX10.out.fr hSw (fun h => h)).cells; rw [HLP.out, HA.out] at c12; obtain ⟨e0, e1⟩ := HE.out w (HF10.out.trans hSw im_); obtain ⟨f0, f1⟩ := HP.out w (HF10.out.trans hSw im_); go_simp; try (with_reducible rfl));refine tk 17 hHeld ?_;refine tk 18 hHeld ?_ (hy := by intro w hSw; (try dsimp only at hSw); obtain ⟨c0, c1, c2, c3, c4, c5, c6, c7, c8, c9, c10, c11, c12⟩ := (HX10.out.fr hSw (fun h => h)).cells; rw [HLP.out, HA.out] at c12; obtain ⟨e0, e1⟩ := HE.out w (HF10.out.trans hSw im_); obtain ⟨f0, f1⟩ := HP.out w (HF10.out.trans hSw im_); go_simp; try (with_reducible rfl));refine tk 19 hHeld ?_;refine tk 20 hHeld ?_;refine tk 21 hHeld ?_ (hy := by intro w hSw; (try dsimp only at hSw); obtain ⟨c0, c1, c2, c3, c4, c5, c6, c7, c8, c9, c10, c11, c12⟩ := (HX10.out.fr hSw (fun h => h)).cells; rw [HLP.out, HA.out] at c12; obtain ⟨e0, e1⟩ := HE.out w (HF10.out.trans hSw im_); obtain ⟨f0, f1⟩ := HP.out w (HF10.out.trans hSw im_); go_simp; try (with_reducible rfl));refine rdo 22 (fun Kx hKx => ?_)
           go_simp
           have hcon := HLS.out (w10)
           with_reducible refine hcon.mono ?_
           clear hcon;rintro e' w11 ⟨rfl, hff⟩;have HFw11 : Hid (Fr (fun _ => False) w10 w11) := Lib.hid (hff);have HX11 := Lib.hid (HX10.out.fr HFw11.out (fun h => h));have HZ11 := Lib.hid (HZ10.out.fr HFw11.out (fun h => h));have HF11 := Lib.hid (HF10.out.trans HFw11.out im_);refine hKx.out _ _ ?_ (fun hHeld => ?_)
           · exact HFw11.out
           clear hKx Kx hff
           (try simp only [Act.put, List.setIfInBounds_toArray, List.set_cons_zero, List.set_cons_succ, List.getElem_toArray, List.getElem_cons_zero, List.getElem_cons_succ])
           refine wpAnyH_more (fun w' => Fr (fun _ => False) w11 w') (fun _ h => HFw11.out.trans h im_) ?_ (fun hHeld => ?_)
           · exact Fr.refl _ _
           refine tk 23 hHeld ?_;refine tk 24 hHeld ?_;refine tk 25 hHeld ?_;refine wpAnyH_done (by kernel_rfl) ?_ _;refine NoPanic.normal ?_;go_wp2_with fail
           go_meet
           exact ⟨by rw [← HV.out, t0']; cases s <;> rfl, HX11.out, HZ11.out, HF11.out⟩
         · have t0 : decide ((0 : Int) < (k : Int)) = false := decide_eq_false (by omega);have t0' : decide (0 < k) = false := decide_eq_false h0;clear h0;refine wp_region_noPanic ?_;refine wp_region_held_drew (S := fun w' => Fr (fun _ => False) w9 w') (by kernel_rfl) ?_ (fun hHeld => ?_)
           · exact (Fr.refl _ _).drew
           refine tk 0 hHeld ?_;refine tk 1 hHeld ?_ (hy := by intro w hSw; (try dsimp only at hSw); obtain ⟨c0, c1, c2, c3, c4, c5, c6, c7, c8, c9, c10, c11, c12⟩ := (HX9.out.fr hSw (fun h => h)).cells; rw [HLP.out, HA.out] at c12; obtain ⟨e0, e1⟩ := HE.out w (HF9.out.trans hSw im_); obtain ⟨f0, f1⟩ := HP.out w (HF9.out.trans hSw im_); go_simp; try (with_reducible rfl));refine tk 2 hHeld ?_;refine tk 3 hHeld ?_;refine tk 4 hHeld ?_ (hy := by intro w hSw; (try dsimp only at hSw); obtain ⟨c0, c1, c2, c3, c4, c5, c6, c7, c8, c9, c10, c11, c12⟩ := (HX9.out.fr hSw (fun h => h)).cells; rw [HLP.out, HA.out] at c12; obtain ⟨e0, e1⟩ := HE.out w (HF9.out.trans hSw im_); obtain ⟨f0, f1⟩ := HP.out w (HF9.out.trans hSw im_); go_simp; try (with_reducible rfl));refine rdo 5 (fun Kx hKx => ?_)
           go_simp
           have hcon := HID.out (w9.drew)
           with_reducible refine hcon.mono ?_
           clear hcon;rintro e' w10 ⟨rfl, hff⟩;have HFw10 : Hid (Fr (fun _ => False) w9 w10) := Lib.hid ((Fr.refl _ _).drew.trans hff im_);have HX10 := Lib.hid (HX9.out.fr HFw10.out (fun h => h));have HZ10 := Lib.hid (HZ9.out.fr HFw10.out (fun h => h));have HF10 := Lib.hid (HF9.out.trans HFw10.out im_);refine hKx.out _ _ ?_ (fun hHeld => ?_)
           · exact HFw10.out
           clear hKx Kx hff
           (try simp only [Act.put, List.setIfInBounds_toArray, List.set_cons_zero, List.set_cons_succ, List.getElem_toArray, List.getElem_cons_zero, List.getElem_cons_succ])
           refine wpAnyH_more (fun w' => Fr (fun _ => False) w10 w') (fun _ h => HFw10.out.trans h im_) ?_ (fun hHeld => ?_)
           · exact Fr.refl _ _
           refine tk 6 hHeld ?_;refine tk 7 hHeld ?_;refine tk 8 hHeld ?_;refine tk 9 hHeld ?_;refine tk 10 hHeld ?_;refine wpAnyH_take (i := 11) (v := undef) rfl (by kernel_rfl) (by kernel_rfl) (by kernel_rfl) (fun _ _ _ h => h) (Or.inr ⟨by rfl, rfl⟩) hHeld ?_
           (try simp only [Act.put, List.setIfInBounds_toArray, List.set_cons_zero, List.set_cons_succ, List.getElem_toArray, List.getElem_cons_zero, List.getElem_cons_succ])
           refine wpAnyH_take (i := 12) (v := undef) rfl (by kernel_rfl) (by kernel_rfl) (by kernel_rfl) (fun _ _ _ h => h) (Or.inr ⟨by rfl, rfl⟩) hHeld ?_
           (try simp only [Act.put, List.setIfInBounds_toArray, List.set_cons_zero, List.set_cons_succ, List.getElem_toArray, List.getElem_cons_zero, List.getElem_cons_succ])
           refine wpAnyH_take (i := 13) (v := undef) rfl (by kernel_rfl) (by kernel_rfl) (by kernel_rfl) (fun _ _ _ h => h) (Or.inr ⟨by rfl, rfl⟩) hHeld ?_
           (try simp only [Act.put, List.setIfInBounds_toArray, List.set_cons_zero, List.set_cons_succ, List.getElem_toArray, List.getElem_cons_zero, List.getElem_cons_succ])
           refine wpAnyH_take (i := 14) (v := undef) rfl (by kernel_rfl) (by kernel_rfl) (by kernel_rfl) (fun _ _ _ h => h) (Or.inr ⟨by rfl, rfl⟩) hHeld ?_
           (try simp only [Act.put, List.setIfInBounds_toArray, List.set_cons_zero, List.set_cons_succ, List.getElem_toArray, List.getElem_cons_zero, List.getElem_cons_succ])
           refine wpAnyH_take (i := 15) (v := undef) rfl (by kernel_rfl) (by kernel_rfl) (by kernel_rfl) (fun _ _ _ h => h) (Or.inr ⟨by rfl, rfl⟩) hHeld ?_
           (try simp only [Act.put, List.setIfInBounds_toArray, List.set_cons_zero, List.set_cons_succ, List.getElem_toArray, List.getElem_cons_zero, List.getElem_cons_succ])
           refine wpAnyH_take (i := 16) (v := undef) rfl (by kernel_rfl) (by kernel_rfl) (by kernel_rfl) (fun _ _ _ h => h) (Or.inr ⟨by rfl, rfl⟩) hHeld ?_
           (try simp only [Act.put, List.setIfInBounds_toArray, List.set_cons_zero, List.set_cons_succ, List.getElem_toArray, List.getElem_cons_zero, List.getElem_cons_succ])
           refine wpAnyH_take (i := 17) (v := undef) rfl (by kernel_rfl) (by kernel_rfl) (by kernel_rfl) (fun _ _ _ h => h) (Or.inr ⟨by rfl, rfl⟩) hHeld ?_
           (try simp only [Act.put, List.setIfInBounds_toArray, List.set_cons_zero, List.set_cons_succ, List.getElem_toArray, List.getElem_cons_zero, List.getElem_cons_succ])
           refine wpAnyH_take (i := 18) (v := undef) rfl (by kernel_rfl) (by kernel_rfl) (by kernel_rfl) (fun _ _ _ h => h) (Or.inr ⟨by rfl, rfl⟩) hHeld ?_
           (try simp only [Act.put, List.setIfInBounds_toArray, List.set_cons_zero, List.set_cons_succ, List.getElem_toArray, List.getElem_cons_zero, List.getElem_cons_succ])
           refine wpAnyH_take (i := 19) (v := undef) rfl (by kernel_rfl) (by kernel_rfl) (by kernel_rfl) (fun _ _ _ h => h) (Or.inr ⟨by rfl, rfl⟩) hHeld ?_
           (try simp only [Act.put, List.setIfInBounds_toArray, List.set_cons_zero, List.set_cons_succ, List.getElem_toArray, List.getElem_cons_zero, List.getElem_cons_succ])
           refine wpAnyH_take (i := 20) (v := undef) rfl (by kernel_rfl) (by kernel_rfl) (by kernel_rfl) (fun _ _ _ h => h) (Or.inr ⟨by rfl, rfl⟩) hHeld ?_
           (try simp only [Act.put, List.setIfInBounds_toArray, List.set_cons_zero, List.set_cons_succ, List.getElem_toArray, List.getElem_cons_zero, List.getElem_cons_succ])
           refine wpAnyH_take (i := 21) (v := undef) rfl (by kernel_rfl) (by kernel_rfl) (by kernel_rfl) (fun _ _ _ h => h) (Or.inr ⟨by rfl, rfl⟩) hHeld ?_
           (try simp only [Act.put, List.setIfInBounds_toArray, List.set_cons_zero, List.set_cons_succ, List.getElem_toArray, List.getElem_cons_zero, List.getElem_cons_succ])
           refine wpAnyH_take (i := 22) (v := undef) rfl (by kernel_rfl) (by kernel_rfl) (by kernel_rfl) (fun _ _ _ h => h) (Or.inr ⟨by rfl, rfl⟩) hHeld ?_
           (try simp only [Act.put, List.setIfInBounds_toArray, List.set_cons_zero, List.set_cons_succ, List.getElem_toArray, List.getElem_cons_zero, List.getElem_cons_succ])
           refine wpAnyH_take (i := 23) (v := undef) rfl (by kernel_rfl) (by kernel_rfl) (by kernel_rfl) (fun _ _ _ h => h) (Or.inr ⟨by rfl, rfl⟩) hHeld ?_;refine tk 24 hHeld ?_;refine tk 25 hHeld ?_;refine wpAnyH_done (by kernel_rfl) ?_ _;refine NoPanic.normal ?_;go_wp2_with fail
           go_meet
           exact ⟨by rw [← HV.out, t0']; rfl, HX10.out, HZ10.out, HF10.out⟩
       case rest =>
       obtain ⟨rfl, hx, hz, hf⟩ := hcut
       rename World => w12
       have HX12 := Lib.hid hx;have HZ12 := Lib.hid hz;have HF12 := Lib.hid hf;clear hx hz hf;have HRS3 : Hid (riseB zeroN (x.o.pr.take (k + 1)) = v) := Lib.hid (by rw [HRS2.out, HV.out]);cases v with
       | false =>
        have HRF : Hid (r = false) := Lib.hid (by rw [← HR.out, ← List.take_append_drop (k + 1) x.o.pr, rise_more HRS3.out]);go_wp2_with fail;go_ret;exact ⟨by rw [HRF.out]; rfl, HF12.out⟩
       | true =>
        go_wp2_with fail
        go_roundw
        case rel => exact ⟨k + 1, by omega, by go_num, HRS3, HX12, HZ12, HF12⟩
        case measure => simp [intOf]; omega
     · obtain rfl : k = lp := by omega
       have HRF : Hid (r = true) := Lib.hid (by
        rw [← HR.out];have h := HRS.out;rw [List.take_of_length_le (by have := HLP.out; omega)] at h;exact h)
       obtain ⟨c0, c1, c2, c3, c4, c5, c6, c7, c8, c9, c10, c11, c12⟩ := HX9.out.cells;rw [HLP.out] at c12;go_wp2_with fail;go_ret;exact ⟨by rw [HRF.out]; rfl, HF9.out⟩
end
end Go.Proofs.YtbabgnadgdidmaaGreat
