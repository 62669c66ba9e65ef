import Derived.Test.YtbabgnadgdidmaaGreatZm00
import Derived.Test.YtbabgnadgdidmaaGreatZm12
import Derived.Test.YtbabgnadgdidmaaGreatZm11
set_option linter.unusedVariables false
set_option maxRecDepth 100000
set_option maxHeartbeats 12800000
namespace Go.Proofs.YtbabgnadgdidmaaGreat
section
open Go.RowKit Mem Go.Lib LebM UtfM VaM OpM
attribute [local go_sem ↓] Go.wp_at_zero Go.wp_at_succ
theorem rightOp_any (x : Om) (w : World) (hs : x.short) (hv : x.o.val.ok) (hpr : Prd w x) : Calls Tryz.prog 76 #[opc x] w fun e w' => e = .returned (.bool (rightO x.o)) ∧ Fr (fun _ => False) w w' := by
 obtain ⟨g, w1, hg, hw1, hr1, hf1⟩ := new_ols w x;have hs0 := hs;obtain ⟨h1, h2, h3, h4, h5, h6⟩ := hs;obtain ⟨c0, c1, c2, c3, c4, c5, c6, c7, c8, c9, c10, c11, c12⟩ := hr1.cells;have hp := fun w => point_any x.o.obj w (by omega);have hk := fun w => key_any x w hs0;have hvr := fun (w : World) => vright1 vaC x.o.val w rfl hv h4;have hpd := fun (w' : World) (hf : Fr (fun _ => False) w w') => preds_any x.A x.o.pr.length x.c x.o.pr w' (hpr.fr0 hf).1 h5 h6;obtain ⟨pl, hpl⟩ := nm_ (ptB x.o.obj);obtain ⟨kl, hkl⟩ := nm_ (keyB x.o);obtain ⟨vl, hvl⟩ := nm_ (rightV x.o.val);obtain ⟨dl, hdl⟩ := nm_ (predsB x.o.pr);have e : rightO x.o = (pl && kl && decide (0 ≤ x.o.act) && decide (x.o.act ≤ 1000) && vl && dl) := by unfold rightO; rw [hpl, hkl, hvl, hdl]
 rw [e];simp only [hpl] at hp;simp only [hkl] at hk;simp only [hvl] at hvr;simp only [hdl] at hpd;unfold nmc at hp;unfold opc at hk ⊢;have HP := hid hp;have HK := hid hk;have HV := hid hvr;have HD := hid hpd;have HF1 := hid hf1;have HR1 := hid hr1;clear hp hk hvr hpd hf1 hr1 hpl hkl hvl hdl e h1 h2 h3 h4 h5 h6 hs0 hv hpr;cases pl with
 | false =>
  go_enter Tryz.func76, Tryz.ntmps76;go_wp2_with fail;clear hw1 hg;refine (HP.out _).mono ?_;rintro e w2 ⟨rfl, hf⟩;have HF2 := hid (HF1.out.trans hf im_);clear hf;go_wp2_with fail;go_ret;exact ⟨rfl, HF2.out⟩
 | true =>
  rw [Bool.true_and];cases kl with
  | false =>
   go_enter Tryz.func76, Tryz.ntmps76;go_wp2_with fail;clear hw1 hg c0 c1 c2 c3 c4 c5 c6 c7 c8 c9 c10 c11 c12;refine (HP.out _).mono ?_;rintro e w2 ⟨rfl, hf⟩;have HF2 := hid (HF1.out.trans hf im_);have HR2 := hid (HR1.out.fr hf (fun h => h));obtain ⟨c0, c1, c2, c3, c4, c5, c6, c7, c8, c9, c10, c11, c12⟩ := HR2.out.cells;clear hf;go_wp2_with fail;refine (HK.out _).mono ?_;rintro e w3 ⟨rfl, hf⟩;have HF3 := hid (HF2.out.trans hf im_);clear hf;go_wp2_with fail;go_ret;exact ⟨rfl, HF3.out⟩
  | true =>
   rw [Bool.true_and];by_cases ha1 : 0 ≤ x.o.act
   · by_cases ha2 : x.o.act ≤ 1000
     · have t1 : decide ((0 : Int) ≤ x.o.act) = true := decide_eq_true ha1;have t2 : decide (x.o.act ≤ (1000 : Int)) = true := decide_eq_true ha2;rw [t1, t2, Bool.true_and, Bool.true_and];clear ha1 ha2;cases vl with
       | false =>
        go_enter Tryz.func76, Tryz.ntmps76;go_wp2_with fail;clear hw1 hg c0 c1 c2 c3 c4 c5 c6 c7 c8 c9 c10 c11 c12;refine (HP.out _).mono ?_;rintro e w2 ⟨rfl, hf⟩;have HF2 := hid (HF1.out.trans hf im_);have HR2 := hid (HR1.out.fr hf (fun h => h));obtain ⟨c0, c1, c2, c3, c4, c5, c6, c7, c8, c9, c10, c11, c12⟩ := HR2.out.cells;clear hf;go_wp2_with fail;clear c0 c1 c2 c3 c4 c5 c6 c7 c8 c9 c10 c11 c12;refine (HK.out _).mono ?_;rintro e w3 ⟨rfl, hf⟩;have HF3 := hid (HF2.out.trans hf im_);have HR3 := hid (HR2.out.fr hf (fun h => h));obtain ⟨c0, c1, c2, c3, c4, c5, c6, c7, c8, c9, c10, c11, c12⟩ := HR3.out.cells;clear hf;go_wp2_with fail;clear c0 c1 c2 c3 c4 c5 c6 c7 c8 c9 c10 c11 c12;refine (HV.out _).mono ?_;rintro e w4 ⟨rfl, hf⟩;have HF4 := hid (HF3.out.trans hf im_);clear hf;go_wp2_with fail;go_ret;exact ⟨rfl, HF4.out⟩
       | true =>
        rw [Bool.true_and];go_enter Tryz.func76, Tryz.ntmps76;go_wp2_with fail;clear hw1 hg c0 c1 c2 c3 c4 c5 c6 c7 c8 c9 c10 c11 c12;refine (HP.out _).mono ?_;rintro e w2 ⟨rfl, hf⟩;have HF2 := hid (HF1.out.trans hf im_);have HR2 := hid (HR1.out.fr hf (fun h => h));obtain ⟨c0, c1, c2, c3, c4, c5, c6, c7, c8, c9, c10, c11, c12⟩ := HR2.out.cells;clear hf;go_wp2_with fail;clear c0 c1 c2 c3 c4 c5 c6 c7 c8 c9 c10 c11 c12;refine (HK.out _).mono ?_;rintro e w3 ⟨rfl, hf⟩;have HF3 := hid (HF2.out.trans hf im_);have HR3 := hid (HR2.out.fr hf (fun h => h));obtain ⟨c0, c1, c2, c3, c4, c5, c6, c7, c8, c9, c10, c11, c12⟩ := HR3.out.cells;clear hf;go_wp2_with fail;clear c0 c1 c2 c3 c4 c5 c6 c7 c8 c9 c10 c11 c12;refine (HV.out _).mono ?_;rintro e w4 ⟨rfl, hf⟩;have HF4 := hid (HF3.out.trans hf im_);have HR4 := hid (HR3.out.fr hf (fun h => h));obtain ⟨c0, c1, c2, c3, c4, c5, c6, c7, c8, c9, c10, c11, c12⟩ := HR4.out.cells;clear hf;go_wp2_with fail;clear c0 c1 c2 c3 c4 c5 c6 c7 c8 c9 c10 c11 c12;refine (HD.out _ HF4.out).mono ?_;rintro e w5 ⟨rfl, hf⟩;have HF5 := hid (HF4.out.trans hf im_);clear hf;go_wp2_with fail;go_ret;exact ⟨rfl, HF5.out⟩
     · have t1 : decide ((0 : Int) ≤ x.o.act) = true := decide_eq_true ha1;have t2 : decide (x.o.act ≤ (1000 : Int)) = false := decide_eq_false ha2;rw [t1, t2, Bool.true_and, Bool.false_and, Bool.false_and];clear ha1 ha2;go_enter Tryz.func76, Tryz.ntmps76;go_wp2_with fail;clear hw1 hg c0 c1 c2 c3 c4 c5 c6 c7 c8 c9 c10 c11 c12;refine (HP.out _).mono ?_;rintro e w2 ⟨rfl, hf⟩;have HF2 := hid (HF1.out.trans hf im_);have HR2 := hid (HR1.out.fr hf (fun h => h));obtain ⟨c0, c1, c2, c3, c4, c5, c6, c7, c8, c9, c10, c11, c12⟩ := HR2.out.cells;clear hf;go_wp2_with fail;clear c0 c1 c2 c3 c4 c5 c6 c7 c8 c9 c10 c11 c12;refine (HK.out _).mono ?_;rintro e w3 ⟨rfl, hf⟩;have HF3 := hid (HF2.out.trans hf im_);have HR3 := hid (HR2.out.fr hf (fun h => h));obtain ⟨c0, c1, c2, c3, c4, c5, c6, c7, c8, c9, c10, c11, c12⟩ := HR3.out.cells;clear hf;go_wp2_with fail;go_ret;exact ⟨rfl, HF3.out⟩
   · have t1 : decide ((0 : Int) ≤ x.o.act) = false := decide_eq_false ha1;rw [t1, Bool.false_and, Bool.false_and, Bool.false_and];clear ha1;go_enter Tryz.func76, Tryz.ntmps76;go_wp2_with fail;clear hw1 hg c0 c1 c2 c3 c4 c5 c6 c7 c8 c9 c10 c11 c12;refine (HP.out _).mono ?_;rintro e w2 ⟨rfl, hf⟩;have HF2 := hid (HF1.out.trans hf im_);have HR2 := hid (HR1.out.fr hf (fun h => h));obtain ⟨c0, c1, c2, c3, c4, c5, c6, c7, c8, c9, c10, c11, c12⟩ := HR2.out.cells;clear hf;go_wp2_with fail;clear c0 c1 c2 c3 c4 c5 c6 c7 c8 c9 c10 c11 c12;refine (HK.out _).mono ?_;rintro e w3 ⟨rfl, hf⟩;have HF3 := hid (HF2.out.trans hf im_);have HR3 := hid (HR2.out.fr hf (fun h => h));obtain ⟨c0, c1, c2, c3, c4, c5, c6, c7, c8, c9, c10, c11, c12⟩ := HR3.out.cells;clear hf;go_wp2_with fail;go_ret;exact ⟨rfl, HF3.out⟩
def rightsB (L : List Om) : Bool := L.all fun x => rightO x.o
def zeroM : Om := ⟨zeroO, none, 0⟩
theorem new_zero (w : World) : ∃ g w1, w.heap.size = g ∧ w.alloc (.cells #[.int .i64 0, .string ⟨#[]⟩, .string ⟨#[]⟩, .bool false, .int .i64 0, .string ⟨#[]⟩, .bool false, .int .i64 0, .int .i64 0, .int .u64 0, .int .i64 0, .string ⟨#[]⟩, .slice none 0 0] 56) = w1 ∧ RowO w1 g zeroM ∧ Fr (fun _ => False) w w1 := ⟨_, _, rfl, rfl, RowO.new w zeroM, (Fr.refl _ _).alloc _⟩
theorem oRight_any (A : Option Addr) (n c : Nat) (L : List Om) (w : World) (hL : Ops w A n L) (hn : n ≤ 1000000) (hok : ∀ x ∈ L, x.short ∧ x.o.val.ok) :
    Calls Tryz.prog 33 #[.slice A n c] w fun e w' => e = .returned (.bool (rightsB L)) ∧ Fr (fun _ => False) w w' := by
 have hln := hL.len;obtain ⟨r, hr⟩ := nm_ (rightsB L);rw [hr];have HR := hid hr;have HL := hid hL;have HLN := hid hln;have HOK := hid hok;clear hL hln hok hr;go_enter Tryz.func33, Tryz.ntmps33;go_wp2_with fail
 go_loopw [7] (fun i wr => ∃ k : Nat, k ≤ n ∧ i = .int .i64 (k : Int) ∧ Hid (rightsB (L.take k) = true) ∧ Hid (Fr (fun _ => False) w wr)) (fun i _ => n - (intOf i).toNat)
 case atStart => exact ⟨0, Nat.zero_le _, rfl, (rfl : rightsB (L.take 0) = true), Fr.refl _ _⟩
 case round =>
  obtain ⟨k, hk, rfl, HA, HF⟩ := hrel
  rename World => wr
  by_cases hlt : k < n
  · obtain ⟨x, hx⟩ : ∃ x, L[k]? = some x := ⟨_, List.getElem?_eq_getElem (by have := HLN.out; omega)⟩
    have hLr := HL.out.fr HF.out;obtain ⟨b, o, rfl, hb, hat⟩ := hLr.1.2 k x hx;obtain ⟨k0, k1, k2, k3, k4, k5, k6, k7, k8, k9, k10, k11, k12⟩ := hat;have hpr := hLr.2 x (List.mem_of_getElem? hx);obtain ⟨hxs, hxv⟩ := HOK.out x (List.mem_of_getElem? hx);obtain ⟨q, hq⟩ := nm_ (rightO x.o);have hnext : rightsB (L.take (k + 1)) = q := by
     have h := HA.out;unfold rightsB at h ⊢;rw [List.take_add_one, hx, List.all_append, h, Option.toList_some];simp [hq]
    obtain ⟨p, w1, hp, hw1, hr1, hf1⟩ := new_zero wr;have hro := fun w' (hf : Fr (fun _ => False) wr w') => rightOp_any x w' hxs hxv (hpr.fr0 hf);simp only [hq, opc] at hro;have HRO := hid hro;have HNX := hid hnext;have HW1 := hid hr1;have HP := hid hp;have HF1 := hid hf1;clear hx hro hnext hr1 hf1 hq hxs hxv hpr hLr;go_wp2_with (refine store_st oSz rfl (.tmp 4) (.tmp 10) rfl p (by rfl) (ols x) (by rfl) _ _ HW1.out rfl rfl (o_one _) ?_)
    intro w2 hr2 hf2;have hv2 : RowO w2 p x := hr2;clear k0 k1 k2 k3 k4 k5 k6 k7 k8 k9 k10 k11 k12;obtain ⟨c0, c1, c2, c3, c4, c5, c6, c7, c8, c9, c10, c11, c12⟩ := hv2.cells;have HX2 : Hid (Fr (fun _ => False) wr w2) := hid (HF1.out.trans hf2 (fun b hb h => by have := HP.out; omega));have HF2 := hid (HF.out.trans HX2.out im_);clear hr2 hf2 hv2 hw1 hp;go_wp2_with fail;refine (HRO.out w2 HX2.out).mono ?_;rintro e w3 ⟨rfl, hf3⟩;have HF3 := hid (HF2.out.trans hf3 im_);clear hf3;cases q
    · have hrf : false = r := by
       rw [← HR.out];have h := HNX.out;unfold rightsB at h ⊢;rw [← List.take_append_drop (k + 1) L, List.all_append, h, Bool.false_and]
      have HRF := hid hrf;clear hrf;go_wp2_with fail;go_ret;exact ⟨by rw [← HRF.out]; rfl, HF3.out⟩
    · go_wp2_with fail;exact ⟨⟨k + 1, by omega, by go_num, HNX.out, HF3.out⟩, by simp [intOf]; omega⟩
  · obtain rfl : k = n := by omega
    have hrf : true = r := by
     rw [← HR.out];have := HA.out;rw [List.take_of_length_le (by have := HLN.out; omega)] at this;exact this.symm
    have HRF := hid hrf;clear hrf;go_wp2_with fail;go_ret;exact ⟨by rw [← HRF.out]; rfl, HF.out⟩
end
section
open Go.RowKit Mem Go.Lib LebM UtfM VaM OpM
attribute [local go_sem ↓] Go.wp_at_zero Go.wp_at_succ
def namesM (L : List Om) : List Nm := L.flatMap fun x => namesO x.o
theorem namesM_len {L : List Om} (h : ∀ x ∈ L, x.o.pr.length ≤ 1000) : (namesM L).length ≤ L.length * 1002 := by
 induction L with
 | nil => simp [namesM]
 | cons x L ih =>
  have h1 := h x (List.mem_cons_self ..);have h2 := ih (fun y hy => h y (List.mem_cons_of_mem _ hy));have h3 : (namesO x.o).length ≤ 1002 := by
   have := List.length_filter_le (fun x => !zeroB x) (x.o.obj :: x.o.elem :: x.o.pr);unfold namesO;simp only [List.length_cons] at this;omega
  unfold namesM at h2 ⊢;rw [List.flatMap_cons, List.length_append, List.length_cons];omega
end
end Go.Proofs.YtbabgnadgdidmaaGreat
