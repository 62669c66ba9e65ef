import Derived.Test.YtbabgnadgdidmaaGreatZm00
import Derived.Test.YtbabgnadgdidmaaGreatZm11
import Derived.Test.YtbabgnadgdidmaaGreatZm10
set_option linter.unusedVariables false
set_option maxRecDepth 100000
set_option maxHeartbeats 12800000
namespace Go.Proofs.YtbabgnadgdidmaaGreat
section
open Go.RowKit Mem Go.Lib LebM UtfM VaM OpM
attribute [local go_sem ↓] Go.wp_at_zero Go.wp_at_succ
def Om.short (x : Om) : Prop := x.o.obj.a.length ≤ 1000000 ∧ x.o.elem.a.length ≤ 1000000 ∧ x.o.key.length ≤ 1000000 ∧ x.o.val.s.length ≤ 1000000 ∧ x.o.pr.length ≤ 1000000 ∧ ∀ y ∈ x.o.pr, y.a.length ≤ 1000000
theorem new_ols (w : World) (x : Om) : ∃ g w1, w.heap.size = g ∧ w.alloc (.cells #[.int .i64 x.o.obj.c, .string (txt x.o.obj.a), .string (txt x.o.key), .bool x.o.keyed, .int .i64 x.o.elem.c, .string (txt x.o.elem.a), .bool x.o.ins, .int .i64 x.o.act,
 .int .i64 x.o.val.k, .int .u64 (x.o.val.u : Int), .int .i64 x.o.val.n, .string (txt x.o.val.s), .slice x.A x.o.pr.length x.c] 56) = w1 ∧ RowO w1 g x ∧ Fr (fun _ => False) w w1 := ⟨_, _, rfl, rfl, RowO.new w x, (Fr.refl _ _).alloc _⟩
theorem key_any (x : Om) (w : World) (hs : x.short) : Calls Tryz.prog 113 #[opc x] w fun e w' => e = .returned (.bool (keyB x.o)) ∧ Fr (fun _ => False) w w' := by
 obtain ⟨g, w1, hg, hw1, hr1, hf1⟩ := new_ols w x;obtain ⟨h1, h2, h3, h4, h5, h6⟩ := hs;obtain ⟨c0, c1, c2, c3, c4, c5, c6, c7, c8, c9, c10, c11, c12⟩ := hr1.cells;have hz := fun w => zero_any x.o.elem w;have hp := fun w => point_any x.o.elem w (by omega);have hv := fun (w : World) => valid1 utfP x.o.key w rfl (by omega);have hsz := txt_sz x.o.key;have te := txt_e x.o.key;obtain ⟨l, hl⟩ : ∃ l, l = x.o.key.length := ⟨_, rfl⟩
 rw [← hl] at hsz h3;obtain ⟨kd, hkd⟩ := nm_ x.o.keyed;obtain ⟨zl, hzl⟩ := nm_ (zeroB x.o.elem);obtain ⟨pl, hpl⟩ := nm_ (ptB x.o.elem);obtain ⟨vl, hvl⟩ := nm_ ((wh x.o.key == x.o.key.length));obtain ⟨el, hel⟩ := nm_ (decide (x.o.key = []));obtain ⟨il, hil⟩ := nm_ x.o.ins;have e : keyB x.o = if kd then decide (l ≤ 4000) && vl && zl && !il else el && pl := by unfold keyB; rw [hkd, hzl, hpl, hvl, hel, hil, hl]
 rw [e];rw [hel] at te;have hv := fun (w : World) => hv w vl hvl;simp only [hzl] at hz;simp only [hpl] at hp;unfold nmc at hz hp;unfold opc;rw [hkd, hil] at hw1 ⊢;rw [hkd] at c3;rw [hil] at c6;have HIL := Lib.hid hil;have HZ := Lib.hid hz;have HP := Lib.hid hp;have HV := Lib.hid hv;have HF1 := Lib.hid hf1;have HR1 := Lib.hid hr1;clear hz hp hv hf1 hr1 hkd hzl hpl hvl hel hil hl e h1 h2 h4 h5 h6;cases kd with
 | true =>
  rw [if_pos rfl];clear te;by_cases hl4 : l ≤ 4000
  · have t1 : decide ((l : Int) ≤ 4000) = true := decide_eq_true (by omega);have t1' : decide (l ≤ 4000) = true := decide_eq_true (by omega);rw [t1', Bool.true_and];clear hl4;cases vl with
    | false =>
     go_enter Tryz.func113, Tryz.ntmps113;go_wp2_with fail;clear hw1 hg;refine (HV.out _).mono ?_;rintro e w2 ⟨rfl, hf⟩;have HF2 := Lib.hid (HF1.out.trans hf im_);clear hf;go_wp2_with fail;go_ret;exact ⟨rfl, HF2.out⟩
    | true =>
     rw [Bool.true_and];go_enter Tryz.func113, Tryz.ntmps113;go_wp2_with fail;clear hw1 hg c0 c1 c2 c3 c4 c5 c6 c7 c8 c9 c10 c11 c12;refine (HV.out _).mono ?_;rintro e w2 ⟨rfl, hf⟩;have HF2 := Lib.hid (HF1.out.trans hf im_);have HR2 := Lib.hid (HR1.out.fr hf (fun h => h));obtain ⟨d0, d1, d2, d3, d4, d5, d6, d7, d8, d9, d10, d11, d12⟩ := HR2.out.cells;clear hf;go_wp2_with fail;refine (HZ.out _).mono ?_;rintro e w3 ⟨rfl, hf⟩;have HF3 := Lib.hid (HF2.out.trans hf im_);have HR3 := Lib.hid (HR2.out.fr hf (fun h => h));clear hf d0 d1 d2 d3 d4 d5 d6 d7 d8 d9 d10 d11 d12;obtain ⟨d0, d1, d2, d3, d4, d5, d6, d7, d8, d9, d10, d11, d12⟩ := HR3.out.cells;rw [HIL.out] at d6;cases zl with
     | false =>
      go_wp2_with fail;go_ret;exact ⟨rfl, HF3.out⟩
     | true =>
      go_wp2_with fail;go_ret;exact ⟨rfl, HF3.out⟩
  · have t1 : decide ((l : Int) ≤ 4000) = false := decide_eq_false (by omega);have t1' : decide (l ≤ 4000) = false := decide_eq_false (by omega);rw [t1', Bool.false_and, Bool.false_and, Bool.false_and];clear hl4;go_enter Tryz.func113, Tryz.ntmps113;go_wp2_with fail;go_ret;exact ⟨rfl, HF1.out⟩
 | false =>
  rw [if_neg (by simp)];cases el with
  | false =>
   go_enter Tryz.func113, Tryz.ntmps113;go_wp2_with fail;go_ret;exact ⟨rfl, HF1.out⟩
  | true =>
   rw [Bool.true_and];go_enter Tryz.func113, Tryz.ntmps113;go_wp2_with fail;clear hw1 hg;refine (HP.out _).mono ?_;rintro e w2 ⟨rfl, hf⟩;have HF2 := Lib.hid (HF1.out.trans hf im_);clear hf;go_wp2_with fail;go_ret;exact ⟨rfl, HF2.out⟩
theorem preds_any (A : Option Addr) (n c : Nat) (l : List Nm) (w : World) (hl : Nms w A n l) (hn : n ≤ 1000000) (hs : ∀ y ∈ l, y.a.length ≤ 1000000) :
    Calls Tryz.prog 115 #[.slice A n c] w fun e w' => e = .returned (.bool (predsB l)) ∧ Fr (fun _ => False) w w' := by
 have hln := hl.1;by_cases h16 : 16 < n
 · have t1 : decide ((16 : Int) < (n : Int)) = true := by simp; omega
   have t2 : decide (16 < n) = true := by simp; omega
   have e : predsB l = false := by unfold predsB; rw [decide_eq_false (by omega), Bool.false_and]
   rw [e];clear hl hln hn hs e;go_enter Tryz.func115, Tryz.ntmps115;go_wp2_with fail;go_ret;exact ⟨rfl, Fr.refl _ _⟩
 · have t1 : decide ((16 : Int) < (n : Int)) = false := by simp; omega
   have t2 : decide (16 < n) = false := by simp; omega
   have e : predsB l = riseB zeroN l := by unfold predsB; rw [decide_eq_true (by omega), Bool.true_and]
   obtain ⟨r, hr⟩ := nm_ (riseB zeroN l);rw [e, hr];obtain ⟨g, hg⟩ := nm_ w.heap.size;obtain ⟨w1, hw1⟩ : ∃ w1, w.alloc (.cells #[.int .i64 0, .string ⟨#[]⟩] 50) = w1 := ⟨_, rfl⟩
   have hf1 : Fr (fun _ => False) w w1 := by rw [← hw1]; exact (Fr.refl _ _).alloc _
   have hr1 : RowN w1 g zeroN := by rw [← hw1, ← hg]; exact RowN.new w zeroN
   have HG : Hid (w.heap.size ≤ g) := Lib.hid (by omega);have HR := Lib.hid hr;have HLN := Lib.hid hln;have HL := Lib.hid hl;have HS := Lib.hid hs;have HF1 := Lib.hid hf1;have HR1 := Lib.hid hr1;clear hl hln hs e hr hf1 hr1 h16;go_enter Tryz.func115, Tryz.ntmps115;go_wp2_with fail;clear hw1 hg
   go_loopw [11] (fun i wr => ∃ k : Nat, k ≤ n ∧ i = .int .i64 (k : Int) ∧ Hid (riseB zeroN (l.take k) = true) ∧ Hid (RowN wr g (lastN (l.take k))) ∧ Hid (Fr (fun _ => False) w wr)) (fun i _ => n - (intOf i).toNat)
   case atStart => exact ⟨0, Nat.zero_le _, rfl, (rfl : riseB zeroN (l.take 0) = true), HR1, HF1⟩
   case round =>
    obtain ⟨k, hk, rfl, HA, HRW, HF⟩ := hrel
    rename World => wr
    by_cases hlt : k < n
    · obtain ⟨x, hx⟩ : ∃ x, l[k]? = some x := ⟨_, List.getElem?_eq_getElem (by have := HLN.out; omega)⟩
      obtain ⟨b, o, rfl, hb, k0, k1⟩ := (HL.out.fr HF.out (fun _ _ => id)).2 k x hx;have hxl := HS.out x (List.mem_of_getElem? hx);simp only [ncc, nac] at k0 k1;have htk : l.take (k + 1) = l.take k ++ [x] := by rw [List.take_add_one, hx]; rfl
      have hrs : riseB zeroN (l.take (k + 1)) = (idB x && lessN (lastN (l.take k)) x) := by rw [htk, rise_snoc, HA.out, Bool.true_and]
      have hls : lastN (l.take (k + 1)) = x := by rw [htk]; unfold lastN; rw [List.getLast?_append]; rfl
      obtain ⟨y, hy⟩ := nm_ (lastN (l.take k));rw [hy] at HRW hrs;obtain ⟨p, hp⟩ := nm_ wr.heap.size;obtain ⟨w2, hw2⟩ : ∃ w2, wr.alloc (.cells #[.int .i64 0, .string ⟨#[]⟩] 50) = w2 := ⟨_, rfl⟩
      have hf2 : Fr (fun _ => False) wr w2 := by rw [← hw2]; exact (Fr.refl _ _).alloc _
      have hr2 : RowN w2 p zeroN := by rw [← hw2, ← hp]; exact RowN.new wr zeroN
      have hgp : g < p := by have := HRW.out.lt; omega
      have hid := fun w => id_any x w (by omega);have hcm := fun w => cmp_any y x w;obtain ⟨i, hi⟩ := nm_ (idB x);obtain ⟨s, hsl⟩ := nm_ (lessN y x);rw [hi, hsl] at hrs;simp only [hi] at hid;have hcv : (s = true → cmpN y x = -1) ∧ (s = false → 0 ≤ cmpN y x) := by
       rw [← hsl];rcases cmp_ways y x with ⟨h, h1, h2, h3⟩ | ⟨h, h1, h2, h3⟩ | ⟨h, h1, h2, h3⟩ <;> rw [h, h2] <;> simp
      obtain ⟨q, hq⟩ := nm_ (cmpN y x);rw [hq] at hcv;simp only [hq] at hcm;unfold nmc at hid hcm;have HID := Lib.hid hid;have HCM := Lib.hid hcm;have HRS := Lib.hid hrs;have HLS := Lib.hid hls;have HCV := Lib.hid hcv;have HR2 := Lib.hid hr2;have HF2 := Lib.hid (HF.out.trans hf2 im_);have HRW2 := Lib.hid (HRW.out.fr hf2 (fun h => h));have HGP := Lib.hid hgp;have HP : Hid (w.heap.size ≤ p) := Lib.hid (by have := HF.out.size; omega);clear hx hxl hrs hls hcv hr2 hf2 hi hsl hq hid hcm htk hy hgp;go_wp2_with (refine store_st nSz rfl (.tmp 5) (.tmp 14) rfl p (by rfl) (nls x) (by rfl) _ _ HR2.out rfl rfl (n_one _) ?_)
      intro w3 hr3 hf3;have hv3 : RowN w3 p x := hr3;obtain ⟨d0, d1⟩ := hv3.cells;have HV3 := Lib.hid hv3;have HF3 := Lib.hid (HF2.out.trans hf3 (fun b hb h => by have := HP.out; omega));have HRW3 := Lib.hid (HRW2.out.fr hf3 (fun h => by have := HGP.out; omega));clear hr3 hf3 hv3 hw2 hp k0 k1;go_wp2_with fail;refine (HID.out _).mono ?_;rintro e w4 ⟨rfl, hf⟩;have HF4 := Lib.hid (HF3.out.trans hf im_);have HRW4 := Lib.hid (HRW3.out.fr hf (fun h => h));have HV4 := Lib.hid (HV3.out.fr hf (fun h => h));clear hf d0 d1;cases i with
      | false =>
       have hrf : false = r := by
        rw [← HR.out, ← List.take_append_drop (k + 1) l, rise_more (by rw [HRS.out, Bool.false_and])]
       have HRF := Lib.hid hrf;clear hrf;go_wp2_with fail;go_ret;exact ⟨by rw [← HRF.out]; rfl, HF4.out⟩
      | true =>
       obtain ⟨d0, d1⟩ := HV4.out.cells;obtain ⟨e0, e1⟩ := HRW4.out.cells;go_wp2_with fail;refine (HCM.out _).mono ?_;rintro e w5 ⟨rfl, hf⟩;have HF5 := Lib.hid (HF4.out.trans hf im_);have HRW5 := Lib.hid (HRW4.out.fr hf (fun h => h));have HV5 := Lib.hid (HV4.out.fr hf (fun h => h));clear hf d0 d1 e0 e1;cases s with
       | false =>
        have hrf : false = r := by
         rw [← HR.out, ← List.take_append_drop (k + 1) l, rise_more (by rw [HRS.out, Bool.and_false])]
        have HRF := Lib.hid hrf;have tq : decide ((0 : Int) ≤ q) = true := decide_eq_true (HCV.out.2 rfl);clear hrf;go_wp2_with fail;go_ret;exact ⟨by rw [← HRF.out]; rfl, HF5.out⟩
       | true =>
        have hqe := HCV.out.1 rfl;have tq : decide ((0 : Int) ≤ q) = false := decide_eq_false (by omega);have HN2 : Hid (riseB zeroN (l.take (k + 1)) = true) := Lib.hid (by rw [HRS.out]; rfl);clear hqe;obtain ⟨d0, d1⟩ := HV5.out.cells;go_wp2_with (refine store_st nSz rfl (.tmp 3) (.tmp 24) rfl g (by rfl) (nls x) (by rfl) _ _ HRW5.out rfl rfl (n_one _) ?_)
        intro w6 hr6 hf6;have HRW6 : Hid (RowN w6 g (lastN (l.take (k + 1)))) := Lib.hid (by rw [HLS.out]; exact hr6);have HF6 := Lib.hid (HF5.out.trans hf6 (fun b hb h => by have := HG.out; omega));clear hr6 hf6 d0 d1;go_wp2_with fail;exact ⟨⟨k + 1, by omega, by go_num, HN2, HRW6, HF6⟩, by simp [intOf]; omega⟩
    · obtain rfl : k = n := by omega
      have hrf : true = r := by
       rw [← HR.out];have := HA.out;rw [List.take_of_length_le (by have := HLN.out; omega)] at this;exact this.symm
      have HRF := Lib.hid hrf;clear hrf;go_wp2_with fail;go_ret;exact ⟨by rw [← HRF.out]; rfl, HF.out⟩
end
section
open Go.RowKit Mem Go.Lib VaM LebM UtfM
attribute [local go_sem ↓] Go.wp_at_zero Go.wp_at_succ
theorem vright1 (K : VaC) (v : V) (w : World) {k : Nat} (hk : k = w.heap.size) (hv : v.ok) (hl : v.s.length ≤ 1000000) :
    Calls Tryz.prog 114 #[.slice (some ⟨k, 0, none⟩) 1 1] (w.alloc (.cells #[.int .i64 v.k, .int .u64 (v.u : Int), .int .i64 v.n, .string (txt v.s)] 53)) fun e w' => e = .returned (.bool (rightV v)) ∧ Fr (fun _ => False) w w' := by
 refine (K.right (some ⟨k, 0, none⟩) 1 1 [v] _ (Vls.row (new_row hk _ ([v].flatMap vls))) (by omega) (by simp [hv, hl])).mono ?_;rintro e w' ⟨rfl, hf⟩;exact ⟨by simp, ((Fr.refl _ _).alloc _).trans hf im_⟩
end
end Go.Proofs.YtbabgnadgdidmaaGreat
