import Derived.Test.YtbabgnadgdidmaaGreatZm00
import Derived.Test.YtbabgnadgdidmaaGreatZm06
import Derived.Test.YtbabgnadgdidmaaGreatZm19
import Derived.Test.YtbabgnadgdidmaaGreatZm15
import Derived.Test.YtbabgnadgdidmaaGreatZm05
import Derived.Deep.DeepCutAuto
import Derived.Deep.CutRange
import Derived.Deep.DrawnRows
import Derived.WalkKit
set_option maxRecDepth 100000
set_option maxHeartbeats 12800000
namespace Go.Proofs.YtbabgnadgdidmaaGreat
section
open Go.RowKit Mem Go.Lib RleM LebM
attribute [local go_sem ↓] Go.wp_at_zero Go.wp_at_succ
set_option linter.unusedVariables false
theorem putU_any (i : Bool) (x : Int) (w : World) (hx : okU (i, x)) : Calls Tryz.prog 124 #[.agg #[.bool i, (.int .i64 x)]] w (Gives w (kU.put (i, x))) := by
 obtain ⟨m, rfl⟩ : ∃ m : Nat, x = (m : Int) := ⟨x.toNat, by have h : 0 ≤ x := hx.1; omega⟩
 have hm : m < 9223372036854775808 := by have h : (m : Int) < 9223372036854775808 := hx.2; omega
 rw [show kU.put (i, (m : Int)) = u m from rfl];have r1 : IntKind.u64.wrap (m : Int) = (m : Int) := by rw [IntKind.wrap_u64]; omega
 clear hx;go_enter Tryz.func124, Tryz.ntmps124;go_wp2_with fail;refine (U_any m _ (by omega)).mono ?_;rintro e w2 ⟨A2, c2, rfl, hown2, hfr2⟩;have H2 := hid (hown2.base (b' := w.heap.size) (by simp));have HF2 := hid (((Fr.refl (fun _ => False) w).alloc _).trans hfr2 im_);clear hown2 hfr2;go_wp2_with fail;go_ret;exact ⟨A2, c2, rfl, H2.out, HF2.out⟩
theorem getU_any (A : Option Addr) (n c : Nat) (B : List UInt8) (w : World) (hr : Rd w A n (B.map bytec)) (hc : n ≤ c) (hn : n ≤ 1000000) :
    Calls Tryz.prog 125 #[.slice A n c] w fun e w' => e = .returned (.tuple #[.agg #[.bool (kU.get B).1.1, (.int .i64 (kU.get B).1.2)], .int .i64 ((kU.get B).2.1 : Int), .int .i64 ((kU.get B).2.2 : Int)]) ∧ Fr (fun _ => False) w w' := by
 have hBn : B.length = n := by simpa using hr.1
 have hbd := gu_bd B;obtain ⟨N, hN⟩ : ∃ N, N = (gu B).1 := ⟨_, rfl⟩
 obtain ⟨k, hk⟩ : ∃ k, k = (gu B).2.1 := ⟨_, rfl⟩
 obtain ⟨E, hE⟩ : ∃ E, E = (gu B).2.2 := ⟨_, rfl⟩
 have hg := fun w hr => GetU_any A n c B w hr hc;rw [← hN, ← hk, ← hE] at hbd;rw [← hN, ← hk, ← hE] at hg;obtain ⟨G, hG⟩ : ∃ G, G = kU.get B := ⟨_, rfl⟩
 rw [← hG];have hG2 := hG;unfold kU at hG2;simp only at hG2;rw [← hN, ← hk, ← hE] at hG2;clear hN hk hE hG;obtain ⟨w1, hw1⟩ := nm_ (w.alloc (.cells #[.bool false, (.int .i64 0)] 78));obtain ⟨q, hq⟩ := nm_ w.heap.size;have hf1 : Fr (fun _ => False) w w1 := by rw [← hw1]; exact (Fr.refl _ _).alloc _
 have hqb : Row w1 q 78 [.bool false, (.int .i64 0)] := by rw [← hw1, ← hq]; exact Row.new w _ _
 have hgw := hg w1 (hr.fr hf1 (fun _ _ h => h));have HGW := hid hgw;have HR := hid hr;have HF1 := hid hf1;have HQB := hid hqb;have HQ := hid hq;have HBN := hid hBn;have hkn : k ≤ n := by omega
 clear hr hf1 hqb hgw hg hBn;go_enter Tryz.func125, Tryz.ntmps125;go_wp2_with fail;clear hw1 hq;refine HGW.out.mono ?_;rintro e w2 ⟨rfl, hf2⟩;have hq2 := HQB.out.fr hf2 (fun h => h);have f0 : w2.frozen? ⟨q, 0, none⟩ = false := hq2.free 0;have f1 : w2.frozen? ⟨q, 1, none⟩ = false := hq2.free 1;have d0 : w2.cell? ⟨q, 0, none⟩ = some (.bool false) := hq2.cell rfl;have d1 : w2.cell? ⟨q, 1, none⟩ = some (.int .i64 0) := hq2.cell rfl;have HQ2 := hid hq2;have HF2 := hid (HF1.out.trans hf2 im_);clear hf2 hq2 HGW HQB HF1;by_cases he : E = 0
 · have t0 : ((E : Int) != 0) = false := by simp; omega
   have t0' : (E != 0) = false := by simp; omega
   rw [if_neg (by omega)] at hG2;by_cases hlong : 9223372036854775807 < N
   · rw [if_pos hlong] at hG2;have HG := hid hG2;have t1 : decide ((9223372036854775807 : Int) < (N : Int)) = true := by simp; omega
     have t2 : decide (9223372036854775807 < N) = true := by simp; omega
     clear he hG2 hbd hlong;go_wp2_with fail;clear d0 d1;obtain ⟨w5, hw5⟩ : ∃ w5, w5 = (w2.setCell ⟨q, 0, none⟩ (.bool false)).setCell ⟨q, 1, none⟩ (.int .i64 0) := ⟨_, rfl⟩
     rw [← hw5];have hr5 : Row w5 q 78 [.bool false, (.int .i64 0)] := by rw [hw5]; exact (HQ2.out.set 0 _).set 1 _
     have HF5 : Hid (Fr (fun _ => False) w w5) := hid (by rw [hw5]; exact (HF2.out.setCell (fun h => by have h1 := HQ.out; have h2 : q < w.heap.size := h; omega) _).setCell (fun h => by have h1 := HQ.out; have h2 : q < w.heap.size := h; omega) _);have d0 : w5.cell? ⟨q, 0, none⟩ = some (.bool false) := hr5.cell rfl;have d1 : w5.cell? ⟨q, 1, none⟩ = some (.int .i64 0) := hr5.cell rfl;clear hr5 hw5;rw [HG.out];exact bodyPost_ret (v := .tuple #[.agg #[.bool false, (.int .i64 0)], .int .i64 0, .int .i64 4]) (by simp [results, Tryz.results125, go_sem, d0, d1]) rfl ⟨rfl, HF5.out⟩
   · rw [if_neg hlong] at hG2;have HG := hid hG2;have t1 : decide ((9223372036854775807 : Int) < (N : Int)) = false := by simp; omega
     have t2 : decide (9223372036854775807 < N) = false := by simp; omega
     have r1 : IntKind.i64.wrap (N : Int) = (N : Int) := by rw [IntKind.wrap_i64]; omega
     clear he hG2 hbd hlong;go_wp2_with fail;clear d0 d1;obtain ⟨w5, hw5⟩ : ∃ w5, w5 = (w2.setCell ⟨q, 0, none⟩ (.bool true)).setCell ⟨q, 1, none⟩ (.int .i64 (N : Int)) := ⟨_, rfl⟩
     rw [← hw5];have hr5 : Row w5 q 78 [.bool true, .int .i64 (N : Int)] := by rw [hw5]; exact (HQ2.out.set 0 _).set 1 _
     have HF5 : Hid (Fr (fun _ => False) w w5) := hid (by rw [hw5]; exact (HF2.out.setCell (fun h => by have h1 := HQ.out; have h2 : q < w.heap.size := h; omega) _).setCell (fun h => by have h1 := HQ.out; have h2 : q < w.heap.size := h; omega) _);have d0 : w5.cell? ⟨q, 0, none⟩ = some (.bool true) := hr5.cell rfl;have d1 : w5.cell? ⟨q, 1, none⟩ = some (.int .i64 (N : Int)) := hr5.cell rfl;clear hr5 hw5;rw [HG.out];exact bodyPost_ret (v := .tuple #[.agg #[.bool true, .int .i64 (N : Int)], .int .i64 (k : Int), .int .i64 0]) (by simp [results, Tryz.results125, go_sem, d0, d1]) rfl ⟨rfl, HF5.out⟩
 · have t0 : ((E : Int) != 0) = true := by simp; omega
   have t0' : (E != 0) = true := by simp; omega
   rw [if_pos he] at hG2;have HG := hid hG2;clear he hG2 hbd;go_wp2_with fail;clear d0 d1;obtain ⟨w5, hw5⟩ : ∃ w5, w5 = (w2.setCell ⟨q, 0, none⟩ (.bool false)).setCell ⟨q, 1, none⟩ (.int .i64 0) := ⟨_, rfl⟩
   rw [← hw5];have hr5 : Row w5 q 78 [.bool false, (.int .i64 0)] := by rw [hw5]; exact (HQ2.out.set 0 _).set 1 _
   have HF5 : Hid (Fr (fun _ => False) w w5) := hid (by rw [hw5]; exact (HF2.out.setCell (fun h => by have h1 := HQ.out; have h2 : q < w.heap.size := h; omega) _).setCell (fun h => by have h1 := HQ.out; have h2 : q < w.heap.size := h; omega) _);have d0 : w5.cell? ⟨q, 0, none⟩ = some (.bool false) := hr5.cell rfl;have d1 : w5.cell? ⟨q, 1, none⟩ = some (.int .i64 0) := hr5.cell rfl;clear hr5 hw5;rw [HG.out];exact bodyPost_ret (v := .tuple #[.agg #[.bool false, (.int .i64 0)], .int .i64 0, .int .i64 (E : Int)]) (by simp [results, Tryz.results125, go_sem, d0, d1]) rfl ⟨rfl, HF5.out⟩
theorem putS_any (i : Bool) (x : Int) (w : World) (hx : okS (i, x)) : Calls Tryz.prog 157 #[.agg #[.bool i, (.int .i64 x)]] w (Gives w (kS.put (i, x))) := by
 obtain ⟨h0, h1⟩ := hx;simp only at h0 h1;rw [show kS.put (i, x) = s x from rfl];go_enter Tryz.func157, Tryz.ntmps157;go_wp2_with fail;refine (S_any x _ h0 h1).mono ?_;rintro e w2 ⟨A2, c2, rfl, hown2, hfr2⟩;have H2 := hid (hown2.base (b' := w.heap.size) (by simp));have HF2 := hid (((Fr.refl (fun _ => False) w).alloc _).trans hfr2 im_);clear hown2 hfr2;go_wp2_with fail;go_ret;exact ⟨A2, c2, rfl, H2.out, HF2.out⟩
theorem getS_any (A : Option Addr) (n c : Nat) (B : List UInt8) (w : World) (hr : Rd w A n (B.map bytec)) (hc : n ≤ c) (hn : n ≤ 1000000) :
    Calls Tryz.prog 158 #[.slice A n c] w fun e w' => e = .returned (.tuple #[.agg #[.bool (kS.get B).1.1, (.int .i64 (kS.get B).1.2)], .int .i64 ((kS.get B).2.1 : Int), .int .i64 ((kS.get B).2.2 : Int)]) ∧ Fr (fun _ => False) w w' := by
 have hBn : B.length = n := by simpa using hr.1
 have hbd := gs_bd B;obtain ⟨N, hN⟩ : ∃ N, N = (gs B).1 := ⟨_, rfl⟩
 obtain ⟨k, hk⟩ : ∃ k, k = (gs B).2.1 := ⟨_, rfl⟩
 obtain ⟨E, hE⟩ : ∃ E, E = (gs B).2.2 := ⟨_, rfl⟩
 have hg := fun w hr => GetS_any A n c B w hr hc;rw [← hN, ← hk, ← hE] at hbd;rw [← hN, ← hk, ← hE] at hg;obtain ⟨G, hG⟩ : ∃ G, G = kS.get B := ⟨_, rfl⟩
 rw [← hG];have hG2 := hG;unfold kS at hG2;simp only at hG2;rw [← hN, ← hk, ← hE] at hG2;clear hN hk hE hG;obtain ⟨w1, hw1⟩ := nm_ (w.alloc (.cells #[.bool false, (.int .i64 0)] 78));obtain ⟨q, hq⟩ := nm_ w.heap.size;have hf1 : Fr (fun _ => False) w w1 := by rw [← hw1]; exact (Fr.refl _ _).alloc _
 have hqb : Row w1 q 78 [.bool false, (.int .i64 0)] := by rw [← hw1, ← hq]; exact Row.new w _ _
 have hgw := hg w1 (hr.fr hf1 (fun _ _ h => h));have HGW := hid hgw;have HR := hid hr;have HF1 := hid hf1;have HQB := hid hqb;have HQ := hid hq;have HBN := hid hBn;have hkn : k ≤ n := by omega
 clear hr hf1 hqb hgw hg hBn;go_enter Tryz.func158, Tryz.ntmps158;go_wp2_with fail;clear hw1 hq;refine HGW.out.mono ?_;rintro e w2 ⟨rfl, hf2⟩;have hq2 := HQB.out.fr hf2 (fun h => h);have f0 : w2.frozen? ⟨q, 0, none⟩ = false := hq2.free 0;have f1 : w2.frozen? ⟨q, 1, none⟩ = false := hq2.free 1;have d0 : w2.cell? ⟨q, 0, none⟩ = some (.bool false) := hq2.cell rfl;have d1 : w2.cell? ⟨q, 1, none⟩ = some (.int .i64 0) := hq2.cell rfl;have HQ2 := hid hq2;have HF2 := hid (HF1.out.trans hf2 im_);clear hf2 hq2 HGW HQB HF1;by_cases he : E = 0
 · have t0 : ((E : Int) != 0) = false := by simp; omega
   have t0' : (E != 0) = false := by simp; omega
   rw [if_neg (by omega)] at hG2;have HG := hid hG2;obtain ⟨hb0, hb1, hb2, hb3⟩ := hbd;clear he hG2;go_wp2_with fail;clear d0 d1;obtain ⟨w5, hw5⟩ : ∃ w5, w5 = (w2.setCell ⟨q, 0, none⟩ (.bool true)).setCell ⟨q, 1, none⟩ (.int .i64 N) := ⟨_, rfl⟩
   rw [← hw5];have hr5 : Row w5 q 78 [.bool true, .int .i64 N] := by rw [hw5]; exact (HQ2.out.set 0 _).set 1 _
   have HF5 : Hid (Fr (fun _ => False) w w5) := hid (by rw [hw5]; exact (HF2.out.setCell (fun h => by have h1 := HQ.out; have h2 : q < w.heap.size := h; omega) _).setCell (fun h => by have h1 := HQ.out; have h2 : q < w.heap.size := h; omega) _);have d0 : w5.cell? ⟨q, 0, none⟩ = some (.bool true) := hr5.cell rfl;have d1 : w5.cell? ⟨q, 1, none⟩ = some (.int .i64 N) := hr5.cell rfl;clear hr5 hw5;rw [HG.out];exact bodyPost_ret (v := .tuple #[.agg #[.bool true, .int .i64 N], .int .i64 (k : Int), .int .i64 0]) (by simp [results, Tryz.results158, go_sem, d0, d1]) rfl ⟨rfl, HF5.out⟩
 · have t0 : ((E : Int) != 0) = true := by simp; omega
   have t0' : (E != 0) = true := by simp; omega
   rw [if_pos he] at hG2;have HG := hid hG2;clear he hG2 hbd;go_wp2_with fail;clear d0 d1;obtain ⟨w5, hw5⟩ : ∃ w5, w5 = (w2.setCell ⟨q, 0, none⟩ (.bool false)).setCell ⟨q, 1, none⟩ (.int .i64 0) := ⟨_, rfl⟩
   rw [← hw5];have hr5 : Row w5 q 78 [.bool false, (.int .i64 0)] := by rw [hw5]; exact (HQ2.out.set 0 _).set 1 _
   have HF5 : Hid (Fr (fun _ => False) w w5) := hid (by rw [hw5]; exact (HF2.out.setCell (fun h => by have h1 := HQ.out; have h2 : q < w.heap.size := h; omega) _).setCell (fun h => by have h1 := HQ.out; have h2 : q < w.heap.size := h; omega) _);have d0 : w5.cell? ⟨q, 0, none⟩ = some (.bool false) := hr5.cell rfl;have d1 : w5.cell? ⟨q, 1, none⟩ = some (.int .i64 0) := hr5.cell rfl;clear hr5 hw5;rw [HG.out];exact bodyPost_ret (v := .tuple #[.agg #[.bool false, (.int .i64 0)], .int .i64 0, .int .i64 (E : Int)]) (by simp [results, Tryz.results158, go_sem, d0, d1]) rfl ⟨rfl, HF5.out⟩
theorem putW_any (i : Bool) (x : (List UInt8)) (w : World) (hx : okW (i, x)) : Calls Tryz.prog 131 #[.agg #[.bool i, (.string (txt x))]] w (Gives w (kW.put (i, x))) := by
 have hl : x.length ≤ 1000000 := hx;obtain ⟨n, hn⟩ : ∃ n, n = x.length := ⟨_, rfl⟩
 have hsz : (txt x).size = n := by rw [hn]; rfl
 have r1 : IntKind.u64.wrap (n : Int) = (n : Int) := by rw [IntKind.wrap_u64]; omega
 obtain ⟨w1, hw1⟩ := nm_ (w.alloc (.cells #[.bool i, (.string (txt x))] 81));obtain ⟨q, hq⟩ := nm_ w.heap.size;have hf1 : Fr (fun _ => False) w w1 := by rw [← hw1]; exact (Fr.refl _ _).alloc _
 have hqb : Row w1 q 81 [.bool i, (.string (txt x))] := by rw [← hw1, ← hq]; exact Row.new w _ _
 have hqlt := hqb.lt;have hu := U_any n w1.drew (by omega);have HU := hid hu;have HQB := hid hqb;have HF1 := hid hf1;have j1 : w1.cell? ⟨q, 1, none⟩ = some (.string (txt x)) := hqb.cell rfl;obtain ⟨D, hD⟩ : ∃ D, D = u n ++ x := ⟨_, rfl⟩
 have hDl : D.length ≤ 1000000000 := by rw [hD, List.length_append]; have := u_len10 (n := n) (by omega); omega
 rw [show kW.put (i, x) = u x.length ++ x from rfl, ← hn, ← hD];have HD := hid hD;have hs0 : w.heap.size ≤ w1.drew.heap.size := hf1.size;have HS0 := hid hs0;have HQ := hid hq;clear hx hn hf1 hqb hqlt hu hD hs0;go_enter Tryz.func131, Tryz.ntmps131
 go_upto_region 1 with fail
 clear hw1 hq;refine wp_region_held_drew (S := fun w' => w'.cell? ⟨q, 1, none⟩ = some (.string (txt x))) (by kernel_rfl) ?_ (fun hHeld => ?_)
 · exact j1
 refine tk 0 hHeld ?_;refine tk 1 hHeld ?_;refine tk 2 hHeld ?_;refine tk 3 hHeld ?_;refine tk 5 hHeld ?_;refine tk 6 hHeld ?_;refine rdo 4 (fun Kx hKx => ?_)
 go_simp
 refine HU.out.mono ?_;rintro e w4 ⟨A2, c2, rfl, hown2, hfr2⟩;have HO2 := hid (hown2.base HS0.out);have HF2 := hid (HF1.out.drew.trans hfr2 im_);have HQ4 := hid ((HQB.out.fr (Fr.refl (fun _ => False) w1).drew (fun h => h)).fr hfr2 (fun h => h));clear hown2 hfr2 HU;refine hKx.out _ _ ?_ (fun hHeld => ?_)
 · exact HQ4.out.cell rfl
 clear hKx Kx;refine rdo 7 (fun Kx hKx => ?_);refine step_app_txt Tryz.underlying34 Tryz.underlying9 (by kernel_rfl) _ (by rfl) _ _ (by rfl) w.heap.size A2 c2 (u n) x (txt x) rfl (by rfl) HO2.out (by rfl) D HD.out hDl HF2.out.size ?_;intro A' c' w6 hown6 hfr6;have HOW : Hid (Own w6 w.heap.size A' c' D) := hid hown6;have HFW : Hid (Fr (fun _ => False) w w6) := hid (HF2.out.trans hfr6 (fun b hb h => by have := (HO2.out.lt b h).1; omega));have HQ6 := hid (HQ4.out.fr hfr6 (own_ne HO2.out HQ4.out (by decide)));clear hown6 hfr6;refine hKx.out _ _ ?_ (fun hHeld => ?_)
 · exact HQ6.out.cell rfl
 clear hKx Kx;refine rdo 8 (fun Kx hKx => ?_)
 go_simp
 refine hKx.out _ _ ?_ (fun hHeld => ?_)
 · exact HQ6.out.cell rfl
 clear hKx Kx
 (try simp only [Act.put, List.setIfInBounds_toArray, List.set_cons_zero, List.set_cons_succ, List.getElem_toArray, List.getElem_cons_zero, List.getElem_cons_succ])
 refine wpAnyH_done (by kernel_rfl) ?_ _;go_wp2_with fail;go_ret;exact ⟨A', c', rfl, HOW.out, HFW.out⟩
theorem getW_any (A : Option Addr) (n c : Nat) (B : List UInt8) (w : World) (hr : Rd w A n (B.map bytec)) (hc : n ≤ c) (hn : n ≤ 1000000) :
    Calls Tryz.prog 132 #[.slice A n c] w fun e w' => e = .returned (.tuple #[.agg #[.bool (kW.get B).1.1, (.string (txt (kW.get B).1.2))], .int .i64 ((kW.get B).2.1 : Int), .int .i64 ((kW.get B).2.2 : Int)]) ∧ Fr (fun _ => False) w w' := by
 have hBn : B.length = n := by simpa using hr.1
 have hbd := gu_bd B;obtain ⟨N, hN⟩ : ∃ N, N = (gu B).1 := ⟨_, rfl⟩
 obtain ⟨k, hk⟩ : ∃ k, k = (gu B).2.1 := ⟨_, rfl⟩
 obtain ⟨E, hE⟩ : ∃ E, E = (gu B).2.2 := ⟨_, rfl⟩
 have hg := fun w hr => GetU_any A n c B w hr hc;rw [← hN, ← hk, ← hE] at hbd;rw [← hN, ← hk, ← hE] at hg;obtain ⟨G, hG⟩ : ∃ G, G = kW.get B := ⟨_, rfl⟩
 rw [← hG];have hG2 := hG;unfold kW at hG2;simp only at hG2;rw [← hN, ← hk, ← hE] at hG2;clear hN hk hE hG;obtain ⟨w1, hw1⟩ : ∃ w1, w.alloc (.cells #[.bool false, (.string ⟨#[]⟩)] 81) = w1 := ⟨_, rfl⟩
 obtain ⟨q, hq⟩ := nm_ w.heap.size;have hf1 : Fr (fun _ => False) w w1 := by rw [← hw1]; exact (Fr.refl _ _).alloc _
 have hqb : Row w1 q 81 [.bool false, (.string ⟨#[]⟩)] := by rw [← hw1, ← hq]; exact Row.new w _ _
 have hgw := hg w1 (hr.fr hf1 (fun _ _ h => h));have HGW := hid hgw;have HR := hid hr;have HF1 := hid hf1;have HQB := hid hqb;have HQ := hid hq;have HBN := hid hBn;have hkn : k ≤ n := by omega
 clear hr hf1 hqb hgw hg hBn;go_enter Tryz.func132, Tryz.ntmps132;go_wp2_with fail;clear hw1 hq;refine HGW.out.mono ?_;rintro e w2 ⟨rfl, hf2⟩;have hq2 := HQB.out.fr hf2 (fun h => h);have f0 : w2.frozen? ⟨q, 0, none⟩ = false := hq2.free 0;have f1 : w2.frozen? ⟨q, 1, none⟩ = false := hq2.free 1;have d0 : w2.cell? ⟨q, 0, none⟩ = some (.bool false) := hq2.cell rfl;have d1 : w2.cell? ⟨q, 1, none⟩ = some (.string ⟨#[]⟩) := hq2.cell rfl;have HQ2 := hid hq2;have HF2 := hid (HF1.out.trans hf2 im_);clear hf2 hq2 HGW HQB HF1;by_cases he : E = 0
 · have t0 : ((E : Int) != 0) = false := by simp; omega
   have t0' : (E != 0) = false := by simp; omega
   rw [if_neg (by omega)] at hG2;obtain ⟨D, hD⟩ : ∃ D, D = n - k := ⟨_, rfl⟩
   have r1 : IntKind.i64.wrap ((n : Int) - (k : Int)) = (D : Int) := by rw [IntKind.wrap_i64]; omega
   have r2 : IntKind.u64.wrap (D : Int) = (D : Int) := by rw [IntKind.wrap_u64]; omega
   rw [HBN.out, ← hD] at hG2;by_cases hlong : D < N
   · rw [if_pos hlong] at hG2;have HG := hid hG2;have t1 : decide ((D : Int) < (N : Int)) = true := by simp; omega
     have t2 : decide (D < N) = true := by simp; omega
     clear he hG2 hbd hlong hD;go_wp2_with fail;clear d0 d1;obtain ⟨w5, hw5⟩ : ∃ w5, w5 = (w2.setCell ⟨q, 0, none⟩ (.bool false)).setCell ⟨q, 1, none⟩ (.string ⟨#[]⟩) := ⟨_, rfl⟩
     rw [← hw5];have hr5 : Row w5 q 81 [.bool false, (.string ⟨#[]⟩)] := by rw [hw5]; exact (HQ2.out.set 0 _).set 1 _
     have HF5 : Hid (Fr (fun _ => False) w w5) := hid (by rw [hw5]; exact (HF2.out.setCell (fun h => by have h1 := HQ.out; have h2 : q < w.heap.size := h; omega) _).setCell (fun h => by have h1 := HQ.out; have h2 : q < w.heap.size := h; omega) _);have d0 : w5.cell? ⟨q, 0, none⟩ = some (.bool false) := hr5.cell rfl;have d1 : w5.cell? ⟨q, 1, none⟩ = some (.string ⟨#[]⟩) := hr5.cell rfl;clear hr5 hw5;rw [HG.out];exact bodyPost_ret (v := .tuple #[.agg #[.bool false, (.string ⟨#[]⟩)], .int .i64 0, .int .i64 2]) (by simp [results, Tryz.results132, go_sem, d0, d1]) rfl ⟨rfl, HF5.out⟩
   · rw [if_neg hlong] at hG2;have t1 : decide ((D : Int) < (N : Int)) = false := by simp; omega
     have t2 : decide (D < N) = false := by simp; omega
     have r3 : IntKind.i64.wrap (N : Int) = (N : Int) := by rw [IntKind.wrap_i64]; omega
     obtain ⟨M, hM⟩ : ∃ M, M = k + N := ⟨_, rfl⟩
     have r4 : IntKind.i64.wrap ((k : Int) + (N : Int)) = (M : Int) := by rw [IntKind.wrap_i64]; omega
     have hMn : M ≤ n := by omega
     have hkM : k ≤ M := by omega
     have hcut : (B.drop k).take N = (B.take M).drop k := by rw [List.drop_take]; congr 1; omega
     rw [hcut, ← hM] at hG2;obtain ⟨C, hC⟩ : ∃ C, C = (B.take M).drop k := ⟨_, rfl⟩
     rw [← hC] at hG2;have hrC : Rd w2 (if c = k then A else A.map (·.add k)) (M - k) (C.map bytec) := by
      have h := (HR.out.fr HF2.out (fun _ _ h => h)).cut (cap := c) hkM hMn hc;rw [hC, List.map_drop, List.map_take];exact h
     obtain ⟨A2, hA2⟩ : ∃ A2, A2 = (if c = k then A else A.map (·.add k)) := ⟨_, rfl⟩
     have hsl : ∀ w : World, (Instr.sliceAt 34 (.slice A n c) (some (.int .i64 (k : Int))) (some (.int .i64 (M : Int))) none).run Tryz.prog w = .ok (.slice A2 (M - k) (c - k)) w := by
      intro w;rw [hA2];exact cut_u8 A n c k M hkM hMn hc _ _ rfl rfl w
     have hst := str_rd hrC (c - k);rw [← hA2] at hst;have HG := hid hG2;have HSL := hid hsl;clear he hG2 hbd hlong hD hM hcut hC hrC hA2;go_wp2_with fail;clear d0 d1;obtain ⟨w5, hw5⟩ : ∃ w5, w5 = (w2.setCell ⟨q, 0, none⟩ (.bool true)).setCell ⟨q, 1, none⟩ (.string (txt C)) := ⟨_, rfl⟩
     rw [← hw5];have hr5 : Row w5 q 81 [.bool true, .string (txt C)] := by rw [hw5]; exact (HQ2.out.set 0 _).set 1 _
     have HF5 : Hid (Fr (fun _ => False) w w5) := hid (by rw [hw5]; exact (HF2.out.setCell (fun h => by have h1 := HQ.out; have h2 : q < w.heap.size := h; omega) _).setCell (fun h => by have h1 := HQ.out; have h2 : q < w.heap.size := h; omega) _);have d0 : w5.cell? ⟨q, 0, none⟩ = some (.bool true) := hr5.cell rfl;have d1 : w5.cell? ⟨q, 1, none⟩ = some (.string (txt C)) := hr5.cell rfl;clear hr5 hw5;rw [HG.out];exact bodyPost_ret (v := .tuple #[.agg #[.bool true, .string (txt C)], .int .i64 (M : Int), .int .i64 0]) (by simp [results, Tryz.results132, go_sem, d0, d1]) rfl ⟨rfl, HF5.out⟩
 · have t0 : ((E : Int) != 0) = true := by simp; omega
   have t0' : (E != 0) = true := by simp; omega
   rw [if_pos he] at hG2;have HG := hid hG2;clear he hG2 hbd;go_wp2_with fail;clear d0 d1;obtain ⟨w5, hw5⟩ : ∃ w5, w5 = (w2.setCell ⟨q, 0, none⟩ (.bool false)).setCell ⟨q, 1, none⟩ (.string ⟨#[]⟩) := ⟨_, rfl⟩
   rw [← hw5];have hr5 : Row w5 q 81 [.bool false, (.string ⟨#[]⟩)] := by rw [hw5]; exact (HQ2.out.set 0 _).set 1 _
   have HF5 : Hid (Fr (fun _ => False) w w5) := hid (by rw [hw5]; exact (HF2.out.setCell (fun h => by have h1 := HQ.out; have h2 : q < w.heap.size := h; omega) _).setCell (fun h => by have h1 := HQ.out; have h2 : q < w.heap.size := h; omega) _);have d0 : w5.cell? ⟨q, 0, none⟩ = some (.bool false) := hr5.cell rfl;have d1 : w5.cell? ⟨q, 1, none⟩ = some (.string ⟨#[]⟩) := hr5.cell rfl;clear hr5 hw5;rw [HG.out];exact bodyPost_ret (v := .tuple #[.agg #[.bool false, (.string ⟨#[]⟩)], .int .i64 0, .int .i64 (E : Int)]) (by simp [results, Tryz.results132, go_sem, d0, d1]) rfl ⟨rfl, HF5.out⟩
end
section
open Go
def hasRegion (r : Nat) : Code → Bool
 | .region id _ _ => id == r
 | .seq a b => hasRegion r a || hasRegion r b
 | .cond _ a b => hasRegion r a || hasRegion r b
 | .block _ c => hasRegion r c
 | .loop c => hasRegion r c
 | .scope c => hasRegion r c
 | _ => false
def loopAt (r : Nat) : Code → Option Code
 | .seq a b => match loopAt r a with
  | some c => some c
  | none => loopAt r b
 | .cond _ a b => match loopAt r a with
  | some c => some c
  | none => loopAt r b
 | .block _ c => loopAt r c
 | .scope c => loopAt r c
 | .loop c => match loopAt r c with
  | some d => some d
  | none => bif hasRegion r c then some c else none
 | _ => none
def onExit (n : Nat) (Q1 : Act → World → Prop) : Exit → Act → World → Prop
 | .exit m, a, w => m = n ∧ Q1 a w
 | _, _, _ => False
theorem onExit_imp {n : Nat} {Q0 : Exit → Act → World → Prop} : ∀ e a w, onExit n (Q0 (.exit n)) e a w → Q0 e a w := by
 intro e a w h;cases e with
 | exit m => obtain ⟨rfl, h⟩ := h; exact h
 | _ => exact h.elim
end
end Go.Proofs.YtbabgnadgdidmaaGreat
