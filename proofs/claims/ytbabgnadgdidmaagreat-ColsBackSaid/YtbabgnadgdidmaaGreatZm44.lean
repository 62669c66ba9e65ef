import Derived.Test.YtbabgnadgdidmaaGreatZm00
import Derived.Test.YtbabgnadgdidmaaGreatZm43
import Derived.Test.YtbabgnadgdidmaaGreatZm31
import Derived.Test.YtbabgnadgdidmaaGreatZm13
import Derived.Test.YtbabgnadgdidmaaGreatZm14
import Derived.Lib.AppendZerosOnto
set_option maxRecDepth 100000
set_option maxHeartbeats 12800000
namespace Go.Proofs.YtbabgnadgdidmaaGreat
open Go.RowKit Mem Go.Lib LebM UtfM VaM OpM AcM RleM CsM
attribute [local go_sem ↓] Go.wp_at_zero Go.wp_at_succ
set_option linter.unusedVariables false
theorem name_any (g o : Nat) (A1 : Option Addr) (c1 : Nat) (A2 : Option Addr) (c2 : Nat) (La Lc : List C) (AT : Option Addr) (nT cT : Nat) (T : List Tx) (k : Nat) (w : World)
    (h0 : w.cell? ⟨g, o, none⟩ = some (.slice A1 La.length c1)) (h1 : w.cell? ⟨g, o + 1, none⟩ = some (.slice A2 Lc.length c2)) (hA : Cls nv w A1 La.length La) (hC : Cls nv w A2 Lc.length Lc) (hT : Rd w AT nT (T.map tc))
    (hk : k < La.length) (hk2 : k < Lc.length) (hn : nT ≤ 1000000) (hlen : La.length ≤ 1000000) (hlen2 : Lc.length ≤ 1000000) (hp : ∀ x ∈ La, 0 ≤ x.2) :
    Calls Tryz.prog 75 #[.pointer (some ⟨g, o, none⟩), .slice AT nT cT, .int .i64 (k : Int)] w fun e w' => e = .returned (nmc (nameP T La Lc k)) ∧ Fr (fun _ => False) w w' := by
 have hTl : T.length = nT := by simpa using hT.1
 obtain ⟨x, hx⟩ : ∃ x, La[k]? = some x := ⟨_, List.getElem?_eq_getElem hk⟩
 obtain ⟨y, hy⟩ : ∃ y, Lc[k]? = some y := ⟨_, List.getElem?_eq_getElem hk2⟩
 have hp := hp x (List.mem_of_getElem? hx);have hnm : nameP T La Lc k = ⟨y.2, if x.1 = true ∧ x.2 < nT then T.getD x.2.toNat [] else []⟩ := by
  unfold nameP;rw [List.getD_eq_getElem?_getD, List.getD_eq_getElem?_getD, hx, hy, hTl];rfl
 obtain ⟨gx, ox, rfl, _, a0, a1⟩ := hA.2 k x hx;obtain ⟨gy, oy, rfl, _, _, b1⟩ := hC.2 k y hy;simp only [nv] at a1 b1;obtain ⟨N, hN⟩ := nm_ y.2;obtain ⟨t, ht⟩ := nm_ x.1;obtain ⟨v, hv⟩ : ∃ v : Nat, x.2 = (v : Int) := ⟨x.2.toNat, by omega⟩
 rw [hN] at b1;rw [ht] at a0;rw [hv] at a1;rw [hN, ht, hv] at hnm;obtain ⟨RES, hRES⟩ := nm_ (nameP T La Lc k);rw [hRES] at hnm ⊢;have hres : RES = ⟨N, if t = true ∧ v < nT then T.getD v [] else []⟩ := by
  rw [hnm];congr 1;by_cases h : t = true ∧ v < nT
  · rw [if_pos h, if_pos ⟨h.1, by omega⟩, Int.toNat_natCast]
  · rw [if_neg h, if_neg (fun h2 => h ⟨h2.1, by omega⟩)]
 obtain ⟨la, hla⟩ := nm_ La.length;obtain ⟨lc, hlc⟩ := nm_ Lc.length;rw [hla] at h0 hk hlen;rw [hlc] at h1 hk2 hlen2;obtain ⟨g1, hg1⟩ := nm_ w.heap.size;obtain ⟨w1, hw1⟩ : ∃ w1, w.alloc (.cells #[.int .i64 0, .string ⟨#[]⟩] 50) = w1 := ⟨_, rfl⟩
 have hf1 : Fr (fun _ => False) w w1 := by rw [← hw1]; exact (Fr.refl _ _).alloc _
 have hr1 : RowN w1 g1 zeroN := by rw [← hw1, ← hg1]; exact RowN.new w zeroN
 obtain ⟨g2, hg2⟩ := nm_ w1.heap.size;obtain ⟨w2, hw2⟩ : ∃ w2, w1.alloc (.cells #[.int .i64 0, .string ⟨#[]⟩] 50) = w2 := ⟨_, rfl⟩
 have hf2 : Fr (fun _ => False) w1 w2 := by rw [← hw2]; exact (Fr.refl _ _).alloc _
 have hr2 : RowN w2 g2 zeroN := by rw [← hw2, ← hg2]; exact RowN.new w1 zeroN
 have HX := hid (hr1.fr hf2 (fun h => h));have HZ := hid hr2;have HF := hid (hf1.trans hf2 im_);have HG : Hid (w.heap.size = g1 ∧ g1 < g2) := hid ⟨hg1, by have := hr1.lt; omega⟩;have HRES := hid hres;have HT := hid hT;have HTL := hid hTl;have HA0 := hid (And.intro h0 (And.intro a0 a1));have h1' := hf1.cell h1 (fun h => h);have b1' := hf1.cell b1 (fun h => h);clear hf1 hr1 hf2 hr2 hres hnm hRES hT hA hC hx hy hN ht hv hp hla hlc h0 a0 a1 hTl;go_enter Tryz.func75, Tryz.ntmps75
 go_upto_region 1 with fail
 go_upto_region 2 with (refine store_st nSz rfl (.tmp 7) (.tmp 17) rfl g2 (by rfl) [.int .i64 N, .string ⟨#[]⟩] (by rfl) _ _ HZ.out rfl rfl (by simp [Value.oneCell']) ?_)
 intro v2 hr2 hf2;clear hw1 hw2 hg1 hg2 h1 b1 h1' b1';have HF2 := hid (HF.out.trans hf2 (fun z hz e => by have := HG.out; omega));have HX2 := hid (HX.out.fr hf2 (fun e => by have := HG.out; omega));have HN2 : Hid (RowN v2 g2 ⟨N, []⟩) := hid hr2;clear hr2 hf2;obtain ⟨g3, hg3⟩ := nm_ v2.heap.size;obtain ⟨v3, hv3⟩ := nm_ (v2.alloc (.cells #[.bool false, .int .i64 0] 78));have hf3 : Fr (fun _ => False) v2 v3 := by rw [← hv3]; exact (Fr.refl _ _).alloc _
 have HR3 : Hid (Row v3 g3 78 [.bool false, .int .i64 0]) := hid (by rw [← hv3, ← hg3]; exact Row.new v2 _ _);have HG3 : Hid (v2.heap.size = g3 ∧ g2 < g3) := hid ⟨hg3, by have := HN2.out.lt; omega⟩;have h0 := HF2.out.cell HA0.out.1 (fun h => h);have a0 := HF2.out.cell HA0.out.2.1 (fun h => h);have a1 := HF2.out.cell HA0.out.2.2 (fun h => h);have HF3 := hid hf3;clear hf3
 go_upto_region 3 with (refine store_st cSz rfl (.tmp 8) (.tmp 24) rfl g3 (by rfl) [.bool t, .int .i64 (v : Int)] (by rfl) _ _ HR3.out rfl rfl (c_one _ _) ?_)
 intro v4 hr4 hf4;clear hv3 hg3 h0 a0 a1;have hf34 := HF3.out.trans hf4 (fun z hz e => by have := HG3.out; omega : ∀ z, z < v2.heap.size → z = g3 → False);have HF4 := hid (HF2.out.trans hf34 im_);have HX4 := hid (HX2.out.fr hf34 (fun h => h));have HN4 := hid (HN2.out.fr hf34 (fun h => h));have e0 : v4.cell? ⟨g3, 0, none⟩ = some (.bool t) := hr4.cell rfl;have e1 : v4.cell? ⟨g3, 1, none⟩ = some (.int .i64 (v : Int)) := hr4.cell rfl;clear hr4 hf4 hf34 HF3 HR3 HX2 HN2;obtain ⟨q, hq⟩ := nm_ (decide (v < nT));have tq : decide ((v : Int) < (nT : Int)) = q := by rw [← hq]; exact decide_eq_decide.2 (by omega)
 have HQ := hid hq;have hfin : ∀ (a : Tx) (v5 : World), Hid (RES = ⟨N, a⟩) → RowN v5 g2 ⟨N, a⟩ → RowN v5 g1 zeroN → Fr (fun _ => False) w v5 → ∀ v6, Row v6 g1 50 (nls ⟨N, a⟩) → Fr (fun b => b = g1) v5 v6 → RowN v6 g1 RES ∧ Fr (fun _ => False) w v6 := by
  intro a v5 hR _ _ hf v6 hr hf6;rw [hR.out];exact ⟨hr, hf.trans hf6 (fun z hz e => by have := HG.out; omega)⟩
 have HFIN := hid hfin;clear hfin;by_cases hc : t = true ∧ q = true
 · obtain ⟨rfl, rfl⟩ := hc;have hv : v < nT := of_decide_eq_true HQ.out;obtain ⟨ad, a, rfl, ha, hcell⟩ := rd_tx (HT.out.fr HF4.out (fun _ _ h => h)) hv;have HRS : Hid (RES = ⟨N, a⟩) := hid (by rw [HRES.out, if_pos ⟨rfl, hv⟩, List.getD_eq_getElem?_getD, ha]; rfl);have hset : RowN (v4.setCell ⟨g2, 1, none⟩ (.string (txt a))) g2 ⟨N, a⟩ := Row.set HN4.out 1 _;have hfs := Fr.set1 v4 g2 1 (.string (txt a));have fz : v4.frozen? ⟨g2, 1, none⟩ = false := Row.free HN4.out 1;obtain ⟨d0, d1⟩ := HN4.out.cells;have HS := hid hset;have HFS := hid hfs;clear hset hfs ha
   go_upto_region 5 with fail
   clear hcell fz d0 d1 e0 e1 hv tq hq;obtain ⟨v5, hv5⟩ : ∃ v, v4.setCell ⟨g2, 1, none⟩ (.string (txt a)) = v := ⟨_, rfl⟩
   rw [hv5] at HS HFS ⊢;clear hv5;have HX5 := hid (HX4.out.fr HFS.out (fun e => by have := HG.out; omega));have HN5 := hid HS.out;have HF5 := hid (HF4.out.trans HFS.out (fun z hz e => by have := HG.out; omega));obtain ⟨d0, d1⟩ := HN5.out.cells;go_wp2_with (refine store_st nSz rfl (.tmp 6) (.tmp 40) rfl g1 (by rfl) (nls ⟨N, a⟩) (by rfl) _ _ HX5.out rfl rfl (n_one _) ?_)
   intro v6 hr6 hf6;obtain ⟨hr, hf⟩ := HFIN.out a v5 HRS HN5.out HX5.out HF5.out v6 hr6 hf6;have HH := hid hf;clear hr6 hf6 hf d0 d1;obtain ⟨d0, d1⟩ := hr.cells;clear hr;go_wp2_with fail;exact bodyPost_ret (v := nmc RES) (by simp [results, nmc, d0, d1, Tryz.results75, go_sem]) rfl ⟨rfl, HH.out⟩
 · have HRS : Hid (RES = ⟨N, []⟩) := hid (by rw [HRES.out, if_neg (fun h => hc ⟨h.1, by rw [← HQ.out]; exact decide_eq_true h.2⟩)]);have htq : (t = false ∧ True) ∨ (t = true ∧ q = false) := by revert hc; cases t <;> cases q <;> simp
   clear hc;rcases htq with ⟨rfl, _⟩ | ⟨rfl, rfl⟩
   · go_upto_region 5 with fail
     clear e0 e1;have HX5 := hid HX4.out;have HN5 := hid HN4.out;have HF5 := hid HF4.out;obtain ⟨d0, d1⟩ := HN5.out.cells;go_wp2_with (refine store_st nSz rfl (.tmp 6) (.tmp 40) rfl g1 (by rfl) (nls ⟨N, []⟩) (by rfl) _ _ HX5.out rfl rfl (n_one _) ?_)
     intro v6 hr6 hf6;obtain ⟨hr, hf⟩ := HFIN.out [] v4 HRS HN5.out HX5.out HF5.out v6 hr6 hf6;have HH := hid hf;clear hr6 hf6 hf d0 d1;obtain ⟨d0, d1⟩ := hr.cells;clear hr;go_wp2_with fail;exact bodyPost_ret (v := nmc RES) (by simp [results, nmc, d0, d1, Tryz.results75, go_sem]) rfl ⟨rfl, HH.out⟩
   · go_upto_region 5 with fail
     clear e0 e1;have HX5 := hid HX4.out;have HN5 := hid HN4.out;have HF5 := hid HF4.out;obtain ⟨d0, d1⟩ := HN5.out.cells;go_wp2_with (refine store_st nSz rfl (.tmp 6) (.tmp 40) rfl g1 (by rfl) (nls ⟨N, []⟩) (by rfl) _ _ HX5.out rfl rfl (n_one _) ?_)
     intro v6 hr6 hf6;obtain ⟨hr, hf⟩ := HFIN.out [] v4 HRS HN5.out HX5.out HF5.out v6 hr6 hf6;have HH := hid hf;clear hr6 hf6 hf d0 d1;obtain ⟨d0, d1⟩ := hr.cells;clear hr;go_wp2_with fail;exact bodyPost_ret (v := nmc RES) (by simp [results, nmc, d0, d1, Tryz.results75, go_sem]) rfl ⟨rfl, HH.out⟩
end Go.Proofs.YtbabgnadgdidmaaGreat
namespace Go.Proofs.YtbabgnadgdidmaaGreat.Mem
open Go Go.Lib
section
variable {P : Program}
end
end Go.Proofs.YtbabgnadgdidmaaGreat.Mem
