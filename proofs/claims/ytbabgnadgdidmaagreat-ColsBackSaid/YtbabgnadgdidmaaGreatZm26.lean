import Derived.Test.YtbabgnadgdidmaaGreatZm00
import Derived.Test.YtbabgnadgdidmaaGreatZm06
import Derived.Test.YtbabgnadgdidmaaGreatZm25
set_option linter.unusedVariables false
set_option maxRecDepth 100000
set_option maxHeartbeats 12800000
namespace Go.Proofs.YtbabgnadgdidmaaGreat
section
open Go.RowKit Mem Go.Lib RleM LebM
attribute [local go_sem ↓] Go.wp_at_zero Go.wp_at_succ
def fpU : Value := .func (.func 124) #[] #[]
def fgU : Value := .func (.func 125) #[] #[]
abbrev RdU (w : World) (base g : Nat) (most : Int) (r : Rs (Bool × Int)) : Prop := Rdr nv 216 206 fpU fgU w base g most r
abbrev EndsU (base g : Nat) (most : Int) (res : Except Nat (Rs (Bool × Int))) (e : Ending) (w : World) : Prop := Ends nv 216 206 fpU fgU base g most res e w
theorem tookU_any (base g : Nat) (most : Int) (left : List UInt8) (gs : List ((Bool × Int) × Nat)) (cnt : Nat) (w : World) (hR : RdU w base g most ⟨left, gs, cnt⟩) (hl : left.length ≤ 1000000) :
    Calls Tryz.prog 182 #[.pointer (some ⟨g, 2, none⟩), .func (.func 125) #[] #[]] w fun e w' => e = .returned (.tuple #[.agg #[.bool (kU.get left).1.1, (.int .i64 (kU.get left).1.2)], .int .i64 ((kU.get left).2.2 : Int)]) ∧
     RdU w' base g most ⟨left.drop (kU.get left).2.1, gs, cnt⟩ ∧ Fr (fun b => b = g) w w' := by
 obtain ⟨⟨A, nl, c, Ag, cg, hrow, hrd, hnc, hA, hO⟩, hbg⟩ := hR;simp only at hrow hrd hO;have hln : left.length = nl := by simpa using hrd.1
 refine (takeU_any base g _ _ _ _ _ _ A nl c left w hrow hrd hnc hA hbg (by omega)).mono ?_;rintro e w2 ⟨rfl, ⟨A2, c2, hrow2, hrd2, hnc2, hA2⟩, hf2⟩;exact ⟨rfl, Rdr.left (L := left) hrow hO hbg (by decide) hf2 ⟨A2, c2, _, hrow2, hrd2, hnc2, hA2⟩, hf2⟩
theorem sameU_any (base g : Nat) (most : Int) (n : Nat) (r : Rs (Bool × Int)) (w : World) (hR : RdU w base g most r) (hI : Inv okU r) (hn : n < 9223372036854775808) (hm0 : -9223372036854775808 ≤ most) (hm1 : most ≤ 1000000) :
    Calls Tryz.prog 161 #[.pointer (some ⟨g, 0, none⟩), .int .u64 (n : Int)] w fun e w' => Fr (fun k => base ≤ k) w w' ∧ EndsU base g most (sameG kU most n r) e w' := by
 obtain ⟨left, gs, cnt⟩ := r;have hlen := hI.len;have hcnt := hI.cnt;simp only at hlen hcnt;have hbg := hR.base;have HBG := hid hbg;have hft := fitsC_any g cnt n most w hR.cells.1 hR.cells.2.1 (by omega) hm0 (by omega) (by omega);obtain ⟨RES, hRES⟩ : ∃ R, R = sameG kU most n (⟨left, gs, cnt⟩ : Rs (Bool × Int)) := ⟨_, rfl⟩
 rw [← hRES];unfold sameG at hRES;simp only at hRES;obtain ⟨Q, hQ⟩ := nm_ (decide ((cnt : Int) + (n : Nat) ≤ most));rw [hQ] at hft;have HFT := hid hft;have HR := hid hR;have HI := hid hI;have HQ := hid hQ;have r0 : IntKind.i64.wrap (n : Int) = (n : Int) := by rw [IntKind.wrap_i64]; omega
 clear hft hR hI hQ hbg;cases Q with
 | false =>
  have hfit : ¬ (cnt : Int) + (n : Nat) ≤ most := of_decide_eq_false HQ.out;rw [if_neg hfit] at hRES;have HRES := hid hRES;clear hRES hfit;go_enter Tryz.func161, Tryz.ntmps161;go_wp2_with fail;refine HFT.out.mono ?_;rintro e w3 ⟨rfl, hf3⟩;have HF3 : Hid (Fr (fun k => base ≤ k) w w3) := hid (Fr.up0 hf3);clear hf3 HFT;go_wp2_with fail;go_ret;rw [HRES.out];exact ⟨HF3.out, rfl, by decide⟩
 | true =>
  have hfit : (cnt : Int) + (n : Nat) ≤ most := of_decide_eq_true HQ.out;rw [if_pos hfit] at hRES;have hN6 : cnt + n ≤ 1000000 := by omega
  have hbd := getU_bd left;have hpos := getU_pos (B := left);obtain ⟨i, hi⟩ : ∃ i, i = (kU.get left).1.1 := ⟨_, rfl⟩
  obtain ⟨x, hx⟩ : ∃ x, x = (kU.get left).1.2 := ⟨_, rfl⟩
  obtain ⟨k, hk⟩ : ∃ k, k = (kU.get left).2.1 := ⟨_, rfl⟩
  obtain ⟨E, hE⟩ : ∃ E, E = (kU.get left).2.2 := ⟨_, rfl⟩
  have hix : (kU.get left).1 = (i, x) := by rw [hi, hx]
  rw [hix, ← hk, ← hE] at hRES;rw [hix, ← hk, ← hE] at hbd;rw [← hk, ← hE] at hpos;have htk : ∀ w', RdU w' base g most ⟨left, gs, cnt⟩ → Calls Tryz.prog 182 #[.pointer (some ⟨g, 2, none⟩), .func (.func 125) #[] #[]] w' fun e w'' => e = .returned (.tuple #[.agg #[.bool i, (.int .i64 x)], .int .i64 (E : Int)]) ∧ RdU w'' base g most ⟨left.drop k, gs, cnt⟩ ∧ Fr (fun b => b = g) w' w'' := by
   intro w' h';have h := tookU_any base g most left gs cnt w' h' (by omega);rw [← hi, ← hx, ← hk, ← hE] at h;exact h
  have HTK := hid htk;have HRES := hid hRES;have HPOS := hid hpos;have HBD := hid hbd;clear hi hx hk hE hix hRES hpos hbd htk hfit;go_enter Tryz.func161, Tryz.ntmps161;go_wp2_with fail;refine HFT.out.mono ?_;rintro e w3 ⟨rfl, hf3⟩;have HR3 := hid (HR.out.fr hf3);have HF3 : Hid (Fr (fun k => base ≤ k) w w3) := hid (Fr.up0 hf3);have j1 : w3.cell? ⟨g, 1, none⟩ = some fgU := HR3.out.cells.2.2.2;have HJ1 := hid j1;unfold fgU at j1;clear hf3 HFT
  go_upto_region 3 with fail
  go_cut [5, 6] (fun a b wx => ∃ pb, a = .pointer (some ⟨pb, 0, none⟩) ∧ b = .int .i64 (E : Int) ∧ Row wx pb 78 [.bool i, (.int .i64 x)] ∧ RdU wx base g most ⟨left.drop k, gs, cnt⟩ ∧ Fr (fun k => base ≤ k) w wx)
  case first =>
   refine wp_region_noPanic ?_;refine wp_region_held_drew (S := fun w' => w'.cell? ⟨g, 1, none⟩ = some (.func (.func 125) #[] #[])) (by kernel_rfl) ?_ (fun hHeld => ?_)
   · exact j1
   refine tk 0 hHeld ?_;refine tk 1 hHeld ?_;refine tk 2 hHeld ?_;refine tk 3 hHeld ?_;refine tk 4 hHeld ?_;refine tk 5 hHeld ?_;refine tk 6 hHeld ?_;refine tk 7 hHeld ?_;refine wpAnyH_ready (rs := [8, 12]) (by kernel_rfl) (by simp) ?_;refine AllReadyH.cons rfl (fun Kx hKx => ?_) ?_
   · go_simp
     refine (HTK.out w3.drew (HR3.out.fr (Fr.refl _ _).drew)).mono ?_;rintro e w5 ⟨rfl, hR5, hf5⟩;have HR5 := hid hR5;have HF5 := hid (HF3.out.drew.trans (Fr.up hf5 HBG.out) (fun _ _ h => h));clear hR5 hf5;refine hKx.out _ _ ?_ (fun hHeld => ?_)
     · exact HR5.out.cells.2.2.2
     clear hKx Kx;refine tk 9 hHeld ?_;refine tk 10 hHeld ?_;refine tk 11 hHeld ?_;refine rdo 12 (fun Kx hKx => ?_)
     go_simp
     obtain ⟨w4, hwa⟩ := nm_ ((w5.alloc (.cells #[.bool false, (.int .i64 0)] 78)));rw [hwa];obtain ⟨pb, hpb⟩ := nm_ w5.heap.size
     try rw [hpb]
     have hfa : Fr (fun _ => False) w5 w4 := by rw [← hwa]; exact (Fr.refl _ _).alloc _
     have hpa : Row w4 pb 78 [.bool false, (.int .i64 0)] := by rw [← hwa, ← hpb]; exact Row.new w5 _ _
     have HPG : Hid (base ≤ pb ∧ pb ≠ g) := hid (by have h1 := HR5.out.lt; have h2 := HBG.out; omega);have HRa := hid (HR5.out.fr hfa);have HFa := hid (HF5.out.trans (Fr.up0 hfa) (fun _ _ h => h));have HPa := hid hpa;clear hwa hpb hfa hpa;have HR4 := HRa;have HF4 := HFa;have HP4 := HPa;have z0 : w4.frozen? ⟨pb, 0, none⟩ = false := HPa.out.free 0;have z1 : w4.frozen? ⟨pb, 1, none⟩ = false := HPa.out.free 1;have y0 : w4.cell? ⟨pb, 0, none⟩ = some (.bool false) := HPa.out.cell rfl;have y1 : w4.cell? ⟨pb, 1, none⟩ = some (.int .i64 0) := HPa.out.cell rfl;refine hKx.out _ _ ?_ (fun hHeld => ?_)
     · exact HR4.out.cells.2.2.2
     clear hKx Kx;refine rdo 13 (fun Kx hKx => ?_)
     go_simp
     refine hKx.out _ _ ?_ (fun hHeld => ?_)
     · exact (HR4.out.other2 HP4.out HPG.out (by decide)).cells.2.2.2
     clear hKx Kx;refine rdo 14 (fun Kx hKx => ?_)
     go_simp
     refine hKx.out _ _ ?_ (fun hHeld => ?_)
     · exact (HR4.out.other2 HP4.out HPG.out (by decide)).cells.2.2.2
     clear hKx Kx
     (try simp only [Act.put, List.setIfInBounds_toArray, List.set_cons_zero, List.set_cons_succ, List.getElem_toArray, List.getElem_cons_zero, List.getElem_cons_succ])
     refine wpAnyH_done (by kernel_rfl) ?_ _;refine NoPanic.normal ?_
     all_goals (go_wp2_with fail; go_meet; exact ⟨pb, rfl, rfl, (HP4.out.set 0 _).set 1 _, HR4.out.other2 HP4.out HPG.out (by decide), HF4.out.trans ((Fr.set1 w4 pb 0 _).trans (Fr.set1 _ pb 1 _) (fun _ _ h => h)) (fun b _ h => by have := HPG.out.1; omega)⟩)
   refine AllReadyH.cons rfl (fun Kx hKx => ?_) AllReadyH.nil
   go_simp
   obtain ⟨wa, hwa⟩ := nm_ ((w3.alloc (.cells #[.bool false, (.int .i64 0)] 78)).drew);rw [hwa];obtain ⟨pb, hpb⟩ := nm_ w3.heap.size
   try rw [hpb]
   have hfa : Fr (fun _ => False) w3 wa := by rw [← hwa]; exact ((Fr.refl _ _).alloc _).drew
   have hpa : Row wa pb 78 [.bool false, (.int .i64 0)] := by rw [← hwa, ← hpb]; exact Row.new w3 _ _
   have HPG : Hid (base ≤ pb ∧ pb ≠ g) := hid (by have h1 := HR3.out.lt; have h2 := HBG.out; omega);have HRa := hid (HR3.out.fr hfa);have HFa := hid (HF3.out.trans (Fr.up0 hfa) (fun _ _ h => h));have HPa := hid hpa;clear hwa hpb hfa hpa;refine hKx.out _ _ ?_ (fun hHeld => ?_)
   · exact HRa.out.cells.2.2.2
   clear hKx Kx;refine rdo 8 (fun Kx hKx => ?_)
   go_simp
   refine (HTK.out wa HRa.out).mono ?_;rintro e w4 ⟨rfl, hR4, hf4⟩;have HR4 := hid hR4;have HP4 := hid (HPa.out.fr hf4 HPG.out.2);have HF4 := hid (HFa.out.trans (Fr.up hf4 HBG.out) (fun _ _ h => h));clear hR4 hf4 HRa HFa HPa;have z0 : w4.frozen? ⟨pb, 0, none⟩ = false := HP4.out.free 0;have z1 : w4.frozen? ⟨pb, 1, none⟩ = false := HP4.out.free 1;have y0 : w4.cell? ⟨pb, 0, none⟩ = some (.bool false) := HP4.out.cell rfl;have y1 : w4.cell? ⟨pb, 1, none⟩ = some (.int .i64 0) := HP4.out.cell rfl;refine hKx.out _ _ ?_ (fun hHeld => ?_)
   · exact HR4.out.cells.2.2.2
   clear hKx Kx;refine tk 9 hHeld ?_;refine tk 10 hHeld ?_;refine tk 11 hHeld ?_;refine rdo 13 (fun Kx hKx => ?_)
   go_simp
   refine hKx.out _ _ ?_ (fun hHeld => ?_)
   · exact (HR4.out.other2 HP4.out HPG.out (by decide)).cells.2.2.2
   clear hKx Kx;refine rdo 14 (fun Kx hKx => ?_)
   go_simp
   refine hKx.out _ _ ?_ (fun hHeld => ?_)
   · exact (HR4.out.other2 HP4.out HPG.out (by decide)).cells.2.2.2
   clear hKx Kx
   (try simp only [Act.put, List.setIfInBounds_toArray, List.set_cons_zero, List.set_cons_succ, List.getElem_toArray, List.getElem_cons_zero, List.getElem_cons_succ])
   refine wpAnyH_done (by kernel_rfl) ?_ _;refine NoPanic.normal ?_;go_wp2_with fail
   go_meet
   exact ⟨pb, rfl, rfl, (HP4.out.set 0 _).set 1 _, HR4.out.other2 HP4.out HPG.out (by decide), HF4.out.trans ((Fr.set1 w4 pb 0 _).trans (Fr.set1 _ pb 1 _) (fun _ _ h => h)) (fun b _ h => by have := HPG.out.1; omega)⟩
  case rest =>
   obtain ⟨pb, rfl, rfl, hpb, hR4, hf4⟩ := hcut
   rename World => w4
   have p0 : w4.cell? ⟨pb, 0, none⟩ = some (.bool i) := hpb.cell rfl;have p1 : w4.cell? ⟨pb, 1, none⟩ = some (.int .i64 x) := hpb.cell rfl;have HR4 := hid hR4;have HF4 := hid hf4;have hres := HRES.out;clear hpb hR4 hf4 HTK HR3 HF3 HJ1 j1;by_cases he : E = 0
   · have t0 : ((E : Int) != 0) = false := by simp; omega
     have t0' : (E != 0) = false := by simp; omega
     rw [if_neg (by omega)] at hres;have HX := hid hres;have had := raddC_any fpU fgU base g most (left.drop k) gs cnt n i x w4 HR4.out HI.out.small.1 (fun g hg => HI.out.small.2 g hg n (by omega)) (by omega);have HAD := hid had;clear he hres had;go_wp2_with fail;refine HAD.out.mono ?_;rintro e w5 ⟨rfl, hR5, hf5⟩;have HR5 := hid hR5;have HF5 := hid (HF4.out.trans hf5 im_);clear hR5 hf5 HAD;go_wp2_with fail;go_ret;rw [HX.out];exact ⟨HF5.out, rfl, HR5.out⟩
   · have t0 : ((E : Int) != 0) = true := by simp; omega
     have t0' : (E != 0) = true := by simp; omega
     rw [if_pos he] at hres;have HX := hid hres;have HE := hid he;clear he hres;go_wp2_with fail;go_ret;rw [HX.out];exact ⟨HF4.out, rfl, HE.out⟩
def fpS : Value := .func (.func 157) #[] #[]
def fgS : Value := .func (.func 158) #[] #[]
abbrev RdS (w : World) (base g : Nat) (most : Int) (r : Rs (Bool × Int)) : Prop := Rdr nv 216 206 fpS fgS w base g most r
abbrev EndsS (base g : Nat) (most : Int) (res : Except Nat (Rs (Bool × Int))) (e : Ending) (w : World) : Prop := Ends nv 216 206 fpS fgS base g most res e w
theorem tookS_any (base g : Nat) (most : Int) (left : List UInt8) (gs : List ((Bool × Int) × Nat)) (cnt : Nat) (w : World) (hR : RdS w base g most ⟨left, gs, cnt⟩) (hl : left.length ≤ 1000000) :
    Calls Tryz.prog 182 #[.pointer (some ⟨g, 2, none⟩), .func (.func 158) #[] #[]] w fun e w' => e = .returned (.tuple #[.agg #[.bool (kS.get left).1.1, (.int .i64 (kS.get left).1.2)], .int .i64 ((kS.get left).2.2 : Int)]) ∧
     RdS w' base g most ⟨left.drop (kS.get left).2.1, gs, cnt⟩ ∧ Fr (fun b => b = g) w w' := by
 obtain ⟨⟨A, nl, c, Ag, cg, hrow, hrd, hnc, hA, hO⟩, hbg⟩ := hR;simp only at hrow hrd hO;have hln : left.length = nl := by simpa using hrd.1
 refine (takeS_any base g _ _ _ _ _ _ A nl c left w hrow hrd hnc hA hbg (by omega)).mono ?_;rintro e w2 ⟨rfl, ⟨A2, c2, hrow2, hrd2, hnc2, hA2⟩, hf2⟩;exact ⟨rfl, Rdr.left (L := left) hrow hO hbg (by decide) hf2 ⟨A2, c2, _, hrow2, hrd2, hnc2, hA2⟩, hf2⟩
theorem sameS_any (base g : Nat) (most : Int) (n : Nat) (r : Rs (Bool × Int)) (w : World) (hR : RdS w base g most r) (hI : Inv okS r) (hn : n < 9223372036854775808) (hm0 : -9223372036854775808 ≤ most) (hm1 : most ≤ 1000000) :
    Calls Tryz.prog 161 #[.pointer (some ⟨g, 0, none⟩), .int .u64 (n : Int)] w fun e w' => Fr (fun k => base ≤ k) w w' ∧ EndsS base g most (sameG kS most n r) e w' := by
 obtain ⟨left, gs, cnt⟩ := r;have hlen := hI.len;have hcnt := hI.cnt;simp only at hlen hcnt;have hbg := hR.base;have HBG := hid hbg;have hft := fitsC_any g cnt n most w hR.cells.1 hR.cells.2.1 (by omega) hm0 (by omega) (by omega);obtain ⟨RES, hRES⟩ : ∃ R, R = sameG kS most n (⟨left, gs, cnt⟩ : Rs (Bool × Int)) := ⟨_, rfl⟩
 rw [← hRES];unfold sameG at hRES;simp only at hRES;obtain ⟨Q, hQ⟩ := nm_ (decide ((cnt : Int) + (n : Nat) ≤ most));rw [hQ] at hft;have HFT := hid hft;have HR := hid hR;have HI := hid hI;have HQ := hid hQ;have r0 : IntKind.i64.wrap (n : Int) = (n : Int) := by rw [IntKind.wrap_i64]; omega
 clear hft hR hI hQ hbg;cases Q with
 | false =>
  have hfit : ¬ (cnt : Int) + (n : Nat) ≤ most := of_decide_eq_false HQ.out;rw [if_neg hfit] at hRES;have HRES := hid hRES;clear hRES hfit;go_enter Tryz.func161, Tryz.ntmps161;go_wp2_with fail;refine HFT.out.mono ?_;rintro e w3 ⟨rfl, hf3⟩;have HF3 : Hid (Fr (fun k => base ≤ k) w w3) := hid (Fr.up0 hf3);clear hf3 HFT;go_wp2_with fail;go_ret;rw [HRES.out];exact ⟨HF3.out, rfl, by decide⟩
 | true =>
  have hfit : (cnt : Int) + (n : Nat) ≤ most := of_decide_eq_true HQ.out;rw [if_pos hfit] at hRES;have hN6 : cnt + n ≤ 1000000 := by omega
  have hbd := getS_bd left;have hpos := getS_pos (B := left);obtain ⟨i, hi⟩ : ∃ i, i = (kS.get left).1.1 := ⟨_, rfl⟩
  obtain ⟨x, hx⟩ : ∃ x, x = (kS.get left).1.2 := ⟨_, rfl⟩
  obtain ⟨k, hk⟩ : ∃ k, k = (kS.get left).2.1 := ⟨_, rfl⟩
  obtain ⟨E, hE⟩ : ∃ E, E = (kS.get left).2.2 := ⟨_, rfl⟩
  have hix : (kS.get left).1 = (i, x) := by rw [hi, hx]
  rw [hix, ← hk, ← hE] at hRES;rw [hix, ← hk, ← hE] at hbd;rw [← hk, ← hE] at hpos;have htk : ∀ w', RdS w' base g most ⟨left, gs, cnt⟩ → Calls Tryz.prog 182 #[.pointer (some ⟨g, 2, none⟩), .func (.func 158) #[] #[]] w' fun e w'' => e = .returned (.tuple #[.agg #[.bool i, (.int .i64 x)], .int .i64 (E : Int)]) ∧ RdS w'' base g most ⟨left.drop k, gs, cnt⟩ ∧ Fr (fun b => b = g) w' w'' := by
   intro w' h';have h := tookS_any base g most left gs cnt w' h' (by omega);rw [← hi, ← hx, ← hk, ← hE] at h;exact h
  have HTK := hid htk;have HRES := hid hRES;have HPOS := hid hpos;have HBD := hid hbd;clear hi hx hk hE hix hRES hpos hbd htk hfit;go_enter Tryz.func161, Tryz.ntmps161;go_wp2_with fail;refine HFT.out.mono ?_;rintro e w3 ⟨rfl, hf3⟩;have HR3 := hid (HR.out.fr hf3);have HF3 : Hid (Fr (fun k => base ≤ k) w w3) := hid (Fr.up0 hf3);have j1 : w3.cell? ⟨g, 1, none⟩ = some fgS := HR3.out.cells.2.2.2;have HJ1 := hid j1;unfold fgS at j1;clear hf3 HFT
  go_upto_region 3 with fail
  go_cut [5, 6] (fun a b wx => ∃ pb, a = .pointer (some ⟨pb, 0, none⟩) ∧ b = .int .i64 (E : Int) ∧ Row wx pb 78 [.bool i, (.int .i64 x)] ∧ RdS wx base g most ⟨left.drop k, gs, cnt⟩ ∧ Fr (fun k => base ≤ k) w wx)
  case first =>
   refine wp_region_noPanic ?_;refine wp_region_held_drew (S := fun w' => w'.cell? ⟨g, 1, none⟩ = some (.func (.func 158) #[] #[])) (by kernel_rfl) ?_ (fun hHeld => ?_)
   · exact j1
   refine tk 0 hHeld ?_;refine tk 1 hHeld ?_;refine tk 2 hHeld ?_;refine tk 3 hHeld ?_;refine tk 4 hHeld ?_;refine tk 5 hHeld ?_;refine tk 6 hHeld ?_;refine tk 7 hHeld ?_;refine wpAnyH_ready (rs := [8, 12]) (by kernel_rfl) (by simp) ?_;refine AllReadyH.cons rfl (fun Kx hKx => ?_) ?_
   · go_simp
     refine (HTK.out w3.drew (HR3.out.fr (Fr.refl _ _).drew)).mono ?_;rintro e w5 ⟨rfl, hR5, hf5⟩;have HR5 := hid hR5;have HF5 := hid (HF3.out.drew.trans (Fr.up hf5 HBG.out) (fun _ _ h => h));clear hR5 hf5;refine hKx.out _ _ ?_ (fun hHeld => ?_)
     · exact HR5.out.cells.2.2.2
     clear hKx Kx;refine tk 9 hHeld ?_;refine tk 10 hHeld ?_;refine tk 11 hHeld ?_;refine rdo 12 (fun Kx hKx => ?_)
     go_simp
     obtain ⟨w4, hwa⟩ := nm_ ((w5.alloc (.cells #[.bool false, (.int .i64 0)] 78)));rw [hwa];obtain ⟨pb, hpb⟩ := nm_ w5.heap.size
     try rw [hpb]
     have hfa : Fr (fun _ => False) w5 w4 := by rw [← hwa]; exact (Fr.refl _ _).alloc _
     have hpa : Row w4 pb 78 [.bool false, (.int .i64 0)] := by rw [← hwa, ← hpb]; exact Row.new w5 _ _
     have HPG : Hid (base ≤ pb ∧ pb ≠ g) := hid (by have h1 := HR5.out.lt; have h2 := HBG.out; omega);have HRa := hid (HR5.out.fr hfa);have HFa := hid (HF5.out.trans (Fr.up0 hfa) (fun _ _ h => h));have HPa := hid hpa;clear hwa hpb hfa hpa;have HR4 := HRa;have HF4 := HFa;have HP4 := HPa;have z0 : w4.frozen? ⟨pb, 0, none⟩ = false := HPa.out.free 0;have z1 : w4.frozen? ⟨pb, 1, none⟩ = false := HPa.out.free 1;have y0 : w4.cell? ⟨pb, 0, none⟩ = some (.bool false) := HPa.out.cell rfl;have y1 : w4.cell? ⟨pb, 1, none⟩ = some (.int .i64 0) := HPa.out.cell rfl;refine hKx.out _ _ ?_ (fun hHeld => ?_)
     · exact HR4.out.cells.2.2.2
     clear hKx Kx;refine rdo 13 (fun Kx hKx => ?_)
     go_simp
     refine hKx.out _ _ ?_ (fun hHeld => ?_)
     · exact (HR4.out.other2 HP4.out HPG.out (by decide)).cells.2.2.2
     clear hKx Kx;refine rdo 14 (fun Kx hKx => ?_)
     go_simp
     refine hKx.out _ _ ?_ (fun hHeld => ?_)
     · exact (HR4.out.other2 HP4.out HPG.out (by decide)).cells.2.2.2
     clear hKx Kx
     (try simp only [Act.put, List.setIfInBounds_toArray, List.set_cons_zero, List.set_cons_succ, List.getElem_toArray, List.getElem_cons_zero, List.getElem_cons_succ])
     refine wpAnyH_done (by kernel_rfl) ?_ _;refine NoPanic.normal ?_
     all_goals (go_wp2_with fail; go_meet; exact ⟨pb, rfl, rfl, (HP4.out.set 0 _).set 1 _, HR4.out.other2 HP4.out HPG.out (by decide), HF4.out.trans ((Fr.set1 w4 pb 0 _).trans (Fr.set1 _ pb 1 _) (fun _ _ h => h)) (fun b _ h => by have := HPG.out.1; omega)⟩)
   refine AllReadyH.cons rfl (fun Kx hKx => ?_) AllReadyH.nil
   go_simp
   obtain ⟨wa, hwa⟩ := nm_ ((w3.alloc (.cells #[.bool false, (.int .i64 0)] 78)).drew);rw [hwa];obtain ⟨pb, hpb⟩ := nm_ w3.heap.size
   try rw [hpb]
   have hfa : Fr (fun _ => False) w3 wa := by rw [← hwa]; exact ((Fr.refl _ _).alloc _).drew
   have hpa : Row wa pb 78 [.bool false, (.int .i64 0)] := by rw [← hwa, ← hpb]; exact Row.new w3 _ _
   have HPG : Hid (base ≤ pb ∧ pb ≠ g) := hid (by have h1 := HR3.out.lt; have h2 := HBG.out; omega);have HRa := hid (HR3.out.fr hfa);have HFa := hid (HF3.out.trans (Fr.up0 hfa) (fun _ _ h => h));have HPa := hid hpa;clear hwa hpb hfa hpa;refine hKx.out _ _ ?_ (fun hHeld => ?_)
   · exact HRa.out.cells.2.2.2
   clear hKx Kx;refine rdo 8 (fun Kx hKx => ?_)
   go_simp
   refine (HTK.out wa HRa.out).mono ?_;rintro e w4 ⟨rfl, hR4, hf4⟩;have HR4 := hid hR4;have HP4 := hid (HPa.out.fr hf4 HPG.out.2);have HF4 := hid (HFa.out.trans (Fr.up hf4 HBG.out) (fun _ _ h => h));clear hR4 hf4 HRa HFa HPa;have z0 : w4.frozen? ⟨pb, 0, none⟩ = false := HP4.out.free 0;have z1 : w4.frozen? ⟨pb, 1, none⟩ = false := HP4.out.free 1;have y0 : w4.cell? ⟨pb, 0, none⟩ = some (.bool false) := HP4.out.cell rfl;have y1 : w4.cell? ⟨pb, 1, none⟩ = some (.int .i64 0) := HP4.out.cell rfl;refine hKx.out _ _ ?_ (fun hHeld => ?_)
   · exact HR4.out.cells.2.2.2
   clear hKx Kx;refine tk 9 hHeld ?_;refine tk 10 hHeld ?_;refine tk 11 hHeld ?_;refine rdo 13 (fun Kx hKx => ?_)
   go_simp
   refine hKx.out _ _ ?_ (fun hHeld => ?_)
   · exact (HR4.out.other2 HP4.out HPG.out (by decide)).cells.2.2.2
   clear hKx Kx;refine rdo 14 (fun Kx hKx => ?_)
   go_simp
   refine hKx.out _ _ ?_ (fun hHeld => ?_)
   · exact (HR4.out.other2 HP4.out HPG.out (by decide)).cells.2.2.2
   clear hKx Kx
   (try simp only [Act.put, List.setIfInBounds_toArray, List.set_cons_zero, List.set_cons_succ, List.getElem_toArray, List.getElem_cons_zero, List.getElem_cons_succ])
   refine wpAnyH_done (by kernel_rfl) ?_ _;refine NoPanic.normal ?_;go_wp2_with fail
   go_meet
   exact ⟨pb, rfl, rfl, (HP4.out.set 0 _).set 1 _, HR4.out.other2 HP4.out HPG.out (by decide), HF4.out.trans ((Fr.set1 w4 pb 0 _).trans (Fr.set1 _ pb 1 _) (fun _ _ h => h)) (fun b _ h => by have := HPG.out.1; omega)⟩
  case rest =>
   obtain ⟨pb, rfl, rfl, hpb, hR4, hf4⟩ := hcut
   rename World => w4
   have p0 : w4.cell? ⟨pb, 0, none⟩ = some (.bool i) := hpb.cell rfl;have p1 : w4.cell? ⟨pb, 1, none⟩ = some (.int .i64 x) := hpb.cell rfl;have HR4 := hid hR4;have HF4 := hid hf4;have hres := HRES.out;clear hpb hR4 hf4 HTK HR3 HF3 HJ1 j1;by_cases he : E = 0
   · have t0 : ((E : Int) != 0) = false := by simp; omega
     have t0' : (E != 0) = false := by simp; omega
     rw [if_neg (by omega)] at hres;have HX := hid hres;have had := raddC_any fpS fgS base g most (left.drop k) gs cnt n i x w4 HR4.out HI.out.small.1 (fun g hg => HI.out.small.2 g hg n (by omega)) (by omega);have HAD := hid had;clear he hres had;go_wp2_with fail;refine HAD.out.mono ?_;rintro e w5 ⟨rfl, hR5, hf5⟩;have HR5 := hid hR5;have HF5 := hid (HF4.out.trans hf5 im_);clear hR5 hf5 HAD;go_wp2_with fail;go_ret;rw [HX.out];exact ⟨HF5.out, rfl, HR5.out⟩
   · have t0 : ((E : Int) != 0) = true := by simp; omega
     have t0' : (E != 0) = true := by simp; omega
     rw [if_pos he] at hres;have HX := hid hres;have HE := hid he;clear he hres;go_wp2_with fail;go_ret;rw [HX.out];exact ⟨HF4.out, rfl, HE.out⟩
def fpW : Value := .func (.func 131) #[] #[]
def fgW : Value := .func (.func 132) #[] #[]
abbrev RdW (w : World) (base g : Nat) (most : Int) (r : Rs (Bool × (List UInt8))) : Prop := Rdr sv 220 212 fpW fgW w base g most r
abbrev EndsW (base g : Nat) (most : Int) (res : Except Nat (Rs (Bool × (List UInt8)))) (e : Ending) (w : World) : Prop := Ends sv 220 212 fpW fgW base g most res e w
theorem tookW_any (base g : Nat) (most : Int) (left : List UInt8) (gs : List ((Bool × (List UInt8)) × Nat)) (cnt : Nat) (w : World) (hR : RdW w base g most ⟨left, gs, cnt⟩) (hl : left.length ≤ 1000000) :
    Calls Tryz.prog 185 #[.pointer (some ⟨g, 2, none⟩), .func (.func 132) #[] #[]] w fun e w' => e = .returned (.tuple #[.agg #[.bool (kW.get left).1.1, (.string (txt (kW.get left).1.2))], .int .i64 ((kW.get left).2.2 : Int)]) ∧
     RdW w' base g most ⟨left.drop (kW.get left).2.1, gs, cnt⟩ ∧ Fr (fun b => b = g) w w' := by
 obtain ⟨⟨A, nl, c, Ag, cg, hrow, hrd, hnc, hA, hO⟩, hbg⟩ := hR;simp only at hrow hrd hO;have hln : left.length = nl := by simpa using hrd.1
 refine (takeW_any base g _ _ _ _ _ _ A nl c left w hrow hrd hnc hA hbg (by omega)).mono ?_;rintro e w2 ⟨rfl, ⟨A2, c2, hrow2, hrd2, hnc2, hA2⟩, hf2⟩;exact ⟨rfl, Rdr.left (L := left) hrow hO hbg (by decide) hf2 ⟨A2, c2, _, hrow2, hrd2, hnc2, hA2⟩, hf2⟩
theorem sameW_any (base g : Nat) (most : Int) (n : Nat) (r : Rs (Bool × (List UInt8))) (w : World) (hR : RdW w base g most r) (hI : Inv okW r) (hn : n < 9223372036854775808) (hm0 : -9223372036854775808 ≤ most) (hm1 : most ≤ 1000000) :
    Calls Tryz.prog 164 #[.pointer (some ⟨g, 0, none⟩), .int .u64 (n : Int)] w fun e w' => Fr (fun k => base ≤ k) w w' ∧ EndsW base g most (sameG kW most n r) e w' := by
 obtain ⟨left, gs, cnt⟩ := r;have hlen := hI.len;have hcnt := hI.cnt;simp only at hlen hcnt;have hbg := hR.base;have HBG := hid hbg;have hft := fitsW_any g cnt n most w hR.cells.1 hR.cells.2.1 (by omega) hm0 (by omega) (by omega);obtain ⟨RES, hRES⟩ : ∃ R, R = sameG kW most n (⟨left, gs, cnt⟩ : Rs (Bool × (List UInt8))) := ⟨_, rfl⟩
 rw [← hRES];unfold sameG at hRES;simp only at hRES;obtain ⟨Q, hQ⟩ := nm_ (decide ((cnt : Int) + (n : Nat) ≤ most));rw [hQ] at hft;have HFT := hid hft;have HR := hid hR;have HI := hid hI;have HQ := hid hQ;have r0 : IntKind.i64.wrap (n : Int) = (n : Int) := by rw [IntKind.wrap_i64]; omega
 clear hft hR hI hQ hbg;cases Q with
 | false =>
  have hfit : ¬ (cnt : Int) + (n : Nat) ≤ most := of_decide_eq_false HQ.out;rw [if_neg hfit] at hRES;have HRES := hid hRES;clear hRES hfit;go_enter Tryz.func164, Tryz.ntmps164;go_wp2_with fail;refine HFT.out.mono ?_;rintro e w3 ⟨rfl, hf3⟩;have HF3 : Hid (Fr (fun k => base ≤ k) w w3) := hid (Fr.up0 hf3);clear hf3 HFT;go_wp2_with fail;go_ret;rw [HRES.out];exact ⟨HF3.out, rfl, by decide⟩
 | true =>
  have hfit : (cnt : Int) + (n : Nat) ≤ most := of_decide_eq_true HQ.out;rw [if_pos hfit] at hRES;have hN6 : cnt + n ≤ 1000000 := by omega
  have hbd := getW_bd left (by omega);have hpos := getW_pos (B := left);obtain ⟨i, hi⟩ : ∃ i, i = (kW.get left).1.1 := ⟨_, rfl⟩
  obtain ⟨x, hx⟩ : ∃ x, x = (kW.get left).1.2 := ⟨_, rfl⟩
  obtain ⟨k, hk⟩ : ∃ k, k = (kW.get left).2.1 := ⟨_, rfl⟩
  obtain ⟨E, hE⟩ : ∃ E, E = (kW.get left).2.2 := ⟨_, rfl⟩
  have hix : (kW.get left).1 = (i, x) := by rw [hi, hx]
  rw [hix, ← hk, ← hE] at hRES;rw [hix, ← hk, ← hE] at hbd;rw [← hk, ← hE] at hpos;have htk : ∀ w', RdW w' base g most ⟨left, gs, cnt⟩ → Calls Tryz.prog 185 #[.pointer (some ⟨g, 2, none⟩), .func (.func 132) #[] #[]] w' fun e w'' => e = .returned (.tuple #[.agg #[.bool i, (.string (txt x))], .int .i64 (E : Int)]) ∧ RdW w'' base g most ⟨left.drop k, gs, cnt⟩ ∧ Fr (fun b => b = g) w' w'' := by
   intro w' h';have h := tookW_any base g most left gs cnt w' h' (by omega);rw [← hi, ← hx, ← hk, ← hE] at h;exact h
  have HTK := hid htk;have HRES := hid hRES;have HPOS := hid hpos;have HBD := hid hbd;clear hi hx hk hE hix hRES hpos hbd htk hfit;go_enter Tryz.func164, Tryz.ntmps164;go_wp2_with fail;refine HFT.out.mono ?_;rintro e w3 ⟨rfl, hf3⟩;have HR3 := hid (HR.out.fr hf3);have HF3 : Hid (Fr (fun k => base ≤ k) w w3) := hid (Fr.up0 hf3);have j1 : w3.cell? ⟨g, 1, none⟩ = some fgW := HR3.out.cells.2.2.2;have HJ1 := hid j1;unfold fgW at j1;clear hf3 HFT
  go_upto_region 3 with fail
  go_cut [5, 6] (fun a b wx => ∃ pb, a = .pointer (some ⟨pb, 0, none⟩) ∧ b = .int .i64 (E : Int) ∧ Row wx pb 81 [.bool i, (.string (txt x))] ∧ RdW wx base g most ⟨left.drop k, gs, cnt⟩ ∧ Fr (fun k => base ≤ k) w wx)
  case first =>
   refine wp_region_noPanic ?_;refine wp_region_held_drew (S := fun w' => w'.cell? ⟨g, 1, none⟩ = some (.func (.func 132) #[] #[])) (by kernel_rfl) ?_ (fun hHeld => ?_)
   · exact j1
   refine tk 0 hHeld ?_;refine tk 1 hHeld ?_;refine tk 2 hHeld ?_;refine tk 3 hHeld ?_;refine tk 4 hHeld ?_;refine tk 5 hHeld ?_;refine tk 6 hHeld ?_;refine tk 7 hHeld ?_;refine wpAnyH_ready (rs := [8, 12]) (by kernel_rfl) (by simp) ?_;refine AllReadyH.cons rfl (fun Kx hKx => ?_) ?_
   · go_simp
     refine (HTK.out w3.drew (HR3.out.fr (Fr.refl _ _).drew)).mono ?_;rintro e w5 ⟨rfl, hR5, hf5⟩;have HR5 := hid hR5;have HF5 := hid (HF3.out.drew.trans (Fr.up hf5 HBG.out) (fun _ _ h => h));clear hR5 hf5;refine hKx.out _ _ ?_ (fun hHeld => ?_)
     · exact HR5.out.cells.2.2.2
     clear hKx Kx;refine tk 9 hHeld ?_;refine tk 10 hHeld ?_;refine tk 11 hHeld ?_;refine rdo 12 (fun Kx hKx => ?_)
     go_simp
     obtain ⟨w4, hwa⟩ : ∃ y, (w5.alloc (.cells #[.bool false, (.string ⟨#[]⟩)] 81)) = y := ⟨_, rfl⟩
     rw [hwa];obtain ⟨pb, hpb⟩ := nm_ w5.heap.size
     try rw [hpb]
     have hfa : Fr (fun _ => False) w5 w4 := by rw [← hwa]; exact (Fr.refl _ _).alloc _
     have hpa : Row w4 pb 81 [.bool false, (.string ⟨#[]⟩)] := by rw [← hwa, ← hpb]; exact Row.new w5 _ _
     have HPG : Hid (base ≤ pb ∧ pb ≠ g) := hid (by have h1 := HR5.out.lt; have h2 := HBG.out; omega);have HRa := hid (HR5.out.fr hfa);have HFa := hid (HF5.out.trans (Fr.up0 hfa) (fun _ _ h => h));have HPa := hid hpa;clear hwa hpb hfa hpa;have HR4 := HRa;have HF4 := HFa;have HP4 := HPa;have z0 : w4.frozen? ⟨pb, 0, none⟩ = false := HPa.out.free 0;have z1 : w4.frozen? ⟨pb, 1, none⟩ = false := HPa.out.free 1;have y0 : w4.cell? ⟨pb, 0, none⟩ = some (.bool false) := HPa.out.cell rfl;have y1 : w4.cell? ⟨pb, 1, none⟩ = some (.string ⟨#[]⟩) := HPa.out.cell rfl;refine hKx.out _ _ ?_ (fun hHeld => ?_)
     · exact HR4.out.cells.2.2.2
     clear hKx Kx;refine rdo 13 (fun Kx hKx => ?_)
     go_simp
     refine hKx.out _ _ ?_ (fun hHeld => ?_)
     · exact (HR4.out.other2 HP4.out HPG.out (by decide)).cells.2.2.2
     clear hKx Kx;refine rdo 14 (fun Kx hKx => ?_)
     go_simp
     refine hKx.out _ _ ?_ (fun hHeld => ?_)
     · exact (HR4.out.other2 HP4.out HPG.out (by decide)).cells.2.2.2
     clear hKx Kx
     (try simp only [Act.put, List.setIfInBounds_toArray, List.set_cons_zero, List.set_cons_succ, List.getElem_toArray, List.getElem_cons_zero, List.getElem_cons_succ])
     refine wpAnyH_done (by kernel_rfl) ?_ _;refine NoPanic.normal ?_
     all_goals (go_wp2_with fail; go_meet; exact ⟨pb, rfl, rfl, (HP4.out.set 0 _).set 1 _, HR4.out.other2 HP4.out HPG.out (by decide), HF4.out.trans ((Fr.set1 w4 pb 0 _).trans (Fr.set1 _ pb 1 _) (fun _ _ h => h)) (fun b _ h => by have := HPG.out.1; omega)⟩)
   refine AllReadyH.cons rfl (fun Kx hKx => ?_) AllReadyH.nil
   go_simp
   obtain ⟨wa, hwa⟩ : ∃ y, (w3.alloc (.cells #[.bool false, (.string ⟨#[]⟩)] 81)).drew = y := ⟨_, rfl⟩
   rw [hwa];obtain ⟨pb, hpb⟩ := nm_ w3.heap.size
   try rw [hpb]
   have hfa : Fr (fun _ => False) w3 wa := by rw [← hwa]; exact ((Fr.refl _ _).alloc _).drew
   have hpa : Row wa pb 81 [.bool false, (.string ⟨#[]⟩)] := by rw [← hwa, ← hpb]; exact Row.new w3 _ _
   have HPG : Hid (base ≤ pb ∧ pb ≠ g) := hid (by have h1 := HR3.out.lt; have h2 := HBG.out; omega);have HRa := hid (HR3.out.fr hfa);have HFa := hid (HF3.out.trans (Fr.up0 hfa) (fun _ _ h => h));have HPa := hid hpa;clear hwa hpb hfa hpa;refine hKx.out _ _ ?_ (fun hHeld => ?_)
   · exact HRa.out.cells.2.2.2
   clear hKx Kx;refine rdo 8 (fun Kx hKx => ?_)
   go_simp
   refine (HTK.out wa HRa.out).mono ?_;rintro e w4 ⟨rfl, hR4, hf4⟩;have HR4 := hid hR4;have HP4 := hid (HPa.out.fr hf4 HPG.out.2);have HF4 := hid (HFa.out.trans (Fr.up hf4 HBG.out) (fun _ _ h => h));clear hR4 hf4 HRa HFa HPa;have z0 : w4.frozen? ⟨pb, 0, none⟩ = false := HP4.out.free 0;have z1 : w4.frozen? ⟨pb, 1, none⟩ = false := HP4.out.free 1;have y0 : w4.cell? ⟨pb, 0, none⟩ = some (.bool false) := HP4.out.cell rfl;have y1 : w4.cell? ⟨pb, 1, none⟩ = some (.string ⟨#[]⟩) := HP4.out.cell rfl;refine hKx.out _ _ ?_ (fun hHeld => ?_)
   · exact HR4.out.cells.2.2.2
   clear hKx Kx;refine tk 9 hHeld ?_;refine tk 10 hHeld ?_;refine tk 11 hHeld ?_;refine rdo 13 (fun Kx hKx => ?_)
   go_simp
   refine hKx.out _ _ ?_ (fun hHeld => ?_)
   · exact (HR4.out.other2 HP4.out HPG.out (by decide)).cells.2.2.2
   clear hKx Kx;refine rdo 14 (fun Kx hKx => ?_)
   go_simp
   refine hKx.out _ _ ?_ (fun hHeld => ?_)
   · exact (HR4.out.other2 HP4.out HPG.out (by decide)).cells.2.2.2
   clear hKx Kx
   (try simp only [Act.put, List.setIfInBounds_toArray, List.set_cons_zero, List.set_cons_succ, List.getElem_toArray, List.getElem_cons_zero, List.getElem_cons_succ])
   refine wpAnyH_done (by kernel_rfl) ?_ _;refine NoPanic.normal ?_;go_wp2_with fail
   go_meet
   exact ⟨pb, rfl, rfl, (HP4.out.set 0 _).set 1 _, HR4.out.other2 HP4.out HPG.out (by decide), HF4.out.trans ((Fr.set1 w4 pb 0 _).trans (Fr.set1 _ pb 1 _) (fun _ _ h => h)) (fun b _ h => by have := HPG.out.1; omega)⟩
  case rest =>
   obtain ⟨pb, rfl, rfl, hpb, hR4, hf4⟩ := hcut
   rename World => w4
   have p0 : w4.cell? ⟨pb, 0, none⟩ = some (.bool i) := hpb.cell rfl;have p1 : w4.cell? ⟨pb, 1, none⟩ = some (.string (txt x)) := hpb.cell rfl;have HR4 := hid hR4;have HF4 := hid hf4;have hres := HRES.out;clear hpb hR4 hf4 HTK HR3 HF3 HJ1 j1;by_cases he : E = 0
   · have t0 : ((E : Int) != 0) = false := by simp; omega
     have t0' : (E != 0) = false := by simp; omega
     rw [if_neg (by omega)] at hres;have HX := hid hres;have had := raddW_any fpW fgW base g most (left.drop k) gs cnt n i x w4 HR4.out HI.out.small.1 (fun g hg => HI.out.small.2 g hg n (by omega)) (by omega);have HAD := hid had;clear he hres had;go_wp2_with fail;refine HAD.out.mono ?_;rintro e w5 ⟨rfl, hR5, hf5⟩;have HR5 := hid hR5;have HF5 := hid (HF4.out.trans hf5 im_);clear hR5 hf5 HAD;go_wp2_with fail;go_ret;rw [HX.out];exact ⟨HF5.out, rfl, HR5.out⟩
   · have t0 : ((E : Int) != 0) = true := by simp; omega
     have t0' : (E != 0) = true := by simp; omega
     rw [if_pos he] at hres;have HX := hid hres;have HE := hid he;clear he hres;go_wp2_with fail;go_ret;rw [HX.out];exact ⟨HF4.out, rfl, HE.out⟩
end
section
open Go.RowKit Mem Go.Lib RleM LebM
attribute [local go_sem ↓] Go.wp_at_zero Go.wp_at_succ
theorem unlikeU_any (base g : Nat) (most : Int) (n : Nat) (r : Rs (Bool × Int)) (w : World) (hR : RdU w base g most r) (hI : Inv okU r) (hn : n < 18446744073709551616) (hm0 : -9223372036854775808 ≤ most) (hm1 : most ≤ 1000000) :
    Calls Tryz.prog 162 #[.pointer (some ⟨g, 0, none⟩), .int .u64 (n : Int)] w fun e w' => Fr (fun k => base ≤ k) w w' ∧ EndsU base g most (unlikeG kU most n r) e w' := by
 have hlen := hI.len;have hcnt := hI.cnt;have hbg := hR.base;have HBG := hid hbg;have hft := fitsC_any g r.count n most w hR.cells.1 hR.cells.2.1 (by omega) hm0 (by omega) (by omega);obtain ⟨RES, hRES⟩ : ∃ R, R = unlikeG kU most n r := ⟨_, rfl⟩
 rw [← hRES];unfold unlikeG at hRES;obtain ⟨Q, hQ⟩ := nm_ (decide ((r.count : Int) + (n : Nat) ≤ most));rw [hQ] at hft;have HFT := hid hft;have HR := hid hR;have HI := hid hI;have HQ := hid hQ;clear hft hR hI hQ hbg;cases Q with
 | false =>
  have hfit : ¬ (r.count : Int) + (n : Nat) ≤ most := of_decide_eq_false HQ.out;rw [if_neg hfit] at hRES;have HRES := hid hRES;clear hRES hfit;go_enter Tryz.func162, Tryz.ntmps162;go_wp2_with fail;refine HFT.out.mono ?_;rintro e w3 ⟨rfl, hf3⟩;have HF3 : Hid (Fr (fun k => base ≤ k) w w3) := hid (Fr.up0 hf3);clear hf3 HFT;go_wp2_with fail;go_ret;rw [HRES.out];exact ⟨HF3.out, rfl, by decide⟩
 | true =>
  have hfit : (r.count : Int) + (n : Nat) ≤ most := of_decide_eq_true HQ.out;rw [if_pos hfit] at hRES;have hN6 : r.count + n ≤ 1000000 := by omega
  have hn6 : n ≤ 1000000 := by omega
  have HRES := hid hRES;have HN6 := hid hN6;clear hRES hfit hN6 hlen hcnt;go_enter Tryz.func162, Tryz.ntmps162;go_wp2_with fail;refine HFT.out.mono ?_;rintro e w2 ⟨rfl, hf2⟩;have HR2 := hid (HR.out.fr hf2);have HF2 : Hid (Fr (fun k => base ≤ k) w w2) := hid (Fr.up0 hf2);clear hf2 HFT;go_wp2_with fail
  go_loopw [12] (fun v wr => ∃ (j : Nat) (r' : Rs (Bool × Int)), j ≤ n ∧ v = .int .u64 (j : Int) ∧ Hid (RdU wr base g most r') ∧ Hid (Inv okU r') ∧ Hid (manyG kU (n - j) r' = RES) ∧ Hid (r'.count + (n - j) ≤ 1000000) ∧ Hid (Fr (fun k => base ≤ k) w wr)) (fun v _ => n - (intOf v).toNat)
  case atStart => exact ⟨0, r, Nat.zero_le _, rfl, HR2.out, HI.out, HRES.out.symm, HN6.out, HF2.out⟩
  case round =>
   obtain ⟨j, ⟨left, gs, cnt⟩, hj, rfl, HR3, HI3, HE3, HN3, HF3⟩ := hrel
   rename World => w3
   by_cases hlt : j < n
   · have hlen := HI3.out.len;have hcnt := HI3.out.cnt;have hN3 := HN3.out;have hres := HE3.out;obtain ⟨m, hm⟩ : ∃ m, m = n - (j + 1) := ⟨_, rfl⟩
     rw [show n - j = m + 1 by omega] at hres hN3;rw [manyG] at hres;simp only at hlen hcnt hN3 hres;have hbd := getU_bd left;have hpos := getU_pos (B := left);obtain ⟨i, hi⟩ : ∃ i, i = (kU.get left).1.1 := ⟨_, rfl⟩
     obtain ⟨x, hx⟩ : ∃ x, x = (kU.get left).1.2 := ⟨_, rfl⟩
     obtain ⟨k, hk⟩ : ∃ k, k = (kU.get left).2.1 := ⟨_, rfl⟩
     obtain ⟨E, hE⟩ : ∃ E, E = (kU.get left).2.2 := ⟨_, rfl⟩
     have hix : (kU.get left).1 = (i, x) := by rw [hi, hx]
     rw [hix, ← hk, ← hE] at hres;rw [hix, ← hk, ← hE] at hbd;rw [← hk, ← hE] at hpos;have htk : ∀ w', RdU w' base g most ⟨left, gs, cnt⟩ → Calls Tryz.prog 182 #[.pointer (some ⟨g, 2, none⟩), .func (.func 125) #[] #[]] w' fun e w'' => e = .returned (.tuple #[.agg #[.bool i, (.int .i64 x)], .int .i64 (E : Int)]) ∧ RdU w'' base g most ⟨left.drop k, gs, cnt⟩ ∧ Fr (fun b => b = g) w' w'' := by
      intro w' h';have h := tookU_any base g most left gs cnt w' h' (by omega);rw [← hi, ← hx, ← hk, ← hE] at h;exact h
     have HTK := hid htk;have HRES2 := hid hres;have HPOS := hid hpos;have HBD := hid hbd;have HM := hid hm;have HC3 := hid (And.intro hlen (And.intro hcnt hN3));have j1 : w3.cell? ⟨g, 1, none⟩ = some fgU := HR3.out.cells.2.2.2;unfold fgU at j1;clear hi hx hk hE hix hres hpos hbd htk hm hlen hcnt hN3
     go_upto_region 5 with fail
     go_cut [5, 6] (fun a b wx => ∃ pb, a = .pointer (some ⟨pb, 0, none⟩) ∧ b = .int .i64 (E : Int) ∧ Row wx pb 78 [.bool i, (.int .i64 x)] ∧ RdU wx base g most ⟨left.drop k, gs, cnt⟩ ∧ Fr (fun k => base ≤ k) w wx)
     case first =>
      refine wp_region_noPanic ?_;refine wp_region_held_drew (S := fun w' => w'.cell? ⟨g, 1, none⟩ = some (.func (.func 125) #[] #[])) (by kernel_rfl) ?_ (fun hHeld => ?_)
      · exact j1
      refine tk 0 hHeld ?_;refine tk 1 hHeld ?_;refine tk 2 hHeld ?_;refine tk 3 hHeld ?_;refine tk 4 hHeld ?_;refine tk 5 hHeld ?_;refine tk 6 hHeld ?_;refine tk 7 hHeld ?_;refine wpAnyH_ready (rs := [8, 12]) (by kernel_rfl) (by simp) ?_;refine AllReadyH.cons rfl (fun Kx hKx => ?_) ?_
      · go_simp
        refine (HTK.out w3.drew (HR3.out.fr (Fr.refl _ _).drew)).mono ?_;rintro e w5 ⟨rfl, hR5, hf5⟩;have HR5 := hid hR5;have HF5 := hid (HF3.out.drew.trans (Fr.up hf5 HBG.out) (fun _ _ h => h));clear hR5 hf5;refine hKx.out _ _ ?_ (fun hHeld => ?_)
        · exact HR5.out.cells.2.2.2
        clear hKx Kx;refine tk 9 hHeld ?_;refine tk 10 hHeld ?_;refine tk 11 hHeld ?_;refine rdo 12 (fun Kx hKx => ?_)
        go_simp
        obtain ⟨w4, hwa⟩ := nm_ ((w5.alloc (.cells #[.bool false, (.int .i64 0)] 78)));rw [hwa];obtain ⟨pb, hpb⟩ := nm_ w5.heap.size
        try rw [hpb]
        have hfa : Fr (fun _ => False) w5 w4 := by rw [← hwa]; exact (Fr.refl _ _).alloc _
        have hpa : Row w4 pb 78 [.bool false, (.int .i64 0)] := by rw [← hwa, ← hpb]; exact Row.new w5 _ _
        have HPG : Hid (base ≤ pb ∧ pb ≠ g) := hid (by have h1 := HR5.out.lt; have h2 := HBG.out; omega);have HRa := hid (HR5.out.fr hfa);have HFa := hid (HF5.out.trans (Fr.up0 hfa) (fun _ _ h => h));have HPa := hid hpa;clear hwa hpb hfa hpa;have HR4 := HRa;have HF4 := HFa;have HP4 := HPa;have z0 : w4.frozen? ⟨pb, 0, none⟩ = false := HPa.out.free 0;have z1 : w4.frozen? ⟨pb, 1, none⟩ = false := HPa.out.free 1;have y0 : w4.cell? ⟨pb, 0, none⟩ = some (.bool false) := HPa.out.cell rfl;have y1 : w4.cell? ⟨pb, 1, none⟩ = some (.int .i64 0) := HPa.out.cell rfl;refine hKx.out _ _ ?_ (fun hHeld => ?_)
        · exact HR4.out.cells.2.2.2
        clear hKx Kx;refine rdo 13 (fun Kx hKx => ?_)
        go_simp
        refine hKx.out _ _ ?_ (fun hHeld => ?_)
        · exact (HR4.out.other2 HP4.out HPG.out (by decide)).cells.2.2.2
        clear hKx Kx;refine rdo 14 (fun Kx hKx => ?_)
        go_simp
        refine hKx.out _ _ ?_ (fun hHeld => ?_)
        · exact (HR4.out.other2 HP4.out HPG.out (by decide)).cells.2.2.2
        clear hKx Kx
        (try simp only [Act.put, List.setIfInBounds_toArray, List.set_cons_zero, List.set_cons_succ, List.getElem_toArray, List.getElem_cons_zero, List.getElem_cons_succ])
        refine wpAnyH_done (by kernel_rfl) ?_ _;refine NoPanic.normal ?_
        all_goals (go_wp2_with fail; go_meet; exact ⟨pb, rfl, rfl, (HP4.out.set 0 _).set 1 _, HR4.out.other2 HP4.out HPG.out (by decide), HF4.out.trans ((Fr.set1 w4 pb 0 _).trans (Fr.set1 _ pb 1 _) (fun _ _ h => h)) (fun b _ h => by have := HPG.out.1; omega)⟩)
      refine AllReadyH.cons rfl (fun Kx hKx => ?_) AllReadyH.nil
      go_simp
      obtain ⟨wa, hwa⟩ := nm_ ((w3.alloc (.cells #[.bool false, (.int .i64 0)] 78)).drew);rw [hwa];obtain ⟨pb, hpb⟩ := nm_ w3.heap.size
      try rw [hpb]
      have hfa : Fr (fun _ => False) w3 wa := by rw [← hwa]; exact ((Fr.refl _ _).alloc _).drew
      have hpa : Row wa pb 78 [.bool false, (.int .i64 0)] := by rw [← hwa, ← hpb]; exact Row.new w3 _ _
      have HPG : Hid (base ≤ pb ∧ pb ≠ g) := hid (by have h1 := HR3.out.lt; have h2 := HBG.out; omega);have HRa := hid (HR3.out.fr hfa);have HFa := hid (HF3.out.trans (Fr.up0 hfa) (fun _ _ h => h));have HPa := hid hpa;clear hwa hpb hfa hpa;refine hKx.out _ _ ?_ (fun hHeld => ?_)
      · exact HRa.out.cells.2.2.2
      clear hKx Kx;refine rdo 8 (fun Kx hKx => ?_)
      go_simp
      refine (HTK.out wa HRa.out).mono ?_;rintro e w4 ⟨rfl, hR4, hf4⟩;have HR4 := hid hR4;have HP4 := hid (HPa.out.fr hf4 HPG.out.2);have HF4 := hid (HFa.out.trans (Fr.up hf4 HBG.out) (fun _ _ h => h));clear hR4 hf4 HRa HFa HPa;have z0 : w4.frozen? ⟨pb, 0, none⟩ = false := HP4.out.free 0;have z1 : w4.frozen? ⟨pb, 1, none⟩ = false := HP4.out.free 1;have y0 : w4.cell? ⟨pb, 0, none⟩ = some (.bool false) := HP4.out.cell rfl;have y1 : w4.cell? ⟨pb, 1, none⟩ = some (.int .i64 0) := HP4.out.cell rfl;refine hKx.out _ _ ?_ (fun hHeld => ?_)
      · exact HR4.out.cells.2.2.2
      clear hKx Kx;refine tk 9 hHeld ?_;refine tk 10 hHeld ?_;refine tk 11 hHeld ?_;refine rdo 13 (fun Kx hKx => ?_)
      go_simp
      refine hKx.out _ _ ?_ (fun hHeld => ?_)
      · exact (HR4.out.other2 HP4.out HPG.out (by decide)).cells.2.2.2
      clear hKx Kx;refine rdo 14 (fun Kx hKx => ?_)
      go_simp
      refine hKx.out _ _ ?_ (fun hHeld => ?_)
      · exact (HR4.out.other2 HP4.out HPG.out (by decide)).cells.2.2.2
      clear hKx Kx
      (try simp only [Act.put, List.setIfInBounds_toArray, List.set_cons_zero, List.set_cons_succ, List.getElem_toArray, List.getElem_cons_zero, List.getElem_cons_succ])
      refine wpAnyH_done (by kernel_rfl) ?_ _;refine NoPanic.normal ?_;go_wp2_with fail
      go_meet
      exact ⟨pb, rfl, rfl, (HP4.out.set 0 _).set 1 _, HR4.out.other2 HP4.out HPG.out (by decide), HF4.out.trans ((Fr.set1 w4 pb 0 _).trans (Fr.set1 _ pb 1 _) (fun _ _ h => h)) (fun b _ h => by have := HPG.out.1; omega)⟩
     case rest =>
      obtain ⟨pb, rfl, rfl, hpb, hR4, hf4⟩ := hcut
      rename World => w4
      have p0 : w4.cell? ⟨pb, 0, none⟩ = some (.bool i) := hpb.cell rfl;have p1 : w4.cell? ⟨pb, 1, none⟩ = some (.int .i64 x) := hpb.cell rfl;have HR4 := hid hR4;have HF4 := hid hf4;have hres := HRES2.out;clear hpb hR4 hf4 HTK HR3 HF3 j1;by_cases he : E = 0
      · have t0 : ((E : Int) != 0) = false := by simp; omega
        have t0' : (E != 0) = false := by simp; omega
        rw [if_neg (by omega)] at hres;have HX := hid hres;have hI4 : Inv okU ⟨left.drop k, addG gs (i, x) 1, cnt + 1⟩ := HI3.out.add (by have h1 := HPOS.out he; have h2 := HBD.out.2.1; rw [List.length_drop]; omega) HBD.out.1 (by have := HC3.out; omega);have had := raddC_any fpU fgU base g most (left.drop k) gs cnt 1 i x w4 HR4.out HI3.out.small.1 (fun g hg => HI3.out.small.2 g hg 1 (by omega)) (by have := HC3.out; omega);have HAD := hid had;have HI4 := hid hI4;have HN4 : Hid (cnt + 1 + (n - (j + 1)) ≤ 1000000) := hid (by have h1 := HC3.out; have h2 := HM.out; omega);have HX2 : Hid (manyG kU (n - (j + 1)) ⟨left.drop k, addG gs (i, x) 1, cnt + 1⟩ = RES) := hid (by rw [← HM.out]; exact HX.out);clear he hres had hI4;go_wp2_with fail;refine HAD.out.mono ?_;rintro e w5 ⟨rfl, hR5, hf5⟩;have HR5 := hid hR5;have HF5 := hid (HF4.out.trans hf5 im_);clear hR5 hf5 HAD;go_wp2_with fail;exact ⟨⟨j + 1, ⟨left.drop k, addG gs (i, x) 1, cnt + 1⟩, by omega, by go_num, HR5.out, HI4.out, HX2.out, HN4.out, HF5.out⟩, by simp [intOf]; omega⟩
      · have t0 : ((E : Int) != 0) = true := by simp; omega
        have t0' : (E != 0) = true := by simp; omega
        rw [if_pos he] at hres;have HX := hid hres;have HE := hid he;clear he hres;go_wp2_with fail;go_ret;rw [← HX.out];exact ⟨HF4.out, rfl, HE.out⟩
   · obtain rfl : j = n := by omega
     have hX : Except.ok ⟨left, gs, cnt⟩ = RES := by have h := HE3.out; rw [Nat.sub_self] at h; exact h
     have HX := hid hX;clear hX;go_wp2_with fail;go_ret;rw [← HX.out];exact ⟨HF3.out, rfl, HR3.out⟩
theorem unlikeS_any (base g : Nat) (most : Int) (n : Nat) (r : Rs (Bool × Int)) (w : World) (hR : RdS w base g most r) (hI : Inv okS r) (hn : n < 18446744073709551616) (hm0 : -9223372036854775808 ≤ most) (hm1 : most ≤ 1000000) :
    Calls Tryz.prog 162 #[.pointer (some ⟨g, 0, none⟩), .int .u64 (n : Int)] w fun e w' => Fr (fun k => base ≤ k) w w' ∧ EndsS base g most (unlikeG kS most n r) e w' := by
 have hlen := hI.len;have hcnt := hI.cnt;have hbg := hR.base;have HBG := hid hbg;have hft := fitsC_any g r.count n most w hR.cells.1 hR.cells.2.1 (by omega) hm0 (by omega) (by omega);obtain ⟨RES, hRES⟩ : ∃ R, R = unlikeG kS most n r := ⟨_, rfl⟩
 rw [← hRES];unfold unlikeG at hRES;obtain ⟨Q, hQ⟩ := nm_ (decide ((r.count : Int) + (n : Nat) ≤ most));rw [hQ] at hft;have HFT := hid hft;have HR := hid hR;have HI := hid hI;have HQ := hid hQ;clear hft hR hI hQ hbg;cases Q with
 | false =>
  have hfit : ¬ (r.count : Int) + (n : Nat) ≤ most := of_decide_eq_false HQ.out;rw [if_neg hfit] at hRES;have HRES := hid hRES;clear hRES hfit;go_enter Tryz.func162, Tryz.ntmps162;go_wp2_with fail;refine HFT.out.mono ?_;rintro e w3 ⟨rfl, hf3⟩;have HF3 : Hid (Fr (fun k => base ≤ k) w w3) := hid (Fr.up0 hf3);clear hf3 HFT;go_wp2_with fail;go_ret;rw [HRES.out];exact ⟨HF3.out, rfl, by decide⟩
 | true =>
  have hfit : (r.count : Int) + (n : Nat) ≤ most := of_decide_eq_true HQ.out;rw [if_pos hfit] at hRES;have hN6 : r.count + n ≤ 1000000 := by omega
  have hn6 : n ≤ 1000000 := by omega
  have HRES := hid hRES;have HN6 := hid hN6;clear hRES hfit hN6 hlen hcnt;go_enter Tryz.func162, Tryz.ntmps162;go_wp2_with fail;refine HFT.out.mono ?_;rintro e w2 ⟨rfl, hf2⟩;have HR2 := hid (HR.out.fr hf2);have HF2 : Hid (Fr (fun k => base ≤ k) w w2) := hid (Fr.up0 hf2);clear hf2 HFT;go_wp2_with fail
  go_loopw [12] (fun v wr => ∃ (j : Nat) (r' : Rs (Bool × Int)), j ≤ n ∧ v = .int .u64 (j : Int) ∧ Hid (RdS wr base g most r') ∧ Hid (Inv okS r') ∧ Hid (manyG kS (n - j) r' = RES) ∧ Hid (r'.count + (n - j) ≤ 1000000) ∧ Hid (Fr (fun k => base ≤ k) w wr)) (fun v _ => n - (intOf v).toNat)
  case atStart => exact ⟨0, r, Nat.zero_le _, rfl, HR2.out, HI.out, HRES.out.symm, HN6.out, HF2.out⟩
  case round =>
   obtain ⟨j, ⟨left, gs, cnt⟩, hj, rfl, HR3, HI3, HE3, HN3, HF3⟩ := hrel
   rename World => w3
   by_cases hlt : j < n
   · have hlen := HI3.out.len;have hcnt := HI3.out.cnt;have hN3 := HN3.out;have hres := HE3.out;obtain ⟨m, hm⟩ : ∃ m, m = n - (j + 1) := ⟨_, rfl⟩
     rw [show n - j = m + 1 by omega] at hres hN3;rw [manyG] at hres;simp only at hlen hcnt hN3 hres;have hbd := getS_bd left;have hpos := getS_pos (B := left);obtain ⟨i, hi⟩ : ∃ i, i = (kS.get left).1.1 := ⟨_, rfl⟩
     obtain ⟨x, hx⟩ : ∃ x, x = (kS.get left).1.2 := ⟨_, rfl⟩
     obtain ⟨k, hk⟩ : ∃ k, k = (kS.get left).2.1 := ⟨_, rfl⟩
     obtain ⟨E, hE⟩ : ∃ E, E = (kS.get left).2.2 := ⟨_, rfl⟩
     have hix : (kS.get left).1 = (i, x) := by rw [hi, hx]
     rw [hix, ← hk, ← hE] at hres;rw [hix, ← hk, ← hE] at hbd;rw [← hk, ← hE] at hpos;have htk : ∀ w', RdS w' base g most ⟨left, gs, cnt⟩ → Calls Tryz.prog 182 #[.pointer (some ⟨g, 2, none⟩), .func (.func 158) #[] #[]] w' fun e w'' => e = .returned (.tuple #[.agg #[.bool i, (.int .i64 x)], .int .i64 (E : Int)]) ∧ RdS w'' base g most ⟨left.drop k, gs, cnt⟩ ∧ Fr (fun b => b = g) w' w'' := by
      intro w' h';have h := tookS_any base g most left gs cnt w' h' (by omega);rw [← hi, ← hx, ← hk, ← hE] at h;exact h
     have HTK := hid htk;have HRES2 := hid hres;have HPOS := hid hpos;have HBD := hid hbd;have HM := hid hm;have HC3 := hid (And.intro hlen (And.intro hcnt hN3));have j1 : w3.cell? ⟨g, 1, none⟩ = some fgS := HR3.out.cells.2.2.2;unfold fgS at j1;clear hi hx hk hE hix hres hpos hbd htk hm hlen hcnt hN3
     go_upto_region 5 with fail
     go_cut [5, 6] (fun a b wx => ∃ pb, a = .pointer (some ⟨pb, 0, none⟩) ∧ b = .int .i64 (E : Int) ∧ Row wx pb 78 [.bool i, (.int .i64 x)] ∧ RdS wx base g most ⟨left.drop k, gs, cnt⟩ ∧ Fr (fun k => base ≤ k) w wx)
     case first =>
      refine wp_region_noPanic ?_;refine wp_region_held_drew (S := fun w' => w'.cell? ⟨g, 1, none⟩ = some (.func (.func 158) #[] #[])) (by kernel_rfl) ?_ (fun hHeld => ?_)
      · exact j1
      refine tk 0 hHeld ?_;refine tk 1 hHeld ?_;refine tk 2 hHeld ?_;refine tk 3 hHeld ?_;refine tk 4 hHeld ?_;refine tk 5 hHeld ?_;refine tk 6 hHeld ?_;refine tk 7 hHeld ?_;refine wpAnyH_ready (rs := [8, 12]) (by kernel_rfl) (by simp) ?_;refine AllReadyH.cons rfl (fun Kx hKx => ?_) ?_
      · go_simp
        refine (HTK.out w3.drew (HR3.out.fr (Fr.refl _ _).drew)).mono ?_;rintro e w5 ⟨rfl, hR5, hf5⟩;have HR5 := hid hR5;have HF5 := hid (HF3.out.drew.trans (Fr.up hf5 HBG.out) (fun _ _ h => h));clear hR5 hf5;refine hKx.out _ _ ?_ (fun hHeld => ?_)
        · exact HR5.out.cells.2.2.2
        clear hKx Kx;refine tk 9 hHeld ?_;refine tk 10 hHeld ?_;refine tk 11 hHeld ?_;refine rdo 12 (fun Kx hKx => ?_)
        go_simp
        obtain ⟨w4, hwa⟩ := nm_ ((w5.alloc (.cells #[.bool false, (.int .i64 0)] 78)));rw [hwa];obtain ⟨pb, hpb⟩ := nm_ w5.heap.size
        try rw [hpb]
        have hfa : Fr (fun _ => False) w5 w4 := by rw [← hwa]; exact (Fr.refl _ _).alloc _
        have hpa : Row w4 pb 78 [.bool false, (.int .i64 0)] := by rw [← hwa, ← hpb]; exact Row.new w5 _ _
        have HPG : Hid (base ≤ pb ∧ pb ≠ g) := hid (by have h1 := HR5.out.lt; have h2 := HBG.out; omega);have HRa := hid (HR5.out.fr hfa);have HFa := hid (HF5.out.trans (Fr.up0 hfa) (fun _ _ h => h));have HPa := hid hpa;clear hwa hpb hfa hpa;have HR4 := HRa;have HF4 := HFa;have HP4 := HPa;have z0 : w4.frozen? ⟨pb, 0, none⟩ = false := HPa.out.free 0;have z1 : w4.frozen? ⟨pb, 1, none⟩ = false := HPa.out.free 1;have y0 : w4.cell? ⟨pb, 0, none⟩ = some (.bool false) := HPa.out.cell rfl;have y1 : w4.cell? ⟨pb, 1, none⟩ = some (.int .i64 0) := HPa.out.cell rfl;refine hKx.out _ _ ?_ (fun hHeld => ?_)
        · exact HR4.out.cells.2.2.2
        clear hKx Kx;refine rdo 13 (fun Kx hKx => ?_)
        go_simp
        refine hKx.out _ _ ?_ (fun hHeld => ?_)
        · exact (HR4.out.other2 HP4.out HPG.out (by decide)).cells.2.2.2
        clear hKx Kx;refine rdo 14 (fun Kx hKx => ?_)
        go_simp
        refine hKx.out _ _ ?_ (fun hHeld => ?_)
        · exact (HR4.out.other2 HP4.out HPG.out (by decide)).cells.2.2.2
        clear hKx Kx
        (try simp only [Act.put, List.setIfInBounds_toArray, List.set_cons_zero, List.set_cons_succ, List.getElem_toArray, List.getElem_cons_zero, List.getElem_cons_succ])
        refine wpAnyH_done (by kernel_rfl) ?_ _;refine NoPanic.normal ?_
        all_goals (go_wp2_with fail; go_meet; exact ⟨pb, rfl, rfl, (HP4.out.set 0 _).set 1 _, HR4.out.other2 HP4.out HPG.out (by decide), HF4.out.trans ((Fr.set1 w4 pb 0 _).trans (Fr.set1 _ pb 1 _) (fun _ _ h => h)) (fun b _ h => by have := HPG.out.1; omega)⟩)
      refine AllReadyH.cons rfl (fun Kx hKx => ?_) AllReadyH.nil
      go_simp
      obtain ⟨wa, hwa⟩ := nm_ ((w3.alloc (.cells #[.bool false, (.int .i64 0)] 78)).drew);rw [hwa];obtain ⟨pb, hpb⟩ := nm_ w3.heap.size
      try rw [hpb]
      have hfa : Fr (fun _ => False) w3 wa := by rw [← hwa]; exact ((Fr.refl _ _).alloc _).drew
      have hpa : Row wa pb 78 [.bool false, (.int .i64 0)] := by rw [← hwa, ← hpb]; exact Row.new w3 _ _
      have HPG : Hid (base ≤ pb ∧ pb ≠ g) := hid (by have h1 := HR3.out.lt; have h2 := HBG.out; omega);have HRa := hid (HR3.out.fr hfa);have HFa := hid (HF3.out.trans (Fr.up0 hfa) (fun _ _ h => h));have HPa := hid hpa;clear hwa hpb hfa hpa;refine hKx.out _ _ ?_ (fun hHeld => ?_)
      · exact HRa.out.cells.2.2.2
      clear hKx Kx;refine rdo 8 (fun Kx hKx => ?_)
      go_simp
      refine (HTK.out wa HRa.out).mono ?_;rintro e w4 ⟨rfl, hR4, hf4⟩;have HR4 := hid hR4;have HP4 := hid (HPa.out.fr hf4 HPG.out.2);have HF4 := hid (HFa.out.trans (Fr.up hf4 HBG.out) (fun _ _ h => h));clear hR4 hf4 HRa HFa HPa;have z0 : w4.frozen? ⟨pb, 0, none⟩ = false := HP4.out.free 0;have z1 : w4.frozen? ⟨pb, 1, none⟩ = false := HP4.out.free 1;have y0 : w4.cell? ⟨pb, 0, none⟩ = some (.bool false) := HP4.out.cell rfl;have y1 : w4.cell? ⟨pb, 1, none⟩ = some (.int .i64 0) := HP4.out.cell rfl;refine hKx.out _ _ ?_ (fun hHeld => ?_)
      · exact HR4.out.cells.2.2.2
      clear hKx Kx;refine tk 9 hHeld ?_;refine tk 10 hHeld ?_;refine tk 11 hHeld ?_;refine rdo 13 (fun Kx hKx => ?_)
      go_simp
      refine hKx.out _ _ ?_ (fun hHeld => ?_)
      · exact (HR4.out.other2 HP4.out HPG.out (by decide)).cells.2.2.2
      clear hKx Kx;refine rdo 14 (fun Kx hKx => ?_)
      go_simp
      refine hKx.out _ _ ?_ (fun hHeld => ?_)
      · exact (HR4.out.other2 HP4.out HPG.out (by decide)).cells.2.2.2
      clear hKx Kx
      (try simp only [Act.put, List.setIfInBounds_toArray, List.set_cons_zero, List.set_cons_succ, List.getElem_toArray, List.getElem_cons_zero, List.getElem_cons_succ])
      refine wpAnyH_done (by kernel_rfl) ?_ _;refine NoPanic.normal ?_;go_wp2_with fail
      go_meet
      exact ⟨pb, rfl, rfl, (HP4.out.set 0 _).set 1 _, HR4.out.other2 HP4.out HPG.out (by decide), HF4.out.trans ((Fr.set1 w4 pb 0 _).trans (Fr.set1 _ pb 1 _) (fun _ _ h => h)) (fun b _ h => by have := HPG.out.1; omega)⟩
     case rest =>
      obtain ⟨pb, rfl, rfl, hpb, hR4, hf4⟩ := hcut
      rename World => w4
      have p0 : w4.cell? ⟨pb, 0, none⟩ = some (.bool i) := hpb.cell rfl;have p1 : w4.cell? ⟨pb, 1, none⟩ = some (.int .i64 x) := hpb.cell rfl;have HR4 := hid hR4;have HF4 := hid hf4;have hres := HRES2.out;clear hpb hR4 hf4 HTK HR3 HF3 j1;by_cases he : E = 0
      · have t0 : ((E : Int) != 0) = false := by simp; omega
        have t0' : (E != 0) = false := by simp; omega
        rw [if_neg (by omega)] at hres;have HX := hid hres;have hI4 : Inv okS ⟨left.drop k, addG gs (i, x) 1, cnt + 1⟩ := HI3.out.add (by have h1 := HPOS.out he; have h2 := HBD.out.2.1; rw [List.length_drop]; omega) HBD.out.1 (by have := HC3.out; omega);have had := raddC_any fpS fgS base g most (left.drop k) gs cnt 1 i x w4 HR4.out HI3.out.small.1 (fun g hg => HI3.out.small.2 g hg 1 (by omega)) (by have := HC3.out; omega);have HAD := hid had;have HI4 := hid hI4;have HN4 : Hid (cnt + 1 + (n - (j + 1)) ≤ 1000000) := hid (by have h1 := HC3.out; have h2 := HM.out; omega);have HX2 : Hid (manyG kS (n - (j + 1)) ⟨left.drop k, addG gs (i, x) 1, cnt + 1⟩ = RES) := hid (by rw [← HM.out]; exact HX.out);clear he hres had hI4;go_wp2_with fail;refine HAD.out.mono ?_;rintro e w5 ⟨rfl, hR5, hf5⟩;have HR5 := hid hR5;have HF5 := hid (HF4.out.trans hf5 im_);clear hR5 hf5 HAD;go_wp2_with fail;exact ⟨⟨j + 1, ⟨left.drop k, addG gs (i, x) 1, cnt + 1⟩, by omega, by go_num, HR5.out, HI4.out, HX2.out, HN4.out, HF5.out⟩, by simp [intOf]; omega⟩
      · have t0 : ((E : Int) != 0) = true := by simp; omega
        have t0' : (E != 0) = true := by simp; omega
        rw [if_pos he] at hres;have HX := hid hres;have HE := hid he;clear he hres;go_wp2_with fail;go_ret;rw [← HX.out];exact ⟨HF4.out, rfl, HE.out⟩
   · obtain rfl : j = n := by omega
     have hX : Except.ok ⟨left, gs, cnt⟩ = RES := by have h := HE3.out; rw [Nat.sub_self] at h; exact h
     have HX := hid hX;clear hX;go_wp2_with fail;go_ret;rw [← HX.out];exact ⟨HF3.out, rfl, HR3.out⟩
theorem unlikeW_any (base g : Nat) (most : Int) (n : Nat) (r : Rs (Bool × (List UInt8))) (w : World) (hR : RdW w base g most r) (hI : Inv okW r) (hn : n < 18446744073709551616) (hm0 : -9223372036854775808 ≤ most) (hm1 : most ≤ 1000000) :
    Calls Tryz.prog 165 #[.pointer (some ⟨g, 0, none⟩), .int .u64 (n : Int)] w fun e w' => Fr (fun k => base ≤ k) w w' ∧ EndsW base g most (unlikeG kW most n r) e w' := by
 have hlen := hI.len;have hcnt := hI.cnt;have hbg := hR.base;have HBG := hid hbg;have hft := fitsW_any g r.count n most w hR.cells.1 hR.cells.2.1 (by omega) hm0 (by omega) (by omega);obtain ⟨RES, hRES⟩ : ∃ R, R = unlikeG kW most n r := ⟨_, rfl⟩
 rw [← hRES];unfold unlikeG at hRES;obtain ⟨Q, hQ⟩ := nm_ (decide ((r.count : Int) + (n : Nat) ≤ most));rw [hQ] at hft;have HFT := hid hft;have HR := hid hR;have HI := hid hI;have HQ := hid hQ;clear hft hR hI hQ hbg;cases Q with
 | false =>
  have hfit : ¬ (r.count : Int) + (n : Nat) ≤ most := of_decide_eq_false HQ.out;rw [if_neg hfit] at hRES;have HRES := hid hRES;clear hRES hfit;go_enter Tryz.func165, Tryz.ntmps165;go_wp2_with fail;refine HFT.out.mono ?_;rintro e w3 ⟨rfl, hf3⟩;have HF3 : Hid (Fr (fun k => base ≤ k) w w3) := hid (Fr.up0 hf3);clear hf3 HFT;go_wp2_with fail;go_ret;rw [HRES.out];exact ⟨HF3.out, rfl, by decide⟩
 | true =>
  have hfit : (r.count : Int) + (n : Nat) ≤ most := of_decide_eq_true HQ.out;rw [if_pos hfit] at hRES;have hN6 : r.count + n ≤ 1000000 := by omega
  have hn6 : n ≤ 1000000 := by omega
  have HRES := hid hRES;have HN6 := hid hN6;clear hRES hfit hN6 hlen hcnt;go_enter Tryz.func165, Tryz.ntmps165;go_wp2_with fail;refine HFT.out.mono ?_;rintro e w2 ⟨rfl, hf2⟩;have HR2 := hid (HR.out.fr hf2);have HF2 : Hid (Fr (fun k => base ≤ k) w w2) := hid (Fr.up0 hf2);clear hf2 HFT;go_wp2_with fail
  go_loopw [12] (fun v wr => ∃ (j : Nat) (r' : Rs (Bool × (List UInt8))), j ≤ n ∧ v = .int .u64 (j : Int) ∧ Hid (RdW wr base g most r') ∧ Hid (Inv okW r') ∧ Hid (manyG kW (n - j) r' = RES) ∧ Hid (r'.count + (n - j) ≤ 1000000) ∧ Hid (Fr (fun k => base ≤ k) w wr)) (fun v _ => n - (intOf v).toNat)
  case atStart => exact ⟨0, r, Nat.zero_le _, rfl, HR2.out, HI.out, HRES.out.symm, HN6.out, HF2.out⟩
  case round =>
   obtain ⟨j, ⟨left, gs, cnt⟩, hj, rfl, HR3, HI3, HE3, HN3, HF3⟩ := hrel
   rename World => w3
   by_cases hlt : j < n
   · have hlen := HI3.out.len;have hcnt := HI3.out.cnt;have hN3 := HN3.out;have hres := HE3.out;obtain ⟨m, hm⟩ : ∃ m, m = n - (j + 1) := ⟨_, rfl⟩
     rw [show n - j = m + 1 by omega] at hres hN3;rw [manyG] at hres;simp only at hlen hcnt hN3 hres;have hbd := getW_bd left (by omega);have hpos := getW_pos (B := left);obtain ⟨i, hi⟩ : ∃ i, i = (kW.get left).1.1 := ⟨_, rfl⟩
     obtain ⟨x, hx⟩ : ∃ x, x = (kW.get left).1.2 := ⟨_, rfl⟩
     obtain ⟨k, hk⟩ : ∃ k, k = (kW.get left).2.1 := ⟨_, rfl⟩
     obtain ⟨E, hE⟩ : ∃ E, E = (kW.get left).2.2 := ⟨_, rfl⟩
     have hix : (kW.get left).1 = (i, x) := by rw [hi, hx]
     rw [hix, ← hk, ← hE] at hres;rw [hix, ← hk, ← hE] at hbd;rw [← hk, ← hE] at hpos;have htk : ∀ w', RdW w' base g most ⟨left, gs, cnt⟩ → Calls Tryz.prog 185 #[.pointer (some ⟨g, 2, none⟩), .func (.func 132) #[] #[]] w' fun e w'' => e = .returned (.tuple #[.agg #[.bool i, (.string (txt x))], .int .i64 (E : Int)]) ∧ RdW w'' base g most ⟨left.drop k, gs, cnt⟩ ∧ Fr (fun b => b = g) w' w'' := by
      intro w' h';have h := tookW_any base g most left gs cnt w' h' (by omega);rw [← hi, ← hx, ← hk, ← hE] at h;exact h
     have HTK := hid htk;have HRES2 := hid hres;have HPOS := hid hpos;have HBD := hid hbd;have HM := hid hm;have HC3 := hid (And.intro hlen (And.intro hcnt hN3));have j1 : w3.cell? ⟨g, 1, none⟩ = some fgW := HR3.out.cells.2.2.2;unfold fgW at j1;clear hi hx hk hE hix hres hpos hbd htk hm hlen hcnt hN3
     go_upto_region 5 with fail
     go_cut [5, 6] (fun a b wx => ∃ pb, a = .pointer (some ⟨pb, 0, none⟩) ∧ b = .int .i64 (E : Int) ∧ Row wx pb 81 [.bool i, (.string (txt x))] ∧ RdW wx base g most ⟨left.drop k, gs, cnt⟩ ∧ Fr (fun k => base ≤ k) w wx)
     case first =>
      refine wp_region_noPanic ?_;refine wp_region_held_drew (S := fun w' => w'.cell? ⟨g, 1, none⟩ = some (.func (.func 132) #[] #[])) (by kernel_rfl) ?_ (fun hHeld => ?_)
      · exact j1
      refine tk 0 hHeld ?_;refine tk 1 hHeld ?_;refine tk 2 hHeld ?_;refine tk 3 hHeld ?_;refine tk 4 hHeld ?_;refine tk 5 hHeld ?_;refine tk 6 hHeld ?_;refine tk 7 hHeld ?_;refine wpAnyH_ready (rs := [8, 12]) (by kernel_rfl) (by simp) ?_;refine AllReadyH.cons rfl (fun Kx hKx => ?_) ?_
      · go_simp
        refine (HTK.out w3.drew (HR3.out.fr (Fr.refl _ _).drew)).mono ?_;rintro e w5 ⟨rfl, hR5, hf5⟩;have HR5 := hid hR5;have HF5 := hid (HF3.out.drew.trans (Fr.up hf5 HBG.out) (fun _ _ h => h));clear hR5 hf5;refine hKx.out _ _ ?_ (fun hHeld => ?_)
        · exact HR5.out.cells.2.2.2
        clear hKx Kx;refine tk 9 hHeld ?_;refine tk 10 hHeld ?_;refine tk 11 hHeld ?_;refine rdo 12 (fun Kx hKx => ?_)
        go_simp
        obtain ⟨w4, hwa⟩ : ∃ y, (w5.alloc (.cells #[.bool false, (.string ⟨#[]⟩)] 81)) = y := ⟨_, rfl⟩
        rw [hwa];obtain ⟨pb, hpb⟩ := nm_ w5.heap.size
        try rw [hpb]
        have hfa : Fr (fun _ => False) w5 w4 := by rw [← hwa]; exact (Fr.refl _ _).alloc _
        have hpa : Row w4 pb 81 [.bool false, (.string ⟨#[]⟩)] := by rw [← hwa, ← hpb]; exact Row.new w5 _ _
        have HPG : Hid (base ≤ pb ∧ pb ≠ g) := hid (by have h1 := HR5.out.lt; have h2 := HBG.out; omega);have HRa := hid (HR5.out.fr hfa);have HFa := hid (HF5.out.trans (Fr.up0 hfa) (fun _ _ h => h));have HPa := hid hpa;clear hwa hpb hfa hpa;have HR4 := HRa;have HF4 := HFa;have HP4 := HPa;have z0 : w4.frozen? ⟨pb, 0, none⟩ = false := HPa.out.free 0;have z1 : w4.frozen? ⟨pb, 1, none⟩ = false := HPa.out.free 1;have y0 : w4.cell? ⟨pb, 0, none⟩ = some (.bool false) := HPa.out.cell rfl;have y1 : w4.cell? ⟨pb, 1, none⟩ = some (.string ⟨#[]⟩) := HPa.out.cell rfl;refine hKx.out _ _ ?_ (fun hHeld => ?_)
        · exact HR4.out.cells.2.2.2
        clear hKx Kx;refine rdo 13 (fun Kx hKx => ?_)
        go_simp
        refine hKx.out _ _ ?_ (fun hHeld => ?_)
        · exact (HR4.out.other2 HP4.out HPG.out (by decide)).cells.2.2.2
        clear hKx Kx;refine rdo 14 (fun Kx hKx => ?_)
        go_simp
        refine hKx.out _ _ ?_ (fun hHeld => ?_)
        · exact (HR4.out.other2 HP4.out HPG.out (by decide)).cells.2.2.2
        clear hKx Kx
        (try simp only [Act.put, List.setIfInBounds_toArray, List.set_cons_zero, List.set_cons_succ, List.getElem_toArray, List.getElem_cons_zero, List.getElem_cons_succ])
        refine wpAnyH_done (by kernel_rfl) ?_ _;refine NoPanic.normal ?_
        all_goals (go_wp2_with fail; go_meet; exact ⟨pb, rfl, rfl, (HP4.out.set 0 _).set 1 _, HR4.out.other2 HP4.out HPG.out (by decide), HF4.out.trans ((Fr.set1 w4 pb 0 _).trans (Fr.set1 _ pb 1 _) (fun _ _ h => h)) (fun b _ h => by have := HPG.out.1; omega)⟩)
      refine AllReadyH.cons rfl (fun Kx hKx => ?_) AllReadyH.nil
      go_simp
      obtain ⟨wa, hwa⟩ : ∃ y, (w3.alloc (.cells #[.bool false, (.string ⟨#[]⟩)] 81)).drew = y := ⟨_, rfl⟩
      rw [hwa];obtain ⟨pb, hpb⟩ := nm_ w3.heap.size
      try rw [hpb]
      have hfa : Fr (fun _ => False) w3 wa := by rw [← hwa]; exact ((Fr.refl _ _).alloc _).drew
      have hpa : Row wa pb 81 [.bool false, (.string ⟨#[]⟩)] := by rw [← hwa, ← hpb]; exact Row.new w3 _ _
      have HPG : Hid (base ≤ pb ∧ pb ≠ g) := hid (by have h1 := HR3.out.lt; have h2 := HBG.out; omega);have HRa := hid (HR3.out.fr hfa);have HFa := hid (HF3.out.trans (Fr.up0 hfa) (fun _ _ h => h));have HPa := hid hpa;clear hwa hpb hfa hpa;refine hKx.out _ _ ?_ (fun hHeld => ?_)
      · exact HRa.out.cells.2.2.2
      clear hKx Kx;refine rdo 8 (fun Kx hKx => ?_)
      go_simp
      refine (HTK.out wa HRa.out).mono ?_;rintro e w4 ⟨rfl, hR4, hf4⟩;have HR4 := hid hR4;have HP4 := hid (HPa.out.fr hf4 HPG.out.2);have HF4 := hid (HFa.out.trans (Fr.up hf4 HBG.out) (fun _ _ h => h));clear hR4 hf4 HRa HFa HPa;have z0 : w4.frozen? ⟨pb, 0, none⟩ = false := HP4.out.free 0;have z1 : w4.frozen? ⟨pb, 1, none⟩ = false := HP4.out.free 1;have y0 : w4.cell? ⟨pb, 0, none⟩ = some (.bool false) := HP4.out.cell rfl;have y1 : w4.cell? ⟨pb, 1, none⟩ = some (.string ⟨#[]⟩) := HP4.out.cell rfl;refine hKx.out _ _ ?_ (fun hHeld => ?_)
      · exact HR4.out.cells.2.2.2
      clear hKx Kx;refine tk 9 hHeld ?_;refine tk 10 hHeld ?_;refine tk 11 hHeld ?_;refine rdo 13 (fun Kx hKx => ?_)
      go_simp
      refine hKx.out _ _ ?_ (fun hHeld => ?_)
      · exact (HR4.out.other2 HP4.out HPG.out (by decide)).cells.2.2.2
      clear hKx Kx;refine rdo 14 (fun Kx hKx => ?_)
      go_simp
      refine hKx.out _ _ ?_ (fun hHeld => ?_)
      · exact (HR4.out.other2 HP4.out HPG.out (by decide)).cells.2.2.2
      clear hKx Kx
      (try simp only [Act.put, List.setIfInBounds_toArray, List.set_cons_zero, List.set_cons_succ, List.getElem_toArray, List.getElem_cons_zero, List.getElem_cons_succ])
      refine wpAnyH_done (by kernel_rfl) ?_ _;refine NoPanic.normal ?_;go_wp2_with fail
      go_meet
      exact ⟨pb, rfl, rfl, (HP4.out.set 0 _).set 1 _, HR4.out.other2 HP4.out HPG.out (by decide), HF4.out.trans ((Fr.set1 w4 pb 0 _).trans (Fr.set1 _ pb 1 _) (fun _ _ h => h)) (fun b _ h => by have := HPG.out.1; omega)⟩
     case rest =>
      obtain ⟨pb, rfl, rfl, hpb, hR4, hf4⟩ := hcut
      rename World => w4
      have p0 : w4.cell? ⟨pb, 0, none⟩ = some (.bool i) := hpb.cell rfl;have p1 : w4.cell? ⟨pb, 1, none⟩ = some (.string (txt x)) := hpb.cell rfl;have HR4 := hid hR4;have HF4 := hid hf4;have hres := HRES2.out;clear hpb hR4 hf4 HTK HR3 HF3 j1;by_cases he : E = 0
      · have t0 : ((E : Int) != 0) = false := by simp; omega
        have t0' : (E != 0) = false := by simp; omega
        rw [if_neg (by omega)] at hres;have HX := hid hres;have hI4 : Inv okW ⟨left.drop k, addG gs (i, x) 1, cnt + 1⟩ := HI3.out.add (by have h1 := HPOS.out he; have h2 := HBD.out.2.1; rw [List.length_drop]; omega) HBD.out.1 (by have := HC3.out; omega);have had := raddW_any fpW fgW base g most (left.drop k) gs cnt 1 i x w4 HR4.out HI3.out.small.1 (fun g hg => HI3.out.small.2 g hg 1 (by omega)) (by have := HC3.out; omega);have HAD := hid had;have HI4 := hid hI4;have HN4 : Hid (cnt + 1 + (n - (j + 1)) ≤ 1000000) := hid (by have h1 := HC3.out; have h2 := HM.out; omega);have HX2 : Hid (manyG kW (n - (j + 1)) ⟨left.drop k, addG gs (i, x) 1, cnt + 1⟩ = RES) := hid (by rw [← HM.out]; exact HX.out);clear he hres had hI4;go_wp2_with fail;refine HAD.out.mono ?_;rintro e w5 ⟨rfl, hR5, hf5⟩;have HR5 := hid hR5;have HF5 := hid (HF4.out.trans hf5 im_);clear hR5 hf5 HAD;go_wp2_with fail;exact ⟨⟨j + 1, ⟨left.drop k, addG gs (i, x) 1, cnt + 1⟩, by omega, by go_num, HR5.out, HI4.out, HX2.out, HN4.out, HF5.out⟩, by simp [intOf]; omega⟩
      · have t0 : ((E : Int) != 0) = true := by simp; omega
        have t0' : (E != 0) = true := by simp; omega
        rw [if_pos he] at hres;have HX := hid hres;have HE := hid he;clear he hres;go_wp2_with fail;go_ret;rw [← HX.out];exact ⟨HF4.out, rfl, HE.out⟩
   · obtain rfl : j = n := by omega
     have hX : Except.ok ⟨left, gs, cnt⟩ = RES := by have h := HE3.out; rw [Nat.sub_self] at h; exact h
     have HX := hid hX;clear hX;go_wp2_with fail;go_ret;rw [← HX.out];exact ⟨HF3.out, rfl, HR3.out⟩
end
end Go.Proofs.YtbabgnadgdidmaaGreat
