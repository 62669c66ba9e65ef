import Derived.Test.YtbabgnadgdidmaaGreatZm00
import Derived.Test.YtbabgnadgdidmaaGreatZm26
import Derived.Test.YtbabgnadgdidmaaGreatZm23
import Derived.Test.YtbabgnadgdidmaaGreatZm05
set_option linter.unusedVariables false
set_option maxRecDepth 100000
set_option maxHeartbeats 12800000
namespace Go.Proofs.YtbabgnadgdidmaaGreat
section
open Go.RowKit Mem Go.Lib RleM LebM
attribute [local go_sem ↓] Go.wp_at_zero Go.wp_at_succ
theorem runU_any (base g : Nat) (most : Int) (r : Rs (Bool × Int)) (w : World) (hR : RdU w base g most r) (hI : Inv okU r) (hm0 : -9223372036854775808 ≤ most) (hm1 : most ≤ 1000000) :
    Calls Tryz.prog 134 #[.pointer (some ⟨g, 0, none⟩)] w fun e w' => Fr (fun k => base ≤ k) w w' ∧ EndsU base g most (runG kU most r) e w' := by
 obtain ⟨left, gs0, cnt⟩ := r;have hlen := hI.len;simp only at hlen;obtain ⟨⟨A, nl, c, Ag, cg, hrow, hrd, hnc, hA, hO⟩, hbg⟩ := hR;simp only at hrow hrd hO;have hln : left.length = nl := by simpa using hrd.1
 have htk := takeI_any base g _ _ _ _ _ _ A nl c left w hrow hrd hnc hA hbg (by omega);have hbd := gs_bd left;obtain ⟨RES, hRES⟩ : ∃ R, R = runG kU most (⟨left, gs0, cnt⟩ : Rs (Bool × Int)) := ⟨_, rfl⟩
 rw [← hRES];unfold runG at hRES;simp only at hRES;obtain ⟨N, hN⟩ : ∃ N, N = (gs left).1 := ⟨_, rfl⟩
 obtain ⟨k, hk⟩ : ∃ k, k = (gs left).2.1 := ⟨_, rfl⟩
 obtain ⟨E, hE⟩ : ∃ E, E = (gs left).2.2 := ⟨_, rfl⟩
 rw [← hN, ← hk, ← hE] at hRES;rw [← hN, ← hk, ← hE] at hbd;rw [← hN, ← hk, ← hE] at htk;have hI2 : Inv okU ⟨left.drop k, gs0, cnt⟩ := hI.less (by rw [List.length_drop]; omega);have HTK := hid htk;have HROW := hid hrow;have HO := hid hO;have HBG := hid hbg;have HI2 := hid hI2;obtain ⟨hb0, hb1, hb2, hb3⟩ := hbd;clear hN hk hE htk hrow hrd hnc hA hO hI hbg hlen hI2 hb2 hb3;go_enter Tryz.func134, Tryz.ntmps134;go_wp2_with fail;refine HTK.out.mono ?_;rintro e w2 ⟨rfl, ⟨A2, c2, hrow2, hrd2, hnc2, hA2⟩, hf2⟩;have hR2 : RdU w2 base g most ⟨left.drop k, gs0, cnt⟩ := Rdr.left (L := left) HROW.out HO.out HBG.out (by decide) hf2 ⟨A2, c2, _, hrow2, hrd2, hnc2, hA2⟩;have HR2 := hid hR2;have HF2 := hid (Fr.up hf2 HBG.out);clear hrow2 hrd2 hnc2 hA2 hf2 hR2 HTK HROW HO;by_cases he : E = 0
 · have t0 : ((E : Int) != 0) = false := by simp; omega
   have t0' : (E != 0) = false := by simp; omega
   rw [if_neg (by omega)] at hRES;clear he;by_cases h0 : N = 0
   · have t1 : (N == 0) = true := by simp; omega
     rw [if_pos h0] at hRES;have HX := hid hRES;have hc := nothingsC_any (ok := okU) base g most ⟨left.drop k, gs0, cnt⟩ w2 HR2.out HI2.out goodU.zero hm0 hm1;have HC := hid hc;clear hRES h0 hc;go_wp2_with fail;refine HC.out.mono ?_;rintro e w3 ⟨hf3, hE3⟩;have HF3 := hid (HF2.out.trans hf3 im_);have HE3 : Hid (EndsU base g most RES e w3) := hid (by rw [HX.out]; exact hE3);clear hf3 hE3 HC;cases RES with
     | error er =>
      obtain ⟨rfl, h⟩ := HE3.out;go_wp2_with fail;go_ret;exact ⟨HF3.out, HE3.out⟩
     | ok r' =>
      obtain ⟨rfl, h⟩ := HE3.out;clear h;go_wp2_with fail;go_ret;exact ⟨HF3.out, HE3.out⟩
   · have t1 : (N == 0) = false := by simp; omega
     rw [if_neg h0] at hRES;by_cases h1 : 0 < N
     · have t2 : decide (0 < N) = true := by simp; omega
       rw [if_pos h1] at hRES;obtain ⟨M, hM⟩ : ∃ M, M = N.toNat := ⟨_, rfl⟩
       rw [← hM] at hRES;have HX := hid hRES;have r1 : IntKind.u64.wrap N = (M : Int) := by rw [IntKind.wrap_u64]; omega
       have hc := sameU_any base g most M ⟨left.drop k, gs0, cnt⟩ w2 HR2.out HI2.out (by omega) hm0 hm1;have HC := hid hc;clear hRES h0 hc h1 hM;go_wp2_with fail;refine HC.out.mono ?_;rintro e w3 ⟨hf3, hE3⟩;have HF3 := hid (HF2.out.trans hf3 im_);have HE3 : Hid (EndsU base g most RES e w3) := hid (by rw [HX.out]; exact hE3);clear hf3 hE3 HC;cases RES with
       | error er =>
        obtain ⟨rfl, h⟩ := HE3.out;go_wp2_with fail;go_ret;exact ⟨HF3.out, HE3.out⟩
       | ok r' =>
        obtain ⟨rfl, h⟩ := HE3.out;clear h;go_wp2_with fail;go_ret;exact ⟨HF3.out, HE3.out⟩
     · have t2 : decide (0 < N) = false := by simp; omega
       rw [if_neg h1] at hRES;obtain ⟨M, hM⟩ : ∃ M, M = (-N).toNat := ⟨_, rfl⟩
       rw [← hM] at hRES;have HX := hid hRES;obtain ⟨Z, hZ⟩ : ∃ Z, Z = N + 18446744073709551616 := ⟨_, rfl⟩
       have r1 : IntKind.u64.wrap N = Z := by rw [IntKind.wrap_u64]; omega
       have r2 : IntKind.u64.wrap (-Z) = (M : Int) := by rw [IntKind.wrap_u64]; omega
       have hc := unlikeU_any base g most M ⟨left.drop k, gs0, cnt⟩ w2 HR2.out HI2.out (by omega) hm0 hm1;have HC := hid hc;clear hRES h0 hc h1 hM hZ;go_wp2_with fail;refine HC.out.mono ?_;rintro e w3 ⟨hf3, hE3⟩;have HF3 := hid (HF2.out.trans hf3 im_);have HE3 : Hid (EndsU base g most RES e w3) := hid (by rw [HX.out]; exact hE3);clear hf3 hE3 HC;cases RES with
       | error er =>
        obtain ⟨rfl, h⟩ := HE3.out;go_wp2_with fail;go_ret;exact ⟨HF3.out, HE3.out⟩
       | ok r' =>
        obtain ⟨rfl, h⟩ := HE3.out;clear h;go_wp2_with fail;go_ret;exact ⟨HF3.out, HE3.out⟩
 · have t0 : ((E : Int) != 0) = true := by simp; omega
   have t0' : (E != 0) = true := by simp; omega
   rw [if_pos he] at hRES;have HX := hid hRES;have HE := hid he;clear he hRES;go_wp2_with fail;go_ret;rw [HX.out];exact ⟨HF2.out, rfl, HE.out⟩
theorem runS_any (base g : Nat) (most : Int) (r : Rs (Bool × Int)) (w : World) (hR : RdS w base g most r) (hI : Inv okS r) (hm0 : -9223372036854775808 ≤ most) (hm1 : most ≤ 1000000) :
    Calls Tryz.prog 134 #[.pointer (some ⟨g, 0, none⟩)] w fun e w' => Fr (fun k => base ≤ k) w w' ∧ EndsS base g most (runG kS most r) e w' := by
 obtain ⟨left, gs0, cnt⟩ := r;have hlen := hI.len;simp only at hlen;obtain ⟨⟨A, nl, c, Ag, cg, hrow, hrd, hnc, hA, hO⟩, hbg⟩ := hR;simp only at hrow hrd hO;have hln : left.length = nl := by simpa using hrd.1
 have htk := takeI_any base g _ _ _ _ _ _ A nl c left w hrow hrd hnc hA hbg (by omega);have hbd := gs_bd left;obtain ⟨RES, hRES⟩ : ∃ R, R = runG kS most (⟨left, gs0, cnt⟩ : Rs (Bool × Int)) := ⟨_, rfl⟩
 rw [← hRES];unfold runG at hRES;simp only at hRES;obtain ⟨N, hN⟩ : ∃ N, N = (gs left).1 := ⟨_, rfl⟩
 obtain ⟨k, hk⟩ : ∃ k, k = (gs left).2.1 := ⟨_, rfl⟩
 obtain ⟨E, hE⟩ : ∃ E, E = (gs left).2.2 := ⟨_, rfl⟩
 rw [← hN, ← hk, ← hE] at hRES;rw [← hN, ← hk, ← hE] at hbd;rw [← hN, ← hk, ← hE] at htk;have hI2 : Inv okS ⟨left.drop k, gs0, cnt⟩ := hI.less (by rw [List.length_drop]; omega);have HTK := hid htk;have HROW := hid hrow;have HO := hid hO;have HBG := hid hbg;have HI2 := hid hI2;obtain ⟨hb0, hb1, hb2, hb3⟩ := hbd;clear hN hk hE htk hrow hrd hnc hA hO hI hbg hlen hI2 hb2 hb3;go_enter Tryz.func134, Tryz.ntmps134;go_wp2_with fail;refine HTK.out.mono ?_;rintro e w2 ⟨rfl, ⟨A2, c2, hrow2, hrd2, hnc2, hA2⟩, hf2⟩;have hR2 : RdS w2 base g most ⟨left.drop k, gs0, cnt⟩ := Rdr.left (L := left) HROW.out HO.out HBG.out (by decide) hf2 ⟨A2, c2, _, hrow2, hrd2, hnc2, hA2⟩;have HR2 := hid hR2;have HF2 := hid (Fr.up hf2 HBG.out);clear hrow2 hrd2 hnc2 hA2 hf2 hR2 HTK HROW HO;by_cases he : E = 0
 · have t0 : ((E : Int) != 0) = false := by simp; omega
   have t0' : (E != 0) = false := by simp; omega
   rw [if_neg (by omega)] at hRES;clear he;by_cases h0 : N = 0
   · have t1 : (N == 0) = true := by simp; omega
     rw [if_pos h0] at hRES;have HX := hid hRES;have hc := nothingsC_any (ok := okS) base g most ⟨left.drop k, gs0, cnt⟩ w2 HR2.out HI2.out goodS.zero hm0 hm1;have HC := hid hc;clear hRES h0 hc;go_wp2_with fail;refine HC.out.mono ?_;rintro e w3 ⟨hf3, hE3⟩;have HF3 := hid (HF2.out.trans hf3 im_);have HE3 : Hid (EndsS base g most RES e w3) := hid (by rw [HX.out]; exact hE3);clear hf3 hE3 HC;cases RES with
     | error er =>
      obtain ⟨rfl, h⟩ := HE3.out;go_wp2_with fail;go_ret;exact ⟨HF3.out, HE3.out⟩
     | ok r' =>
      obtain ⟨rfl, h⟩ := HE3.out;clear h;go_wp2_with fail;go_ret;exact ⟨HF3.out, HE3.out⟩
   · have t1 : (N == 0) = false := by simp; omega
     rw [if_neg h0] at hRES;by_cases h1 : 0 < N
     · have t2 : decide (0 < N) = true := by simp; omega
       rw [if_pos h1] at hRES;obtain ⟨M, hM⟩ : ∃ M, M = N.toNat := ⟨_, rfl⟩
       rw [← hM] at hRES;have HX := hid hRES;have r1 : IntKind.u64.wrap N = (M : Int) := by rw [IntKind.wrap_u64]; omega
       have hc := sameS_any base g most M ⟨left.drop k, gs0, cnt⟩ w2 HR2.out HI2.out (by omega) hm0 hm1;have HC := hid hc;clear hRES h0 hc h1 hM;go_wp2_with fail;refine HC.out.mono ?_;rintro e w3 ⟨hf3, hE3⟩;have HF3 := hid (HF2.out.trans hf3 im_);have HE3 : Hid (EndsS base g most RES e w3) := hid (by rw [HX.out]; exact hE3);clear hf3 hE3 HC;cases RES with
       | error er =>
        obtain ⟨rfl, h⟩ := HE3.out;go_wp2_with fail;go_ret;exact ⟨HF3.out, HE3.out⟩
       | ok r' =>
        obtain ⟨rfl, h⟩ := HE3.out;clear h;go_wp2_with fail;go_ret;exact ⟨HF3.out, HE3.out⟩
     · have t2 : decide (0 < N) = false := by simp; omega
       rw [if_neg h1] at hRES;obtain ⟨M, hM⟩ : ∃ M, M = (-N).toNat := ⟨_, rfl⟩
       rw [← hM] at hRES;have HX := hid hRES;obtain ⟨Z, hZ⟩ : ∃ Z, Z = N + 18446744073709551616 := ⟨_, rfl⟩
       have r1 : IntKind.u64.wrap N = Z := by rw [IntKind.wrap_u64]; omega
       have r2 : IntKind.u64.wrap (-Z) = (M : Int) := by rw [IntKind.wrap_u64]; omega
       have hc := unlikeS_any base g most M ⟨left.drop k, gs0, cnt⟩ w2 HR2.out HI2.out (by omega) hm0 hm1;have HC := hid hc;clear hRES h0 hc h1 hM hZ;go_wp2_with fail;refine HC.out.mono ?_;rintro e w3 ⟨hf3, hE3⟩;have HF3 := hid (HF2.out.trans hf3 im_);have HE3 : Hid (EndsS base g most RES e w3) := hid (by rw [HX.out]; exact hE3);clear hf3 hE3 HC;cases RES with
       | error er =>
        obtain ⟨rfl, h⟩ := HE3.out;go_wp2_with fail;go_ret;exact ⟨HF3.out, HE3.out⟩
       | ok r' =>
        obtain ⟨rfl, h⟩ := HE3.out;clear h;go_wp2_with fail;go_ret;exact ⟨HF3.out, HE3.out⟩
 · have t0 : ((E : Int) != 0) = true := by simp; omega
   have t0' : (E != 0) = true := by simp; omega
   rw [if_pos he] at hRES;have HX := hid hRES;have HE := hid he;clear he hRES;go_wp2_with fail;go_ret;rw [HX.out];exact ⟨HF2.out, rfl, HE.out⟩
theorem runW_any (base g : Nat) (most : Int) (r : Rs (Bool × (List UInt8))) (w : World) (hR : RdW w base g most r) (hI : Inv okW r) (hm0 : -9223372036854775808 ≤ most) (hm1 : most ≤ 1000000) :
    Calls Tryz.prog 136 #[.pointer (some ⟨g, 0, none⟩)] w fun e w' => Fr (fun k => base ≤ k) w w' ∧ EndsW base g most (runG kW most r) e w' := by
 obtain ⟨left, gs0, cnt⟩ := r;have hlen := hI.len;simp only at hlen;obtain ⟨⟨A, nl, c, Ag, cg, hrow, hrd, hnc, hA, hO⟩, hbg⟩ := hR;simp only at hrow hrd hO;have hln : left.length = nl := by simpa using hrd.1
 have htk := takeI_any base g _ _ _ _ _ _ A nl c left w hrow hrd hnc hA hbg (by omega);have hbd := gs_bd left;obtain ⟨RES, hRES⟩ : ∃ R, R = runG kW most (⟨left, gs0, cnt⟩ : Rs (Bool × (List UInt8))) := ⟨_, rfl⟩
 rw [← hRES];unfold runG at hRES;simp only at hRES;obtain ⟨N, hN⟩ : ∃ N, N = (gs left).1 := ⟨_, rfl⟩
 obtain ⟨k, hk⟩ : ∃ k, k = (gs left).2.1 := ⟨_, rfl⟩
 obtain ⟨E, hE⟩ : ∃ E, E = (gs left).2.2 := ⟨_, rfl⟩
 rw [← hN, ← hk, ← hE] at hRES;rw [← hN, ← hk, ← hE] at hbd;rw [← hN, ← hk, ← hE] at htk;have hI2 : Inv okW ⟨left.drop k, gs0, cnt⟩ := hI.less (by rw [List.length_drop]; omega);have HTK := hid htk;have HROW := hid hrow;have HO := hid hO;have HBG := hid hbg;have HI2 := hid hI2;obtain ⟨hb0, hb1, hb2, hb3⟩ := hbd;clear hN hk hE htk hrow hrd hnc hA hO hI hbg hlen hI2 hb2 hb3;go_enter Tryz.func136, Tryz.ntmps136;go_wp2_with fail;refine HTK.out.mono ?_;rintro e w2 ⟨rfl, ⟨A2, c2, hrow2, hrd2, hnc2, hA2⟩, hf2⟩;have hR2 : RdW w2 base g most ⟨left.drop k, gs0, cnt⟩ := Rdr.left (L := left) HROW.out HO.out HBG.out (by decide) hf2 ⟨A2, c2, _, hrow2, hrd2, hnc2, hA2⟩;have HR2 := hid hR2;have HF2 := hid (Fr.up hf2 HBG.out);clear hrow2 hrd2 hnc2 hA2 hf2 hR2 HTK HROW HO;by_cases he : E = 0
 · have t0 : ((E : Int) != 0) = false := by simp; omega
   have t0' : (E != 0) = false := by simp; omega
   rw [if_neg (by omega)] at hRES;clear he;by_cases h0 : N = 0
   · have t1 : (N == 0) = true := by simp; omega
     rw [if_pos h0] at hRES;have HX := hid hRES;have hc := nothingsW_any (ok := okW) base g most ⟨left.drop k, gs0, cnt⟩ w2 HR2.out HI2.out goodW.zero hm0 hm1;have HC := hid hc;clear hRES h0 hc;go_wp2_with fail;refine HC.out.mono ?_;rintro e w3 ⟨hf3, hE3⟩;have HF3 := hid (HF2.out.trans hf3 im_);have HE3 : Hid (EndsW base g most RES e w3) := hid (by rw [HX.out]; exact hE3);clear hf3 hE3 HC;cases RES with
     | error er =>
      obtain ⟨rfl, h⟩ := HE3.out;go_wp2_with fail;go_ret;exact ⟨HF3.out, HE3.out⟩
     | ok r' =>
      obtain ⟨rfl, h⟩ := HE3.out;clear h;go_wp2_with fail;go_ret;exact ⟨HF3.out, HE3.out⟩
   · have t1 : (N == 0) = false := by simp; omega
     rw [if_neg h0] at hRES;by_cases h1 : 0 < N
     · have t2 : decide (0 < N) = true := by simp; omega
       rw [if_pos h1] at hRES;obtain ⟨M, hM⟩ : ∃ M, M = N.toNat := ⟨_, rfl⟩
       rw [← hM] at hRES;have HX := hid hRES;have r1 : IntKind.u64.wrap N = (M : Int) := by rw [IntKind.wrap_u64]; omega
       have hc := sameW_any base g most M ⟨left.drop k, gs0, cnt⟩ w2 HR2.out HI2.out (by omega) hm0 hm1;have HC := hid hc;clear hRES h0 hc h1 hM;go_wp2_with fail;refine HC.out.mono ?_;rintro e w3 ⟨hf3, hE3⟩;have HF3 := hid (HF2.out.trans hf3 im_);have HE3 : Hid (EndsW base g most RES e w3) := hid (by rw [HX.out]; exact hE3);clear hf3 hE3 HC;cases RES with
       | error er =>
        obtain ⟨rfl, h⟩ := HE3.out;go_wp2_with fail;go_ret;exact ⟨HF3.out, HE3.out⟩
       | ok r' =>
        obtain ⟨rfl, h⟩ := HE3.out;clear h;go_wp2_with fail;go_ret;exact ⟨HF3.out, HE3.out⟩
     · have t2 : decide (0 < N) = false := by simp; omega
       rw [if_neg h1] at hRES;obtain ⟨M, hM⟩ : ∃ M, M = (-N).toNat := ⟨_, rfl⟩
       rw [← hM] at hRES;have HX := hid hRES;obtain ⟨Z, hZ⟩ : ∃ Z, Z = N + 18446744073709551616 := ⟨_, rfl⟩
       have r1 : IntKind.u64.wrap N = Z := by rw [IntKind.wrap_u64]; omega
       have r2 : IntKind.u64.wrap (-Z) = (M : Int) := by rw [IntKind.wrap_u64]; omega
       have hc := unlikeW_any base g most M ⟨left.drop k, gs0, cnt⟩ w2 HR2.out HI2.out (by omega) hm0 hm1;have HC := hid hc;clear hRES h0 hc h1 hM hZ;go_wp2_with fail;refine HC.out.mono ?_;rintro e w3 ⟨hf3, hE3⟩;have HF3 := hid (HF2.out.trans hf3 im_);have HE3 : Hid (EndsW base g most RES e w3) := hid (by rw [HX.out]; exact hE3);clear hf3 hE3 HC;cases RES with
       | error er =>
        obtain ⟨rfl, h⟩ := HE3.out;go_wp2_with fail;go_ret;exact ⟨HF3.out, HE3.out⟩
       | ok r' =>
        obtain ⟨rfl, h⟩ := HE3.out;clear h;go_wp2_with fail;go_ret;exact ⟨HF3.out, HE3.out⟩
 · have t0 : ((E : Int) != 0) = true := by simp; omega
   have t0' : (E != 0) = true := by simp; omega
   rw [if_pos he] at hRES;have HX := hid hRES;have HE := hid he;clear he hRES;go_wp2_with fail;go_ret;rw [HX.out];exact ⟨HF2.out, rfl, HE.out⟩
end
section
open Go.RowKit Mem Go.Lib RleM LebM
attribute [local go_sem ↓] Go.wp_at_zero Go.wp_at_succ
def toC {κ : Type} : Except Nat (List (κ × Nat)) → List κ × Nat
 | .ok g => (spreadG g, 0)
 | .error e => ([], e)
def leftAt (w : World) (g : Nat) : Nat := match w.cell? ⟨g, 2, none⟩ with
 | some (.slice _ n _) => n
 | _ => 0
theorem Rdr.leftAt {β : Type} {f : β → Value} {T G : TypeId} {fp fg : Value} {w : World} {base g : Nat} {most : Int} {r : Rs (Bool × β)} (h : Rdr f T G fp fg w base g most r) : leftAt w g = r.left.length := by
 obtain ⟨⟨A, n, c, Ag, cg, h1, h2, h3, h4, h5⟩, hb⟩ := h;have hc : w.cell? ⟨g, 2, none⟩ = some (.slice A n c) := h1.cell rfl;have hl : r.left.length = n := by simpa using h2.1
 unfold Go.Proofs.YtbabgnadgdidmaaGreat.leftAt;rw [hc, hl]
theorem rdSzU : (Tryz.prog.info? 216).map (·.size) = some 6 := by kernel_rfl
theorem rd_oneU (A : Option Addr) (n c : Nat) (most : Int) : ([Value.func (.func 124) #[] #[], .func (.func 125) #[] #[], .slice A n c, .slice none 0 0, .int .i64 0, .int .i64 most] : List Value).toArray.all (·.oneCell') = true := by simp [Value.oneCell']
set_option maxRecDepth 1000000 in
theorem readU_any (A : Option Addr) (n c : Nat) (B : List UInt8) (most : Int) (w : World) (hr : Rd w A n (B.map bytec)) (hc : n ≤ c) (hn : n ≤ 1000000) (hm0 : -9223372036854775808 ≤ most) (hm1 : most ≤ 1000000) :
    Calls Tryz.prog 102 #[.agg #[.func (.func 124) #[] #[], .func (.func 125) #[] #[]], .slice A n c, .int .i64 most] w fun e w' =>
     ∃ A' c', e = .returned (.tuple #[.slice A' (toC (readG kU most B)).1.length c', .int .i64 ((toC (readG kU most B)).2 : Nat)]) ∧ OwnC nv 78 w' w.heap.size A' c' (toC (readG kU most B)).1 ∧ Fr (fun _ => False) w w' := by
 have hBn : B.length = n := by simpa using hr.1
 have hA : 0 < n → ∀ ad, A = some ad → ad.block < w.heap.size := fun h0 ad e => hr.lt h0 ad e;obtain ⟨RES, hRES⟩ : ∃ R, R = readG kU most B := ⟨_, rfl⟩
 rw [← hRES];unfold readG at hRES;obtain ⟨LP, hLP⟩ : ∃ L, L = loopG kU most B.length (⟨B, [], 0⟩ : Rs (Bool × Int)) := ⟨_, rfl⟩
 rw [← hLP] at hRES;have HRES := hid hRES;have HLP := hid hLP;obtain ⟨w1, hw1⟩ := nm_ (w.alloc (.cells #[.func (.func 124) #[] #[], .func (.func 125) #[] #[]] 166));obtain ⟨q, hq⟩ := nm_ w.heap.size;have hf1 : Fr (fun _ => False) w w1 := by rw [← hw1]; exact (Fr.refl _ _).alloc _
 have hqb : Row w1 q 166 [.func (.func 124) #[] #[], .func (.func 125) #[] #[]] := by rw [← hw1, ← hq]; exact Row.new w _ _
 have hqs : w1.heap.size = q + 1 := by rw [← hw1, ← hq]; simp
 have a0 : w1.cell? ⟨q, 0, none⟩ = some (.func (.func 124) #[] #[]) := hqb.cell rfl;have a1 : w1.cell? ⟨q, 1, none⟩ = some (.func (.func 125) #[] #[]) := hqb.cell rfl;have HR := hid (hr.fr hf1 (fun _ _ h => h));have HA := hid hA;have HQB := hid hqb;have HF1 := hid hf1;have HQ := hid hq;have HQS := hid hqs;have HBN := hid hBn;clear hRES hLP hr hA hqb hf1 hqs hBn;go_enter Tryz.func102, Tryz.ntmps102
 go_upto_region 1 with fail
 clear hw1 hq;obtain ⟨g, hg⟩ := nm_ w1.heap.size;have hblk : (w1.alloc (.cells #[Value.nilFunc, Value.nilFunc, .slice none 0 0, .slice none 0 0, .int .i64 0, .int .i64 0] 216)).heap[g]? = some (.cells #[Value.nilFunc, Value.nilFunc, .slice none 0 0, .slice none 0 0, .int .i64 0, .int .i64 0] 216 (0, 0)) := by rw [← hg]; exact heap_alloc_new w1 _
 have HBLK := hid hblk;have HG := hid hg;clear hblk
 go_upto_region 2 with (refine store_st rdSzU rfl (.tmp 8) (.tmp 13) rfl g (by rfl) [.func (.func 124) #[] #[], .func (.func 125) #[] #[], .slice A n c, .slice none 0 0, .int .i64 0, .int .i64 most] (by rfl) _ _ HBLK.out rfl rfl (rd_oneU _ _ _ _) ?_)
 intro w2 hrow2 hf2;have hF2 : Fr (fun _ => False) w1 w2 := ((Fr.refl (fun _ => False) w1).alloc _).trans hf2 (fun b hb h => by have h1 := HG.out; omega);have hq2 := HQB.out.fr hF2 (fun h => h);have hR2 : RdU w2 g g most ⟨B, [], 0⟩ := ⟨⟨A, n, c, none, 0, hrow2, HR.out.fr hF2 (fun _ _ h => h), hc, fun h0 ad e => by have h1 := HA.out h0 ad e; have h2 := HQ.out; have h3 := HQS.out; have h4 := HG.out; omega, OwnG.nil _ _ _⟩, Nat.le_refl _⟩
 have hI2 : Inv okU (⟨B, [], 0⟩ : Rs (Bool × Int)) := ⟨by have h1 := HBN.out; simp only [List.length_nil]; omega, rfl, Nat.zero_le _, fun g h => by simp at h⟩
 have HR2 := hid hR2;have HI2 := hid hI2;have HQ2 := hid hq2;have HF2 := hid (HF1.out.trans hF2 im_);have HRA := hid (HR.out.fr hF2 (fun _ _ h => h));have HAG : Hid (0 < n → ∀ ad, A = some ad → ad.block < g) := hid (fun h0 ad e => by have h1 := HA.out h0 ad e; have h2 := HQ.out; have h3 := HQS.out; have h4 := HG.out; omega);have HQG : Hid (q < g ∧ w.heap.size ≤ q) := hid (by have h2 := HQ.out; have h3 := HQS.out; have h4 := HG.out; omega);clear hrow2 hf2 hF2 hq2 hR2 hI2 HBLK a0 a1 HR HA HQB HF1 hg
 go_upto_region 2 with fail
 go_wp2_with fail
 go_loopw [9] (fun v wr => ∃ (r' : Rs (Bool × Int)) (fl : Nat), Hid (RdU wr g g most r') ∧ Hid (Inv okU r') ∧ Hid (loopG kU most fl r' = LP) ∧ Hid (r'.left.length ≤ fl) ∧ Hid (Fr (fun k => g ≤ k) w2 wr)) (fun _ wr => leftAt wr g)
 case atStart => exact ⟨⟨B, [], 0⟩, B.length, HR2.out, HI2.out, HLP.out.symm, (Nat.le_refl _ : B.length ≤ B.length), Fr.refl _ _⟩
 case round =>
  obtain ⟨r', fl, HR3, HI3, HE3, HL3, HF3⟩ := hrel
  rename World => wr
  obtain ⟨⟨A3, n3, c3, Ag, cg, hrow3, hrd3, hnc3, hA3, hO3⟩, -⟩ := HR3.out;have hl3 : r'.left.length = n3 := by simpa using hrd3.1
  have c2 : wr.cell? ⟨g, 2, none⟩ = some (.slice A3 n3 c3) := hrow3.cell rfl;by_cases hn3 : 0 < n3
  · have t0 : decide ((0 : Int) < (n3 : Int)) = true := by simp; omega
    have t0' : decide (0 < n3) = true := by simp; omega
    have hne : r'.left ≠ [] := fun h => by rw [h] at hl3; simp at hl3; omega
    obtain ⟨f2, rfl⟩ : ∃ f2, fl = f2 + 1 := ⟨fl - 1, by have := HL3.out; omega⟩
    have he := HE3.out;rw [loopG, if_neg hne] at he;have hrun := runU_any g g most r' wr HR3.out HI3.out hm0 hm1;obtain ⟨RR, hRR⟩ : ∃ RR, RR = runG kU most r' := ⟨_, rfl⟩
    rw [← hRR] at he hrun;have HRUN := hid hrun;have HRR := hid hRR;have HML : Hid (leftAt wr g = n3) := hid (by rw [HR3.out.leftAt]; exact hl3);have HL3' := hid hl3;clear hrow3 hrd3 hnc3 hA3 hO3 hl3 hne hrun hRR;go_wp2_with fail;refine HRUN.out.mono ?_;rintro e w3 ⟨hf3, hE⟩;have HF4 := hid (HF3.out.trans hf3 im_);clear hf3 HRUN c2;cases RR with
    | error er =>
     simp only at he;obtain ⟨rfl, her⟩ := hE;have hx : RES = .error er := by rw [HRES.out, ← he]
     have HX := hid hx;have t1 : ((er : Int) != 0) = true := by simp; omega
     have t1' : (er != 0) = true := by simp; omega
     clear he hx her;go_wp2_with fail;rw [HX.out];exact bodyPost_ret (v := .tuple #[.slice none 0 0, .int .i64 (er : Int)]) (by simp [results, Tryz.results102, go_sem]) rfl ⟨none, 0, rfl, OwnC.nil _ _ _, HF2.out.trans HF4.out (fun b hb h => by have h1 := HQG.out; omega)⟩
    | ok r2 =>
     simp only at he;obtain ⟨rfl, hR4⟩ := hE;have HR4 := hid hR4;have HE4 := hid he;obtain ⟨hi4, hl4⟩ := runG_inv goodU hm1 HRR.out.symm HI3.out;have HI4 := hid hi4;have HL4 := hid hl4;have HML4 : Hid (leftAt w3 g = r2.left.length) := hid hR4.leftAt;clear he hR4 hi4 hl4;go_wp2_with fail;exact ⟨⟨r2, f2, HR4.out, HI4.out, HE4.out, by have h1 := HL4.out; have h2 := HL3.out; show r2.left.length ≤ f2; omega, HF4.out⟩, by rw [HML.out, HML4.out]; have h1 := HL4.out; have h2 := HL3'.out; omega⟩
  · have h30 : n3 = 0 := by omega
    subst h30;have hlp : LP = .ok r' := by
     have h := HE3.out;have hnil : r'.left = [] := List.eq_nil_of_length_eq_zero hl3;cases fl with
     | zero => exact h.symm
     | succ f => rw [loopG, if_pos hnil] at h; exact h.symm
    have hres := HRES.out;rw [hlp] at hres;simp only at hres;have hbnd := HI3.out.len;have hct := HI3.out.cnt;have htot := HI3.out.tot;by_cases hneg : most < 0
    · have t1 : decide (most < 0) = true := by simp; omega
      rw [if_pos hneg] at hres;have HX := hid hres;clear hres hneg hlp hrow3 hrd3 hnc3 hA3 hO3 hl3;go_wp2_with fail;rw [HX.out];exact bodyPost_ret (v := .tuple #[.slice none 0 0, .int .i64 3]) (by simp [results, Tryz.results102, go_sem]) rfl ⟨none, 0, rfl, OwnC.nil _ _ _, HF2.out.trans HF3.out (fun b hb h => by have h1 := HQG.out; omega)⟩
    · have t1 : decide (most < 0) = false := by simp; omega
      rw [if_neg hneg] at hres;obtain ⟨NG, hNG⟩ : ∃ NG, NG = r'.gs.length := ⟨_, rfl⟩
      have hcap := (own_cap hO3).2;have htell := tellU_any Ag r'.gs.length cg r'.gs wr hO3.grs hcap.1 (fun ad e => (hO3.lt ad.block (by rw [e]; rfl)).2) (by omega) HI3.out.all (fun g hg => by have := mem_total hg; omega);rw [← hNG] at htell hrow3;have q3 := HQ2.out.fr HF3.out (fun h => by have h1 := HQG.out; omega);have a0 : wr.cell? ⟨q, 0, none⟩ = some (.func (.func 124) #[] #[]) := q3.cell rfl;have a1 : wr.cell? ⟨q, 1, none⟩ = some (.func (.func 125) #[] #[]) := q3.cell rfl;have c3' : wr.cell? ⟨g, 3, none⟩ = some (.slice Ag NG cg) := hrow3.cell rfl;have HTELL := hid htell;have HROW3 := hid hrow3;have HO3 := hid hO3;have HNG := hid hNG;obtain ⟨TW, hTW⟩ : ∃ TW, TW = tellW kU r'.gs := ⟨_, rfl⟩
      rw [← hTW] at HTELL hres;obtain ⟨E, hE⟩ := nm_ (decide (TW = B));have HE := hid hE;clear hneg hlp hrd3 hnc3 hA3 hl3 htell q3 hrow3 hO3 hNG hTW hE hcap;go_wp2_with fail;refine HTELL.out.mono ?_;rintro e w4 ⟨A5, c5, rfl, hO5, hf5⟩;have heq := equal_any A5 A TW.length c5 n c TW B w4 hO5.rd ((HRA.out.frp HF3.out (fun h0 ad e h => by have := HAG.out h0 ad e; omega)).fr hf5 (fun _ _ h => h));rw [HE.out] at heq;have HEQ := hid heq;have HF5 := hid (HF2.out.trans (HF3.out.trans (hf5.mono (T := fun k => g ≤ k) (fun _ _ h => h.elim)) (fun _ _ h => h)) (S := fun _ => False) (fun b hb h => by have h1 := HQG.out; omega));have HROW5 := hid (HROW3.out.fr hf5 (fun h => h));have HO5 := hid (HO3.out.fr hf5);clear heq hO5 hf5 HTELL a0 a1 c3' c2;have d3 : w4.cell? ⟨g, 3, none⟩ = some (.slice Ag NG cg) := HROW5.out.cell rfl;have d4 : w4.cell? ⟨g, 4, none⟩ = some (.int .i64 (r'.count : Int)) := HROW5.out.cell rfl;cases E with
      | false =>
       rw [if_pos (of_decide_eq_false HE.out)] at hres;have HX := hid hres;clear hres d3 d4;go_wp2_with fail;refine HEQ.out.mono ?_;rintro e w5 ⟨rfl, rfl⟩;go_wp2_with fail;rw [HX.out];exact bodyPost_ret (v := .tuple #[.slice none 0 0, .int .i64 3]) (by simp [results, Tryz.results102, go_sem]) rfl ⟨none, 0, rfl, OwnC.nil _ _ _, HF5.out⟩
      | true =>
       rw [if_neg (fun h => h (of_decide_eq_true HE.out))] at hres;have HX := hid hres;obtain ⟨CN, hCN⟩ : ∃ CN, CN = r'.count := ⟨_, rfl⟩
       rw [← hCN] at d4;have hcn6 : CN ≤ 1000000 := by omega
       have t2 : decide ((2147483647 : Int) < (CN : Int)) = false := by simp; omega
       have t2' : decide (2147483647 < CN) = false := by simp; omega
       have hsp := spreadC_any Ag r'.gs.length cg r'.gs CN w4 HO5.out.grs (by omega) (by omega) hcn6;rw [← HNG.out] at hsp;have HSP := hid hsp;clear hres hCN hsp;go_wp2_with fail;refine HEQ.out.mono ?_;rintro e w5 ⟨rfl, rfl⟩;go_wp2_with fail;refine HSP.out.mono ?_;rintro e w6 ⟨A6, c6, rfl, hO6, hf6⟩;have HO6 := hid hO6;have HF6 := hid (HF5.out.trans hf6 im_);have HSZ := hid HF5.out.size;clear hO6 hf6 HSP HEQ d3 d4;go_wp2_with fail;rw [HX.out];exact bodyPost_ret (v := .tuple #[.slice A6 (spreadG r'.gs).length c6, .int .i64 0]) (by simp [results, Tryz.results102, go_sem]) rfl ⟨A6, c6, rfl, HO6.out.base HSZ.out, HF6.out⟩
theorem rdSzS : (Tryz.prog.info? 216).map (·.size) = some 6 := by kernel_rfl
theorem rd_oneS (A : Option Addr) (n c : Nat) (most : Int) : ([Value.func (.func 157) #[] #[], .func (.func 158) #[] #[], .slice A n c, .slice none 0 0, .int .i64 0, .int .i64 most] : List Value).toArray.all (·.oneCell') = true := by simp [Value.oneCell']
set_option maxRecDepth 1000000 in
theorem readS_any (A : Option Addr) (n c : Nat) (B : List UInt8) (most : Int) (w : World) (hr : Rd w A n (B.map bytec)) (hc : n ≤ c) (hn : n ≤ 1000000) (hm0 : -9223372036854775808 ≤ most) (hm1 : most ≤ 1000000) :
    Calls Tryz.prog 102 #[.agg #[.func (.func 157) #[] #[], .func (.func 158) #[] #[]], .slice A n c, .int .i64 most] w fun e w' =>
     ∃ A' c', e = .returned (.tuple #[.slice A' (toC (readG kS most B)).1.length c', .int .i64 ((toC (readG kS most B)).2 : Nat)]) ∧ OwnC nv 78 w' w.heap.size A' c' (toC (readG kS most B)).1 ∧ Fr (fun _ => False) w w' := by
 have hBn : B.length = n := by simpa using hr.1
 have hA : 0 < n → ∀ ad, A = some ad → ad.block < w.heap.size := fun h0 ad e => hr.lt h0 ad e;obtain ⟨RES, hRES⟩ : ∃ R, R = readG kS most B := ⟨_, rfl⟩
 rw [← hRES];unfold readG at hRES;obtain ⟨LP, hLP⟩ : ∃ L, L = loopG kS most B.length (⟨B, [], 0⟩ : Rs (Bool × Int)) := ⟨_, rfl⟩
 rw [← hLP] at hRES;have HRES := hid hRES;have HLP := hid hLP;obtain ⟨w1, hw1⟩ := nm_ (w.alloc (.cells #[.func (.func 157) #[] #[], .func (.func 158) #[] #[]] 166));obtain ⟨q, hq⟩ := nm_ w.heap.size;have hf1 : Fr (fun _ => False) w w1 := by rw [← hw1]; exact (Fr.refl _ _).alloc _
 have hqb : Row w1 q 166 [.func (.func 157) #[] #[], .func (.func 158) #[] #[]] := by rw [← hw1, ← hq]; exact Row.new w _ _
 have hqs : w1.heap.size = q + 1 := by rw [← hw1, ← hq]; simp
 have a0 : w1.cell? ⟨q, 0, none⟩ = some (.func (.func 157) #[] #[]) := hqb.cell rfl;have a1 : w1.cell? ⟨q, 1, none⟩ = some (.func (.func 158) #[] #[]) := hqb.cell rfl;have HR := hid (hr.fr hf1 (fun _ _ h => h));have HA := hid hA;have HQB := hid hqb;have HF1 := hid hf1;have HQ := hid hq;have HQS := hid hqs;have HBN := hid hBn;clear hRES hLP hr hA hqb hf1 hqs hBn;go_enter Tryz.func102, Tryz.ntmps102
 go_upto_region 1 with fail
 clear hw1 hq;obtain ⟨g, hg⟩ := nm_ w1.heap.size;have hblk : (w1.alloc (.cells #[Value.nilFunc, Value.nilFunc, .slice none 0 0, .slice none 0 0, .int .i64 0, .int .i64 0] 216)).heap[g]? = some (.cells #[Value.nilFunc, Value.nilFunc, .slice none 0 0, .slice none 0 0, .int .i64 0, .int .i64 0] 216 (0, 0)) := by rw [← hg]; exact heap_alloc_new w1 _
 have HBLK := hid hblk;have HG := hid hg;clear hblk
 go_upto_region 2 with (refine store_st rdSzS rfl (.tmp 8) (.tmp 13) rfl g (by rfl) [.func (.func 157) #[] #[], .func (.func 158) #[] #[], .slice A n c, .slice none 0 0, .int .i64 0, .int .i64 most] (by rfl) _ _ HBLK.out rfl rfl (rd_oneS _ _ _ _) ?_)
 intro w2 hrow2 hf2;have hF2 : Fr (fun _ => False) w1 w2 := ((Fr.refl (fun _ => False) w1).alloc _).trans hf2 (fun b hb h => by have h1 := HG.out; omega);have hq2 := HQB.out.fr hF2 (fun h => h);have hR2 : RdS w2 g g most ⟨B, [], 0⟩ := ⟨⟨A, n, c, none, 0, hrow2, HR.out.fr hF2 (fun _ _ h => h), hc, fun h0 ad e => by have h1 := HA.out h0 ad e; have h2 := HQ.out; have h3 := HQS.out; have h4 := HG.out; omega, OwnG.nil _ _ _⟩, Nat.le_refl _⟩
 have hI2 : Inv okS (⟨B, [], 0⟩ : Rs (Bool × Int)) := ⟨by have h1 := HBN.out; simp only [List.length_nil]; omega, rfl, Nat.zero_le _, fun g h => by simp at h⟩
 have HR2 := hid hR2;have HI2 := hid hI2;have HQ2 := hid hq2;have HF2 := hid (HF1.out.trans hF2 im_);have HRA := hid (HR.out.fr hF2 (fun _ _ h => h));have HAG : Hid (0 < n → ∀ ad, A = some ad → ad.block < g) := hid (fun h0 ad e => by have h1 := HA.out h0 ad e; have h2 := HQ.out; have h3 := HQS.out; have h4 := HG.out; omega);have HQG : Hid (q < g ∧ w.heap.size ≤ q) := hid (by have h2 := HQ.out; have h3 := HQS.out; have h4 := HG.out; omega);clear hrow2 hf2 hF2 hq2 hR2 hI2 HBLK a0 a1 HR HA HQB HF1 hg
 go_upto_region 2 with fail
 go_wp2_with fail
 go_loopw [9] (fun v wr => ∃ (r' : Rs (Bool × Int)) (fl : Nat), Hid (RdS wr g g most r') ∧ Hid (Inv okS r') ∧ Hid (loopG kS most fl r' = LP) ∧ Hid (r'.left.length ≤ fl) ∧ Hid (Fr (fun k => g ≤ k) w2 wr)) (fun _ wr => leftAt wr g)
 case atStart => exact ⟨⟨B, [], 0⟩, B.length, HR2.out, HI2.out, HLP.out.symm, (Nat.le_refl _ : B.length ≤ B.length), Fr.refl _ _⟩
 case round =>
  obtain ⟨r', fl, HR3, HI3, HE3, HL3, HF3⟩ := hrel
  rename World => wr
  obtain ⟨⟨A3, n3, c3, Ag, cg, hrow3, hrd3, hnc3, hA3, hO3⟩, -⟩ := HR3.out;have hl3 : r'.left.length = n3 := by simpa using hrd3.1
  have c2 : wr.cell? ⟨g, 2, none⟩ = some (.slice A3 n3 c3) := hrow3.cell rfl;by_cases hn3 : 0 < n3
  · have t0 : decide ((0 : Int) < (n3 : Int)) = true := by simp; omega
    have t0' : decide (0 < n3) = true := by simp; omega
    have hne : r'.left ≠ [] := fun h => by rw [h] at hl3; simp at hl3; omega
    obtain ⟨f2, rfl⟩ : ∃ f2, fl = f2 + 1 := ⟨fl - 1, by have := HL3.out; omega⟩
    have he := HE3.out;rw [loopG, if_neg hne] at he;have hrun := runS_any g g most r' wr HR3.out HI3.out hm0 hm1;obtain ⟨RR, hRR⟩ : ∃ RR, RR = runG kS most r' := ⟨_, rfl⟩
    rw [← hRR] at he hrun;have HRUN := hid hrun;have HRR := hid hRR;have HML : Hid (leftAt wr g = n3) := hid (by rw [HR3.out.leftAt]; exact hl3);have HL3' := hid hl3;clear hrow3 hrd3 hnc3 hA3 hO3 hl3 hne hrun hRR;go_wp2_with fail;refine HRUN.out.mono ?_;rintro e w3 ⟨hf3, hE⟩;have HF4 := hid (HF3.out.trans hf3 im_);clear hf3 HRUN c2;cases RR with
    | error er =>
     simp only at he;obtain ⟨rfl, her⟩ := hE;have hx : RES = .error er := by rw [HRES.out, ← he]
     have HX := hid hx;have t1 : ((er : Int) != 0) = true := by simp; omega
     have t1' : (er != 0) = true := by simp; omega
     clear he hx her;go_wp2_with fail;rw [HX.out];exact bodyPost_ret (v := .tuple #[.slice none 0 0, .int .i64 (er : Int)]) (by simp [results, Tryz.results102, go_sem]) rfl ⟨none, 0, rfl, OwnC.nil _ _ _, HF2.out.trans HF4.out (fun b hb h => by have h1 := HQG.out; omega)⟩
    | ok r2 =>
     simp only at he;obtain ⟨rfl, hR4⟩ := hE;have HR4 := hid hR4;have HE4 := hid he;obtain ⟨hi4, hl4⟩ := runG_inv goodS hm1 HRR.out.symm HI3.out;have HI4 := hid hi4;have HL4 := hid hl4;have HML4 : Hid (leftAt w3 g = r2.left.length) := hid hR4.leftAt;clear he hR4 hi4 hl4;go_wp2_with fail;exact ⟨⟨r2, f2, HR4.out, HI4.out, HE4.out, by have h1 := HL4.out; have h2 := HL3.out; show r2.left.length ≤ f2; omega, HF4.out⟩, by rw [HML.out, HML4.out]; have h1 := HL4.out; have h2 := HL3'.out; omega⟩
  · have h30 : n3 = 0 := by omega
    subst h30;have hlp : LP = .ok r' := by
     have h := HE3.out;have hnil : r'.left = [] := List.eq_nil_of_length_eq_zero hl3;cases fl with
     | zero => exact h.symm
     | succ f => rw [loopG, if_pos hnil] at h; exact h.symm
    have hres := HRES.out;rw [hlp] at hres;simp only at hres;have hbnd := HI3.out.len;have hct := HI3.out.cnt;have htot := HI3.out.tot;by_cases hneg : most < 0
    · have t1 : decide (most < 0) = true := by simp; omega
      rw [if_pos hneg] at hres;have HX := hid hres;clear hres hneg hlp hrow3 hrd3 hnc3 hA3 hO3 hl3;go_wp2_with fail;rw [HX.out];exact bodyPost_ret (v := .tuple #[.slice none 0 0, .int .i64 3]) (by simp [results, Tryz.results102, go_sem]) rfl ⟨none, 0, rfl, OwnC.nil _ _ _, HF2.out.trans HF3.out (fun b hb h => by have h1 := HQG.out; omega)⟩
    · have t1 : decide (most < 0) = false := by simp; omega
      rw [if_neg hneg] at hres;obtain ⟨NG, hNG⟩ : ∃ NG, NG = r'.gs.length := ⟨_, rfl⟩
      have hcap := (own_cap hO3).2;have htell := tellS_any Ag r'.gs.length cg r'.gs wr hO3.grs hcap.1 (fun ad e => (hO3.lt ad.block (by rw [e]; rfl)).2) (by omega) HI3.out.all (fun g hg => by have := mem_total hg; omega);rw [← hNG] at htell hrow3;have q3 := HQ2.out.fr HF3.out (fun h => by have h1 := HQG.out; omega);have a0 : wr.cell? ⟨q, 0, none⟩ = some (.func (.func 157) #[] #[]) := q3.cell rfl;have a1 : wr.cell? ⟨q, 1, none⟩ = some (.func (.func 158) #[] #[]) := q3.cell rfl;have c3' : wr.cell? ⟨g, 3, none⟩ = some (.slice Ag NG cg) := hrow3.cell rfl;have HTELL := hid htell;have HROW3 := hid hrow3;have HO3 := hid hO3;have HNG := hid hNG;obtain ⟨TW, hTW⟩ : ∃ TW, TW = tellW kS r'.gs := ⟨_, rfl⟩
      rw [← hTW] at HTELL hres;obtain ⟨E, hE⟩ := nm_ (decide (TW = B));have HE := hid hE;clear hneg hlp hrd3 hnc3 hA3 hl3 htell q3 hrow3 hO3 hNG hTW hE hcap;go_wp2_with fail;refine HTELL.out.mono ?_;rintro e w4 ⟨A5, c5, rfl, hO5, hf5⟩;have heq := equal_any A5 A TW.length c5 n c TW B w4 hO5.rd ((HRA.out.frp HF3.out (fun h0 ad e h => by have := HAG.out h0 ad e; omega)).fr hf5 (fun _ _ h => h));rw [HE.out] at heq;have HEQ := hid heq;have HF5 := hid (HF2.out.trans (HF3.out.trans (hf5.mono (T := fun k => g ≤ k) (fun _ _ h => h.elim)) (fun _ _ h => h)) (S := fun _ => False) (fun b hb h => by have h1 := HQG.out; omega));have HROW5 := hid (HROW3.out.fr hf5 (fun h => h));have HO5 := hid (HO3.out.fr hf5);clear heq hO5 hf5 HTELL a0 a1 c3' c2;have d3 : w4.cell? ⟨g, 3, none⟩ = some (.slice Ag NG cg) := HROW5.out.cell rfl;have d4 : w4.cell? ⟨g, 4, none⟩ = some (.int .i64 (r'.count : Int)) := HROW5.out.cell rfl;cases E with
      | false =>
       rw [if_pos (of_decide_eq_false HE.out)] at hres;have HX := hid hres;clear hres d3 d4;go_wp2_with fail;refine HEQ.out.mono ?_;rintro e w5 ⟨rfl, rfl⟩;go_wp2_with fail;rw [HX.out];exact bodyPost_ret (v := .tuple #[.slice none 0 0, .int .i64 3]) (by simp [results, Tryz.results102, go_sem]) rfl ⟨none, 0, rfl, OwnC.nil _ _ _, HF5.out⟩
      | true =>
       rw [if_neg (fun h => h (of_decide_eq_true HE.out))] at hres;have HX := hid hres;obtain ⟨CN, hCN⟩ : ∃ CN, CN = r'.count := ⟨_, rfl⟩
       rw [← hCN] at d4;have hcn6 : CN ≤ 1000000 := by omega
       have t2 : decide ((2147483647 : Int) < (CN : Int)) = false := by simp; omega
       have t2' : decide (2147483647 < CN) = false := by simp; omega
       have hsp := spreadC_any Ag r'.gs.length cg r'.gs CN w4 HO5.out.grs (by omega) (by omega) hcn6;rw [← HNG.out] at hsp;have HSP := hid hsp;clear hres hCN hsp;go_wp2_with fail;refine HEQ.out.mono ?_;rintro e w5 ⟨rfl, rfl⟩;go_wp2_with fail;refine HSP.out.mono ?_;rintro e w6 ⟨A6, c6, rfl, hO6, hf6⟩;have HO6 := hid hO6;have HF6 := hid (HF5.out.trans hf6 im_);have HSZ := hid HF5.out.size;clear hO6 hf6 HSP HEQ d3 d4;go_wp2_with fail;rw [HX.out];exact bodyPost_ret (v := .tuple #[.slice A6 (spreadG r'.gs).length c6, .int .i64 0]) (by simp [results, Tryz.results102, go_sem]) rfl ⟨A6, c6, rfl, HO6.out.base HSZ.out, HF6.out⟩
theorem rdSzW : (Tryz.prog.info? 220).map (·.size) = some 6 := by kernel_rfl
theorem rd_oneW (A : Option Addr) (n c : Nat) (most : Int) : ([Value.func (.func 131) #[] #[], .func (.func 132) #[] #[], .slice A n c, .slice none 0 0, .int .i64 0, .int .i64 most] : List Value).toArray.all (·.oneCell') = true := by simp [Value.oneCell']
set_option maxRecDepth 1000000 in
theorem readW_any (A : Option Addr) (n c : Nat) (B : List UInt8) (most : Int) (w : World) (hr : Rd w A n (B.map bytec)) (hc : n ≤ c) (hn : n ≤ 1000000) (hm0 : -9223372036854775808 ≤ most) (hm1 : most ≤ 1000000) :
    Calls Tryz.prog 106 #[.agg #[.func (.func 131) #[] #[], .func (.func 132) #[] #[]], .slice A n c, .int .i64 most] w fun e w' =>
     ∃ A' c', e = .returned (.tuple #[.slice A' (toC (readG kW most B)).1.length c', .int .i64 ((toC (readG kW most B)).2 : Nat)]) ∧ OwnC sv 81 w' w.heap.size A' c' (toC (readG kW most B)).1 ∧ Fr (fun _ => False) w w' := by
 have hBn : B.length = n := by simpa using hr.1
 have hA : 0 < n → ∀ ad, A = some ad → ad.block < w.heap.size := fun h0 ad e => hr.lt h0 ad e;obtain ⟨RES, hRES⟩ : ∃ R, R = readG kW most B := ⟨_, rfl⟩
 rw [← hRES];unfold readG at hRES;obtain ⟨LP, hLP⟩ : ∃ L, L = loopG kW most B.length (⟨B, [], 0⟩ : Rs (Bool × (List UInt8))) := ⟨_, rfl⟩
 rw [← hLP] at hRES;have HRES := hid hRES;have HLP := hid hLP;obtain ⟨w1, hw1⟩ := nm_ (w.alloc (.cells #[.func (.func 131) #[] #[], .func (.func 132) #[] #[]] 175));obtain ⟨q, hq⟩ := nm_ w.heap.size;have hf1 : Fr (fun _ => False) w w1 := by rw [← hw1]; exact (Fr.refl _ _).alloc _
 have hqb : Row w1 q 175 [.func (.func 131) #[] #[], .func (.func 132) #[] #[]] := by rw [← hw1, ← hq]; exact Row.new w _ _
 have hqs : w1.heap.size = q + 1 := by rw [← hw1, ← hq]; simp
 have a0 : w1.cell? ⟨q, 0, none⟩ = some (.func (.func 131) #[] #[]) := hqb.cell rfl;have a1 : w1.cell? ⟨q, 1, none⟩ = some (.func (.func 132) #[] #[]) := hqb.cell rfl;have HR := hid (hr.fr hf1 (fun _ _ h => h));have HA := hid hA;have HQB := hid hqb;have HF1 := hid hf1;have HQ := hid hq;have HQS := hid hqs;have HBN := hid hBn;clear hRES hLP hr hA hqb hf1 hqs hBn;go_enter Tryz.func106, Tryz.ntmps106
 go_upto_region 1 with fail
 clear hw1 hq;obtain ⟨g, hg⟩ := nm_ w1.heap.size;have hblk : (w1.alloc (.cells #[Value.nilFunc, Value.nilFunc, .slice none 0 0, .slice none 0 0, .int .i64 0, .int .i64 0] 220)).heap[g]? = some (.cells #[Value.nilFunc, Value.nilFunc, .slice none 0 0, .slice none 0 0, .int .i64 0, .int .i64 0] 220 (0, 0)) := by rw [← hg]; exact heap_alloc_new w1 _
 have HBLK := hid hblk;have HG := hid hg;clear hblk
 go_upto_region 2 with (refine store_st rdSzW rfl (.tmp 8) (.tmp 13) rfl g (by rfl) [.func (.func 131) #[] #[], .func (.func 132) #[] #[], .slice A n c, .slice none 0 0, .int .i64 0, .int .i64 most] (by rfl) _ _ HBLK.out rfl rfl (rd_oneW _ _ _ _) ?_)
 intro w2 hrow2 hf2;have hF2 : Fr (fun _ => False) w1 w2 := ((Fr.refl (fun _ => False) w1).alloc _).trans hf2 (fun b hb h => by have h1 := HG.out; omega);have hq2 := HQB.out.fr hF2 (fun h => h);have hR2 : RdW w2 g g most ⟨B, [], 0⟩ := ⟨⟨A, n, c, none, 0, hrow2, HR.out.fr hF2 (fun _ _ h => h), hc, fun h0 ad e => by have h1 := HA.out h0 ad e; have h2 := HQ.out; have h3 := HQS.out; have h4 := HG.out; omega, OwnG.nil _ _ _⟩, Nat.le_refl _⟩
 have hI2 : Inv okW (⟨B, [], 0⟩ : Rs (Bool × (List UInt8))) := ⟨by have h1 := HBN.out; simp only [List.length_nil]; omega, rfl, Nat.zero_le _, fun g h => by simp at h⟩
 have HR2 := hid hR2;have HI2 := hid hI2;have HQ2 := hid hq2;have HF2 := hid (HF1.out.trans hF2 im_);have HRA := hid (HR.out.fr hF2 (fun _ _ h => h));have HAG : Hid (0 < n → ∀ ad, A = some ad → ad.block < g) := hid (fun h0 ad e => by have h1 := HA.out h0 ad e; have h2 := HQ.out; have h3 := HQS.out; have h4 := HG.out; omega);have HQG : Hid (q < g ∧ w.heap.size ≤ q) := hid (by have h2 := HQ.out; have h3 := HQS.out; have h4 := HG.out; omega);clear hrow2 hf2 hF2 hq2 hR2 hI2 HBLK a0 a1 HR HA HQB HF1 hg
 go_upto_region 2 with fail
 go_wp2_with fail
 go_loopw [9] (fun v wr => ∃ (r' : Rs (Bool × (List UInt8))) (fl : Nat), Hid (RdW wr g g most r') ∧ Hid (Inv okW r') ∧ Hid (loopG kW most fl r' = LP) ∧ Hid (r'.left.length ≤ fl) ∧ Hid (Fr (fun k => g ≤ k) w2 wr)) (fun _ wr => leftAt wr g)
 case atStart => exact ⟨⟨B, [], 0⟩, B.length, HR2.out, HI2.out, HLP.out.symm, (Nat.le_refl _ : B.length ≤ B.length), Fr.refl _ _⟩
 case round =>
  obtain ⟨r', fl, HR3, HI3, HE3, HL3, HF3⟩ := hrel
  rename World => wr
  obtain ⟨⟨A3, n3, c3, Ag, cg, hrow3, hrd3, hnc3, hA3, hO3⟩, -⟩ := HR3.out;have hl3 : r'.left.length = n3 := by simpa using hrd3.1
  have c2 : wr.cell? ⟨g, 2, none⟩ = some (.slice A3 n3 c3) := hrow3.cell rfl;by_cases hn3 : 0 < n3
  · have t0 : decide ((0 : Int) < (n3 : Int)) = true := by simp; omega
    have t0' : decide (0 < n3) = true := by simp; omega
    have hne : r'.left ≠ [] := fun h => by rw [h] at hl3; simp at hl3; omega
    obtain ⟨f2, rfl⟩ : ∃ f2, fl = f2 + 1 := ⟨fl - 1, by have := HL3.out; omega⟩
    have he := HE3.out;rw [loopG, if_neg hne] at he;have hrun := runW_any g g most r' wr HR3.out HI3.out hm0 hm1;obtain ⟨RR, hRR⟩ : ∃ RR, RR = runG kW most r' := ⟨_, rfl⟩
    rw [← hRR] at he hrun;have HRUN := hid hrun;have HRR := hid hRR;have HML : Hid (leftAt wr g = n3) := hid (by rw [HR3.out.leftAt]; exact hl3);have HL3' := hid hl3;clear hrow3 hrd3 hnc3 hA3 hO3 hl3 hne hrun hRR;go_wp2_with fail;refine HRUN.out.mono ?_;rintro e w3 ⟨hf3, hE⟩;have HF4 := hid (HF3.out.trans hf3 im_);clear hf3 HRUN c2;cases RR with
    | error er =>
     simp only at he;obtain ⟨rfl, her⟩ := hE;have hx : RES = .error er := by rw [HRES.out, ← he]
     have HX := hid hx;have t1 : ((er : Int) != 0) = true := by simp; omega
     have t1' : (er != 0) = true := by simp; omega
     clear he hx her;go_wp2_with fail;rw [HX.out];exact bodyPost_ret (v := .tuple #[.slice none 0 0, .int .i64 (er : Int)]) (by simp [results, Tryz.results106, go_sem]) rfl ⟨none, 0, rfl, OwnC.nil _ _ _, HF2.out.trans HF4.out (fun b hb h => by have h1 := HQG.out; omega)⟩
    | ok r2 =>
     simp only at he;obtain ⟨rfl, hR4⟩ := hE;have HR4 := hid hR4;have HE4 := hid he;obtain ⟨hi4, hl4⟩ := runG_inv goodW hm1 HRR.out.symm HI3.out;have HI4 := hid hi4;have HL4 := hid hl4;have HML4 : Hid (leftAt w3 g = r2.left.length) := hid hR4.leftAt;clear he hR4 hi4 hl4;go_wp2_with fail;exact ⟨⟨r2, f2, HR4.out, HI4.out, HE4.out, by have h1 := HL4.out; have h2 := HL3.out; show r2.left.length ≤ f2; omega, HF4.out⟩, by rw [HML.out, HML4.out]; have h1 := HL4.out; have h2 := HL3'.out; omega⟩
  · have h30 : n3 = 0 := by omega
    subst h30;have hlp : LP = .ok r' := by
     have h := HE3.out;have hnil : r'.left = [] := List.eq_nil_of_length_eq_zero hl3;cases fl with
     | zero => exact h.symm
     | succ f => rw [loopG, if_pos hnil] at h; exact h.symm
    have hres := HRES.out;rw [hlp] at hres;simp only at hres;have hbnd := HI3.out.len;have hct := HI3.out.cnt;have htot := HI3.out.tot;by_cases hneg : most < 0
    · have t1 : decide (most < 0) = true := by simp; omega
      rw [if_pos hneg] at hres;have HX := hid hres;clear hres hneg hlp hrow3 hrd3 hnc3 hA3 hO3 hl3;go_wp2_with fail;rw [HX.out];exact bodyPost_ret (v := .tuple #[.slice none 0 0, .int .i64 3]) (by simp [results, Tryz.results106, go_sem]) rfl ⟨none, 0, rfl, OwnC.nil _ _ _, HF2.out.trans HF3.out (fun b hb h => by have h1 := HQG.out; omega)⟩
    · have t1 : decide (most < 0) = false := by simp; omega
      rw [if_neg hneg] at hres;obtain ⟨NG, hNG⟩ : ∃ NG, NG = r'.gs.length := ⟨_, rfl⟩
      have hcap := (own_cap hO3).2;have htell := tellW_any Ag r'.gs.length cg r'.gs wr hO3.grs hcap.1 (fun ad e => (hO3.lt ad.block (by rw [e]; rfl)).2) (by omega) HI3.out.all (fun g hg => by have := mem_total hg; omega);rw [← hNG] at htell hrow3;have q3 := HQ2.out.fr HF3.out (fun h => by have h1 := HQG.out; omega);have a0 : wr.cell? ⟨q, 0, none⟩ = some (.func (.func 131) #[] #[]) := q3.cell rfl;have a1 : wr.cell? ⟨q, 1, none⟩ = some (.func (.func 132) #[] #[]) := q3.cell rfl;have c3' : wr.cell? ⟨g, 3, none⟩ = some (.slice Ag NG cg) := hrow3.cell rfl;have HTELL := hid htell;have HROW3 := hid hrow3;have HO3 := hid hO3;have HNG := hid hNG;obtain ⟨TW, hTW⟩ : ∃ TW, TW = tellW kW r'.gs := ⟨_, rfl⟩
      rw [← hTW] at HTELL hres;obtain ⟨E, hE⟩ := nm_ (decide (TW = B));have HE := hid hE;clear hneg hlp hrd3 hnc3 hA3 hl3 htell q3 hrow3 hO3 hNG hTW hE hcap;go_wp2_with fail;refine HTELL.out.mono ?_;rintro e w4 ⟨A5, c5, rfl, hO5, hf5⟩;have heq := equal_any A5 A TW.length c5 n c TW B w4 hO5.rd ((HRA.out.frp HF3.out (fun h0 ad e h => by have := HAG.out h0 ad e; omega)).fr hf5 (fun _ _ h => h));rw [HE.out] at heq;have HEQ := hid heq;have HF5 := hid (HF2.out.trans (HF3.out.trans (hf5.mono (T := fun k => g ≤ k) (fun _ _ h => h.elim)) (fun _ _ h => h)) (S := fun _ => False) (fun b hb h => by have h1 := HQG.out; omega));have HROW5 := hid (HROW3.out.fr hf5 (fun h => h));have HO5 := hid (HO3.out.fr hf5);clear heq hO5 hf5 HTELL a0 a1 c3' c2;have d3 : w4.cell? ⟨g, 3, none⟩ = some (.slice Ag NG cg) := HROW5.out.cell rfl;have d4 : w4.cell? ⟨g, 4, none⟩ = some (.int .i64 (r'.count : Int)) := HROW5.out.cell rfl;cases E with
      | false =>
       rw [if_pos (of_decide_eq_false HE.out)] at hres;have HX := hid hres;clear hres d3 d4;go_wp2_with fail;refine HEQ.out.mono ?_;rintro e w5 ⟨rfl, rfl⟩;go_wp2_with fail;rw [HX.out];exact bodyPost_ret (v := .tuple #[.slice none 0 0, .int .i64 3]) (by simp [results, Tryz.results106, go_sem]) rfl ⟨none, 0, rfl, OwnC.nil _ _ _, HF5.out⟩
      | true =>
       rw [if_neg (fun h => h (of_decide_eq_true HE.out))] at hres;have HX := hid hres;obtain ⟨CN, hCN⟩ : ∃ CN, CN = r'.count := ⟨_, rfl⟩
       rw [← hCN] at d4;have hcn6 : CN ≤ 1000000 := by omega
       have t2 : decide ((2147483647 : Int) < (CN : Int)) = false := by simp; omega
       have t2' : decide (2147483647 < CN) = false := by simp; omega
       have hsp := spreadW_any Ag r'.gs.length cg r'.gs CN w4 HO5.out.grs (by omega) (by omega) hcn6;rw [← HNG.out] at hsp;have HSP := hid hsp;clear hres hCN hsp;go_wp2_with fail;refine HEQ.out.mono ?_;rintro e w5 ⟨rfl, rfl⟩;go_wp2_with fail;refine HSP.out.mono ?_;rintro e w6 ⟨A6, c6, rfl, hO6, hf6⟩;have HO6 := hid hO6;have HF6 := hid (HF5.out.trans hf6 im_);have HSZ := hid HF5.out.size;clear hO6 hf6 HSP HEQ d3 d4;go_wp2_with fail;rw [HX.out];exact bodyPost_ret (v := .tuple #[.slice A6 (spreadG r'.gs).length c6, .int .i64 0]) (by simp [results, Tryz.results106, go_sem]) rfl ⟨A6, c6, rfl, HO6.out.base HSZ.out, HF6.out⟩
end
end Go.Proofs.YtbabgnadgdidmaaGreat
