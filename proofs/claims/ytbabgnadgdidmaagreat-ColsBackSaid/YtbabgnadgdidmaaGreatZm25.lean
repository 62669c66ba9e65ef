import Derived.Test.YtbabgnadgdidmaaGreatZm00
import Derived.Test.YtbabgnadgdidmaaGreatZm24
import Derived.Test.YtbabgnadgdidmaaGreatZm21
set_option linter.unusedVariables false
set_option maxRecDepth 100000
set_option maxHeartbeats 12800000
namespace Go.Proofs.YtbabgnadgdidmaaGreat
section
open Go.RowKit Mem Go.Lib RleM LebM
attribute [local go_sem ↓] Go.wp_at_zero Go.wp_at_succ
section
variable {β : Type} {f : β → Value} {T G : TypeId} {fp fg : Value}
theorem Rdr.fr {w w' : World} {base g : Nat} {most : Int} {r : Rs (Bool × β)} (h : Rdr f T G fp fg w base g most r) (hf : Fr (fun _ => False) w w') : Rdr f T G fp fg w' base g most r := by
 obtain ⟨⟨A, n, c, Ag, cg, h1, h2, h3, h4, h5⟩, hb⟩ := h;exact ⟨⟨A, n, c, Ag, cg, h1.fr hf (fun h => h), h2.fr hf (fun _ _ h => h), h3, h4, h5.fr hf⟩, hb⟩
theorem Rdr.left {w w' : World} {base g : Nat} {most : Int} {L L' : List UInt8} {gs : List ((Bool × β) × Nat)} {cnt : Nat} {A : Option Addr} {n c : Nat} {Ag : Option Addr} {cg : Nat}
    (hrow : Row w g T [fp, fg, .slice A n c, .slice Ag gs.length cg, .int .i64 (cnt : Int), .int .i64 most]) (hO : OwnG f G w base Ag cg gs) (hb : base ≤ g) (hTG : G ≠ T) (hf : Fr (fun b => b = g) w w')
    (h : ∃ A' c' n', Row w' g T [fp, fg, .slice A' n' c', .slice Ag gs.length cg, .int .i64 (cnt : Int), .int .i64 most] ∧ Rd w' A' n' (L'.map bytec) ∧ n' ≤ c' ∧ (0 < n' → ∀ ad, A' = some ad → ad.block < base)) : Rdr f T G fp fg w' base g most ⟨L', gs, cnt⟩ := by
 obtain ⟨A', c', n', h1, h2, h3, h4⟩ := h;exact ⟨⟨A', n', c', Ag, cg, h1, h2, h3, h4, own_fr hO hf (fun ad e h => own_ne hO hrow hTG (by rw [e, ← h]; rfl))⟩, hb⟩
theorem Rdr.cells {w : World} {base g : Nat} {most : Int} {r : Rs (Bool × β)} (h : Rdr f T G fp fg w base g most r) : w.cell? ⟨g, 4, none⟩ = some (.int .i64 (r.count : Int)) ∧ w.cell? ⟨g, 5, none⟩ = some (.int .i64 most) ∧ w.cell? ⟨g, 0, none⟩ = some fp ∧ w.cell? ⟨g, 1, none⟩ = some fg := by
 obtain ⟨⟨A, n, c, Ag, cg, h1, h2, h3, h4, h5⟩, hb⟩ := h;exact ⟨h1.cell rfl, h1.cell rfl, h1.cell rfl, h1.cell rfl⟩
def Ends (f : β → Value) (T G : TypeId) (fp fg : Value) (base g : Nat) (most : Int) (res : Except Nat (Rs (Bool × β))) (e : Ending) (w' : World) : Prop :=
 match res with
 | .error er => e = .returned (.int .i64 (er : Int)) ∧ er ≠ 0
 | .ok r' => e = .returned (.int .i64 0) ∧ Rdr f T G fp fg w' base g most r'
theorem Rdr.lt {w : World} {base g : Nat} {most : Int} {r : Rs (Bool × β)} (h : Rdr f T G fp fg w base g most r) : g < w.heap.size := by
 obtain ⟨⟨A, n, c, Ag, cg, h1, h2, h3, h4, h5⟩, hb⟩ := h;exact h1.lt
theorem Rdr.other {w w' : World} {base g p : Nat} {most : Int} {r : Rs (Bool × β)} {T' : TypeId} {L : List Value} (h : Rdr f T G fp fg w base g most r) (hp : Row w p T' L) (hpb : base ≤ p ∧ p ≠ g) (hTG : G ≠ T') (hf : Fr (fun b => b = p) w w') : Rdr f T G fp fg w' base g most r := by
 obtain ⟨⟨A, n, c, Ag, cg, h1, h2, h3, h4, h5⟩, hb⟩ := h;exact ⟨⟨A, n, c, Ag, cg, h1.fr hf (fun e => hpb.2 e.symm), h2.frp hf (fun h0 ad e h => by have := h4 h0 ad e; omega), h3, h4, own_fr h5 hf (fun ad e h => own_ne h5 hp hTG (by rw [e, ← h]; rfl))⟩, hb⟩
theorem Rdr.other2 {w : World} {base g p : Nat} {most : Int} {r : Rs (Bool × β)} {T' : TypeId} {L : List Value} {u v : Value} (h : Rdr f T G fp fg w base g most r) (hp : Row w p T' L) (hpb : base ≤ p ∧ p ≠ g) (hTG : G ≠ T') : Rdr f T G fp fg ((w.setCell ⟨p, 0, none⟩ u).setCell ⟨p, 1, none⟩ v) base g most r :=
 h.other hp hpb hTG ((Fr.set1 w p 0 u).trans (Fr.set1 _ p 1 v) (fun _ _ h => h))
theorem Fr.up {w w' : World} {base g : Nat} (h : Fr (fun b => b = g) w w') (hb : base ≤ g) : Fr (fun k => base ≤ k) w w' := h.mono (fun _ _ e => by rw [e]; exact hb)
theorem Fr.up0 {w w' : World} {base : Nat} (h : Fr (fun _ => False) w w') : Fr (fun k => base ≤ k) w w' := h.mono (fun _ _ e => e.elim)
end
theorem nothingsC_any {fp fg : Value} {ok : Bool × Int → Prop} (base g : Nat) (most : Int) (r : Rs (Bool × Int)) (w : World) (hR : Rdr nv 216 206 fp fg w base g most r) (hI : Inv ok r) (hz : ok (false, 0)) (hm0 : -9223372036854775808 ≤ most) (hm1 : most ≤ 1000000) :
    Calls Tryz.prog 160 #[.pointer (some ⟨g, 0, none⟩)] w fun e w' => Fr (fun k => base ≤ k) w w' ∧ Ends nv 216 206 fp fg base g most (noneG (false, 0) most r) e w' := by
 obtain ⟨left, gs, cnt⟩ := r;obtain ⟨⟨A, nl, c, Ag, cg, hrow, hrd, hnc, hA, hO⟩, hbg⟩ := hR;simp only at hrow hrd hO;have hln : left.length = nl := by simpa using hrd.1
 have hlen := hI.len;have hcnt := hI.cnt;simp only at hlen hcnt;have htk := takeN_any base g _ _ _ _ _ _ A nl c left w hrow hrd hnc hA hbg (by omega);have hbd := gu_bd left;have hpos := gu_pos (B := left);obtain ⟨RES, hRES⟩ : ∃ R, R = noneG (false, 0) most (⟨left, gs, cnt⟩ : Rs (Bool × Int)) := ⟨_, rfl⟩
 rw [← hRES];unfold noneG at hRES;simp only at hRES;obtain ⟨N, hN⟩ : ∃ N, N = (gu left).1 := ⟨_, rfl⟩
 obtain ⟨k, hk⟩ : ∃ k, k = (gu left).2.1 := ⟨_, rfl⟩
 obtain ⟨E, hE⟩ : ∃ E, E = (gu left).2.2 := ⟨_, rfl⟩
 rw [← hN, ← hk, ← hE] at hRES;rw [← hN, ← hk, ← hE] at hbd;rw [← hk, ← hE] at hpos;rw [← hN, ← hk, ← hE] at htk;have HTK := hid htk;have HROW := hid hrow;have HO := hid hO;have HBG := hid hbg;have HI := hid hI;obtain ⟨hb1, hb2, hb3⟩ := hbd;clear hN hk hE htk hrow hrd hnc hA hO hI hbg hlen;go_enter Tryz.func160, Tryz.ntmps160;go_wp2_with fail;refine HTK.out.mono ?_;rintro e w2 ⟨rfl, ⟨A2, c2, hrow2, hrd2, hnc2, hA2⟩, hf2⟩;have hR2 : Rdr nv 216 206 fp fg w2 base g most ⟨left.drop k, gs, cnt⟩ := Rdr.left (L := left) HROW.out HO.out HBG.out (by decide) hf2 ⟨A2, c2, _, hrow2, hrd2, hnc2, hA2⟩;have HR2 := hid hR2;have HF2 := hid (Fr.up hf2 HBG.out);have hft := fitsC_any g cnt N most w2 hR2.cells.1 hR2.cells.2.1 (by omega) hm0 (by omega) hb1;have HFT := hid hft;clear hrow2 hrd2 hnc2 hA2 hf2 hR2 HTK hft;by_cases he : E = 0
 · have t0 : ((E : Int) != 0) = false := by simp; omega
   have t0' : (E != 0) = false := by simp; omega
   rw [if_neg (by omega)] at hRES;obtain ⟨Q, hQ⟩ := nm_ (decide ((cnt : Int) + (N : Nat) ≤ most));rw [hQ] at HFT;have hk1 := hpos he;have HQ := hid hQ;clear he hpos hQ;cases Q with
   | true =>
    have hfit : (cnt : Int) + (N : Nat) ≤ most := of_decide_eq_true HQ.out;rw [if_pos hfit] at hRES;have HRES := hid hRES;have r1 : IntKind.i64.wrap (N : Int) = (N : Int) := by rw [IntKind.wrap_i64]; omega
    have hN6 : cnt + N ≤ 1000000 := by omega
    have HK := hid (And.intro hk1 hb2);clear hRES hfit hk1 hb2;go_wp2_with fail;refine HFT.out.mono ?_;rintro e w3 ⟨rfl, hf3⟩;have HR3 := hid (HR2.out.fr hf3);have HF3 := hid (HF2.out.trans (Fr.up0 hf3) (fun _ _ h => h));clear hf3 HFT HR2;go_wp2_with fail;obtain ⟨w4, hw4⟩ := nm_ (w3.alloc (.cells #[.bool false, (.int .i64 0)] 78));rw [hw4];have hf4 : Fr (fun _ => False) w3 w4 := by rw [← hw4]; exact (Fr.refl _ _).alloc _
    have had := raddC_any fp fg base g most (left.drop k) gs cnt N false 0 w4 (HR3.out.fr hf4) (HI.out.small.1) (fun g hg => HI.out.small.2 g hg N (by omega)) (by omega);have HAD := hid had;have HF4 := hid (HF3.out.trans (Fr.up0 hf4) (fun _ _ h => h));clear hw4 hf4 had HR3;refine HAD.out.mono ?_;rintro e w5 ⟨rfl, hR5, hf5⟩;have HR5 := hid hR5;have HF5 := hid (HF4.out.trans hf5 im_);clear hR5 hf5 HAD;go_wp2_with fail;go_ret;rw [HRES.out];exact ⟨HF5.out, rfl, HR5.out⟩
   | false =>
    have hfit : ¬ (cnt : Int) + (N : Nat) ≤ most := of_decide_eq_false HQ.out;rw [if_neg hfit] at hRES;have HRES := hid hRES;clear hRES hfit hk1;go_wp2_with fail;refine HFT.out.mono ?_;rintro e w3 ⟨rfl, hf3⟩;have HF3 := hid (HF2.out.trans (Fr.up0 hf3) (fun _ _ h => h));clear hf3 HFT;go_wp2_with fail;go_ret;rw [HRES.out];exact ⟨HF3.out, rfl, by decide⟩
 · have t0 : ((E : Int) != 0) = true := by simp; omega
   have t0' : (E != 0) = true := by simp; omega
   rw [if_pos he] at hRES;have HRES := hid hRES;have HE := hid he;clear hRES he hpos;go_wp2_with fail;go_ret;rw [HRES.out];exact ⟨HF2.out, rfl, HE.out⟩
theorem nothingsW_any {fp fg : Value} {ok : Bool × (List UInt8) → Prop} (base g : Nat) (most : Int) (r : Rs (Bool × (List UInt8))) (w : World) (hR : Rdr sv 220 212 fp fg w base g most r) (hI : Inv ok r) (hz : ok (false, [])) (hm0 : -9223372036854775808 ≤ most) (hm1 : most ≤ 1000000) :
    Calls Tryz.prog 163 #[.pointer (some ⟨g, 0, none⟩)] w fun e w' => Fr (fun k => base ≤ k) w w' ∧ Ends sv 220 212 fp fg base g most (noneG (false, []) most r) e w' := by
 obtain ⟨left, gs, cnt⟩ := r;obtain ⟨⟨A, nl, c, Ag, cg, hrow, hrd, hnc, hA, hO⟩, hbg⟩ := hR;simp only at hrow hrd hO;have hln : left.length = nl := by simpa using hrd.1
 have hlen := hI.len;have hcnt := hI.cnt;simp only at hlen hcnt;have htk := takeN_any base g _ _ _ _ _ _ A nl c left w hrow hrd hnc hA hbg (by omega);have hbd := gu_bd left;have hpos := gu_pos (B := left);obtain ⟨RES, hRES⟩ : ∃ R, R = noneG (false, []) most (⟨left, gs, cnt⟩ : Rs (Bool × (List UInt8))) := ⟨_, rfl⟩
 rw [← hRES];unfold noneG at hRES;simp only at hRES;obtain ⟨N, hN⟩ : ∃ N, N = (gu left).1 := ⟨_, rfl⟩
 obtain ⟨k, hk⟩ : ∃ k, k = (gu left).2.1 := ⟨_, rfl⟩
 obtain ⟨E, hE⟩ : ∃ E, E = (gu left).2.2 := ⟨_, rfl⟩
 rw [← hN, ← hk, ← hE] at hRES;rw [← hN, ← hk, ← hE] at hbd;rw [← hk, ← hE] at hpos;rw [← hN, ← hk, ← hE] at htk;have HTK := hid htk;have HROW := hid hrow;have HO := hid hO;have HBG := hid hbg;have HI := hid hI;obtain ⟨hb1, hb2, hb3⟩ := hbd;clear hN hk hE htk hrow hrd hnc hA hO hI hbg hlen;go_enter Tryz.func163, Tryz.ntmps163;go_wp2_with fail;refine HTK.out.mono ?_;rintro e w2 ⟨rfl, ⟨A2, c2, hrow2, hrd2, hnc2, hA2⟩, hf2⟩;have hR2 : Rdr sv 220 212 fp fg w2 base g most ⟨left.drop k, gs, cnt⟩ := Rdr.left (L := left) HROW.out HO.out HBG.out (by decide) hf2 ⟨A2, c2, _, hrow2, hrd2, hnc2, hA2⟩;have HR2 := hid hR2;have HF2 := hid (Fr.up hf2 HBG.out);have hft := fitsW_any g cnt N most w2 hR2.cells.1 hR2.cells.2.1 (by omega) hm0 (by omega) hb1;have HFT := hid hft;clear hrow2 hrd2 hnc2 hA2 hf2 hR2 HTK hft;by_cases he : E = 0
 · have t0 : ((E : Int) != 0) = false := by simp; omega
   have t0' : (E != 0) = false := by simp; omega
   rw [if_neg (by omega)] at hRES;obtain ⟨Q, hQ⟩ := nm_ (decide ((cnt : Int) + (N : Nat) ≤ most));rw [hQ] at HFT;have hk1 := hpos he;have HQ := hid hQ;clear he hpos hQ;cases Q with
   | true =>
    have hfit : (cnt : Int) + (N : Nat) ≤ most := of_decide_eq_true HQ.out;rw [if_pos hfit] at hRES;have HRES := hid hRES;have r1 : IntKind.i64.wrap (N : Int) = (N : Int) := by rw [IntKind.wrap_i64]; omega
    have hN6 : cnt + N ≤ 1000000 := by omega
    have HK := hid (And.intro hk1 hb2);clear hRES hfit hk1 hb2;go_wp2_with fail;refine HFT.out.mono ?_;rintro e w3 ⟨rfl, hf3⟩;have HR3 := hid (HR2.out.fr hf3);have HF3 := hid (HF2.out.trans (Fr.up0 hf3) (fun _ _ h => h));clear hf3 HFT HR2;go_wp2_with fail;obtain ⟨w4, hw4⟩ : ∃ w4, w3.alloc (.cells #[.bool false, (.string ⟨#[]⟩)] 81) = w4 := ⟨_, rfl⟩
    rw [hw4];have hf4 : Fr (fun _ => False) w3 w4 := by rw [← hw4]; exact (Fr.refl _ _).alloc _
    have had := raddW_any fp fg base g most (left.drop k) gs cnt N false [] w4 (HR3.out.fr hf4) (HI.out.small.1) (fun g hg => HI.out.small.2 g hg N (by omega)) (by omega);have HAD := hid had;have HF4 := hid (HF3.out.trans (Fr.up0 hf4) (fun _ _ h => h));clear hw4 hf4 had HR3;refine HAD.out.mono ?_;rintro e w5 ⟨rfl, hR5, hf5⟩;have HR5 := hid hR5;have HF5 := hid (HF4.out.trans hf5 im_);clear hR5 hf5 HAD;go_wp2_with fail;go_ret;rw [HRES.out];exact ⟨HF5.out, rfl, HR5.out⟩
   | false =>
    have hfit : ¬ (cnt : Int) + (N : Nat) ≤ most := of_decide_eq_false HQ.out;rw [if_neg hfit] at hRES;have HRES := hid hRES;clear hRES hfit hk1;go_wp2_with fail;refine HFT.out.mono ?_;rintro e w3 ⟨rfl, hf3⟩;have HF3 := hid (HF2.out.trans (Fr.up0 hf3) (fun _ _ h => h));clear hf3 HFT;go_wp2_with fail;go_ret;rw [HRES.out];exact ⟨HF3.out, rfl, by decide⟩
 · have t0 : ((E : Int) != 0) = true := by simp; omega
   have t0' : (E != 0) = true := by simp; omega
   rw [if_pos he] at hRES;have HRES := hid hRES;have HE := hid he;clear hRES he hpos;go_wp2_with fail;go_ret;rw [HRES.out];exact ⟨HF2.out, rfl, HE.out⟩
end
section
open Go.RowKit Mem Go.Lib RleM LebM
attribute [local go_sem ↓] Go.wp_at_zero Go.wp_at_succ
theorem takeU_any (base g : Nat) (t : TypeId) (fp fg sg cn mo : Value) (A : Option Addr) (n c : Nat) (B : List UInt8) (w : World) (hR : Row w g t [fp, fg, .slice A n c, sg, cn, mo]) (hr : Rd w A n (B.map bytec)) (hc : n ≤ c) (hA : 0 < n → ∀ ad, A = some ad → ad.block < base) (hg : base ≤ g) (hn : n ≤ 1000000) :
    Calls Tryz.prog 182 #[.pointer (some ⟨g, 2, none⟩), .func (.func 125) #[] #[]] w fun e w' => e = .returned (.tuple #[.agg #[.bool (kU.get B).1.1, (.int .i64 (kU.get B).1.2)], .int .i64 ((kU.get B).2.2 : Int)]) ∧
     (∃ A' c', Row w' g t [fp, fg, .slice A' (n - (kU.get B).2.1) c', sg, cn, mo] ∧ Rd w' A' (n - (kU.get B).2.1) ((B.drop (kU.get B).2.1).map bytec) ∧ n - (kU.get B).2.1 ≤ c' ∧ (0 < n - (kU.get B).2.1 → ∀ ad, A' = some ad → ad.block < base)) ∧ Fr (fun b => b = g) w w' := by
 have hBn : B.length = n := by simpa using hr.1
 have hbd := getU_bd B;obtain ⟨i, hi⟩ : ∃ i, i = (kU.get B).1.1 := ⟨_, rfl⟩
 obtain ⟨x, hx⟩ : ∃ x, x = (kU.get B).1.2 := ⟨_, rfl⟩
 obtain ⟨k, hk⟩ : ∃ k, k = (kU.get B).2.1 := ⟨_, rfl⟩
 obtain ⟨E, hE⟩ : ∃ E, E = (kU.get B).2.2 := ⟨_, rfl⟩
 obtain ⟨w1, hw1⟩ := nm_ (w.alloc (.cells #[.bool false, (.int .i64 0)] 78));obtain ⟨q, hq⟩ := nm_ w.heap.size;have hf1 : Fr (fun _ => False) w w1 := by rw [← hw1]; exact (Fr.refl _ _).alloc _
 have hqb : Row w1 q 78 [.bool false, (.int .i64 0)] := by rw [← hw1, ← hq]; exact Row.new w _ _
 have hqg : q ≠ g := by have := hR.lt; omega
 have hR1 := hR.fr hf1 (fun h => h);have hr1 := hr.fr hf1 (fun _ _ h => h);have hgt := getU_any A n c B w1 hr1 hc hn;obtain ⟨-, hbd1, -⟩ := hbd;rw [← hk] at hbd1;rw [← hi, ← hx, ← hk, ← hE] at hgt;rw [← hi, ← hx, ← hk, ← hE];have hkn : k ≤ n := by omega
 have c2 : w1.cell? ⟨g, 2, none⟩ = some (.slice A n c) := hR1.cell rfl;obtain ⟨A2, hA2⟩ : ∃ A2, A2 = (if c = k then A else A.map (·.add k)) := ⟨_, rfl⟩
 have hsl : ∀ w : World, (Instr.sliceAt 34 (.slice A n c) (some (.int .i64 (k : Int))) none none).run Tryz.prog w = .ok (.slice A2 (n - k) (c - k)) w := by
  intro w;rw [hA2];exact from_u8 A n c k hkn hc _ rfl w
 have hrC : Rd w1 A2 (n - k) ((B.drop k).map bytec) := by
  have h := hr1.cut (k := k) (m := n) (cap := c) hkn (Nat.le_refl _) hc;rw [← hA2] at h;rw [List.map_drop];rw [List.take_of_length_le (by simp; omega)] at h;exact h
 have hAb : 0 < n - k → ∀ ad, A2 = some ad → ad.block < base := by
  intro h0 ad e;rw [hA2] at e;split at e
  · exact hA (by omega) ad e
  · cases A with
    | none => cases e
    | some a =>
     injection e with e
     rw [← e, add_block];exact hA (by omega) a rfl
 obtain ⟨n2, hn2⟩ : ∃ n2, n2 = n - k := ⟨_, rfl⟩
 obtain ⟨c3, hc3⟩ : ∃ c3, c3 = c - k := ⟨_, rfl⟩
 have hnc : n2 ≤ c3 := by omega
 rw [← hn2, ← hc3] at hsl;rw [← hn2] at hrC hAb ⊢;have HGT := hid hgt;have HR := hid hR1;have HRC := hid hrC;have HAB := hid hAb;have HG := hid hg;have HNC := hid hnc;have HQB := hid hqb;have HQG := hid hqg;have HQ := hid hq;have HF1 := hid hf1;have HHG := hid hR.lt;clear hi hx hk hE hgt hR hr hBn hrC hAb hA2 hn2 hc3 hg hnc hA hqb hqg hf1 hR1 hr1 hbd1;go_enter Tryz.func182, Tryz.ntmps182;go_wp2_with fail;clear hw1 hq;refine HGT.out.mono ?_;rintro e w2 ⟨rfl, hf2⟩;obtain ⟨w3, hw3⟩ := nm_ (w2.alloc (.cells #[.bool i, (.int .i64 x)] 78));obtain ⟨p, hp⟩ := nm_ w2.heap.size;have hf3 : Fr (fun _ => False) w2 w3 := by rw [← hw3]; exact (Fr.refl _ _).alloc _
 have hpb : Row w3 p 78 [.bool i, (.int .i64 x)] := by rw [← hw3, ← hp]; exact Row.new w2 _ _
 have hf13 := hf2.trans hf3 im_;have hr3 := HR.out.fr hf13 (fun h => h);have hq3 := HQB.out.fr hf13 (fun h => h);have hpg : p ≠ g := by have := HR.out.lt; have := hf2.size; omega
 have hpq : p ≠ q := by have := HQB.out.lt; have := hf2.size; omega
 have a2 : w3.cell? ⟨g, 2, none⟩ = some (.slice A n c) := hr3.cell rfl;have f2 : w3.frozen? ⟨g, 2, none⟩ = false := hr3.free 2;have HR3 := hid hr3;have HQ3 := hid hq3;have HPB := hid hpb;have HPG := hid hpg;have HPQ := hid hpq;have HF3 := hid (HF1.out.trans hf13 im_);have HRC3 := hid (HRC.out.fr hf13 (fun _ _ h => h));clear hf2 hf3 hpb hf13 hr3 hq3 hpg hpq c2 HGT
 go_upto_region 3 with fail
 clear hw3 hp a2 f2;obtain ⟨w4, hw4⟩ : ∃ w4, w4 = w3.setCell ⟨g, 2, none⟩ (.slice A2 n2 c3) := ⟨_, rfl⟩
 rw [← hw4];have hr4 : Row w4 g t [fp, fg, .slice A2 n2 c3, sg, cn, mo] := by rw [hw4]; exact HR3.out.set 2 _
 have hq4 : Row w4 q 78 [.bool false, (.int .i64 0)] := by rw [hw4]; exact HQ3.out.other HQG.out _
 have hp4 : Row w4 p 78 [.bool i, (.int .i64 x)] := by rw [hw4]; exact HPB.out.other HPG.out _
 have hf4 : Fr (fun b => b = g) w w4 := by rw [hw4]; exact (HF3.out.mono (fun _ _ h => h.elim)).trans (Fr.set1 w3 g 2 _) (fun _ _ h => h)
 have hrd4 : Rd w4 A2 n2 ((B.drop k).map bytec) := by rw [hw4]; exact HRC3.out.frp (Fr.set1 w3 g 2 _) (fun h0 ad e h => by have h1 := HAB.out h0 ad e; have h2 := HG.out; omega)
 have p0 : w4.cell? ⟨p, 0, none⟩ = some (.bool i) := hp4.cell rfl;have p1 : w4.cell? ⟨p, 1, none⟩ = some (.int .i64 x) := hp4.cell rfl;have q0 : w4.cell? ⟨q, 0, none⟩ = some (.bool false) := hq4.cell rfl;have q1 : w4.cell? ⟨q, 1, none⟩ = some (.int .i64 0) := hq4.cell rfl;have z0 : w4.frozen? ⟨q, 0, none⟩ = false := hq4.free 0;have z1 : w4.frozen? ⟨q, 1, none⟩ = false := hq4.free 1;have HR4 := hid hr4;have HQ4 := hid hq4;have HF4 := hid hf4;have HRD4 := hid hrd4;clear hw4 hr4 hq4 hp4 hf4 hrd4;go_wp2_with fail;clear p0 p1 q0 q1 z0 z1;obtain ⟨w5, hw5⟩ : ∃ w5, w5 = (w4.setCell ⟨q, 0, none⟩ (.bool i)).setCell ⟨q, 1, none⟩ (.int .i64 x) := ⟨_, rfl⟩
 rw [← hw5];have hq5 : Row w5 q 78 [.bool i, (.int .i64 x)] := by rw [hw5]; exact (HQ4.out.set 0 _).set 1 _
 have hf5 : Fr (fun b => b = q) w4 w5 := by rw [hw5]; exact (Fr.set1 w4 q 0 _).trans (Fr.set1 _ q 1 _) (fun _ _ h => h)
 have d0 : w5.cell? ⟨q, 0, none⟩ = some (.bool i) := hq5.cell rfl;have d1 : w5.cell? ⟨q, 1, none⟩ = some (.int .i64 x) := hq5.cell rfl;have HF5 := hid hf5;clear hq5 hf5 hw5;refine bodyPost_ret (v := .tuple #[.agg #[.bool i, (.int .i64 x)], .int .i64 (E : Int)]) (by simp [results, Tryz.results182, go_sem, d0, d1]) rfl ⟨rfl, ⟨A2, c3, ?_, ?_, HNC.out, HAB.out⟩, ?_⟩
 · exact HR4.out.fr HF5.out (fun h => HQG.out h.symm)
 · exact HRD4.out.frp HF5.out (fun h0 ad e h => by have h1 := HAB.out h0 ad e; have h2 := HG.out; have h3 := HQ.out; have h4 := HHG.out; omega)
 · exact HF4.out.trans HF5.out (fun b hb h => by have h3 := HQ.out; omega)
theorem takeS_any (base g : Nat) (t : TypeId) (fp fg sg cn mo : Value) (A : Option Addr) (n c : Nat) (B : List UInt8) (w : World) (hR : Row w g t [fp, fg, .slice A n c, sg, cn, mo]) (hr : Rd w A n (B.map bytec)) (hc : n ≤ c) (hA : 0 < n → ∀ ad, A = some ad → ad.block < base) (hg : base ≤ g) (hn : n ≤ 1000000) :
    Calls Tryz.prog 182 #[.pointer (some ⟨g, 2, none⟩), .func (.func 158) #[] #[]] w fun e w' => e = .returned (.tuple #[.agg #[.bool (kS.get B).1.1, (.int .i64 (kS.get B).1.2)], .int .i64 ((kS.get B).2.2 : Int)]) ∧
     (∃ A' c', Row w' g t [fp, fg, .slice A' (n - (kS.get B).2.1) c', sg, cn, mo] ∧ Rd w' A' (n - (kS.get B).2.1) ((B.drop (kS.get B).2.1).map bytec) ∧ n - (kS.get B).2.1 ≤ c' ∧ (0 < n - (kS.get B).2.1 → ∀ ad, A' = some ad → ad.block < base)) ∧ Fr (fun b => b = g) w w' := by
 have hBn : B.length = n := by simpa using hr.1
 have hbd := getS_bd B;obtain ⟨i, hi⟩ : ∃ i, i = (kS.get B).1.1 := ⟨_, rfl⟩
 obtain ⟨x, hx⟩ : ∃ x, x = (kS.get B).1.2 := ⟨_, rfl⟩
 obtain ⟨k, hk⟩ : ∃ k, k = (kS.get B).2.1 := ⟨_, rfl⟩
 obtain ⟨E, hE⟩ : ∃ E, E = (kS.get B).2.2 := ⟨_, rfl⟩
 obtain ⟨w1, hw1⟩ := nm_ (w.alloc (.cells #[.bool false, (.int .i64 0)] 78));obtain ⟨q, hq⟩ := nm_ w.heap.size;have hf1 : Fr (fun _ => False) w w1 := by rw [← hw1]; exact (Fr.refl _ _).alloc _
 have hqb : Row w1 q 78 [.bool false, (.int .i64 0)] := by rw [← hw1, ← hq]; exact Row.new w _ _
 have hqg : q ≠ g := by have := hR.lt; omega
 have hR1 := hR.fr hf1 (fun h => h);have hr1 := hr.fr hf1 (fun _ _ h => h);have hgt := getS_any A n c B w1 hr1 hc hn;obtain ⟨-, hbd1, -⟩ := hbd;rw [← hk] at hbd1;rw [← hi, ← hx, ← hk, ← hE] at hgt;rw [← hi, ← hx, ← hk, ← hE];have hkn : k ≤ n := by omega
 have c2 : w1.cell? ⟨g, 2, none⟩ = some (.slice A n c) := hR1.cell rfl;obtain ⟨A2, hA2⟩ : ∃ A2, A2 = (if c = k then A else A.map (·.add k)) := ⟨_, rfl⟩
 have hsl : ∀ w : World, (Instr.sliceAt 34 (.slice A n c) (some (.int .i64 (k : Int))) none none).run Tryz.prog w = .ok (.slice A2 (n - k) (c - k)) w := by
  intro w;rw [hA2];exact from_u8 A n c k hkn hc _ rfl w
 have hrC : Rd w1 A2 (n - k) ((B.drop k).map bytec) := by
  have h := hr1.cut (k := k) (m := n) (cap := c) hkn (Nat.le_refl _) hc;rw [← hA2] at h;rw [List.map_drop];rw [List.take_of_length_le (by simp; omega)] at h;exact h
 have hAb : 0 < n - k → ∀ ad, A2 = some ad → ad.block < base := by
  intro h0 ad e;rw [hA2] at e;split at e
  · exact hA (by omega) ad e
  · cases A with
    | none => cases e
    | some a =>
     injection e with e
     rw [← e, add_block];exact hA (by omega) a rfl
 obtain ⟨n2, hn2⟩ : ∃ n2, n2 = n - k := ⟨_, rfl⟩
 obtain ⟨c3, hc3⟩ : ∃ c3, c3 = c - k := ⟨_, rfl⟩
 have hnc : n2 ≤ c3 := by omega
 rw [← hn2, ← hc3] at hsl;rw [← hn2] at hrC hAb ⊢;have HGT := hid hgt;have HR := hid hR1;have HRC := hid hrC;have HAB := hid hAb;have HG := hid hg;have HNC := hid hnc;have HQB := hid hqb;have HQG := hid hqg;have HQ := hid hq;have HF1 := hid hf1;have HHG := hid hR.lt;clear hi hx hk hE hgt hR hr hBn hrC hAb hA2 hn2 hc3 hg hnc hA hqb hqg hf1 hR1 hr1 hbd1;go_enter Tryz.func182, Tryz.ntmps182;go_wp2_with fail;clear hw1 hq;refine HGT.out.mono ?_;rintro e w2 ⟨rfl, hf2⟩;obtain ⟨w3, hw3⟩ := nm_ (w2.alloc (.cells #[.bool i, (.int .i64 x)] 78));obtain ⟨p, hp⟩ := nm_ w2.heap.size;have hf3 : Fr (fun _ => False) w2 w3 := by rw [← hw3]; exact (Fr.refl _ _).alloc _
 have hpb : Row w3 p 78 [.bool i, (.int .i64 x)] := by rw [← hw3, ← hp]; exact Row.new w2 _ _
 have hf13 := hf2.trans hf3 im_;have hr3 := HR.out.fr hf13 (fun h => h);have hq3 := HQB.out.fr hf13 (fun h => h);have hpg : p ≠ g := by have := HR.out.lt; have := hf2.size; omega
 have hpq : p ≠ q := by have := HQB.out.lt; have := hf2.size; omega
 have a2 : w3.cell? ⟨g, 2, none⟩ = some (.slice A n c) := hr3.cell rfl;have f2 : w3.frozen? ⟨g, 2, none⟩ = false := hr3.free 2;have HR3 := hid hr3;have HQ3 := hid hq3;have HPB := hid hpb;have HPG := hid hpg;have HPQ := hid hpq;have HF3 := hid (HF1.out.trans hf13 im_);have HRC3 := hid (HRC.out.fr hf13 (fun _ _ h => h));clear hf2 hf3 hpb hf13 hr3 hq3 hpg hpq c2 HGT
 go_upto_region 3 with fail
 clear hw3 hp a2 f2;obtain ⟨w4, hw4⟩ : ∃ w4, w4 = w3.setCell ⟨g, 2, none⟩ (.slice A2 n2 c3) := ⟨_, rfl⟩
 rw [← hw4];have hr4 : Row w4 g t [fp, fg, .slice A2 n2 c3, sg, cn, mo] := by rw [hw4]; exact HR3.out.set 2 _
 have hq4 : Row w4 q 78 [.bool false, (.int .i64 0)] := by rw [hw4]; exact HQ3.out.other HQG.out _
 have hp4 : Row w4 p 78 [.bool i, (.int .i64 x)] := by rw [hw4]; exact HPB.out.other HPG.out _
 have hf4 : Fr (fun b => b = g) w w4 := by rw [hw4]; exact (HF3.out.mono (fun _ _ h => h.elim)).trans (Fr.set1 w3 g 2 _) (fun _ _ h => h)
 have hrd4 : Rd w4 A2 n2 ((B.drop k).map bytec) := by rw [hw4]; exact HRC3.out.frp (Fr.set1 w3 g 2 _) (fun h0 ad e h => by have h1 := HAB.out h0 ad e; have h2 := HG.out; omega)
 have p0 : w4.cell? ⟨p, 0, none⟩ = some (.bool i) := hp4.cell rfl;have p1 : w4.cell? ⟨p, 1, none⟩ = some (.int .i64 x) := hp4.cell rfl;have q0 : w4.cell? ⟨q, 0, none⟩ = some (.bool false) := hq4.cell rfl;have q1 : w4.cell? ⟨q, 1, none⟩ = some (.int .i64 0) := hq4.cell rfl;have z0 : w4.frozen? ⟨q, 0, none⟩ = false := hq4.free 0;have z1 : w4.frozen? ⟨q, 1, none⟩ = false := hq4.free 1;have HR4 := hid hr4;have HQ4 := hid hq4;have HF4 := hid hf4;have HRD4 := hid hrd4;clear hw4 hr4 hq4 hp4 hf4 hrd4;go_wp2_with fail;clear p0 p1 q0 q1 z0 z1;obtain ⟨w5, hw5⟩ : ∃ w5, w5 = (w4.setCell ⟨q, 0, none⟩ (.bool i)).setCell ⟨q, 1, none⟩ (.int .i64 x) := ⟨_, rfl⟩
 rw [← hw5];have hq5 : Row w5 q 78 [.bool i, (.int .i64 x)] := by rw [hw5]; exact (HQ4.out.set 0 _).set 1 _
 have hf5 : Fr (fun b => b = q) w4 w5 := by rw [hw5]; exact (Fr.set1 w4 q 0 _).trans (Fr.set1 _ q 1 _) (fun _ _ h => h)
 have d0 : w5.cell? ⟨q, 0, none⟩ = some (.bool i) := hq5.cell rfl;have d1 : w5.cell? ⟨q, 1, none⟩ = some (.int .i64 x) := hq5.cell rfl;have HF5 := hid hf5;clear hq5 hf5 hw5;refine bodyPost_ret (v := .tuple #[.agg #[.bool i, (.int .i64 x)], .int .i64 (E : Int)]) (by simp [results, Tryz.results182, go_sem, d0, d1]) rfl ⟨rfl, ⟨A2, c3, ?_, ?_, HNC.out, HAB.out⟩, ?_⟩
 · exact HR4.out.fr HF5.out (fun h => HQG.out h.symm)
 · exact HRD4.out.frp HF5.out (fun h0 ad e h => by have h1 := HAB.out h0 ad e; have h2 := HG.out; have h3 := HQ.out; have h4 := HHG.out; omega)
 · exact HF4.out.trans HF5.out (fun b hb h => by have h3 := HQ.out; omega)
theorem takeW_any (base g : Nat) (t : TypeId) (fp fg sg cn mo : Value) (A : Option Addr) (n c : Nat) (B : List UInt8) (w : World) (hR : Row w g t [fp, fg, .slice A n c, sg, cn, mo]) (hr : Rd w A n (B.map bytec)) (hc : n ≤ c) (hA : 0 < n → ∀ ad, A = some ad → ad.block < base) (hg : base ≤ g) (hn : n ≤ 1000000) :
    Calls Tryz.prog 185 #[.pointer (some ⟨g, 2, none⟩), .func (.func 132) #[] #[]] w fun e w' => e = .returned (.tuple #[.agg #[.bool (kW.get B).1.1, (.string (txt (kW.get B).1.2))], .int .i64 ((kW.get B).2.2 : Int)]) ∧
     (∃ A' c', Row w' g t [fp, fg, .slice A' (n - (kW.get B).2.1) c', sg, cn, mo] ∧ Rd w' A' (n - (kW.get B).2.1) ((B.drop (kW.get B).2.1).map bytec) ∧ n - (kW.get B).2.1 ≤ c' ∧ (0 < n - (kW.get B).2.1 → ∀ ad, A' = some ad → ad.block < base)) ∧ Fr (fun b => b = g) w w' := by
 have hBn : B.length = n := by simpa using hr.1
 have hbd := getW_bd B (by omega);obtain ⟨i, hi⟩ : ∃ i, i = (kW.get B).1.1 := ⟨_, rfl⟩
 obtain ⟨x, hx⟩ : ∃ x, x = (kW.get B).1.2 := ⟨_, rfl⟩
 obtain ⟨k, hk⟩ : ∃ k, k = (kW.get B).2.1 := ⟨_, rfl⟩
 obtain ⟨E, hE⟩ : ∃ E, E = (kW.get B).2.2 := ⟨_, rfl⟩
 obtain ⟨w1, hw1⟩ : ∃ w1, w.alloc (.cells #[.bool false, (.string ⟨#[]⟩)] 81) = w1 := ⟨_, rfl⟩
 obtain ⟨q, hq⟩ := nm_ w.heap.size;have hf1 : Fr (fun _ => False) w w1 := by rw [← hw1]; exact (Fr.refl _ _).alloc _
 have hqb : Row w1 q 81 [.bool false, (.string ⟨#[]⟩)] := by rw [← hw1, ← hq]; exact Row.new w _ _
 have hqg : q ≠ g := by have := hR.lt; omega
 have hR1 := hR.fr hf1 (fun h => h);have hr1 := hr.fr hf1 (fun _ _ h => h);have hgt := getW_any A n c B w1 hr1 hc hn;obtain ⟨-, hbd1, -⟩ := hbd;rw [← hk] at hbd1;rw [← hi, ← hx, ← hk, ← hE] at hgt;rw [← hi, ← hx, ← hk, ← hE];have hkn : k ≤ n := by omega
 have c2 : w1.cell? ⟨g, 2, none⟩ = some (.slice A n c) := hR1.cell rfl;obtain ⟨A2, hA2⟩ : ∃ A2, A2 = (if c = k then A else A.map (·.add k)) := ⟨_, rfl⟩
 have hsl : ∀ w : World, (Instr.sliceAt 34 (.slice A n c) (some (.int .i64 (k : Int))) none none).run Tryz.prog w = .ok (.slice A2 (n - k) (c - k)) w := by
  intro w;rw [hA2];exact from_u8 A n c k hkn hc _ rfl w
 have hrC : Rd w1 A2 (n - k) ((B.drop k).map bytec) := by
  have h := hr1.cut (k := k) (m := n) (cap := c) hkn (Nat.le_refl _) hc;rw [← hA2] at h;rw [List.map_drop];rw [List.take_of_length_le (by simp; omega)] at h;exact h
 have hAb : 0 < n - k → ∀ ad, A2 = some ad → ad.block < base := by
  intro h0 ad e;rw [hA2] at e;split at e
  · exact hA (by omega) ad e
  · cases A with
    | none => cases e
    | some a =>
     injection e with e
     rw [← e, add_block];exact hA (by omega) a rfl
 obtain ⟨n2, hn2⟩ : ∃ n2, n2 = n - k := ⟨_, rfl⟩
 obtain ⟨c3, hc3⟩ : ∃ c3, c3 = c - k := ⟨_, rfl⟩
 have hnc : n2 ≤ c3 := by omega
 rw [← hn2, ← hc3] at hsl;rw [← hn2] at hrC hAb ⊢;have HGT := hid hgt;have HR := hid hR1;have HRC := hid hrC;have HAB := hid hAb;have HG := hid hg;have HNC := hid hnc;have HQB := hid hqb;have HQG := hid hqg;have HQ := hid hq;have HF1 := hid hf1;have HHG := hid hR.lt;clear hi hx hk hE hgt hR hr hBn hrC hAb hA2 hn2 hc3 hg hnc hA hqb hqg hf1 hR1 hr1 hbd1;go_enter Tryz.func185, Tryz.ntmps185;go_wp2_with fail;clear hw1 hq;refine HGT.out.mono ?_;rintro e w2 ⟨rfl, hf2⟩;obtain ⟨w3, hw3⟩ := nm_ (w2.alloc (.cells #[.bool i, (.string (txt x))] 81));obtain ⟨p, hp⟩ := nm_ w2.heap.size;have hf3 : Fr (fun _ => False) w2 w3 := by rw [← hw3]; exact (Fr.refl _ _).alloc _
 have hpb : Row w3 p 81 [.bool i, (.string (txt x))] := by rw [← hw3, ← hp]; exact Row.new w2 _ _
 have hf13 := hf2.trans hf3 im_;have hr3 := HR.out.fr hf13 (fun h => h);have hq3 := HQB.out.fr hf13 (fun h => h);have hpg : p ≠ g := by have := HR.out.lt; have := hf2.size; omega
 have hpq : p ≠ q := by have := HQB.out.lt; have := hf2.size; omega
 have a2 : w3.cell? ⟨g, 2, none⟩ = some (.slice A n c) := hr3.cell rfl;have f2 : w3.frozen? ⟨g, 2, none⟩ = false := hr3.free 2;have HR3 := hid hr3;have HQ3 := hid hq3;have HPB := hid hpb;have HPG := hid hpg;have HPQ := hid hpq;have HF3 := hid (HF1.out.trans hf13 im_);have HRC3 := hid (HRC.out.fr hf13 (fun _ _ h => h));clear hf2 hf3 hpb hf13 hr3 hq3 hpg hpq c2 HGT
 go_upto_region 3 with fail
 clear hw3 hp a2 f2;obtain ⟨w4, hw4⟩ : ∃ w4, w4 = w3.setCell ⟨g, 2, none⟩ (.slice A2 n2 c3) := ⟨_, rfl⟩
 rw [← hw4];have hr4 : Row w4 g t [fp, fg, .slice A2 n2 c3, sg, cn, mo] := by rw [hw4]; exact HR3.out.set 2 _
 have hq4 : Row w4 q 81 [.bool false, (.string ⟨#[]⟩)] := by rw [hw4]; exact HQ3.out.other HQG.out _
 have hp4 : Row w4 p 81 [.bool i, (.string (txt x))] := by rw [hw4]; exact HPB.out.other HPG.out _
 have hf4 : Fr (fun b => b = g) w w4 := by rw [hw4]; exact (HF3.out.mono (fun _ _ h => h.elim)).trans (Fr.set1 w3 g 2 _) (fun _ _ h => h)
 have hrd4 : Rd w4 A2 n2 ((B.drop k).map bytec) := by rw [hw4]; exact HRC3.out.frp (Fr.set1 w3 g 2 _) (fun h0 ad e h => by have h1 := HAB.out h0 ad e; have h2 := HG.out; omega)
 have p0 : w4.cell? ⟨p, 0, none⟩ = some (.bool i) := hp4.cell rfl;have p1 : w4.cell? ⟨p, 1, none⟩ = some (.string (txt x)) := hp4.cell rfl;have q0 : w4.cell? ⟨q, 0, none⟩ = some (.bool false) := hq4.cell rfl;have q1 : w4.cell? ⟨q, 1, none⟩ = some (.string ⟨#[]⟩) := hq4.cell rfl;have z0 : w4.frozen? ⟨q, 0, none⟩ = false := hq4.free 0;have z1 : w4.frozen? ⟨q, 1, none⟩ = false := hq4.free 1;have HR4 := hid hr4;have HQ4 := hid hq4;have HF4 := hid hf4;have HRD4 := hid hrd4;clear hw4 hr4 hq4 hp4 hf4 hrd4;go_wp2_with fail;clear p0 p1 q0 q1 z0 z1;obtain ⟨w5, hw5⟩ : ∃ w5, w5 = (w4.setCell ⟨q, 0, none⟩ (.bool i)).setCell ⟨q, 1, none⟩ (.string (txt x)) := ⟨_, rfl⟩
 rw [← hw5];have hq5 : Row w5 q 81 [.bool i, (.string (txt x))] := by rw [hw5]; exact (HQ4.out.set 0 _).set 1 _
 have hf5 : Fr (fun b => b = q) w4 w5 := by rw [hw5]; exact (Fr.set1 w4 q 0 _).trans (Fr.set1 _ q 1 _) (fun _ _ h => h)
 have d0 : w5.cell? ⟨q, 0, none⟩ = some (.bool i) := hq5.cell rfl;have d1 : w5.cell? ⟨q, 1, none⟩ = some (.string (txt x)) := hq5.cell rfl;have HF5 := hid hf5;clear hq5 hf5 hw5;refine bodyPost_ret (v := .tuple #[.agg #[.bool i, (.string (txt x))], .int .i64 (E : Int)]) (by simp [results, Tryz.results185, go_sem, d0, d1]) rfl ⟨rfl, ⟨A2, c3, ?_, ?_, HNC.out, HAB.out⟩, ?_⟩
 · exact HR4.out.fr HF5.out (fun h => HQG.out h.symm)
 · exact HRD4.out.frp HF5.out (fun h0 ad e h => by have h1 := HAB.out h0 ad e; have h2 := HG.out; have h3 := HQ.out; have h4 := HHG.out; omega)
 · exact HF4.out.trans HF5.out (fun b hb h => by have h3 := HQ.out; omega)
end
end Go.Proofs.YtbabgnadgdidmaaGreat
