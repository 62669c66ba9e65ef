import Derived.Test.YtbabgnadgdidmaaGreatZm00
import Derived.Test.YtbabgnadgdidmaaGreatZm35
import Derived.Laws.MakeOwn
set_option linter.unusedVariables false
set_option maxRecDepth 100000
set_option maxHeartbeats 12800000
namespace Go.Proofs.YtbabgnadgdidmaaGreat
section
open Go.RowKit Mem Go.Lib BooM
attribute [local go_sem ↓] Go.wp_at_zero Go.wp_at_succ
theorem mkB13 (m : Nat) (hm : m ≤ 4000000) (w : World) : ∃ cs : Array Value, cs.size = m ∧ (Instr.makeSlice 70 (.int .i64 0) (.int .i64 (m : Int))).run Tryz.prog w = .ok (.slice (some ⟨w.heap.size, 0, none⟩) 0 m) (w.alloc (.cells cs 4)) := by
 obtain ⟨i, hi, hz, hs, hb⟩ : ∃ i, Tryz.prog.info? 4 = some i ∧ i.zero = some (.bool false) ∧ i.size = 1 ∧ i.bytes = 1 := by
  have h := bT13.info;cases hq : Tryz.prog.info? 4 with
  | none => rw [hq] at h; cases h
  | some i =>
   rw [hq] at h;simp only [Option.map_some, Option.some.injEq, Prod.mk.injEq] at h;exact ⟨i, rfl, h.1, h.2.1, h.2.2⟩
 have h := run_makeSlice (P := Tryz.prog) w 70 4 i _ Tryz.underlying70 hi hz .i64 .i64 (0 : Int) (m : Int) (by omega) (by omega) (by rw [hs]; omega) (by rw [hb]; omega) (by omega);exact ⟨_, by rw [hs]; simp [madeCells], h⟩
def par (k : Nat) : Bool := decide (k % 2 = 1)
theorem par_succ (k : Nat) : (!par k) = par (k + 1) := by
 unfold par;by_cases h : k % 2 = 1
 · rw [decide_eq_true h, decide_eq_false (by omega)]; rfl
 · rw [decide_eq_false h, decide_eq_true (by omega)]; rfl
theorem spread_any (A : Option Addr) (n c : Nat) (N : List Nat) (m : Nat) (w : World) (hL : Rd w A n (N.map numc)) (hn : n ≤ 1000000) (hm : m = N.sum) (hm1 : m ≤ 1000000) :
    Calls Tryz.prog 109 #[.slice A n c, .int .i64 (m : Int)] w fun e w' => ∃ A' c', e = .returned (.slice A' (spr false N).length c') ∧ OwB w' w.heap.size A' c' (spr false N) ∧ Fr (fun _ => False) w w' := by
 have HL := hid hL;have hln : N.length = n := by simpa using hL.1
 have HLN := hid hln;clear hL hln;obtain ⟨base, hbase⟩ : ∃ base, base = w.heap.size := ⟨_, rfl⟩
 have HB := hid hbase;rw [← hbase];have htot := hm;have HT := hid htot;obtain ⟨R, hR⟩ : ∃ R, R = spr false N := ⟨_, rfl⟩
 rw [← hR];have HR := hid hR;obtain ⟨cs, hcs, hmk⟩ := mkB13 m (by omega) w;have hmade := World.ownsRow_made (base := base) (size := 1) w cs m (e := 4) (by omega) (by unfold maxLen; omega) (by omega);have HMD := hid hmade;clear hR hcs hmade hm htot hbase;go_enter Tryz.func109, Tryz.ntmps109;go_wp2_with fail;obtain ⟨w0, hw0⟩ := nm_ (w.alloc (.cells cs 4));rw [hw0] at HMD ⊢;have HF0 : Hid (Fr (fun _ => False) w w0) := hid (by rw [← hw0]; exact (Fr.refl _ _).alloc _);obtain ⟨A0, hA0⟩ : ∃ A0 : Option Addr, some ⟨w.heap.size, 0, none⟩ = A0 := ⟨_, rfl⟩
 rw [hA0] at HMD ⊢;clear hw0 hA0 hmk
 go_loopw [5, 12] (fun s v wr => ∃ (k : Nat) (G : List Bool) (A1 : Option Addr) (c1 : Nat), k ≤ n ∧ v = .int .i64 (k : Int) ∧ s = .slice A1 G.length c1 ∧ Hid (G ++ spr (par k) (N.drop k) = R) ∧ G.length ≤ m ∧ Hid (G.length + (N.drop k).sum = m) ∧ Hid (OwB wr base A1 c1 G) ∧ Hid (Fr (fun _ => False) w wr)) (fun _ v _ => n - (intOf v).toNat)
 case atStart => exact ⟨0, [], A0, m, Nat.zero_le _, rfl, rfl, by rw [HR.out]; rfl, by simp, (by rw [HT.out]; simp : ([] : List Bool).length + (N.drop 0).sum = m), HMD.out, HF0.out⟩
 case round =>
  obtain ⟨k, G, A1, c1, hk, rfl, rfl, HG, hGm, HTG, HO, HF⟩ := hrel
  rename World => wr
  by_cases hlt : k < n
  · obtain ⟨ad, v, rfl, hv, hcell⟩ := (HL.out.fr HF.out (fun _ _ h => h)).at_ hlt;obtain ⟨mk, hx⟩ : ∃ x, N[k]? = some x := ⟨N[k]'(by have := HLN.out; omega), List.getElem?_eq_getElem _⟩
    obtain rfl : numc mk = v := by simpa [hx] using hv
    unfold numc at hcell;have hdr : N.drop k = mk :: N.drop (k + 1) := by rw [List.drop_eq_getElem_cons (by have := HLN.out; omega)]; congr 1; exact (List.getElem?_eq_some_iff.1 hx).2
    have he := HG.out;have htg := HTG.out;rw [hdr] at he htg;rw [spr, par_succ] at he;rw [List.sum_cons] at htg;have hmk : mk ≤ m := by omega
    have HE := hid he;have HTE := hid htg;obtain ⟨GL, hGL⟩ : ∃ GL, GL = G.length := ⟨_, rfl⟩
    have HGL := hid hGL;have hGm2 : GL + mk ≤ m := by omega
    obtain ⟨z, hz⟩ : ∃ z, z = k % 2 := ⟨_, rfl⟩
    obtain ⟨y, hy⟩ : ∃ y, y = par k := ⟨_, rfl⟩
    have r1 : (k : Int).tmod 2 = (z : Int) := by rw [hz]; rfl
    have r2 : ((z : Int) == 1) = y := by rw [hy, hz, par]; by_cases h : k % 2 = 1 <;> simp [h]; omega
    have r3 : IntKind.i64.wrap (z : Int) = (z : Int) := by rw [IntKind.wrap_i64]; omega
    have HY := hid hy;rw [← hy] at HE;clear hv hx hdr he htg hGL hz hy;go_wp2_with fail
    go_loopw [5, 18] (fun s v wx => ∃ (j : Nat) (G' : List Bool) (A2 : Option Addr) (c2 : Nat), j ≤ mk ∧ v = .int .u64 (j : Int) ∧ s = .slice A2 G'.length c2 ∧ Hid (G' = G ++ List.replicate j y) ∧ Hid (OwB wx base A2 c2 G') ∧ Hid (Fr (fun _ => False) w wx)) (fun _ v _ => mk - (intOf v).toNat)
    case atStart => exact ⟨0, G, A1, c1, by omega, rfl, rfl, (by simp : G = G ++ List.replicate 0 y), HO.out, HF.out⟩
    case round =>
     obtain ⟨j, G', A2, c2, hj, rfl, rfl, HG', HO2, HF2⟩ := hrel
     rename World => wx
     have hlen : G'.length = GL + j := by rw [HG'.out, HGL.out]; simp
     have hg'm : G'.length ≤ 1000000 := by omega
     have HLEN := hid hlen;by_cases hjl : j < mk
     · obtain ⟨N1, hN1⟩ : ∃ N1, N1 = G'.length + 1 := ⟨_, rfl⟩
       have hN1l : N1 ≤ 1000001 := by omega
       have HN1 := hid hN1;have hbs : base ≤ wx.heap.size := by have := HB.out; have := HF2.out.size; omega
       obtain ⟨XS, hXS⟩ : ∃ XS, XS = G'.map boc := ⟨_, rfl⟩
       have hOx : wx.ownsRow base 4 1 (.slice A2 G'.length c2) G'.length XS := by rw [hXS]; exact HO2.out
       have r4 : IntKind.u64.wrap ((j : Int) + 1) = ((j + 1 : Nat) : Int) := by rw [IntKind.wrap_u64]; omega
       have HXS := hid hXS;have HOX := hid hOx;clear hN1 hlen hXS hOx;go_wp2_with (at_builtin; refine wpList_appN bT13 _ rfl _ _ rfl base _ _ _ rfl (HOX.out.alloc _) _ _ _ _ rfl (Rd.one _ _ _) (boc_one [y]) N1 HN1.out (by unfold maxLen; omega) (by omega) (by simp; omega) ?_)
       intro A' c' w' _ _ hown' hfr' _;rw [HXS.out, HN1.out] at hown';obtain ⟨G3, hG3⟩ : ∃ G3, G3 = G' ++ [y] := ⟨_, rfl⟩
       have HO3 : Hid (OwB w' base A' c' G3) := hid (by rw [hG3]; exact OwB.snoc rfl hown');have HF3 : Hid (Fr (fun _ => False) w w') := hid ((HF2.out.alloc _).trans hfr' (fun b hb h => by have := HO2.out.lt _ h; have := HB.out; omega));have hNG : N1 = G3.length := by rw [HN1.out, hG3]; simp
       have HG3 : Hid (G3 = G ++ List.replicate (j + 1) y) := hid (by rw [hG3, HG'.out, List.replicate_succ', List.append_assoc]);have HNG := hid hNG;clear hown' hfr' hG3 hNG
       go_wp2
       go_roundw
       case rel => exact ⟨j + 1, G3, A', c', by omega, by go_num, by rw [HNG.out], HG3.out, HO3.out, HF3.out⟩
       case measure => simp [intOf] <;> omega
     · obtain rfl : j = mk := by omega
       have he2 : G' ++ spr (par (k + 1)) (N.drop (k + 1)) = R := by rw [HG'.out, List.append_assoc]; exact HE.out
       have ht2 : G'.length + (N.drop (k + 1)).sum = m := by have := HTE.out; have := HGL.out; omega
       have HE2 := hid he2;have HT2 := hid ht2;have hgm2 : G'.length ≤ m := by omega
       clear he2 hlen ht2;go_wp2_with fail;exact ⟨⟨k + 1, G', A2, c2, by omega, by go_num, rfl, HE2.out, hgm2, HT2.out, HO2.out, HF2.out⟩, by simp [intOf]; omega⟩
  · obtain rfl : k = n := by omega
    have he : R = G := by have h := HG.out; rw [List.drop_of_length_le (by have := HLN.out; omega)] at h; rw [← h]; simp [spr]
    have HE2 := hid he;clear he;go_wp2_with fail;go_ret;rw [HE2.out];exact ⟨A1, c1, rfl, HO.out, HF.out⟩
end
section
open Go.RowKit Mem Go.Lib BooM LebM
attribute [local go_sem ↓] Go.wp_at_zero Go.wp_at_succ
def bslen : Value → Nat
 | .slice _ n _ => n
 | _ => 0
theorem scan_end {most : Int} {f : Nat} {l : List Nat} {c : Nat} {B : List UInt8} (h : B = []) : scan most f l c B = (l, c, 0) := by subst h; exact scan_nil most f l c
theorem scan_bad {most : Int} {f : Nat} {l : List Nat} {c : Nat} {B : List UInt8} (hB : B ≠ []) (hf : B.length ≤ f) (he : (gu B).2.2 ≠ 0) : scan most f l c B = ([], 0, (gu B).2.2) := by
 cases f with
 | zero => exact absurd (List.length_eq_zero_iff.1 (by omega)) hB
 | succ f => rw [scan, if_neg hB, if_pos he]
theorem scan_over {most : Int} {f : Nat} {l : List Nat} {c : Nat} {B : List UInt8} (hB : B ≠ []) (hf : B.length ≤ f) (he : (gu B).2.2 = 0) (hm : most < (c : Int) + ((gu B).1 : Nat)) : scan most f l c B = ([], 0, 4) := by
 cases f with
 | zero => exact absurd (List.length_eq_zero_iff.1 (by omega)) hB
 | succ f => rw [scan, if_neg hB, if_neg (by omega), if_pos hm]
theorem scan_more {most : Int} {f : Nat} {l : List Nat} {c : Nat} {B : List UInt8} (hB : B ≠ []) (hf : B.length ≤ f) (he : (gu B).2.2 = 0) (hm : ¬ most < (c : Int) + ((gu B).1 : Nat)) :
    scan most f l c B = scan most (f - 1) (l ++ [(gu B).1]) (c + (gu B).1) (B.drop (gu B).2.1) := by
 cases f with
 | zero => exact absurd (List.length_eq_zero_iff.1 (by omega)) hB
 | succ f => rw [scan, if_neg hB, if_neg (by omega), if_neg hm]; rfl
theorem bread_any (A : Option Addr) (n c : Nat) (B : List UInt8) (most : Int) (w : World) (hL : Rd w A n (B.map bytec)) (hc : n ≤ c) (hn : n ≤ 1000000) (h0 : -9223372036854775808 ≤ most) (h1 : most ≤ 100000000) :
    Calls Tryz.prog 107 #[.slice A n c, .int .i64 most] w fun e w' => ∃ A' c', e = .returned (.tuple #[.slice A' (readB most B).1.length c', .int .i64 ((readB most B).2.1 : Nat), .int .i64 ((readB most B).2.2 : Nat)]) ∧ OwU w' w.heap.size A' c' (readB most B).1 ∧ Fr (fun _ => False) w w' := by
 have HL := hid hL;have hln : B.length = n := by simpa using hL.1
 have HLN := hid hln;obtain ⟨base, hbase⟩ : ∃ base, base = w.heap.size := ⟨_, rfl⟩
 have HB := hid hbase;rw [← hbase];obtain ⟨Rl, Rc, Re, hR⟩ : ∃ Rl Rc Re, readB most B = (Rl, Rc, Re) := ⟨_, _, _, rfl⟩
 rw [hR];have HR := hid hR;obtain ⟨M0, hM0⟩ : ∃ M0, M0 = max most 0 := ⟨_, rfl⟩
 have hM1 : M0 ≤ 100000000 := by omega
 have hM2 : 0 ≤ M0 := by omega
 have HM0 := hid hM0;clear hL hln hbase hR hM0;go_enter Tryz.func107, Tryz.ntmps107;go_wp2_with fail
 go_loopw [0, 7, 8] (fun b s v wr => ∃ (f : Nat) (D : List UInt8) (l : List Nat) (cnt m p : Nat) (A1 : Option Addr) (c1 : Nat) (A2 : Option Addr) (c2 : Nat), b = .slice A1 m c1 ∧ m ≤ c1 ∧ s = .slice A2 p c2 ∧ v = .int .i64 (cnt : Int) ∧ p + m ≤ n ∧ m ≤ f ∧ (cnt : Int) ≤ M0 ∧
  Hid (l.length = p) ∧ Hid (Rd wr A1 m (D.map bytec)) ∧ Hid (0 < m → ∀ ad, A1 = some ad → ad.block < base) ∧ Hid (OwU wr base A2 c2 l) ∧ Hid (scan most f l cnt D = (Rl, Rc, Re)) ∧ Hid (Fr (fun _ => False) w wr)) (fun b _ _ _ => bslen b)
 case atStart => exact ⟨B.length, B, [], 0, n, 0, A, c, none, 0, rfl, hc, rfl, rfl, by omega, by have := HLN.out; omega, by omega, rfl, HL.out, (fun h ad e => by rw [HB.out]; exact HL.out.lt h ad e), OwU.nil _ _, HR.out, Fr.refl _ _⟩
 case round =>
  obtain ⟨f, D, l, cnt, m, p, A1, c1, A2, c2, rfl, hmc, rfl, rfl, hpm, hmf, hcm, HLP, HRD, HAB, HO, HSC, HF⟩ := hrel
  rename World => wr
  have hDl : D.length = m := by simpa using HRD.out.1
  have HDL := hid hDl;by_cases hz : m = 0
  · have hs := HSC.out;rw [scan_end (List.length_eq_zero_iff.1 (by omega))] at hs;injection hs with e1 hs
    injection hs with e2 e3
    have HE1 := hid e1;have HE2 := hid e2;have HE3 := hid e3;subst hz;clear e1 e2 e3 hDl;go_wp2_with fail;refine bodyPost_ret (v := .tuple #[.slice A2 p c2, .int .i64 (cnt : Int), .int .i64 0]) (by simp [results, Tryz.results107, go_sem]) rfl ⟨A2, c2, ?_, ?_, HF.out⟩
    · rw [← HE1.out, ← HE2.out, ← HE3.out, HLP.out]; rfl
    · rw [← HE1.out]; exact HO.out
  · have hne : D ≠ [] := by intro h; subst h; simp at hDl; omega
    have hg := GetU_any A1 m c1 D wr HRD.out hmc;obtain ⟨z, hz1⟩ : ∃ z, z = (gu D).1 := ⟨_, rfl⟩
    obtain ⟨k, hk1⟩ : ∃ k, k = (gu D).2.1 := ⟨_, rfl⟩
    obtain ⟨E, hE1⟩ : ∃ E, E = (gu D).2.2 := ⟨_, rfl⟩
    rw [← hz1, ← hk1, ← hE1] at hg;have HG := hid hg;have hlt : decide (0 < (m : Int)) = true := by simp; omega
    have hlt' : decide (0 < m) = true := by simp; omega
    by_cases he : E = 0
    · have hok := gu_ok (hE1 ▸ he : (gu D).2.2 = 0);rw [← hz1, ← hk1] at hok;obtain ⟨hz64, -, hk0, hkm⟩ := hok;rw [hDl] at hkm;by_cases hover : most < (cnt : Int) + (z : Nat)
      · have hs := HSC.out;rw [scan_over hne (by omega) (by omega) (by rw [← hz1]; exact hover)] at hs;injection hs with e1 hs
        injection hs with e2 e3
        subst e1 e2 e3 he;by_cases hcmost : most < (cnt : Int)
        · clear hg hz1 hk1 hE1 hne hDl;have t1 : decide (most < (cnt : Int)) = true := by simpa using hcmost
          go_wp2_with fail;refine HG.out.mono ?_;rintro e w2 ⟨rfl, hf2⟩;have HF2 := hid (HF.out.trans hf2 im_);clear hf2;go_wp2_with fail;exact bodyPost_ret (v := .tuple #[.slice none 0 0, .int .i64 0, .int .i64 4]) (by simp [results, Tryz.results107, go_sem]) rfl ⟨none, 0, rfl, OwU.nil _ _, HF2.out⟩
        · obtain ⟨q, hq⟩ : ∃ q : Nat, most - (cnt : Int) = (q : Int) := ⟨(most - cnt).toNat, by omega⟩
          have t1 : decide (most < (cnt : Int)) = false := by simpa using hcmost
          have r1 : IntKind.i64.wrap (most - (cnt : Int)) = (q : Int) := by rw [IntKind.wrap_i64]; omega
          have r2 : IntKind.u64.wrap (q : Int) = (q : Int) := by rw [IntKind.wrap_u64]; omega
          have t2 : decide ((q : Int) < (z : Int)) = true := by simp; omega
          have t2' : decide (q < z) = true := by simp; omega
          clear hg hz1 hk1 hE1 hne hDl hq;go_wp2_with fail;refine HG.out.mono ?_;rintro e w2 ⟨rfl, hf2⟩;have HF2 := hid (HF.out.trans hf2 im_);clear hf2;go_wp2_with fail;exact bodyPost_ret (v := .tuple #[.slice none 0 0, .int .i64 0, .int .i64 4]) (by simp [results, Tryz.results107, go_sem]) rfl ⟨none, 0, rfl, OwU.nil _ _, HF2.out⟩
      · have hs := HSC.out;rw [scan_more hne (by omega) (by omega) (by rw [← hz1]; exact hover), ← hz1, ← hk1] at hs;have HS2 := hid hs;obtain ⟨q, hq⟩ : ∃ q : Nat, most - (cnt : Int) = (q : Int) := ⟨(most - cnt).toNat, by omega⟩
        have t1 : decide (most < (cnt : Int)) = false := by simp; omega
        have r1 : IntKind.i64.wrap (most - (cnt : Int)) = (q : Int) := by rw [IntKind.wrap_i64]; omega
        have r2 : IntKind.u64.wrap (q : Int) = (q : Int) := by rw [IntKind.wrap_u64]; omega
        have t2 : decide ((q : Int) < (z : Int)) = false := by simp; omega
        have t2' : decide (q < z) = false := by simp; omega
        have r3 : IntKind.i64.wrap (z : Int) = (z : Int) := by rw [IntKind.wrap_i64]; omega
        have r4 : IntKind.i64.wrap ((cnt : Int) + (z : Int)) = ((cnt + z : Nat) : Int) := by rw [IntKind.wrap_i64]; omega
        have hcz : ((cnt + z : Nat) : Int) ≤ M0 := by have := HM0.out; omega
        have hpn : p ≤ 1000000 := by omega
        have hbs : base ≤ wr.heap.size := by have := HB.out; have := HF.out.size; omega
        subst he;clear hg hs hz1 hk1 hE1 hne hDl hq hover;go_wp2_with fail;refine HG.out.mono ?_;rintro e w2 ⟨rfl, hf2⟩;have HF2 := hid (HF.out.trans hf2 im_);have ho2 := HO.out.fr hf2;unfold OwU at ho2;rw [HLP.out] at ho2;obtain ⟨XS, hXS⟩ : ∃ XS, XS = l.map numc := ⟨_, rfl⟩
        rw [← hXS] at ho2;have HXS := hid hXS;have HO2 := hid ho2;have hrd2 := HRD.out.fr hf2 (fun _ _ => id);have HRD2 := hid hrd2;have hb2 : base ≤ w2.heap.size := Nat.le_trans hbs hf2.size;clear hf2 ho2 hXS hrd2;go_wp2_with (at_builtin; refine wpList_app uT13 _ rfl _ _ rfl base _ _ _ rfl (HO2.out.alloc _) _ _ _ _ rfl (Rd.one _ _ _) (one_one _ _) (by unfold maxLen; omega) (by omega) (by simp; omega) ?_)
        intro A' c' w' _ _ hown' hfr' _;rw [HXS.out] at hown';have HO3 : Hid (OwU w' base A' c' (l ++ [z])) := hid (OwU.snoc HLP.out hown');have hf3 : Fr (fun b => base ≤ b) w2 w' := ((Fr.refl _ _).alloc _).trans hfr' (fun b hb h => (HO2.out.lt b h).1);have hrd3 := (HRD2.out.frp hf3 (fun hm ad e h => by have := HAB.out hm ad e; omega)).cut (k := k) (m := m) (cap := c1) hkm (Nat.le_refl _) hmc;have hab3 : 0 < m - k → ∀ ad, (if c1 = k then A1 else A1.map (·.add k)) = some ad → ad.block < base := by
         intro hm ad e;rw [if_neg (by omega)] at e;cases A1 with
         | none => cases e
         | some a1 =>
          injection e with e
          subst e;dsimp only;rw [add_block];exact HAB.out (by omega) a1 rfl
        have HAB3 := hid hab3;rw [List.take_of_length_le (by have := HDL.out; simp; omega), ← List.map_drop] at hrd3;have HRD3 := hid hrd3;have HF3 := hid (HF2.out.trans hf3 (fun b hb h => by have := HB.out; omega));clear hown' hfr' hf3 hrd3 hab3;go_wp2_with fail;exact ⟨⟨f - 1, D.drop k, l ++ [z], cnt + z, m - k, p + 1, _, c1 - k, A', c', rfl, by omega, rfl, by go_num, by omega, by omega, hcz, (by rw [List.length_append, HLP.out]; rfl : (l ++ [z]).length = p + 1), HRD3.out, HAB3.out, HO3.out, HS2.out, HF3.out⟩, by simp [bslen]; omega⟩
    · have hs := HSC.out;rw [scan_bad hne (by omega) (by rw [← hE1]; exact he), ← hE1] at hs;injection hs with e1 hs
      injection hs with e2 e3
      subst e1 e2 e3;have t1 : ((E : Int) == 0) = false := by simp; omega
      have t1' : (E == 0) = false := by simp; omega
      clear hg hz1 hk1 hE1 hne hDl;go_wp2_with fail;refine HG.out.mono ?_;rintro e w2 ⟨rfl, hf2⟩;have HF2 := hid (HF.out.trans hf2 im_);clear hf2;go_wp2_with fail;exact bodyPost_ret (v := .tuple #[.slice none 0 0, .int .i64 0, .int .i64 (E : Int)]) (by simp [results, Tryz.results107, go_sem]) rfl ⟨none, 0, rfl, OwU.nil _ _, HF2.out⟩
end
end Go.Proofs.YtbabgnadgdidmaaGreat
