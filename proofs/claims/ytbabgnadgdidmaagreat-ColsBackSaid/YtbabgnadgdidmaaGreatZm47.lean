import Derived.Test.YtbabgnadgdidmaaGreatZm00
import Derived.Test.YtbabgnadgdidmaaGreatZm31
import Derived.Test.YtbabgnadgdidmaaGreatZm19
import Derived.BigQuiet
import Derived.Test.YtbabgnadgdidmaaGreatZm37
import Derived.Test.YtbabgnadgdidmaaGreatZm46
import Derived.Deep.DeepCutAuto
import Derived.Deep.CutRange
set_option linter.unusedVariables false
set_option maxRecDepth 100000
set_option maxHeartbeats 12800000
namespace Go.Proofs.YtbabgnadgdidmaaGreat
section
open Go.RowKit Mem Go.Lib RleM LebM VaM
attribute [local go_sem ↓] Go.wp_at_zero Go.wp_at_succ
theorem to_u8 (A : Option Addr) (n c y : Nat) (hy : y ≤ n) (hn : n ≤ c) (yi : Int) (ey : yi = (y : Int)) (w : World) :
    (Instr.sliceAt 34 (.slice A n c) none (some (.int .i64 yi)) none).run Tryz.prog w = .ok (.slice A y c) w := by
 subst ey;cases A with
 | none =>
  go_simp
  try (intro h; omega)
 | some ad =>
  go_simp
  try (intro h; omega)
def firstC (r : V × Nat × Nat) : Value := .tuple #[valc r.1, .int .i64 (r.2.1 : Int), .int .i64 (r.2.2 : Int)]
theorem first_any (i : Bool) (x : Int) (A : Option Addr) (n c : Nat) (B : List UInt8) (w : World) (hx : okU (i, x)) (hr : Rd w A n (B.map bytec)) (hc : n ≤ c) (hn : n ≤ 1000000) :
    Calls Tryz.prog 140 #[.agg #[.bool i, .int .i64 x], .slice A n c] w fun e w' => e = .returned (firstC (firstR (i, x) B)) ∧ Fr (fun _ => False) w w' := by
 obtain ⟨hx0, hx1⟩ := hx;have hBn : B.length = n := by simpa using hr.1
 obtain ⟨ans, hans⟩ := nm_ (firstR (i, x) B);rw [hans];obtain ⟨g, hg⟩ := nm_ w.heap.size;obtain ⟨w0, hw0⟩ := nm_ (w.alloc (.cells #[.bool i, .int .i64 x] 78));have hf0 : Fr (fun _ => False) w w0 := by rw [← hw0]; exact (Fr.refl _ _).alloc _
 have hr0 : Row w0 g 78 [.bool i, .int .i64 x] := by rw [← hw0, ← hg]; exact Row.new w _ _
 obtain ⟨p, hp⟩ := nm_ w0.heap.size;obtain ⟨w1, hw1⟩ : ∃ w1, w0.alloc (.cells #[.int .i64 0, .int .u64 0, .int .i64 0, .string ⟨#[]⟩] 53) = w1 := ⟨_, rfl⟩
 have hf1 : Fr (fun _ => False) w0 w1 := by rw [← hw1]; exact (Fr.refl _ _).alloc _
 have hp1 : RowV w1 p zeroV := by rw [← hw1, ← hp]; exact RowV.new w0 zeroV
 have HC1 := hid (hr0.fr hf1 (fun h => h));have j0 : w1.cell? ⟨g, 0, none⟩ = some (.bool i) := HC1.out.cell rfl;have HF1 := hid (hf0.trans hf1 im_);have HR1 := hid hp1;have HP : Hid (w.heap.size ≤ p) := hid (by rw [← hp]; exact hf0.size);have HANS := hid hans;have HRD := hid hr;clear hf0 hr0 hf1 hp1 hans hr;cases i with
 | false =>
  have HA : Hid (ans = (zeroV, 0, 0)) := hid (by rw [← HANS.out]; rfl);clear hx0 hx1 hBn;go_enter Tryz.func140, Tryz.ntmps140
  go_upto_region 1 with fail
  clear hw0 hw1 hg hp;go_wp2_with (refine store_st vSz rfl (.tmp 4) (.tmp 14) rfl p (by rfl) (vls zeroV) (by rfl) _ _ HR1.out rfl rfl (v_one _) ?_)
  intro w8 hr8 hf8;have HR8 : Hid (RowV w8 p zeroV) := hid hr8;have HF8 : Hid (Fr (fun _ => False) w w8) := hid (HF1.out.trans hf8 (fun b hb h => by have := HP.out; omega));clear hr8 hf8;obtain ⟨d0, d1, d2, d3⟩ := HR8.out.cells;go_wp2_with fail;refine bodyPost_ret (v := .tuple #[valc zeroV, .int .i64 0, .int .i64 0]) (by simp [results, valc, d0, d1, d2, d3, Tryz.results140, go_sem]) rfl ⟨by rw [HA.out]; rfl, HF8.out⟩
 | true =>
  obtain ⟨X, rfl⟩ := Int.eq_ofNat_of_zero_le hx0;have j1 : w1.cell? ⟨g, 1, none⟩ = some (.int .i64 (X : Int)) := HC1.out.cell rfl;obtain ⟨kd, hkd⟩ : ∃ kd, kd = X % 16 := ⟨_, rfl⟩
  obtain ⟨sz, hsz⟩ : ∃ sz, sz = X / 16 := ⟨_, rfl⟩
  have ek : (X : Int).tmod 16 = (kd : Int) := by rw [hkd, Int.tmod_eq_emod_of_nonneg (by omega)]; omega
  have es : (X : Int).tdiv 16 = (sz : Int) := by rw [hsz, Int.tdiv_eq_ediv_of_nonneg (by omega)]; omega
  have r1 : IntKind.i64.wrap (kd : Int) = (kd : Int) := by rw [IntKind.wrap_i64]; omega
  have r2 : IntKind.i64.wrap (sz : Int) = (sz : Int) := by rw [IntKind.wrap_i64]; omega
  have HKD := hid hkd;have HSZ := hid hsz;clear hkd hsz;go_enter Tryz.func140, Tryz.ntmps140
  go_upto_region 1 with fail
  clear hw0 hw1 hg hp;go_wp2_with fail
  go_quiet (fail)
  have hfq : Fr (fun _ => False) w1 (w1.drewN nq) := (Fr.refl _ _).drewN nq;have HF2 := hid (HF1.out.trans hfq im_);have HR2 := hid (HR1.out.fr hfq (fun h => h));have HRD2 := hid (HRD.out.fr HF2.out (fun _ _ h => h));obtain ⟨w2, hw2⟩ := nm_ (w1.drewN nq);rw [hw2] at HF2 HR2 HRD2 ⊢;clear hfq hw2 j0 j1 ek es r1 r2;have hff : firstR (true, (X : Int)) B = if kd = 0 then (zeroV, 0, 3) else if n < sz then (zeroV, 0, 2) else if (getV (kd : Int) (B.take sz)).2 = true then ((getV (kd : Int) (B.take sz)).1, sz, 0) else (zeroV, 0, 3) := by
   unfold firstR;have h1 := HKD.out;have h2 := HSZ.out;rw [if_neg (by simp), show ((true, (X : Int)) : Bool × Int).2 % 16 = (kd : Int) by show (X : Int) % 16 = _; omega, show ((true, (X : Int)) : Bool × Int).2 / 16 = (sz : Int) by show (X : Int) / 16 = _; omega, Int.toNat_natCast];by_cases hk : kd = 0
   · rw [if_pos (by omega), if_pos hk]
   · rw [if_neg (by omega), if_neg hk];by_cases hs : n < sz
     · rw [if_pos (by omega), if_pos hs]
     · rw [if_neg (by omega), if_neg hs]
  rw [hff] at HANS;clear hff;have hans := HANS.out;clear HANS;by_cases hk : kd = 0
  · have HA : Hid (ans = (zeroV, 0, 3)) := hid (by rw [← hans, if_pos hk]);subst hk;clear hans hx0 hx1 hBn HKD;go_wp2_with (refine store_st vSz rfl (.tmp 4) (.tmp 23) rfl p (by rfl) (vls zeroV) (by rfl) _ _ HR2.out rfl rfl (v_one _) ?_)
    intro w8 hr8 hf8;have HR8 : Hid (RowV w8 p zeroV) := hid hr8;have HF8 : Hid (Fr (fun _ => False) w w8) := hid (HF2.out.trans hf8 (fun b hb h => by have := HP.out; omega));clear hr8 hf8;obtain ⟨d0, d1, d2, d3⟩ := HR8.out.cells;go_wp2_with fail;refine bodyPost_ret (v := .tuple #[valc zeroV, .int .i64 0, .int .i64 3]) (by simp [results, valc, d0, d1, d2, d3, Tryz.results140, go_sem]) rfl ⟨by rw [HA.out]; rfl, HF8.out⟩
  have tk : ((kd : Int) == 0) = false := by simp; exact hk
  rw [if_neg hk] at hans;by_cases hs : n < sz
  · have HA : Hid (ans = (zeroV, 0, 2)) := hid (by rw [← hans, if_pos hs]);have ts : decide ((n : Int) < (sz : Int)) = true := by simp; exact hs
    have ts' : decide (n < sz) = true := by simp; exact hs
    clear hans hx0 hx1 hBn hs hk;go_wp2_with (refine store_st vSz rfl (.tmp 4) (.tmp 28) rfl p (by rfl) (vls zeroV) (by rfl) _ _ HR2.out rfl rfl (v_one _) ?_)
    intro w8 hr8 hf8;have HR8 : Hid (RowV w8 p zeroV) := hid hr8;have HF8 : Hid (Fr (fun _ => False) w w8) := hid (HF2.out.trans hf8 (fun b hb h => by have := HP.out; omega));clear hr8 hf8;obtain ⟨d0, d1, d2, d3⟩ := HR8.out.cells;go_wp2_with fail;refine bodyPost_ret (v := .tuple #[valc zeroV, .int .i64 0, .int .i64 2]) (by simp [results, valc, d0, d1, d2, d3, Tryz.results140, go_sem]) rfl ⟨by rw [HA.out]; rfl, HF8.out⟩
  rw [if_neg hs] at hans;have ts : decide ((n : Int) < (sz : Int)) = false := by simp; omega
  have ts' : decide (n < sz) = false := by simp; omega
  have hszn : sz ≤ n := by omega
  have hget := pvGet_any (kd : Int) A sz c (B.take sz) w2 (by rw [List.map_take]; exact rd_take HRD2.out hszn) (by omega) (by omega);obtain ⟨y, ok, hy⟩ : ∃ y ok, getV (kd : Int) (B.take sz) = (y, ok) := ⟨_, _, rfl⟩
  rw [hy] at hans;simp only [hy, getR, valc] at hget;obtain ⟨E, hE⟩ : ∃ E : Int, (if ok = true then 0 else 3) = E := ⟨_, rfl⟩
  rw [hE] at hget;have HGET := hid hget;have HE := hid hE;have HANS := hid hans;have hcut := to_u8 A n c sz hszn hc (sz : Int) rfl w2;have hsc : sz ≤ c := by omega
  clear hget hy hx0 hx1 hBn hs hk hE hans;go_wp2_with fail;refine HGET.out.mono ?_;rintro e w3 ⟨rfl, hf3⟩;have HF3 := hid (HF2.out.trans hf3 im_);have HR3 := hid (HR2.out.fr hf3 (fun h => h));clear hf3 hcut;obtain ⟨q, hq⟩ := nm_ w3.heap.size;obtain ⟨w4, hw4⟩ : ∃ w4, w3.alloc (.cells #[.int .i64 0, .int .u64 0, .int .i64 0, .string ⟨#[]⟩] 53) = w4 := ⟨_, rfl⟩
  have hf4 : Fr (fun _ => False) w3 w4 := by rw [← hw4]; exact (Fr.refl _ _).alloc _
  have hq4 : RowV w4 q zeroV := by rw [← hw4, ← hq]; exact RowV.new w3 zeroV
  have HQ4 := hid hq4;have HQ := hid hq;have HPQ : Hid (p < q) := hid (by have h1 := HR3.out.lt; omega);have HF4 := hid hf4;have HR4 := hid (HR3.out.fr hf4 (fun h => h));clear hf4 hq4
  go_upto_region 9 with (refine store_st vSz rfl (.tmp 9) (.tmp 35) rfl q (by rfl) (vls y) (by rfl) _ _ HQ4.out rfl rfl (v_one _) ?_)
  intro w5 hr5 hf5;have HQ5 : Hid (RowV w5 q y) := hid hr5;have HR5 := hid (HR4.out.fr hf5 (by have := HPQ.out; intro h; omega));have HF5 : Hid (Fr (fun _ => False) w w5) := hid (HF3.out.trans (HF4.out.trans hf5 (fun b hb h => by have := HQ.out; omega)) (fun _ _ h => h));clear hr5 hf5 hw4 hq HR4 HF4 HQ4;obtain ⟨k0, k1, k2, k3⟩ := HQ5.out.cells;cases ok with
  | false =>
   have HA : Hid (ans = (zeroV, 0, 3)) := hid (by rw [← HANS.out]; rfl);obtain rfl : 3 = E := HE.out;go_wp2_with (refine store_st vSz rfl (.tmp 4) (.tmp 39) rfl p (by rfl) (vls zeroV) (by rfl) _ _ HR5.out rfl rfl (v_one _) ?_)
   intro w8 hr8 hf8;have HR8 : Hid (RowV w8 p zeroV) := hid hr8;have HF8 : Hid (Fr (fun _ => False) w w8) := hid (HF5.out.trans hf8 (fun b hb h => by have := HP.out; omega));clear hr8 hf8;obtain ⟨d0, d1, d2, d3⟩ := HR8.out.cells;go_wp2_with fail;refine bodyPost_ret (v := .tuple #[valc zeroV, .int .i64 0, .int .i64 3]) (by simp [results, valc, d0, d1, d2, d3, Tryz.results140, go_sem]) rfl ⟨by rw [HA.out]; rfl, HF8.out⟩
  | true =>
   have HA : Hid (ans = (y, sz, 0)) := hid (by rw [← HANS.out]; rfl);obtain rfl : 0 = E := HE.out;go_wp2_with (refine store_st vSz rfl (.tmp 4) (.tmp 41) rfl p (by rfl) (vls y) (by rfl) _ _ HR5.out rfl rfl (v_one _) ?_)
   intro w8 hr8 hf8;have HR8 : Hid (RowV w8 p y) := hid hr8;have HF8 : Hid (Fr (fun _ => False) w w8) := hid (HF5.out.trans hf8 (fun b hb h => by have := HP.out; omega));clear hr8 hf8;obtain ⟨d0, d1, d2, d3⟩ := HR8.out.cells;go_wp2_with fail;refine bodyPost_ret (v := .tuple #[valc y, .int .i64 (sz : Int), .int .i64 0]) (by simp [results, valc, d0, d1, d2, d3, Tryz.results140, go_sem]) rfl ⟨by rw [HA.out]; rfl, HF8.out⟩
end
section
open Go.RowKit Mem Go.Lib RleM LebM VaM
attribute [local go_sem ↓] Go.wp_at_zero Go.wp_at_succ
theorem first_le (c : Bool × Int) (B : List UInt8) : (firstR c B).2.1 ≤ B.length := by
 unfold firstR;split
 · exact Nat.zero_le _
 · split
   · exact Nat.zero_le _
   · split
     · exact Nat.zero_le _
     · split
       · show (c.2 / 16).toNat ≤ _; omega
       · exact Nat.zero_le _
def ValsOut (w : World) (r : List V × Nat) (e : Ending) (w' : World) : Prop :=
 ∃ A c, e = .returned (.tuple #[.slice A r.1.length c, .int .i64 (r.2 : Int)]) ∧ OwnV w' w.heap.size A c r.1 ∧ Fr (fun _ => False) w w'
theorem values_any (A : Option Addr) (n c : Nat) (B : List UInt8) (A2 : Option Addr) (m c2 : Nat) (T : List (Bool × Int)) (w : World) (hr : Rd w A n (B.map bytec)) (hc : n ≤ c) (hn : n ≤ 1000000) (hT : Cls nv w A2 m T) (hm : m ≤ 1000000) (hok : ∀ x ∈ T, okU x) :
    Calls Tryz.prog 111 #[.slice A n c, .slice A2 m c2] w (ValsOut w (valsF [] T B)) := by
 have hBn : B.length = n := by simpa using hr.1
 have hmk := mkVn m hm w;obtain ⟨R, hR⟩ := nm_ (valsF [] T B);rw [hR];obtain ⟨w0, hw0⟩ := nm_ (w.alloc (.cells ((List.replicate m zeroV).flatMap vls).toArray 53));rw [hw0] at hmk;obtain ⟨gl, hgl⟩ := nm_ w.heap.size;rw [hgl] at hmk;unfold ValsOut;rw [hgl];have HF0 : Hid (Fr (fun _ => False) w w0) := hid (by rw [← hw0]; exact (Fr.refl _ _).alloc _);have HR0 : Hid (Row w0 gl 53 ((fillV [] m).flatMap vls)) := hid (by rw [← hw0, ← hgl]; exact Row.new w _ _);have HGL := hid hgl;have HT := hid hT;have HTN := hid hT.1;have HOK := hid hok;have HR := hid hR;have HRD := hid hr;clear hr hT hok hR hw0 hgl hBn;go_enter Tryz.func111, Tryz.ntmps111;go_wp2_with fail;clear hmk
 go_loopw [0, 17] (fun b v wr => ∃ (k : Nat) (F : List V) (A1 : Option Addr) (n1 c1 : Nat) (D : List UInt8), k ≤ m ∧ v = .int .i64 (k : Int) ∧ b = .slice A1 n1 c1 ∧ n1 ≤ c1 ∧ n1 ≤ 1000000 ∧ Hid (F.length = k) ∧ Hid (Rd w A1 n1 (D.map bytec)) ∧ Hid (valsF F (T.drop k) D = R) ∧
  Hid (Row wr gl 53 ((fillV F m).flatMap vls)) ∧ Hid (Fr (fun _ => False) w wr)) (fun _ v _ => m - (intOf v).toNat)
 case atStart => exact ⟨0, [], A, n, c, B, Nat.zero_le _, rfl, rfl, hc, hn, rfl, HRD.out, by rw [List.drop_zero]; exact HR.out, HR0.out, HF0.out⟩
 case round =>
  obtain ⟨k, F, A1, n1, c1, D, hk, rfl, rfl, hnc1, hn1, HFL, HRD1, HV, HRW, HF⟩ := hrel
  rename World => wr
  have hDl : D.length = n1 := by simpa using HRD1.out.1
  have HDL := hid hDl;clear hDl;by_cases hlt : k < m
  · obtain ⟨t, ht⟩ : ∃ t, T[k]? = some t := ⟨_, List.getElem?_eq_getElem (by have := HTN.out; omega)⟩
    have hdr : T.drop k = t :: T.drop (k + 1) := by rw [List.drop_eq_getElem_cons (by have := HTN.out; omega)]; congr 1; exact (List.getElem?_eq_some_iff.1 ht).2
    obtain ⟨g, o, rfl, hg, h1, h2⟩ := (HT.out.fr HF.out (fun _ _ => id)).2 k t ht;have hokt := HOK.out t (List.mem_of_getElem? ht);have hv := HV.out;rw [hdr, valsF] at hv;have hfl := first_le t D;obtain ⟨⟨y, sz, E⟩, hY⟩ : ∃ Y, firstR t D = Y := ⟨_, rfl⟩
    rw [hY] at hv hfl;simp only at hv hfl;rw [HDL.out] at hfl;obtain ⟨i, x⟩ := t;simp only [nv] at h1 h2;have hcall := fun w' (hf : Fr (fun _ => False) w w') => first_any i x A1 n1 c1 D w' hokt (HRD1.out.fr hf (fun _ _ h => h)) hnc1 hn1;simp only [hY, firstC, valc] at hcall;have HCALL := hid hcall;have HVV := hid hv;obtain ⟨p, hp⟩ := nm_ wr.heap.size;obtain ⟨w1, hw1⟩ := nm_ (wr.alloc (.cells #[.bool false, .int .i64 0] 78));have hf1 : Fr (fun _ => False) wr w1 := by rw [← hw1]; exact (Fr.refl _ _).alloc _
    have hp1 : Row w1 p 78 [.bool false, .int .i64 0] := by rw [← hw1, ← hp]; exact Row.new wr _ _
    have HP1 := hid hp1;have HPP := hid hp;have HF1 := hid hf1;have HGP : Hid (gl < p) := hid (by rw [← hp]; exact HRW.out.lt);clear ht hdr hokt hv hY hcall hp1 hf1
    go_upto_region 5 with (refine store_st cSz rfl (.tmp 8) (.tmp 21) rfl p (by rfl) [.bool i, .int .i64 x] (by rfl) _ _ HP1.out rfl rfl (c_one _ _) ?_)
    intro w2 hr2 hf2;have hfr2 : Fr (fun _ => False) wr w2 := HF1.out.trans hf2 (fun b hb h => by have := HPP.out; omega);have k0 : w2.cell? ⟨p, 0, none⟩ = some (.bool i) := hr2.cell rfl;have k1 : w2.cell? ⟨p, 1, none⟩ = some (.int .i64 x) := hr2.cell rfl;have HF2 := hid (HF.out.trans hfr2 im_);have HRW2 := hid (HRW.out.fr hfr2 (fun h => h));clear hr2 hf2 hw1 hp h1 h2 hfr2;go_wp2_with fail;refine (HCALL.out w2 HF2.out).mono ?_;rintro e w3 ⟨rfl, hf3⟩;have HF3 := hid (HF2.out.trans hf3 im_);have HRW3 := hid (HRW2.out.fr hf3 (fun h => h));clear hf3 k0 k1;obtain ⟨q, hq⟩ := nm_ w3.heap.size;obtain ⟨w4, hw4⟩ : ∃ w4, w3.alloc (.cells #[.int .i64 0, .int .u64 0, .int .i64 0, .string ⟨#[]⟩] 53) = w4 := ⟨_, rfl⟩
    have hf4 : Fr (fun _ => False) w3 w4 := by rw [← hw4]; exact (Fr.refl _ _).alloc _
    have hq4 : RowV w4 q zeroV := by rw [← hw4, ← hq]; exact RowV.new w3 zeroV
    have HQ4 := hid hq4;have HQ := hid hq;have HPQ : Hid (gl < q) := hid (by rw [← hq]; exact HRW3.out.lt);have HF4 := hid hf4;have HRW4 := hid (HRW3.out.fr hf4 (fun h => h));clear hf4 hq4
    go_upto_region 6 with (refine store_st vSz rfl (.tmp 9) (.tmp 26) rfl q (by rfl) (vls y) (by rfl) _ _ HQ4.out rfl rfl (v_one _) ?_)
    intro w5 hr5 hf5;have HQ5 : Hid (RowV w5 q y) := hid hr5;have HRW5 := hid (HRW4.out.fr hf5 (by have := HPQ.out; intro h; omega));have HF5 : Hid (Fr (fun _ => False) w w5) := hid (HF3.out.trans (HF4.out.trans hf5 (fun b hb h => by have := HQ.out; omega)) (fun _ _ h => h));clear hr5 hf5 hw4 hq HRW4 HF4 HQ4;obtain ⟨k0, k1, k2, k3⟩ := HQ5.out.cells;by_cases hE : E = 0
    · subst hE;have hv := HVV.out;rw [if_neg (by simp)] at hv;have hfa := fillV_at F m (by have := HFL.out; omega);rw [HFL.out] at hfa;have hflat := v_flat (fillV F m) k zeroV hfa;obtain ⟨X, hX⟩ : ∃ X, X = (fillV F m).flatMap vls := ⟨_, rfl⟩
      rw [← hX] at hflat;have hrw := HRW5.out;rw [← hX] at hrw;have c0 : w5.cell? ⟨gl, k * 4, none⟩ = some (.int .i64 0) := hrw.cell (hflat 0 (by omega));have c1' : w5.cell? ⟨gl, k * 4 + 1, none⟩ = some (.int .u64 0) := hrw.cell (hflat 1 (by omega));have c2' : w5.cell? ⟨gl, k * 4 + 2, none⟩ = some (.int .i64 0) := hrw.cell (hflat 2 (by omega));have c3' : w5.cell? ⟨gl, k * 4 + 3, none⟩ = some (.string ⟨#[]⟩) := hrw.cell (hflat 3 (by omega));have z0 : w5.frozen? ⟨gl, k * 4, none⟩ = false := hrw.free _;have z1 : w5.frozen? ⟨gl, k * 4 + 1, none⟩ = false := hrw.free _;have z2 : w5.frozen? ⟨gl, k * 4 + 2, none⟩ = false := hrw.free _;have z3 : w5.frozen? ⟨gl, k * 4 + 3, none⟩ = false := hrw.free _;obtain ⟨w6, hw6⟩ : ∃ w6, (((w5.setCell ⟨gl, k * 4, none⟩ (.int .i64 y.k)).setCell ⟨gl, k * 4 + 1, none⟩ (.int .u64 (y.u : Int))).setCell ⟨gl, k * 4 + 2, none⟩ (.int .i64 y.n)).setCell ⟨gl, k * 4 + 3, none⟩ (.string (txt y.s)) = w6 := ⟨_, rfl⟩
      have hr6 : Row w6 gl 53 ((fillV (F ++ [y]) m).flatMap vls) := by
       rw [← hw6, ← fillV_set F m y (by have := HFL.out; omega), HFL.out, ← vls_set, ← hX];exact (((hrw.set _ _).set _ _).set _ _).set _ _
      have hf6 : Fr (fun _ => False) w w6 := by
       rw [← hw6];have hb : ¬ gl < w.heap.size := by rw [HGL.out]; omega
       exact (((HF5.out.setCell (fun h => (hb h).elim) _).setCell (fun h => (hb h).elim) _).setCell (fun h => (hb h).elim) _).setCell (fun h => (hb h).elim) _
      have hcut := (HRD1.out.cut (k := sz) (m := n1) (cap := c1) hfl (Nat.le_refl _) hnc1)
      rw [List.take_of_length_le (by rw [List.length_map, HDL.out]; exact Nat.le_refl _), ← List.map_drop] at hcut;have hfrom := from_u8 A1 n1 c1 sz hfl hnc1 (sz : Int) rfl w6;have HR6 := hid hr6;have HF6 := hid hf6;have HCUT := hid hcut;have HV6 := hid hv;clear hv hfa hflat hX hrw hr6 hf6 hcut
      go_upto_region 9 with fail
      clear c0 c1' c2' c3' z0 z1 z2 z3 hw6 k0 k1 k2 k3;go_wp2_with fail;exact ⟨⟨k + 1, F ++ [y], _, _, _, D.drop sz, by omega, by go_num, rfl, by omega, by omega, by rw [List.length_append, HFL.out]; rfl, HCUT.out, HV6.out, HR6.out, HF6.out⟩, by simp [intOf]; omega⟩
    · have te : ((E : Int) != 0) = true := by simp; exact hE
      have hv := HVV.out;rw [if_pos hE] at hv;have HV6 := hid hv;clear hv;go_wp2_with fail;refine bodyPost_ret (v := .tuple #[.slice none 0 0, .int .i64 (E : Int)]) (by simp [results, Tryz.results111, go_sem]) rfl ⟨none, 0, by rw [← HV6.out]; rfl, ?_, HF5.out⟩;rw [← HV6.out];exact OwnV.nil _ _
  · obtain rfl : k = m := by omega
    have hv := HV.out;rw [List.drop_of_length_le (by have := HTN.out; omega), valsF] at hv;have hrw := HRW.out;by_cases h0 : n1 = 0
    · have hv0 : R = (F, 0) := by rw [← hv, if_pos (List.length_eq_zero_iff.1 (by have := HDL.out; omega))]
      rw [show fillV F k = F by rw [← HFL.out, fillV_full]] at hrw;have ho := own_rowV (base := gl) HFL.out hrw (Nat.le_refl _) (by unfold maxLen; omega);have HO := hid ho;have HV0 := hid hv0;subst h0;clear hv hrw ho hv0;go_wp2_with fail;refine bodyPost_ret (v := .tuple #[.slice (some ⟨gl, 0, none⟩) k k, .int .i64 0]) (by simp [results, Tryz.results111, go_sem]) rfl ⟨some ⟨gl, 0, none⟩, k, by rw [HV0.out, HFL.out]; rfl, ?_, HF.out⟩;rw [HV0.out];exact HO.out
    · have hv0 : R = ([], 3) := by rw [← hv, if_neg (fun h => by rw [h] at HDL; exact h0 HDL.out.symm)]
      have t1 : decide ((0 : Int) < (n1 : Int)) = true := by simp; omega
      have t1' : decide (0 < n1) = true := by simp; omega
      have HV0 := hid hv0;clear hv hrw hv0;go_wp2_with fail;refine bodyPost_ret (v := .tuple #[.slice none 0 0, .int .i64 3]) (by simp [results, Tryz.results111, go_sem]) rfl ⟨none, 0, by rw [HV0.out]; rfl, ?_, HF.out⟩;rw [HV0.out];exact OwnV.nil _ _
theorem toC_ok {n : Int} (hn : n ≤ 1000000) {M : List UInt8} (hM : M.length ≤ 1000000) : (∀ x ∈ (toC (readG kU n M)).1, okU x) ∧ (toC (readG kU n M)).1.length ≤ 1000000 := by
 cases h : readG kU n M with
 | error e => exact ⟨fun x hx => (by cases hx), Nat.zero_le _⟩
 | ok gs => exact ⟨(read_ok goodU hn hM h).2.1, (read_ok goodU hn hM h).2.2⟩
theorem padR_ok {L : List (Bool × Int)} {n : Int} (hn : n ≤ 1000000) (hL : (∀ x ∈ L, okU x) ∧ L.length ≤ 1000000) : (∀ x ∈ (padR L n).1, okU x) ∧ (padR L n).1.length ≤ 1000000 := by
 unfold padR;split
 · exact hL
 · split
   · exact ⟨fun x hx => (by cases hx), Nat.zero_le _⟩
   · refine ⟨fun x hx => ?_, by show (List.replicate _ _).length ≤ _; rw [List.length_replicate]; omega⟩;rw [(List.mem_replicate.1 hx).2];exact ⟨Int.le_refl _, by show (0 : Int) < _; omega⟩
theorem wGet_any (A : Option Addr) (n c : Nat) (M : List UInt8) (A2 : Option Addr) (n2 c2 : Nat) (B : List UInt8) (m : Int) (w : World) (hr : Rd w A n (M.map bytec)) (hc : n ≤ c) (hn : n ≤ 1000000) (hr2 : Rd w A2 n2 (B.map bytec)) (hc2 : n2 ≤ c2) (hn2 : n2 ≤ 1000000) (hm0 : -9223372036854775808 ≤ m) (hm : m ≤ 1000000) :
    Calls Tryz.prog 72 #[.slice A n c, .slice A2 n2 c2, .int .i64 m] w (ValsOut w (getM M B m)) := by
 have hMn : M.length = n := by simpa using hr.1
 have hget := pGet_any A n c M m w hr hc hn hm0 hm;obtain ⟨R, hR⟩ := nm_ (getM M B m);rw [hR];have hok := toC_ok hm (M := M) (by omega);unfold getM at hR;obtain ⟨⟨cells, E⟩, hX⟩ : ∃ X, toC (readG kU m M) = X := ⟨_, rfl⟩
 simp only [hX] at hR hget hok;obtain ⟨⟨P, pk⟩, hY⟩ : ∃ Y, padR cells m = Y := ⟨_, rfl⟩
 have hok2 := padR_ok hm hok;simp only [hY] at hR hok2;have hpad := fun (w' : World) (A' : Option Addr) (c' : Nat) (h : Cls nv w' A' cells.length cells) => wPad_any A' cells.length c' cells m w' h hok.2 hm0 (by omega);simp only [hY] at hpad;have HGET := hid hget;have HPAD := hid hpad;have HR := hid hR;have HRD2 := hid hr2;have HOK2 := hid hok2;have t1 : decide ((1000000 : Int) < m) = false := by simp; omega
 have tm : min m 1000000 = m := by omega
 obtain ⟨nc, hnc⟩ := nm_ cells.length;obtain ⟨np, hnp⟩ := nm_ P.length;rw [hnc] at HGET HPAD;rw [hnp] at HPAD;have HNP := hid hnp;have HNC := hid hnc;unfold ValsOut;clear hr hr2 hMn hget hok hX hR hY hok2 hpad hnc hnp;go_enter Tryz.func72, Tryz.ntmps72;go_wp2_with fail;refine HGET.out.mono ?_;intro e w1 h1;obtain ⟨A3, c3, rfl, ho1, hf1⟩ := h1;have hcl := ho1.cls;rw [HNC.out] at hcl;have HCL := hid hcl;have HF1 := hid hf1;clear ho1 hf1 hcl tm;by_cases hE : E = 0
 · subst hE;have hR := HR.out;rw [if_neg (by simp)] at hR;have HRR := hid hR;clear hR;go_wp2_with fail;refine (HPAD.out w1 A3 c3 HCL.out).mono ?_;intro e w2 h2;obtain ⟨A4, c4, rfl, ho2, hf2⟩ := h2;have HF2 := hid (HF1.out.trans hf2 im_);have hcl2 := ho2.cls;rw [HNP.out] at hcl2;have HCL2 := hid hcl2;clear ho2 hf2 hcl2;cases pk with
   | true =>
    have hR := HRR.out;rw [if_pos rfl] at hR;have hval := values_any A2 n2 c2 B A4 np c4 P w2 (HRD2.out.fr HF2.out (fun _ _ h => h)) hc2 hn2 HCL2.out (by have h := HOK2.out.2; rw [HNP.out] at h; exact h) HOK2.out.1;rw [hR] at hval;unfold ValsOut at hval;have HVAL := hid hval;clear hR hval;go_wp2_with fail;refine HVAL.out.mono ?_;intro e w3 h3;obtain ⟨A5, c5, rfl, ho3, hf3⟩ := h3;have HO3 := hid (ho3.base HF2.out.size);have HF3 := hid (HF2.out.trans hf3 im_);clear ho3 hf3;go_wp2_with fail;exact bodyPost_ret (v := .tuple #[.slice A5 R.1.length c5, .int .i64 (R.2 : Int)]) (by simp [results, Tryz.results72, go_sem]) rfl ⟨A5, c5, rfl, HO3.out, HF3.out⟩
   | false =>
    have hR := HRR.out;rw [if_neg (by simp)] at hR;have HR3 := hid hR;clear hR;go_wp2_with fail;refine bodyPost_ret (v := .tuple #[.slice none 0 0, .int .i64 3]) (by simp [results, Tryz.results72, go_sem]) rfl ⟨none, 0, by rw [← HR3.out]; rfl, ?_, HF2.out⟩;rw [← HR3.out];exact OwnV.nil _ _
 · have te : ((E : Int) != 0) = true := by simp; exact hE
   have hR := HR.out;rw [if_pos hE] at hR;have HR3 := hid hR;clear hR;go_wp2_with fail;refine bodyPost_ret (v := .tuple #[.slice none 0 0, .int .i64 (E : Int)]) (by simp [results, Tryz.results72, go_sem]) rfl ⟨none, 0, by rw [← HR3.out]; rfl, ?_, HF1.out⟩;rw [← HR3.out];exact OwnV.nil _ _
end
end Go.Proofs.YtbabgnadgdidmaaGreat
