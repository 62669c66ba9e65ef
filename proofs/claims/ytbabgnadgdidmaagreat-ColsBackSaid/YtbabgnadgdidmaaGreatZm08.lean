import Derived.Test.YtbabgnadgdidmaaGreatZm00
import Derived.Test.YtbabgnadgdidmaaGreatZm02
import Derived.Test.YtbabgnadgdidmaaGreatZm07
import Derived.Test.YtbabgnadgdidmaaGreatZm05
import Derived.Test.YtbabgnadgdidmaaGreatZm04
import Derived.Lib.ConvBytes
import Derived.Deep.DeepCutAuto
import Derived.Deep.CutRange
import Derived.Deep.DrawnRows
import Derived.StillTailTactics
set_option linter.unusedVariables false
set_option maxRecDepth 100000
set_option maxHeartbeats 12800000
namespace Go.Proofs.YtbabgnadgdidmaaGreat
section
open Go.RowKit Mem Go.Lib VaM LebM UtfM
attribute [local go_sem ↓] Go.wp_at_zero Go.wp_at_succ
def valc (v : V) : Value := .agg #[.int .i64 v.k, .int .u64 (v.u : Int), .int .i64 v.n, .string (txt v.s)]
def Tells (w : World) (B : List UInt8) (e : Ending) (w' : World) : Prop :=
 ∃ A c, e = .returned (.slice A B.length c) ∧ B.length ≤ c ∧ Rd w' A B.length (B.map bytec) ∧ Fr (fun _ => False) w w'
theorem Gives.tells {w : World} {B : List UInt8} {e : Ending} {w' : World} (h : Gives w B e w') : Tells w B e w' := by
 obtain ⟨A, c, he, ho, hf⟩ := h;exact ⟨A, c, he, ho.cap.1, ho.rd, hf⟩
def TellsN (w : World) (B : List UInt8) (e : Ending) (w' : World) : Prop :=
 ∃ A c, e = .returned (.slice A B.length c) ∧ B.length ≤ c ∧ Rd w' A B.length (B.map bytec) ∧ Fr (fun _ => False) w w' ∧ ∀ ad, A = some ad → w.heap.size ≤ ad.block
theorem TellsN.tells {w : World} {B : List UInt8} {e : Ending} {w' : World} (h : TellsN w B e w') : Tells w B e w' := by
 obtain ⟨A, c, he, hc, hr, hf, _⟩ := h;exact ⟨A, c, he, hc, hr, hf⟩
def fnc (F : FuncId) : Value := .func (.func F) #[] #[]
theorem vSz : (Tryz.prog.info? 53).map (·.size) = some 4 := by kernel_rfl
theorem kSz : (Tryz.prog.info? 202).map (·.size) = some 2 := by kernel_rfl
theorem fieldU_any (g : Nat) (w : World) : Calls Tryz.prog 148 #[.pointer (some ⟨g, 0, none⟩)] w fun e w' => e = .returned (.pointer (some ⟨g, 1, none⟩)) ∧ w = w' := by
 go_enter Tryz.func148, Tryz.ntmps148;go_wp2_with fail;go_ret;exact ⟨rfl, rfl⟩
theorem fieldN_any (g : Nat) (w : World) : Calls Tryz.prog 151 #[.pointer (some ⟨g, 0, none⟩)] w fun e w' => e = .returned (.pointer (some ⟨g, 2, none⟩)) ∧ w = w' := by
 go_enter Tryz.func151, Tryz.ntmps151;go_wp2_with fail;go_ret;exact ⟨rfl, rfl⟩
theorem vmayT_any (B : List UInt8) (w : World) (hl : B.length ≤ 1000000) : Calls Tryz.prog 153 #[.string (txt B)] w fun e w' => e = .returned (.bool (wh B == B.length)) ∧ Fr (fun _ => False) w w' := by
 obtain ⟨q, hq⟩ := nm_ ((wh B == B.length));have h := valid1 utfP B w rfl hl q hq;rw [hq];have H := hid h;clear h hq;go_enter Tryz.func153, Tryz.ntmps153;go_wp2_with fail;refine H.out.mono ?_;rintro e w2 ⟨rfl, hf⟩;have HF := hid hf;clear hf;go_wp2_with fail;go_ret;exact ⟨rfl, HF.out⟩
theorem vmayB_any (B : List UInt8) (w : World) : Calls Tryz.prog 154 #[.string (txt B)] w fun e w' => e = .returned (.bool true) ∧ w = w' := by
 go_enter Tryz.func154, Tryz.ntmps154;go_wp2_with fail;go_ret;exact ⟨rfl, rfl⟩
theorem vputNo_any (v : V) (w : World) : Calls Tryz.prog 170 #[valc v] w (TellsN w []) := by
 unfold valc;go_enter Tryz.func170, Tryz.ntmps170;go_wp2_with fail;go_ret;exact ⟨none, 0, rfl, Nat.le_refl _, Rd.nil _ _, (Fr.refl _ _).alloc _, fun ad e => by cases e⟩
def valR (r : V × Bool) : Value := .tuple #[valc r.1, .bool r.2]
theorem vgetNo_any (A : Option Addr) (n c : Nat) (B : List UInt8) (w : World) (hr : Rd w A n (B.map bytec)) (hn : n ≤ 1000000) :
    Calls Tryz.prog 171 #[.slice A n c] w fun e w' => e = .returned (valR (getC 0 0 B)) ∧ Fr (fun _ => False) w w' := by
 have hBn : B.length = n := by simpa using hr.1
 clear hr;by_cases h0 : n = 0
 · subst h0;obtain rfl : B = [] := List.length_eq_zero_iff.1 hBn;rw [show getC 0 0 [] = (zeroV, true) from rfl];clear hBn;go_enter Tryz.func171, Tryz.ntmps171;go_wp2_with fail;refine bodyPost_ret (v := valR (zeroV, true)) (by simp [results, valR, valc, zeroV, txt, Tryz.results171, go_sem]) rfl ⟨rfl, ?_⟩;exact (Fr.refl _ _).alloc _
 · rw [show getC 0 0 B = (zeroV, false) from if_neg (fun h => by rw [h] at hBn; exact h0 hBn.symm)];have t : ((n : Int) == 0) = false := by simp; omega
   clear hBn;go_enter Tryz.func171, Tryz.ntmps171;go_wp2_with fail;refine bodyPost_ret (v := valR (zeroV, false)) (by simp [results, valR, valc, zeroV, txt, Tryz.results171, go_sem]) rfl ⟨rfl, ?_⟩;exact (Fr.refl _ _).alloc _
theorem run_bytesN (B : List UInt8) (w : World) : ∃ A c w', (convert 9 34 (.string (txt B))).run Tryz.prog w = .ok (.slice A B.length c) w' ∧ B.length ≤ c ∧ Rd w' A B.length (B.map bytec) ∧ Fr (fun _ => False) w w' ∧ ∀ ad, A = some ad → w.heap.size ≤ ad.block := by
 have h := Lib.run_convert_string_bytes (P := Tryz.prog) w 9 34 5 (txt B) Tryz.underlying9 Tryz.underlying34 Tryz.underlying5;have hs : (txt B).size = B.length := txt_sz B;rw [hs] at h;refine ⟨_, _, _, h, grownCap_ge _ _ _ _, ⟨by simp, fun hn => ⟨_, rfl, fun j x hx => ?_⟩⟩, ⟨rfl, rfl, rfl, ?_, fun b hb _ => bytesWorld_at_old _ _ _ _ hb⟩, fun ad e => by injection e with e; rw [← e]; exact Nat.le_refl _⟩
 · have hj := (List.getElem?_eq_some_iff.1 hx).1;rw [List.length_map] at hj;have hadd : (⟨w.heap.size, 0, none⟩ : Addr).add j = ⟨w.heap.size, j, none⟩ := by unfold Addr.add; split <;> simp_all
   rw [hadd, bytesWorld_cell _ _ _ _ (by rw [hs]; exact hj), ← hx];simp [bytec, txt, List.getElem?_eq_getElem hj]
 · rw [bytesWorld_size]; omega
theorem vputT_any (v : V) (w : World) : Calls Tryz.prog 177 #[valc v] w (TellsN w v.s) := by
 obtain ⟨w1, hw1⟩ := nm_ (w.alloc (.cells #[.int .i64 v.k, .int .u64 (v.u : Int), .int .i64 v.n, .string (txt v.s)] 53));obtain ⟨q, hq⟩ := nm_ w.heap.size;have hf1 : Fr (fun _ => False) w w1 := by rw [← hw1]; exact (Fr.refl _ _).alloc _
 have hqb : Row w1 q 53 [.int .i64 v.k, .int .u64 (v.u : Int), .int .i64 v.n, .string (txt v.s)] := by rw [← hw1, ← hq]; exact Row.new w _ _
 have j3 : w1.cell? ⟨q, 3, none⟩ = some (.string (txt v.s)) := hqb.cell rfl;obtain ⟨A, c, w2, h2, hc, hr, hf, hnw⟩ := run_bytesN v.s w1;have HNW : Hid (∀ ad, A = some ad → w.heap.size ≤ ad.block) := hid (fun ad e => Nat.le_trans hf1.size (hnw ad e));have HF := hid (hf1.trans hf im_);have HR := hid hr;have HC := hid hc;unfold valc;clear hf1 hqb hr hf hc hnw;go_enter Tryz.func177, Tryz.ntmps177;go_wp2_with fail;go_ret;exact ⟨A, c, rfl, HC.out, HR.out, HF.out, HNW.out⟩
end
section
open Go.RowKit Mem Go.Lib VaM LebM UtfM
attribute [local go_sem ↓] Go.wp_at_zero Go.wp_at_succ
def vls (v : V) : List Value := [.int .i64 v.k, .int .u64 (v.u : Int), .int .i64 v.n, .string (txt v.s)]
theorem v_one (v : V) : (vls v).toArray.all (·.oneCell') = true := by simp [vls, Value.oneCell']
def RowV (w : World) (g : Nat) (v : V) : Prop := Row w g 53 (vls v)
theorem RowV.fr {w w' : World} {g : Nat} {v : V} {S : Nat → Prop} (h : RowV w g v) (hf : Fr S w w') (hg : ¬ S g) : RowV w' g v := Row.fr h hf hg
theorem RowV.new (w : World) (v : V) : RowV (w.alloc (.cells (vls v).toArray 53)) w.heap.size v := Row.new w _ _
theorem RowV.c0 {w : World} {g : Nat} {v : V} (h : RowV w g v) : w.cell? ⟨g, 0, none⟩ = some (.int .i64 v.k) := Row.cell h rfl
theorem RowV.c1 {w : World} {g : Nat} {v : V} (h : RowV w g v) : w.cell? ⟨g, 1, none⟩ = some (.int .u64 (v.u : Int)) := Row.cell h rfl
theorem RowV.c2 {w : World} {g : Nat} {v : V} (h : RowV w g v) : w.cell? ⟨g, 2, none⟩ = some (.int .i64 v.n) := Row.cell h rfl
theorem RowV.c3 {w : World} {g : Nat} {v : V} (h : RowV w g v) : w.cell? ⟨g, 3, none⟩ = some (.string (txt v.s)) := Row.cell h rfl
theorem RowV.lt {w : World} {g : Nat} {v : V} (h : RowV w g v) : g < w.heap.size := Row.lt h
theorem vgetT_any (p : Nat) (A : Option Addr) (n c : Nat) (B : List UInt8) (w : World) (hp : w.cell? ⟨p, 0, none⟩ = some (fnc 153)) (hr : Rd w A n (B.map bytec)) (hc : n ≤ c) (hn : n ≤ 1000000) :
    Calls Tryz.prog 178 #[.slice A n c, .pointer (some ⟨p, 0, none⟩)] w fun e w' => e = .returned (valR (getC 3 0 B)) ∧ Fr (fun _ => False) w w' := by
 have hBn : B.length = n := by simpa using hr.1
 have hpl : p < w.heap.size := World.block_lt_of_cell? w _ hp;unfold fnc at hp;obtain ⟨g, hg⟩ := nm_ w.heap.size;have HG := hid hg;by_cases h4 : 4000 < n
 · rw [show getC 3 0 B = (zeroV, false) from if_neg (fun h => by have h2 : B.length ≤ 4000 := h.1; omega)];have t : decide ((4000 : Int) < (n : Int)) = true := by simp; omega
   have t' : decide (4000 < n) = true := by simp; omega
   clear hBn hr hp hg;go_enter Tryz.func178, Tryz.ntmps178;go_wp2_with (refine store_st vSz rfl (.tmp 3) (.tmp 9) rfl w.heap.size (by rfl) (vls zeroV) (by rfl) _ _ (RowV.new w zeroV) rfl rfl (v_one _) ?_)
   intro w2 hr2 hf2;have HR2 : Hid (RowV w2 w.heap.size zeroV) := hid hr2;have HF2 := hid (((Fr.refl (fun _ => False) w).alloc _).trans hf2 (fun b hb h => by omega));have d0 := HR2.out.c0;have d1 := HR2.out.c1;have d2 := HR2.out.c2;have d3 := HR2.out.c3;clear hr2 hf2;go_wp2_with fail;refine bodyPost_ret (v := valR (zeroV, false)) (by simp [results, valR, valc, d0, d1, d2, d3, Tryz.results178, go_sem]) rfl ⟨rfl, HF2.out⟩
 · have t : decide ((4000 : Int) < (n : Int)) = false := by simp; omega
   have t' : decide (4000 < n) = false := by simp; omega
   have hs : ∀ w', Fr (fun _ => False) w w' → (convert 34 9 (.slice A n c)).run Tryz.prog w' = .ok (.string (txt B)) w' := fun w' hf => str_rd (hr.fr hf (fun _ _ h => h)) c;obtain ⟨w1, hw1⟩ : ∃ w1, w.alloc (.cells #[.int .i64 0, .int .u64 0, .int .i64 0, .string ⟨#[]⟩] 53) = w1 := ⟨_, rfl⟩
   have hf1 : Fr (fun _ => False) w w1 := by rw [← hw1]; exact (Fr.refl _ _).alloc _
   have hr1 : RowV w1 g zeroV := by rw [← hw1, ← hg]; exact RowV.new w zeroV
   have hp1 := hf1.cell hp (fun h => h);have hs1 := hs w1 hf1;have HF1 := hid hf1;have HR1 := hid hr1;obtain ⟨q, hq⟩ := nm_ ((wh B == B.length));have hcall : ∀ w', Calls Tryz.prog 153 #[.string (txt B)] w' fun e w'' => e = .returned (.bool q) ∧ Fr (fun _ => False) w' w'' := fun w' => by
    rw [← hq];exact vmayT_any B w' (by omega)
   have hget : getC 3 0 B = if q = true then (⟨0, 0, 0, B⟩, true) else (zeroV, false) := by
    have h4 : B.length ≤ 4000 := by omega
    have h := show getC 3 0 B = (if B.length ≤ 4000 ∧ wh B = B.length then (⟨0, 0, 0, B⟩, true) else (zeroV, false)) from rfl
    rw [h, ← hq];simp [h4]
   rw [hget];have HC := hid hcall;clear hBn hr hp hs hf1 hr1 hcall hq hget;cases q
   · simp only [Bool.false_eq_true, if_false];go_enter Tryz.func178, Tryz.ntmps178;go_wp2_with fail;clear hw1 hg;refine (HC.out _).mono ?_;rintro e w2 ⟨rfl, hf2⟩;have HR2 := hid (HR1.out.fr hf2 (fun h => h));have HF2 := hid (HF1.out.trans hf2 im_);clear hf2;go_wp2_with (refine store_st vSz rfl (.tmp 3) (.tmp 16) rfl g (by rfl) (vls zeroV) (by rfl) _ _ HR2.out rfl rfl (v_one _) ?_)
     intro w3 hr3 hf3;have HR3 : Hid (RowV w3 g zeroV) := hid hr3;have HF3 := hid (HF2.out.trans hf3 (fun b hb h => by have := HG.out; omega));have d0 := HR3.out.c0;have d1 := HR3.out.c1;have d2 := HR3.out.c2;have d3 := HR3.out.c3;clear hr3 hf3;go_wp2_with fail;refine bodyPost_ret (v := valR (zeroV, false)) (by simp [results, valR, valc, d0, d1, d2, d3, Tryz.results178, go_sem]) rfl ⟨rfl, HF3.out⟩
   · simp only [if_true];go_enter Tryz.func178, Tryz.ntmps178;go_wp2_with fail;clear hw1 hg;refine (HC.out _).mono ?_;rintro e w2 ⟨rfl, hf2⟩;have HR2 := hid (HR1.out.fr hf2 (fun h => h));have HF2 := hid (HF1.out.trans hf2 im_);clear hf2;go_wp2_with (refine store_st vSz rfl (.tmp 3) (.tmp 18) rfl g (by rfl) (vls ⟨0, 0, 0, B⟩) (by rfl) _ _ HR2.out rfl rfl (v_one _) ?_)
     intro w3 hr3 hf3;have HR3 : Hid (RowV w3 g ⟨0, 0, 0, B⟩) := hid hr3;have HF3 := hid (HF2.out.trans hf3 (fun b hb h => by have := HG.out; omega));have d0 := HR3.out.c0;have d1 := HR3.out.c1;have d2 := HR3.out.c2;have d3 := HR3.out.c3;clear hr3 hf3;go_wp2_with fail;refine bodyPost_ret (v := valR (⟨0, 0, 0, B⟩, true)) (by simp [results, valR, valc, d0, d1, d2, d3, Tryz.results178, go_sem]) rfl ⟨rfl, HF3.out⟩
theorem vgetB_any (p : Nat) (A : Option Addr) (n c : Nat) (B : List UInt8) (w : World) (hp : w.cell? ⟨p, 0, none⟩ = some (fnc 154)) (hr : Rd w A n (B.map bytec)) (hc : n ≤ c) (hn : n ≤ 1000000) :
    Calls Tryz.prog 178 #[.slice A n c, .pointer (some ⟨p, 0, none⟩)] w fun e w' => e = .returned (valR (getC 4 0 B)) ∧ Fr (fun _ => False) w w' := by
 have hBn : B.length = n := by simpa using hr.1
 have hpl : p < w.heap.size := World.block_lt_of_cell? w _ hp;unfold fnc at hp;obtain ⟨g, hg⟩ := nm_ w.heap.size;have HG := hid hg;by_cases h4 : 4000 < n
 · rw [show getC 4 0 B = (zeroV, false) from if_neg (fun h => by have h2 : B.length ≤ 4000 := h; omega)];have t : decide ((4000 : Int) < (n : Int)) = true := by simp; omega
   have t' : decide (4000 < n) = true := by simp; omega
   clear hBn hr hp hg;go_enter Tryz.func178, Tryz.ntmps178;go_wp2_with (refine store_st vSz rfl (.tmp 3) (.tmp 9) rfl w.heap.size (by rfl) (vls zeroV) (by rfl) _ _ (RowV.new w zeroV) rfl rfl (v_one _) ?_)
   intro w2 hr2 hf2;have HR2 : Hid (RowV w2 w.heap.size zeroV) := hid hr2;have HF2 := hid (((Fr.refl (fun _ => False) w).alloc _).trans hf2 (fun b hb h => by omega));have d0 := HR2.out.c0;have d1 := HR2.out.c1;have d2 := HR2.out.c2;have d3 := HR2.out.c3;clear hr2 hf2;go_wp2_with fail;refine bodyPost_ret (v := valR (zeroV, false)) (by simp [results, valR, valc, d0, d1, d2, d3, Tryz.results178, go_sem]) rfl ⟨rfl, HF2.out⟩
 · have t : decide ((4000 : Int) < (n : Int)) = false := by simp; omega
   have t' : decide (4000 < n) = false := by simp; omega
   have hs : ∀ w', Fr (fun _ => False) w w' → (convert 34 9 (.slice A n c)).run Tryz.prog w' = .ok (.string (txt B)) w' := fun w' hf => str_rd (hr.fr hf (fun _ _ h => h)) c;obtain ⟨w1, hw1⟩ : ∃ w1, w.alloc (.cells #[.int .i64 0, .int .u64 0, .int .i64 0, .string ⟨#[]⟩] 53) = w1 := ⟨_, rfl⟩
   have hf1 : Fr (fun _ => False) w w1 := by rw [← hw1]; exact (Fr.refl _ _).alloc _
   have hr1 : RowV w1 g zeroV := by rw [← hw1, ← hg]; exact RowV.new w zeroV
   have hp1 := hf1.cell hp (fun h => h);have hs1 := hs w1 hf1;have HF1 := hid hf1;have HR1 := hid hr1;obtain ⟨q, hq⟩ := nm_ true;have hcall : ∀ w', Calls Tryz.prog 154 #[.string (txt B)] w' fun e w'' => e = .returned (.bool q) ∧ Fr (fun _ => False) w' w'' := fun w' => by
    rw [← hq];exact (vmayB_any B w').mono (fun e w2 h => ⟨h.1, by rw [← h.2]; exact Fr.refl _ _⟩)
   have hget : getC 4 0 B = if q = true then (⟨0, 0, 0, B⟩, true) else (zeroV, false) := by
    have h4 : B.length ≤ 4000 := by omega
    have h := show getC 4 0 B = (if B.length ≤ 4000 then (⟨0, 0, 0, B⟩, true) else (zeroV, false)) from rfl
    rw [h, ← hq];simp [h4]
   rw [hget];have HC := hid hcall;clear hBn hr hp hs hf1 hr1 hcall hq hget;cases q
   · simp only [Bool.false_eq_true, if_false];go_enter Tryz.func178, Tryz.ntmps178;go_wp2_with fail;clear hw1 hg;refine (HC.out _).mono ?_;rintro e w2 ⟨rfl, hf2⟩;have HR2 := hid (HR1.out.fr hf2 (fun h => h));have HF2 := hid (HF1.out.trans hf2 im_);clear hf2;go_wp2_with (refine store_st vSz rfl (.tmp 3) (.tmp 16) rfl g (by rfl) (vls zeroV) (by rfl) _ _ HR2.out rfl rfl (v_one _) ?_)
     intro w3 hr3 hf3;have HR3 : Hid (RowV w3 g zeroV) := hid hr3;have HF3 := hid (HF2.out.trans hf3 (fun b hb h => by have := HG.out; omega));have d0 := HR3.out.c0;have d1 := HR3.out.c1;have d2 := HR3.out.c2;have d3 := HR3.out.c3;clear hr3 hf3;go_wp2_with fail;refine bodyPost_ret (v := valR (zeroV, false)) (by simp [results, valR, valc, d0, d1, d2, d3, Tryz.results178, go_sem]) rfl ⟨rfl, HF3.out⟩
   · simp only [if_true];go_enter Tryz.func178, Tryz.ntmps178;go_wp2_with fail;clear hw1 hg;refine (HC.out _).mono ?_;rintro e w2 ⟨rfl, hf2⟩;have HR2 := hid (HR1.out.fr hf2 (fun h => h));have HF2 := hid (HF1.out.trans hf2 im_);clear hf2;go_wp2_with (refine store_st vSz rfl (.tmp 3) (.tmp 18) rfl g (by rfl) (vls ⟨0, 0, 0, B⟩) (by rfl) _ _ HR2.out rfl rfl (v_one _) ?_)
     intro w3 hr3 hf3;have HR3 : Hid (RowV w3 g ⟨0, 0, 0, B⟩) := hid hr3;have HF3 := hid (HF2.out.trans hf3 (fun b hb h => by have := HG.out; omega));have d0 := HR3.out.c0;have d1 := HR3.out.c1;have d2 := HR3.out.c2;have d3 := HR3.out.c3;clear hr3 hf3;go_wp2_with fail;refine bodyPost_ret (v := valR (⟨0, 0, 0, B⟩, true)) (by simp [results, valR, valc, d0, d1, d2, d3, Tryz.results178, go_sem]) rfl ⟨rfl, HF3.out⟩
end
section
open Go.RowKit Mem Go.Lib VaM LebM UtfM
attribute [local go_sem ↓] Go.wp_at_zero Go.wp_at_succ
theorem sw14 {f : FuncId} {args : Array Value} {w : World} {v : Value} (h : Calls Tryz.prog f args w fun e w' => e = .returned v ∧ w = w') : Calls Tryz.prog f args w fun e w' => e = .returned v ∧ w' = w := h.mono fun _ _ h => ⟨h.1, h.2.symm⟩
theorem vputU_any (a f : Nat) (v : V) (w : World) (hv : v.ok) (ha : w.cell? ⟨a, 0, none⟩ = some (fnc 123)) (hf : w.cell? ⟨f, 0, none⟩ = some (fnc 148)) :
    Calls Tryz.prog 172 #[valc v, .pointer (some ⟨a, 0, none⟩), .pointer (some ⟨f, 0, none⟩)] w (TellsN w (u v.u)) := by
 unfold fnc at ha hf;obtain ⟨g, hg⟩ := nm_ w.heap.size;obtain ⟨w1, hw1⟩ := nm_ (w.alloc (.cells #[.int .i64 v.k, .int .u64 (v.u : Int), .int .i64 v.n, .string (txt v.s)] 53));have hf1 : Fr (fun _ => False) w w1 := by rw [← hw1]; exact (Fr.refl _ _).alloc _
 have hr1 : RowV w1 g v := by rw [← hw1, ← hg]; exact RowV.new w v
 have ha1 := hf1.cell ha (fun h => h);have hc1 := hf1.cell hf (fun h => h);have d1 := hr1.c1;have hu := U_any v.u w1.drew hv.2.1;have hfl := fieldU_any g w1.drew;have HU := hid hu;have HFL := hid hfl;have HF1 := hid hf1;unfold valc;clear ha hf hf1 hr1 hu hfl;go_enter Tryz.func172, Tryz.ntmps172
 go_upto_region 1 with fail
 clear hw1 hg;refine wp_region_still_tail 5 (by kernel_rfl) (by kernel_rfl) ?_;simp only [List.take_succ_cons, List.take_zero, List.drop_succ_cons, List.drop_zero]
 repeat still_step
 still_call (sw14 HFL.out)
 repeat still_step
 refine wpStill_nil ?_;change wpList _ _ _ _ _ w1.drew;go_wp2_with fail;refine HU.out.mono ?_;intro e w2 h2;obtain ⟨A, c, rfl, ho, hf2⟩ := h2;have HO := hid ho;have HF2 := hid (HF1.out.drew.trans hf2 im_);clear ho hf2;go_wp2_with fail;go_ret;exact ⟨A, c, rfl, HO.out.cap.1, HO.out.rd, HF2.out, fun ad e => Nat.le_trans HF1.out.drew.size (HO.out.lt ad.block (by rw [e]; rfl)).1⟩
theorem vgetU_any (a f : Nat) (A : Option Addr) (n c : Nat) (B : List UInt8) (w : World) (ha : w.cell? ⟨a, 0, none⟩ = some (fnc 126)) (hf : w.cell? ⟨f, 0, none⟩ = some (fnc 148)) (hr : Rd w A n (B.map bytec)) (hc : n ≤ c) (hn : n ≤ 1000000) :
    Calls Tryz.prog 173 #[.slice A n c, .pointer (some ⟨a, 0, none⟩), .pointer (some ⟨f, 0, none⟩)] w fun e w' => e = .returned (valR (getC 1 0 B)) ∧ Fr (fun _ => False) w w' := by
 have hBn : B.length = n := by simpa using hr.1
 unfold fnc at ha hf;obtain ⟨g, hg⟩ := nm_ w.heap.size;have hgf : f < g := by rw [← hg]; exact World.block_lt_of_cell? w _ hf
 have HG := hid hg;obtain ⟨w1, hw1⟩ : ∃ w1, w.alloc (.cells #[.int .i64 0, .int .u64 0, .int .i64 0, .string ⟨#[]⟩] 53) = w1 := ⟨_, rfl⟩
 have hf1 : Fr (fun _ => False) w w1 := by rw [← hw1]; exact (Fr.refl _ _).alloc _
 have hr1 : RowV w1 g zeroV := by rw [← hw1, ← hg]; exact RowV.new w zeroV
 have ha1 := hf1.cell ha (fun h => h);have hbd := gu_lt B;obtain ⟨N, hN⟩ : ∃ N, N = (gu B).1 := ⟨_, rfl⟩
 obtain ⟨k, hk⟩ : ∃ k, k = (gu B).2.1 := ⟨_, rfl⟩
 obtain ⟨E, hE⟩ : ∃ E, E = (gu B).2.2 := ⟨_, rfl⟩
 have hget := GetU_any A n c B w1 (hr.fr hf1 (fun _ _ h => h)) hc;have hG : getC 1 0 B = if (gu B).2.2 = 0 ∧ (gu B).2.1 = B.length then ((⟨0, (gu B).1, 0, []⟩ : V), true) else (zeroV, false) := rfl;rw [hG];rw [← hN, ← hk, ← hE] at hbd hget;rw [← hN, ← hk, ← hE, hBn];rw [hBn] at hbd;have HGET := hid hget;have HF1 := hid hf1;have HR1 := hid hr1;have HFC := hid hf;obtain ⟨hb1, hb2, hb3⟩ := hbd;have hb1' := hb1;clear hBn ha hf hr hf1 hr1 hN hk hE hget hG;by_cases hok : E = 0 ∧ k = n
 · rw [if_pos hok];obtain ⟨rfl, rfl⟩ := hok;go_enter Tryz.func173, Tryz.ntmps173;go_wp2_with fail;clear hw1 hg ha1;refine HGET.out.mono ?_;rintro e w2 ⟨rfl, hf2⟩;have HR2 := hid (HR1.out.fr hf2 (fun h => h));have hf3 := HF1.out.trans hf2 im_;obtain ⟨p, hp⟩ := nm_ w2.heap.size;have hgp : g < p := by rw [← hp]; exact HR2.out.lt
   obtain ⟨w3, hw3⟩ : ∃ w3, w2.alloc (.cells #[.int .i64 0, .int .u64 0, .int .i64 0, .string ⟨#[]⟩] 53) = w3 := ⟨_, rfl⟩
   have hf4 : Fr (fun _ => False) w2 w3 := by rw [← hw3]; exact (Fr.refl _ _).alloc _
   have hr3 : RowV w3 p zeroV := by rw [← hw3, ← hp]; exact RowV.new w2 zeroV
   have hc3 := (hf3.trans hf4 im_).cell HFC.out (fun h => h);have HR3 := hid (HR2.out.fr hf4 (fun h => h));have HP3 := hid hr3;have HF3 := hid (hf3.trans hf4 im_);have hfl := fieldU_any p w3;have HFL := hid hfl;have d1 := hr3.c1;have f1 : w3.frozen? ⟨p, 1, none⟩ = false := Row.free hr3 1;clear hf2 hf3 hf4 hr3 hfl;go_wp2_with fail;clear hw3 hp;refine HFL.out.mono ?_;rintro e w4 ⟨rfl, rfl⟩;have h4 := Row.set HP3.out 1 (.int .u64 (N : Int));obtain ⟨w5, hw5⟩ : ∃ w5, w3.setCell ⟨p, 1, none⟩ (.int .u64 (N : Int)) = w5 := ⟨_, rfl⟩
   rw [hw5] at h4;have h5 : RowV w5 p ((⟨0, N, 0, []⟩ : V)) := h4;have hf5 : Fr (fun b => b = p) w3 w5 := by rw [← hw5]; exact Fr.set1 _ _ _ _
   have HR5 := hid (HR3.out.fr hf5 (by omega));have HF5 := hid (HF3.out.trans hf5 (fun b hb h => by have := HG.out; omega));have e0 := h5.c0;have e1 := h5.c1;have e2 := h5.c2;have e3 := h5.c3;simp only at e0 e1 e2 e3;clear h4 h5 hf5;go_wp2_with (refine store_st vSz rfl (.tmp 4) (.tmp 30) rfl g (by rfl) (vls ((⟨0, N, 0, []⟩ : V))) (by rfl) _ _ HR5.out rfl rfl (v_one _) ?_)
   intro w6 hr6 hf6;have HR6 : Hid (RowV w6 g ((⟨0, N, 0, []⟩ : V))) := hid hr6;have HF6 := hid (HF5.out.trans hf6 (fun b hb h => by have := HG.out; omega));clear e0 e1 e2 e3 d1 f1 hw5;have d0 := HR6.out.c0;have d1 := HR6.out.c1;have d2 := HR6.out.c2;have d3 := HR6.out.c3;clear hr6 hf6;go_wp2_with fail;refine bodyPost_ret (v := valR ((⟨0, N, 0, []⟩ : V), true)) (by simp [results, valR, valc, d0, d1, d2, d3, Tryz.results173, go_sem]) rfl ⟨rfl, HF6.out⟩
 · rw [if_neg hok];obtain ⟨q, hq⟩ := nm_ (((E : Int) != 0));have t2 : q = false → ((k : Int) != (n : Int)) = true := by
    intro hqf;rw [hqf] at hq;simp at hq ⊢;omega
   have T2 := hid t2;clear t2 hok;cases q
   all_goals
    (try (have t3 := T2.out rfl))
    go_enter Tryz.func173, Tryz.ntmps173;go_wp2_with fail;clear hw1 hg ha1;refine HGET.out.mono ?_;rintro e w2 ⟨rfl, hf2⟩;have HR2 := hid (HR1.out.fr hf2 (fun h => h));have HF2 := hid (HF1.out.trans hf2 im_);clear hf2;go_wp2_with (refine store_st vSz rfl (.tmp 4) (.tmp 25) rfl g (by rfl) (vls zeroV) (by rfl) _ _ HR2.out rfl rfl (v_one _) ?_)
    intro w6 hr6 hf6;have HR6 : Hid (RowV w6 g zeroV) := hid hr6;have HF6 := hid (HF2.out.trans hf6 (fun b hb h => by have := HG.out; omega));have d0 := HR6.out.c0;have d1 := HR6.out.c1;have d2 := HR6.out.c2;have d3 := HR6.out.c3;clear hr6 hf6;go_wp2_with fail;refine bodyPost_ret (v := valR (zeroV, false)) (by simp [results, valR, valc, d0, d1, d2, d3, Tryz.results173, go_sem]) rfl ⟨rfl, HF6.out⟩
theorem vputS_any (a f : Nat) (v : V) (w : World) (hv : v.ok) (ha : w.cell? ⟨a, 0, none⟩ = some (fnc 122)) (hf : w.cell? ⟨f, 0, none⟩ = some (fnc 151)) :
    Calls Tryz.prog 174 #[valc v, .pointer (some ⟨a, 0, none⟩), .pointer (some ⟨f, 0, none⟩)] w (TellsN w (s v.n)) := by
 unfold fnc at ha hf;obtain ⟨g, hg⟩ := nm_ w.heap.size;obtain ⟨w1, hw1⟩ := nm_ (w.alloc (.cells #[.int .i64 v.k, .int .u64 (v.u : Int), .int .i64 v.n, .string (txt v.s)] 53));have hf1 : Fr (fun _ => False) w w1 := by rw [← hw1]; exact (Fr.refl _ _).alloc _
 have hr1 : RowV w1 g v := by rw [← hw1, ← hg]; exact RowV.new w v
 have ha1 := hf1.cell ha (fun h => h);have hc1 := hf1.cell hf (fun h => h);have d1 := hr1.c2;have hu := S_any v.n w1.drew hv.2.2.1 hv.2.2.2;have hfl := fieldN_any g w1.drew;have HU := hid hu;have HFL := hid hfl;have HF1 := hid hf1;unfold valc;clear ha hf hf1 hr1 hu hfl;go_enter Tryz.func174, Tryz.ntmps174
 go_upto_region 1 with fail
 clear hw1 hg;refine wp_region_still_tail 5 (by kernel_rfl) (by kernel_rfl) ?_;simp only [List.take_succ_cons, List.take_zero, List.drop_succ_cons, List.drop_zero]
 repeat still_step
 still_call (sw14 HFL.out)
 repeat still_step
 refine wpStill_nil ?_;change wpList _ _ _ _ _ w1.drew;go_wp2_with fail;refine HU.out.mono ?_;intro e w2 h2;obtain ⟨A, c, rfl, ho, hf2⟩ := h2;have HO := hid ho;have HF2 := hid (HF1.out.drew.trans hf2 im_);clear ho hf2;go_wp2_with fail;go_ret;exact ⟨A, c, rfl, HO.out.cap.1, HO.out.rd, HF2.out, fun ad e => Nat.le_trans HF1.out.drew.size (HO.out.lt ad.block (by rw [e]; rfl)).1⟩
theorem vgetS_any (a f : Nat) (A : Option Addr) (n c : Nat) (B : List UInt8) (w : World) (ha : w.cell? ⟨a, 0, none⟩ = some (fnc 150)) (hf : w.cell? ⟨f, 0, none⟩ = some (fnc 151)) (hr : Rd w A n (B.map bytec)) (hc : n ≤ c) (hn : n ≤ 1000000) :
    Calls Tryz.prog 175 #[.slice A n c, .pointer (some ⟨a, 0, none⟩), .pointer (some ⟨f, 0, none⟩)] w fun e w' => e = .returned (valR (getC 2 0 B)) ∧ Fr (fun _ => False) w w' := by
 have hBn : B.length = n := by simpa using hr.1
 unfold fnc at ha hf;obtain ⟨g, hg⟩ := nm_ w.heap.size;have hgf : f < g := by rw [← hg]; exact World.block_lt_of_cell? w _ hf
 have HG := hid hg;obtain ⟨w1, hw1⟩ : ∃ w1, w.alloc (.cells #[.int .i64 0, .int .u64 0, .int .i64 0, .string ⟨#[]⟩] 53) = w1 := ⟨_, rfl⟩
 have hf1 : Fr (fun _ => False) w w1 := by rw [← hw1]; exact (Fr.refl _ _).alloc _
 have hr1 : RowV w1 g zeroV := by rw [← hw1, ← hg]; exact RowV.new w zeroV
 have ha1 := hf1.cell ha (fun h => h);have hbd := gs_lt B;obtain ⟨N, hN⟩ : ∃ N, N = (gs B).1 := ⟨_, rfl⟩
 obtain ⟨k, hk⟩ : ∃ k, k = (gs B).2.1 := ⟨_, rfl⟩
 obtain ⟨E, hE⟩ : ∃ E, E = (gs B).2.2 := ⟨_, rfl⟩
 have hget := GetS_any A n c B w1 (hr.fr hf1 (fun _ _ h => h)) hc;have hG : getC 2 0 B = if (gs B).2.2 = 0 ∧ (gs B).2.1 = B.length then ((⟨0, 0, (gs B).1, []⟩ : V), true) else (zeroV, false) := rfl;rw [hG];rw [← hN, ← hk, ← hE] at hbd hget;rw [← hN, ← hk, ← hE, hBn];rw [hBn] at hbd;have HGET := hid hget;have HF1 := hid hf1;have HR1 := hid hr1;have HFC := hid hf;obtain ⟨hb1, hb2, hb3⟩ := hbd;have hb1' := hb1.1;clear hBn ha hf hr hf1 hr1 hN hk hE hget hG;by_cases hok : E = 0 ∧ k = n
 · rw [if_pos hok];obtain ⟨rfl, rfl⟩ := hok;go_enter Tryz.func175, Tryz.ntmps175;go_wp2_with fail;clear hw1 hg ha1;refine HGET.out.mono ?_;rintro e w2 ⟨rfl, hf2⟩;have HR2 := hid (HR1.out.fr hf2 (fun h => h));have hf3 := HF1.out.trans hf2 im_;obtain ⟨p, hp⟩ := nm_ w2.heap.size;have hgp : g < p := by rw [← hp]; exact HR2.out.lt
   obtain ⟨w3, hw3⟩ : ∃ w3, w2.alloc (.cells #[.int .i64 0, .int .u64 0, .int .i64 0, .string ⟨#[]⟩] 53) = w3 := ⟨_, rfl⟩
   have hf4 : Fr (fun _ => False) w2 w3 := by rw [← hw3]; exact (Fr.refl _ _).alloc _
   have hr3 : RowV w3 p zeroV := by rw [← hw3, ← hp]; exact RowV.new w2 zeroV
   have hc3 := (hf3.trans hf4 im_).cell HFC.out (fun h => h);have HR3 := hid (HR2.out.fr hf4 (fun h => h));have HP3 := hid hr3;have HF3 := hid (hf3.trans hf4 im_);have hfl := fieldN_any p w3;have HFL := hid hfl;have d1 := hr3.c2;have f1 : w3.frozen? ⟨p, 2, none⟩ = false := Row.free hr3 2;clear hf2 hf3 hf4 hr3 hfl;go_wp2_with fail;clear hw3 hp;refine HFL.out.mono ?_;rintro e w4 ⟨rfl, rfl⟩;have h4 := Row.set HP3.out 2 (.int .i64 N);obtain ⟨w5, hw5⟩ : ∃ w5, w3.setCell ⟨p, 2, none⟩ (.int .i64 N) = w5 := ⟨_, rfl⟩
   rw [hw5] at h4;have h5 : RowV w5 p ((⟨0, 0, N, []⟩ : V)) := h4;have hf5 : Fr (fun b => b = p) w3 w5 := by rw [← hw5]; exact Fr.set1 _ _ _ _
   have HR5 := hid (HR3.out.fr hf5 (by omega));have HF5 := hid (HF3.out.trans hf5 (fun b hb h => by have := HG.out; omega));have e0 := h5.c0;have e1 := h5.c1;have e2 := h5.c2;have e3 := h5.c3;simp only at e0 e1 e2 e3;clear h4 h5 hf5;go_wp2_with (refine store_st vSz rfl (.tmp 4) (.tmp 30) rfl g (by rfl) (vls ((⟨0, 0, N, []⟩ : V))) (by rfl) _ _ HR5.out rfl rfl (v_one _) ?_)
   intro w6 hr6 hf6;have HR6 : Hid (RowV w6 g ((⟨0, 0, N, []⟩ : V))) := hid hr6;have HF6 := hid (HF5.out.trans hf6 (fun b hb h => by have := HG.out; omega));clear e0 e1 e2 e3 d1 f1 hw5;have d0 := HR6.out.c0;have d1 := HR6.out.c1;have d2 := HR6.out.c2;have d3 := HR6.out.c3;clear hr6 hf6;go_wp2_with fail;refine bodyPost_ret (v := valR ((⟨0, 0, N, []⟩ : V), true)) (by simp [results, valR, valc, d0, d1, d2, d3, Tryz.results175, go_sem]) rfl ⟨rfl, HF6.out⟩
 · rw [if_neg hok];obtain ⟨q, hq⟩ := nm_ (((E : Int) != 0));have t2 : q = false → ((k : Int) != (n : Int)) = true := by
    intro hqf;rw [hqf] at hq;simp at hq ⊢;omega
   have T2 := hid t2;clear t2 hok;cases q
   all_goals
    (try (have t3 := T2.out rfl))
    go_enter Tryz.func175, Tryz.ntmps175;go_wp2_with fail;clear hw1 hg ha1;refine HGET.out.mono ?_;rintro e w2 ⟨rfl, hf2⟩;have HR2 := hid (HR1.out.fr hf2 (fun h => h));have HF2 := hid (HF1.out.trans hf2 im_);clear hf2;go_wp2_with (refine store_st vSz rfl (.tmp 4) (.tmp 25) rfl g (by rfl) (vls zeroV) (by rfl) _ _ HR2.out rfl rfl (v_one _) ?_)
    intro w6 hr6 hf6;have HR6 : Hid (RowV w6 g zeroV) := hid hr6;have HF6 := hid (HF2.out.trans hf6 (fun b hb h => by have := HG.out; omega));have d0 := HR6.out.c0;have d1 := HR6.out.c1;have d2 := HR6.out.c2;have d3 := HR6.out.c3;clear hr6 hf6;go_wp2_with fail;refine bodyPost_ret (v := valR (zeroV, false)) (by simp [results, valR, valc, d0, d1, d2, d3, Tryz.results175, go_sem]) rfl ⟨rfl, HF6.out⟩
end
section
open Go.RowKit Mem Go.Lib VaM LebM UtfM
attribute [local go_sem ↓] Go.wp_at_zero Go.wp_at_succ
def kindc (p g : Value) : Value := .agg #[p, g]
def fnc1 (F : FuncId) (a : Nat) : Value := .func (.func F) #[] #[.pointer (some ⟨a, 0, none⟩)]
def fnc2 (F : FuncId) (a b : Nat) : Value := .func (.func F) #[] #[.pointer (some ⟨a, 0, none⟩), .pointer (some ⟨b, 0, none⟩)]
theorem new_row {w : World} {k : Nat} (hk : k = w.heap.size) (t : TypeId) (L : List Value) : Row (w.alloc (.cells L.toArray t)) k t L := by subst hk; exact Row.new w _ _
theorem kind_one (F G : FuncId) (l m : Array Value) : ([Value.func (.func F) #[] l, .func (.func G) #[] m] : List Value).toArray.all (·.oneCell') = true := by simp [Value.oneCell']
theorem vbare_any (w : World) : Calls Tryz.prog 146 #[] w fun e w' =>  e = .returned (kindc (fnc 170) (fnc 171)) ∧  Fr (fun _ => False) w w' := by
 obtain ⟨q, hq⟩ := nm_ w.heap.size;obtain ⟨w1, hw1⟩ := nm_ ((w.alloc (.cells #[Value.nilFunc, Value.nilFunc] 202)));have hf1 : Fr (fun _ => False) w w1 := by rw [← hw1]; exact ((Fr.refl _ _).alloc _)
 have hk : Row w1 (q) 202 [Value.nilFunc, Value.nilFunc] := by rw [← hw1]; exact new_row (w := w) (k := q) (by simp [← hq]) _ _
 have HK := hid hk;have HF1 := hid hf1;have HQ := hid hq;clear hf1 hk;unfold kindc fnc;go_enter Tryz.func146, Tryz.ntmps146
 go_upto_region 1 with fail
 clear hw1 hq;go_wp2_with (refine store_st kSz rfl (.tmp 0) (.tmp 1) rfl (q) (by rfl) [.func (.func 170) #[] #[], .func (.func 171) #[] #[]] (by rfl) _ _ HK.out rfl rfl (kind_one _ _ _ _) ?_)
 intro w5 hr5 hf5;have HF5 : Hid (Fr (fun _ => False) w w5) := hid (HF1.out.trans hf5 (fun b hb h => by have h1 := HQ.out; omega));have d0 : w5.cell? ⟨q, 0, none⟩ = some (.func (.func 170) #[] #[]) := hr5.cell rfl;have d1 : w5.cell? ⟨q, 1, none⟩ = some (.func (.func 171) #[] #[]) := hr5.cell rfl;clear hr5;go_wp2_with fail;exact bodyPost_ret (v := .agg #[.func (.func 170) #[] #[], .func (.func 171) #[] #[]]) (by simp [results, Tryz.results146, go_sem, d0, d1]) rfl ⟨rfl,  HF5.out⟩
theorem vnumU_any (w : World) : Calls Tryz.prog 147 #[fnc 123, fnc 126, fnc 148] w fun e w' => ∃ a b d : Nat, e = .returned (kindc (fnc2 172 a d) (fnc2 173 b d)) ∧ w'.cell? ⟨a, 0, none⟩ = some (fnc 123) ∧ w'.cell? ⟨b, 0, none⟩ = some (fnc 126) ∧ w'.cell? ⟨d, 0, none⟩ = some (fnc 148) ∧ Fr (fun _ => False) w w' := by
 obtain ⟨q, hq⟩ := nm_ w.heap.size;obtain ⟨w1, hw1⟩ := nm_ (((((w.alloc (.cells #[.func (.func 123) #[] #[]] 127)).alloc (.cells #[.func (.func 126) #[] #[]] 209)).alloc (.cells #[.func (.func 148) #[] #[]] 231)).alloc (.cells #[Value.nilFunc, Value.nilFunc] 202)));have hf1 : Fr (fun _ => False) w w1 := by rw [← hw1]; exact (((((Fr.refl _ _).alloc _).alloc _).alloc _).alloc _)
 have hb0 : Row w1 (q) 127 [.func (.func 123) #[] #[]] := by rw [← hw1]; exact Row.alloc (Row.alloc (Row.alloc (new_row (w := w) (k := q) (by simp [← hq]) _ _) _) _) _
 have HB0 := hid hb0;have hb1 : Row w1 (q + 1) 209 [.func (.func 126) #[] #[]] := by rw [← hw1]; exact Row.alloc (Row.alloc (new_row (w := (w.alloc (.cells #[.func (.func 123) #[] #[]] 127))) (k := q + 1) (by simp [← hq]) _ _) _) _
 have HB1 := hid hb1;have hb2 : Row w1 (q + 1 + 1) 231 [.func (.func 148) #[] #[]] := by rw [← hw1]; exact Row.alloc (new_row (w := ((w.alloc (.cells #[.func (.func 123) #[] #[]] 127)).alloc (.cells #[.func (.func 126) #[] #[]] 209))) (k := q + 1 + 1) (by simp [← hq]) _ _) _
 have HB2 := hid hb2;have hk : Row w1 (q + 1 + 1 + 1) 202 [Value.nilFunc, Value.nilFunc] := by rw [← hw1]; exact new_row (w := (((w.alloc (.cells #[.func (.func 123) #[] #[]] 127)).alloc (.cells #[.func (.func 126) #[] #[]] 209)).alloc (.cells #[.func (.func 148) #[] #[]] 231))) (k := q + 1 + 1 + 1) (by simp [← hq]) _ _
 have HK := hid hk;have HF1 := hid hf1;have HQ := hid hq;clear hf1 hb0 hb1 hb2 hk;unfold kindc fnc fnc2;go_enter Tryz.func147, Tryz.ntmps147
 go_upto_region 1 with fail
 clear hw1 hq;go_wp2_with (refine store_st kSz rfl (.tmp 6) (.tmp 9) rfl (q + 1 + 1 + 1) (by rfl) [.func (.func 172) #[] #[.pointer (some ⟨q, 0, none⟩), .pointer (some ⟨q + 1 + 1, 0, none⟩)], .func (.func 173) #[] #[.pointer (some ⟨q + 1, 0, none⟩), .pointer (some ⟨q + 1 + 1, 0, none⟩)]] (by rfl) _ _ HK.out rfl rfl (kind_one _ _ _ _) ?_)
 intro w5 hr5 hf5;have HF5 : Hid (Fr (fun _ => False) w w5) := hid (HF1.out.trans hf5 (fun b hb h => by have h1 := HQ.out; omega));have d0 : w5.cell? ⟨q + 1 + 1 + 1, 0, none⟩ = some (.func (.func 172) #[] #[.pointer (some ⟨q, 0, none⟩), .pointer (some ⟨q + 1 + 1, 0, none⟩)]) := hr5.cell rfl;have d1 : w5.cell? ⟨q + 1 + 1 + 1, 1, none⟩ = some (.func (.func 173) #[] #[.pointer (some ⟨q + 1, 0, none⟩), .pointer (some ⟨q + 1 + 1, 0, none⟩)]) := hr5.cell rfl;clear hr5;go_wp2_with fail;exact bodyPost_ret (v := .agg #[.func (.func 172) #[] #[.pointer (some ⟨q, 0, none⟩), .pointer (some ⟨q + 1 + 1, 0, none⟩)], .func (.func 173) #[] #[.pointer (some ⟨q + 1, 0, none⟩), .pointer (some ⟨q + 1 + 1, 0, none⟩)]]) (by simp [results, Tryz.results147, go_sem, d0, d1]) rfl ⟨q, q + 1, q + 1 + 1, rfl, (hf5.cell (HB0.out.cell rfl) (fun h => by (try simp at h) <;> omega)), (hf5.cell (HB1.out.cell rfl) (fun h => by (try simp at h) <;> omega)), (hf5.cell (HB2.out.cell rfl) (fun h => by (try simp at h) <;> omega)), HF5.out⟩
theorem vnumS_any (w : World) : Calls Tryz.prog 149 #[fnc 122, fnc 150, fnc 151] w fun e w' => ∃ a b d : Nat, e = .returned (kindc (fnc2 174 a d) (fnc2 175 b d)) ∧ w'.cell? ⟨a, 0, none⟩ = some (fnc 122) ∧ w'.cell? ⟨b, 0, none⟩ = some (fnc 150) ∧ w'.cell? ⟨d, 0, none⟩ = some (fnc 151) ∧ Fr (fun _ => False) w w' := by
 obtain ⟨q, hq⟩ := nm_ w.heap.size;obtain ⟨w1, hw1⟩ := nm_ (((((w.alloc (.cells #[.func (.func 122) #[] #[]] 128)).alloc (.cells #[.func (.func 150) #[] #[]] 233)).alloc (.cells #[.func (.func 151) #[] #[]] 235)).alloc (.cells #[Value.nilFunc, Value.nilFunc] 202)));have hf1 : Fr (fun _ => False) w w1 := by rw [← hw1]; exact (((((Fr.refl _ _).alloc _).alloc _).alloc _).alloc _)
 have hb0 : Row w1 (q) 128 [.func (.func 122) #[] #[]] := by rw [← hw1]; exact Row.alloc (Row.alloc (Row.alloc (new_row (w := w) (k := q) (by simp [← hq]) _ _) _) _) _
 have HB0 := hid hb0;have hb1 : Row w1 (q + 1) 233 [.func (.func 150) #[] #[]] := by rw [← hw1]; exact Row.alloc (Row.alloc (new_row (w := (w.alloc (.cells #[.func (.func 122) #[] #[]] 128))) (k := q + 1) (by simp [← hq]) _ _) _) _
 have HB1 := hid hb1;have hb2 : Row w1 (q + 1 + 1) 235 [.func (.func 151) #[] #[]] := by rw [← hw1]; exact Row.alloc (new_row (w := ((w.alloc (.cells #[.func (.func 122) #[] #[]] 128)).alloc (.cells #[.func (.func 150) #[] #[]] 233))) (k := q + 1 + 1) (by simp [← hq]) _ _) _
 have HB2 := hid hb2;have hk : Row w1 (q + 1 + 1 + 1) 202 [Value.nilFunc, Value.nilFunc] := by rw [← hw1]; exact new_row (w := (((w.alloc (.cells #[.func (.func 122) #[] #[]] 128)).alloc (.cells #[.func (.func 150) #[] #[]] 233)).alloc (.cells #[.func (.func 151) #[] #[]] 235))) (k := q + 1 + 1 + 1) (by simp [← hq]) _ _
 have HK := hid hk;have HF1 := hid hf1;have HQ := hid hq;clear hf1 hb0 hb1 hb2 hk;unfold kindc fnc fnc2;go_enter Tryz.func149, Tryz.ntmps149
 go_upto_region 1 with fail
 clear hw1 hq;go_wp2_with (refine store_st kSz rfl (.tmp 6) (.tmp 9) rfl (q + 1 + 1 + 1) (by rfl) [.func (.func 174) #[] #[.pointer (some ⟨q, 0, none⟩), .pointer (some ⟨q + 1 + 1, 0, none⟩)], .func (.func 175) #[] #[.pointer (some ⟨q + 1, 0, none⟩), .pointer (some ⟨q + 1 + 1, 0, none⟩)]] (by rfl) _ _ HK.out rfl rfl (kind_one _ _ _ _) ?_)
 intro w5 hr5 hf5;have HF5 : Hid (Fr (fun _ => False) w w5) := hid (HF1.out.trans hf5 (fun b hb h => by have h1 := HQ.out; omega));have d0 : w5.cell? ⟨q + 1 + 1 + 1, 0, none⟩ = some (.func (.func 174) #[] #[.pointer (some ⟨q, 0, none⟩), .pointer (some ⟨q + 1 + 1, 0, none⟩)]) := hr5.cell rfl;have d1 : w5.cell? ⟨q + 1 + 1 + 1, 1, none⟩ = some (.func (.func 175) #[] #[.pointer (some ⟨q + 1, 0, none⟩), .pointer (some ⟨q + 1 + 1, 0, none⟩)]) := hr5.cell rfl;clear hr5;go_wp2_with fail;exact bodyPost_ret (v := .agg #[.func (.func 174) #[] #[.pointer (some ⟨q, 0, none⟩), .pointer (some ⟨q + 1 + 1, 0, none⟩)], .func (.func 175) #[] #[.pointer (some ⟨q + 1, 0, none⟩), .pointer (some ⟨q + 1 + 1, 0, none⟩)]]) (by simp [results, Tryz.results149, go_sem, d0, d1]) rfl ⟨q, q + 1, q + 1 + 1, rfl, (hf5.cell (HB0.out.cell rfl) (fun h => by (try simp at h) <;> omega)), (hf5.cell (HB1.out.cell rfl) (fun h => by (try simp at h) <;> omega)), (hf5.cell (HB2.out.cell rfl) (fun h => by (try simp at h) <;> omega)), HF5.out⟩
theorem vtextT_any (w : World) : Calls Tryz.prog 152 #[fnc 153] w fun e w' => ∃ a : Nat, e = .returned (kindc (fnc 177) (fnc1 178 a)) ∧ w'.cell? ⟨a, 0, none⟩ = some (fnc 153) ∧ Fr (fun _ => False) w w' := by
 obtain ⟨q, hq⟩ := nm_ w.heap.size;obtain ⟨w1, hw1⟩ := nm_ (((w.alloc (.cells #[.func (.func 153) #[] #[]] 157)).alloc (.cells #[Value.nilFunc, Value.nilFunc] 202)));have hf1 : Fr (fun _ => False) w w1 := by rw [← hw1]; exact (((Fr.refl _ _).alloc _).alloc _)
 have hb0 : Row w1 (q) 157 [.func (.func 153) #[] #[]] := by rw [← hw1]; exact Row.alloc (new_row (w := w) (k := q) (by simp [← hq]) _ _) _
 have HB0 := hid hb0;have hk : Row w1 (q + 1) 202 [Value.nilFunc, Value.nilFunc] := by rw [← hw1]; exact new_row (w := (w.alloc (.cells #[.func (.func 153) #[] #[]] 157))) (k := q + 1) (by simp [← hq]) _ _
 have HK := hid hk;have HF1 := hid hf1;have HQ := hid hq;clear hf1 hb0 hk;unfold kindc fnc fnc1;go_enter Tryz.func152, Tryz.ntmps152
 go_upto_region 1 with fail
 clear hw1 hq;go_wp2_with (refine store_st kSz rfl (.tmp 2) (.tmp 4) rfl (q + 1) (by rfl) [.func (.func 177) #[] #[], .func (.func 178) #[] #[.pointer (some ⟨q, 0, none⟩)]] (by rfl) _ _ HK.out rfl rfl (kind_one _ _ _ _) ?_)
 intro w5 hr5 hf5;have HF5 : Hid (Fr (fun _ => False) w w5) := hid (HF1.out.trans hf5 (fun b hb h => by have h1 := HQ.out; omega));have d0 : w5.cell? ⟨q + 1, 0, none⟩ = some (.func (.func 177) #[] #[]) := hr5.cell rfl;have d1 : w5.cell? ⟨q + 1, 1, none⟩ = some (.func (.func 178) #[] #[.pointer (some ⟨q, 0, none⟩)]) := hr5.cell rfl;clear hr5;go_wp2_with fail;exact bodyPost_ret (v := .agg #[.func (.func 177) #[] #[], .func (.func 178) #[] #[.pointer (some ⟨q, 0, none⟩)]]) (by simp [results, Tryz.results152, go_sem, d0, d1]) rfl ⟨q, rfl, (hf5.cell (HB0.out.cell rfl) (fun h => by (try simp at h) <;> omega)), HF5.out⟩
theorem vtextB_any (w : World) : Calls Tryz.prog 152 #[fnc 154] w fun e w' => ∃ a : Nat, e = .returned (kindc (fnc 177) (fnc1 178 a)) ∧ w'.cell? ⟨a, 0, none⟩ = some (fnc 154) ∧ Fr (fun _ => False) w w' := by
 obtain ⟨q, hq⟩ := nm_ w.heap.size;obtain ⟨w1, hw1⟩ := nm_ (((w.alloc (.cells #[.func (.func 154) #[] #[]] 157)).alloc (.cells #[Value.nilFunc, Value.nilFunc] 202)));have hf1 : Fr (fun _ => False) w w1 := by rw [← hw1]; exact (((Fr.refl _ _).alloc _).alloc _)
 have hb0 : Row w1 (q) 157 [.func (.func 154) #[] #[]] := by rw [← hw1]; exact Row.alloc (new_row (w := w) (k := q) (by simp [← hq]) _ _) _
 have HB0 := hid hb0;have hk : Row w1 (q + 1) 202 [Value.nilFunc, Value.nilFunc] := by rw [← hw1]; exact new_row (w := (w.alloc (.cells #[.func (.func 154) #[] #[]] 157))) (k := q + 1) (by simp [← hq]) _ _
 have HK := hid hk;have HF1 := hid hf1;have HQ := hid hq;clear hf1 hb0 hk;unfold kindc fnc fnc1;go_enter Tryz.func152, Tryz.ntmps152
 go_upto_region 1 with fail
 clear hw1 hq;go_wp2_with (refine store_st kSz rfl (.tmp 2) (.tmp 4) rfl (q + 1) (by rfl) [.func (.func 177) #[] #[], .func (.func 178) #[] #[.pointer (some ⟨q, 0, none⟩)]] (by rfl) _ _ HK.out rfl rfl (kind_one _ _ _ _) ?_)
 intro w5 hr5 hf5;have HF5 : Hid (Fr (fun _ => False) w w5) := hid (HF1.out.trans hf5 (fun b hb h => by have h1 := HQ.out; omega));have d0 : w5.cell? ⟨q + 1, 0, none⟩ = some (.func (.func 177) #[] #[]) := hr5.cell rfl;have d1 : w5.cell? ⟨q + 1, 1, none⟩ = some (.func (.func 178) #[] #[.pointer (some ⟨q, 0, none⟩)]) := hr5.cell rfl;clear hr5;go_wp2_with fail;exact bodyPost_ret (v := .agg #[.func (.func 177) #[] #[], .func (.func 178) #[] #[.pointer (some ⟨q, 0, none⟩)]]) (by simp [results, Tryz.results152, go_sem, d0, d1]) rfl ⟨q, rfl, (hf5.cell (HB0.out.cell rfl) (fun h => by (try simp at h) <;> omega)), HF5.out⟩
end
end Go.Proofs.YtbabgnadgdidmaaGreat
