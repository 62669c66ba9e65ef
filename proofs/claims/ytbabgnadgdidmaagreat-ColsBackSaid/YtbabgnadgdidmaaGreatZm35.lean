import Derived.Test.YtbabgnadgdidmaaGreatZm00
import Derived.Test.YtbabgnadgdidmaaGreatZm34
import Derived.Test.YtbabgnadgdidmaaGreatZm30
set_option linter.unusedVariables false
set_option maxRecDepth 100000
set_option maxHeartbeats 12800000
namespace Go.Proofs.YtbabgnadgdidmaaGreat
section
open Go.RowKit Mem Go.Lib RleM LebM
attribute [local go_sem ↓] Go.wp_at_zero Go.wp_at_succ
theorem dPut_any (A : Option Addr) (n c : Nat) (L : List (Bool × Int)) (w : World) (hL : Cls nv w A n L) (hn : n ≤ 100000) (hm : ∀ x ∈ L, mayS x) :
    Calls Tryz.prog 52 #[.slice A n c] w (Gives w (tellW kS (gatherG (stepsF 0 L)))) := by
 have HD := hid (diff_any A n c L w hL (by omega) hm);obtain ⟨R, hR⟩ : ∃ R, R = stepsF 0 L := ⟨_, rfl⟩
 have hmr : ∀ x ∈ R, mayS x := by rw [hR]; exact steps_may 0 L hm
 have hrl : R.length = n := by rw [hR, steps_len]; exact hL.1
 have hd := HD.out;rw [← hR] at hd ⊢;replace HD := hid hd;have HMR := hid hmr;have HRL := hid hrl;clear hL hR hmr hm hd hrl;go_enter Tryz.func52, Tryz.ntmps52;go_wp2_with fail;refine HD.out.mono ?_;rintro e w3 ⟨A3, c3, rfl, hO3, hf3⟩;have HC : Hid (Cls nv w3 A3 n R) := hid (by have h := hO3.cls; rw [HRL.out] at h; exact h);have HF3 := hid hf3;clear hO3 hf3 HD;go_wp2_with fail;refine (pPutS_any A3 n c3 R w3 HC.out (by omega) (fun x hx => (HMR.out x hx).2)).mono ?_;rintro e w4 ⟨A4, c4, rfl, hO4, hf4⟩;have HO4 := hid (hO4.base HF3.out.size);have HF4 := hid (HF3.out.trans hf4 im_);clear hO4 hf4;go_wp2_with fail;go_ret;exact ⟨A4, c4, rfl, HO4.out, HF4.out⟩
theorem dGet_any (A : Option Addr) (m c : Nat) (B : List UInt8) (most : Int) (w0 : World) (hr : Rd w0 A m (B.map bytec)) (hc : m ≤ c) (hn : m ≤ 1000000) (hm0 : -9223372036854775808 ≤ most) (hm1 : most ≤ 100000) :
    Calls Tryz.prog 67 #[.slice A m c, .int .i64 most] w0 fun e w' =>
     ∃ A' c', e = .returned (.tuple #[.slice A' (sumsF 0 (toC (readG kS most B)).1).length c', .int .i64 ((toC (readG kS most B)).2 : Nat)]) ∧ OwnC nv 78 w' w0.heap.size A' c' (sumsF 0 (toC (readG kS most B)).1) ∧ Fr (fun _ => False) w0 w' := by
 have hg := pGetS_any A m c B most w0 hr hc hn hm0 (by omega);have hcase : (∃ xs, toC (readG kS most B) = (xs, 0) ∧ xs.length ≤ 1000000 ∧ ∀ x ∈ xs, mayS x) ∨ ∃ e, e ≠ 0 ∧ toC (readG kS most B) = ([], e) := by
  have hBl : B.length ≤ 1000000 := by have := hr.1; simp at this; omega
  cases h : readG kS most B with
  | ok g => obtain ⟨_, h2, h3⟩ := read_ok goodM (by omega) hBl h; exact .inl ⟨spreadG g, rfl, h3, h2⟩
  | error e => exact .inr ⟨e, read_err h, rfl⟩
 obtain ⟨X, hX⟩ : ∃ X, X = toC (readG kS most B) := ⟨_, rfl⟩
 rw [← hX] at hg hcase ⊢;have HG0 := hid hg;clear hg hX hr;rcases hcase with ⟨L, rfl, hxl, hml⟩ | ⟨er, her, rfl⟩
 · obtain ⟨n, hnn⟩ : ∃ n, n = L.length := ⟨_, rfl⟩
   have hg := HG0.out;simp only at hg;rw [← hnn] at hg;replace HG0 := hid hg;have HNN := hid hnn;have HML := hid hml;simp only;rw [sums_len, ← hnn];have hn1 : n ≤ 1000000 := by omega
   clear hg hnn hxl hml;go_enter Tryz.func67, Tryz.ntmps67;go_wp2_with fail;refine HG0.out.mono ?_;rintro e w ⟨A2, c2, rfl, hO2, hf2⟩;have HL : Hid (Cls nv w A2 n L) := hid (by have h := hO2.cls; rw [← HNN.out] at h; exact h);have HFA := hid hf2;clear hO2 hf2 HG0;go_wp2_with fail;refine (sums_any A2 n c2 L w HL.out hn1 HML.out).mono ?_;rintro e w3 ⟨A3, c3, rfl, hO3, hf3⟩;have HO3 := hid (hO3.base HFA.out.size);have HF3 := hid (HFA.out.trans hf3 im_);clear hO3 hf3;go_wp2_with fail;exact bodyPost_ret (v := .tuple #[.slice A3 n c3, .int .i64 0]) (by simp [results, Tryz.results67, go_sem]) rfl ⟨A3, c3, rfl, HO3.out, HF3.out⟩
 · have te : ((er : Int) != 0) = true := by simp; omega
   have te' : (er != 0) = true := by simp; omega
   have HGE := hid HG0.out;clear her HG0;go_enter Tryz.func67, Tryz.ntmps67;go_wp2_with fail;refine HGE.out.mono ?_;rintro e w ⟨A2, c2, rfl, hO2, hf2⟩;have HFA := hid hf2;clear hO2 hf2 HGE;go_wp2_with fail;refine bodyPost_ret (v := .tuple #[.slice none 0 0, .int .i64 (er : Nat)]) (by simp [results, Tryz.results67, go_sem]) rfl ?_;exact ⟨none, 0, rfl, OwnC.nil _ _ _, HFA.out⟩
end
section
open Go.RowKit Mem Go.Lib BooM
attribute [local go_sem ↓] Go.wp_at_zero Go.wp_at_succ
theorem index_any (A : Option Addr) (n c : Nat) (N : List Nat) (z : Nat) (w : World) (hL : Rd w A n (N.map numc)) (hn : n ≤ 1000000) :
    Calls Tryz.prog 166 #[.slice A n c, .int .u64 (z : Int)] w fun e w' => ∃ r : Int, e = .returned (.int .i64 r) ∧ (0 ≤ r ↔ z ∈ N) ∧ Fr (fun _ => False) w w' := by
 have HL := hid hL;have hln : N.length = n := by simpa using hL.1
 have HLN := hid hln;clear hL hln;go_enter Tryz.func166, Tryz.ntmps166;go_wp2_with fail
 go_loopw [8] (fun v wr => ∃ j : Nat, j ≤ n ∧ v = .int .i64 (j : Int) ∧ Hid (¬ z ∈ N.take j) ∧ Hid (Fr (fun _ => False) w wr)) (fun v _ => n - (intOf v).toNat)
 case atStart => exact ⟨0, Nat.zero_le _, rfl, by rw [List.take_zero]; exact List.not_mem_nil, Fr.refl _ _⟩
 case round =>
  obtain ⟨j, hj, rfl, HS, HF⟩ := hrel
  rename World => wr
  by_cases hlt : j < n
  · obtain ⟨ad, v, rfl, hv, hcell⟩ := (HL.out.fr HF.out (fun _ _ h => h)).at_ hlt;obtain ⟨x, hx⟩ : ∃ x, N[j]? = some x := ⟨N[j]'(by have := HLN.out; omega), List.getElem?_eq_getElem _⟩
    obtain rfl : numc x = v := by simpa [hx] using hv
    unfold numc at hcell;have HX := hid hx;clear hv hx;by_cases hxy : z = x
    · subst hxy;go_wp2_with fail;go_ret;exact ⟨(j : Int), rfl, ⟨fun _ => List.mem_of_getElem? HX.out, fun _ => by omega⟩, HF.out⟩
    · have t1 : ((z : Int) == (x : Int)) = false := by simp; omega
      have t1' : (z == x) = false := by simp; omega
      have hs2 : ¬ z ∈ N.take (j + 1) := by
       rw [List.take_add_one, HX.out];intro h;rcases List.mem_append.1 h with h | h
       · exact HS.out h
       · simp at h; omega
      have HS2 := hid hs2;clear hs2;go_wp2_with fail;exact ⟨⟨j + 1, by omega, by go_num, HS2.out, HF.out⟩, by simp [intOf]; omega⟩
  · obtain rfl : j = n := by omega
    have h := HS.out;rw [List.take_of_length_le (by have := HLN.out; omega)] at h;have HS2 := hid h;clear h;go_wp2_with fail;go_ret;exact ⟨-1, rfl, ⟨fun h => by omega, fun h => absurd h HS2.out⟩, HF.out⟩
theorem contains_any (A : Option Addr) (n c : Nat) (N : List Nat) (z : Nat) (w : World) (hL : Rd w A n (N.map numc)) (hn : n ≤ 1000000) :
    Calls Tryz.prog 138 #[.slice A n c, .int .u64 (z : Int)] w fun e w' => e = .returned (.bool (decide (z ∈ N))) ∧ Fr (fun _ => False) w w' := by
 have HI := hid (index_any A n c N z w hL hn);clear hL;go_enter Tryz.func138, Tryz.ntmps138;go_wp2_with fail;refine HI.out.mono ?_;rintro e w2 ⟨r, rfl, hr, hf⟩;have HR := hid hr;have HF := hid hf;clear hr hf;go_wp2_with fail;go_ret;exact ⟨congrArg (fun q => Ending.returned (.bool q)) (decide_eq_decide.2 HR.out), HF.out⟩
open Classical in
theorem right_any (A : Option Addr) (n c : Nat) (N : List Nat) (w : World) (hL : Rd w A n (N.map numc)) (hc : n ≤ c) (hn : n ≤ 1000000) :
    Calls Tryz.prog 108 #[.slice A n c] w fun e w' => e = .returned (.bool (decide (rightB N))) ∧ Fr (fun _ => False) w w' := by
 have hln : N.length = n := by simpa using hL.1
 by_cases h0 : n = 0
 · have hr : decide (rightB N) = true := decide_eq_true (.inl (List.length_eq_zero_iff.1 (by omega)));have HR := hid hr;subst h0;clear hL hln hr;go_enter Tryz.func108, Tryz.ntmps108;go_wp2_with fail;go_ret;exact ⟨by rw [HR.out]; rfl, Fr.refl _ _⟩
 by_cases h1 : n = 1
 · have hr : decide (rightB N) = false := decide_eq_false (by
    rintro (h | ⟨h, _⟩)
    · subst h; simp at hln; omega
    · omega)
   have HR := hid hr;subst h1;clear hL hln hr;go_enter Tryz.func108, Tryz.ntmps108;go_wp2_with fail;go_ret;exact ⟨by rw [HR.out]; rfl, Fr.refl _ _⟩
 have hcut := hL.cut (k := 1) (m := n) (cap := c) (by omega) (Nat.le_refl _) hc;have he : ((N.map numc).take n).drop 1 = N.tail.map numc := by
  rw [List.take_of_length_le (by simp; omega), ← List.map_drop, List.drop_one]
 rw [he, if_neg (by omega)] at hcut;have hcut : Rd w (Option.map (fun x => { block := x.block, off := x.off + 1 }) A) (n - 1) (N.tail.map numc) := hcut;have hC := contains_any _ (n - 1) (c - 1) N.tail 0 w hcut (by omega);have hr : decide (rightB N) = !decide (0 ∈ N.tail) := by
  by_cases h : 0 ∈ N.tail
  · rw [decide_eq_true h];exact decide_eq_false (by
     rintro (h' | ⟨_, h'⟩)
     · subst h'; simp at hln; omega
     · exact h' 0 h rfl)
  · rw [decide_eq_false h];exact decide_eq_true (.inr ⟨by omega, fun n hn e => h (e ▸ hn)⟩)
 have HC := hid hC;have HR := hid hr;have t0 : ((n : Int) == 0) = false := by simp; omega
 have t1 : ((n : Int) == 1) = false := by simp; omega
 have t0' : (n == 0) = false := by simp; omega
 have t1' : (n == 1) = false := by simp; omega
 clear hL hcut he hC hr hln;go_enter Tryz.func108, Tryz.ntmps108;go_wp2_with fail;refine HC.out.mono ?_;rintro e w2 ⟨rfl, hf⟩;have HF := hid hf;clear hf;go_wp2_with fail;go_ret;exact ⟨by rw [HR.out]; rfl, HF.out⟩
end
end Go.Proofs.YtbabgnadgdidmaaGreat
