import Derived.Test.YtbabgnadgdidmaaGreatZm30
import Derived.Test.YtbabgnadgdidmaaGreatZm18
import Derived.Test.YtbabgnadgdidmaaGreatZm00
import Derived.Test.YtbabgnadgdidmaaGreatZm29
import Derived.Deep.DeepCutAuto
import Derived.Deep.CutRange
set_option linter.unusedVariables false
set_option maxRecDepth 100000
set_option maxHeartbeats 12800000
namespace Go.Proofs.YtbabgnadgdidmaaGreat
section
open Go.RowKit Mem Go.Lib RleM LebM
attribute [local go_sem ↓] Go.wp_at_zero Go.wp_at_succ
end
section
open Go.RowKit Mem Go.Lib RleM LebM
attribute [local go_sem ↓] Go.wp_at_zero Go.wp_at_succ
theorem diff_any (A : Option Addr) (n c : Nat) (L : List (Bool × Int)) (w : World) (hL : Cls nv w A n L) (hn : n ≤ 1000000) (hm : ∀ x ∈ L, mayS x) :
    Calls Tryz.prog 95 #[.slice A n c] w fun e w' => ∃ A' c', e = .returned (.slice A' n c') ∧ OwnC nv 78 w' w.heap.size A' c' (stepsF 0 L) ∧ Fr (fun _ => False) w w' := by
 have HL := hid hL;have HLN := hid hL.1;have HM := hid hm;have hmk := mkZ n (by omega) w;clear hL hm;go_enter Tryz.func95, Tryz.ntmps95;go_wp2_with fail;obtain ⟨w0, hw0⟩ := nm_ (w.alloc (.cells (clD (List.replicate n (false, 0))).toArray 78));rw [hw0];obtain ⟨gd, hgd⟩ := nm_ w.heap.size;rw [hgd];have HF0 : Hid (Fr (fun _ => False) w w0) := hid (by rw [← hw0]; exact (Fr.refl _ _).alloc _);have HR0 : Hid (Row w0 gd 78 (clD (fillC (stepsF 0 (L.take 0)) n))) := hid (by rw [← hw0, ← hgd, List.take_zero]; exact Row.new w _ _);have HGD := hid hgd;clear hw0 hgd hmk
 go_loopw [4, 12] (fun la v wr => ∃ (k : Nat), k ≤ n ∧ v = .int .i64 (k : Int) ∧ la = .int .i64 (lastF 0 (L.take k)) ∧ Hid (Row wr gd 78 (clD (fillC (stepsF 0 (L.take k)) n))) ∧ Hid (Fr (fun _ => False) w wr)) (fun _ v _ => n - (intOf v).toNat)
 case atStart => exact ⟨0, Nat.zero_le _, rfl, rfl, HR0.out, HF0.out⟩
 case round =>
  obtain ⟨k, hk, rfl, rfl, HR, HF⟩ := hrel
  rename World => wr
  by_cases hlt : k < n
  · obtain ⟨t, ht⟩ : ∃ t, L[k]? = some t := ⟨_, List.getElem?_eq_getElem (by have := HLN.out; omega)⟩
    obtain ⟨g, o, hA0, hg, h1, h2⟩ := (HL.out.fr HF.out (fun _ _ => id)).2 k t ht;subst hA0;have hmt := HM.out t (List.mem_of_getElem? ht);obtain ⟨i, x⟩ := t;simp only [nv] at h1 h2;have hlast := (steps_take 0 L k _ ht).2;have hstep := (steps_take 0 L k _ ht).1;obtain ⟨p, hp⟩ : ∃ p, p = lastF 0 (L.take k) := ⟨_, rfl⟩
    rw [← hp] at hlast hstep ⊢;obtain ⟨F, hF⟩ : ∃ F, F = stepsF 0 (L.take k) := ⟨_, rfl⟩
    have hFl : F.length = k := by rw [hF, steps_len, List.length_take]; have := HLN.out; omega
    rw [← hF] at hstep;have hR := HR.out;rw [← hF] at hR;have hfa := fill_at F n (by omega);rw [hFl] at hfa;have hla : (fillC F n).length = n := fill_len F n (by omega);have HFL := hid hFl;have HFA := hid (cl_at _ _ _ hfa);have HMT := hid hmt;have HSTEP := hid hstep;obtain ⟨X, hX⟩ : ∃ X, X = clD (fillC F n) := ⟨_, rfl⟩
    rw [← hX] at hR;replace HR := hid hR;have HX := hid hX;clear ht hp hF hFl hR hfa hla hmt hstep hX
    go_upto_region 6 with fail
    obtain ⟨w1, hw1⟩ := nm_ (wr.alloc (.cells #[.bool i, .int .i64 x] 78));rw [hw1];obtain ⟨g1, hg1'⟩ : ∃ g, wr.heap.size = g := ⟨_, rfl⟩
    rw [hg1'];have hf1 : Fr (fun _ => False) wr w1 := by rw [← hw1]; exact (Fr.refl _ _).alloc _
    have hg1 : Row w1 g1 78 [.bool i, .int .i64 x] := by rw [← hw1, ← hg1']; exact Row.new wr _ _
    have hgg : gd < g1 := by rw [← hg1']; exact HR.out.lt
    have hr1 : Row w1 gd 78 X := HR.out.fr hf1 (fun h => h);have HR1 := hid hr1;have HF1 := hid (HF.out.trans hf1 im_);have a0 : w1.cell? ⟨g1, 0, none⟩ = some (.bool i) := hg1.cell rfl;have a1 : w1.cell? ⟨g1, 1, none⟩ = some (.int .i64 x) := hg1.cell rfl;clear h1 h2 hw1 hg1' hf1 hg1 hr1;cases i with
    | false =>
     rw [if_neg (by simp)] at hlast;have hx0 : x = 0 := HMT.out.1 rfl;have HLAST := hid hlast;have hrn : Row w1 gd 78 (clD (fillC (stepsF 0 (L.take (k + 1))) n)) := by
      rw [HSTEP.out];show Row w1 gd _ (clD (fillC (F ++ [(false, x)]) n));rw [hx0, fill_zero F n (by have := HFL.out; omega), ← HX.out];exact HR1.out
     have HRN := hid hrn;clear hrn hx0 hlast;go_wp2_with fail;exact ⟨⟨k + 1, by omega, by go_num, by rw [HLAST.out], HRN.out, HF1.out⟩, by simp [intOf]; omega⟩
    | true =>
     rw [if_pos rfl] at hlast;obtain ⟨d, hd⟩ : ∃ d, d = IntKind.i64.wrap (x - p) := ⟨_, rfl⟩
     have rd : IntKind.i64.wrap (x - p) = d := hd.symm;have HLAST := hid hlast;obtain ⟨w2, hw2⟩ : ∃ w2, (w1.setCell ⟨gd, k * 2, none⟩ (.bool true)).setCell ⟨gd, k * 2 + 1, none⟩ (.int .i64 d) = w2 := ⟨_, rfl⟩
     have hr2 : Row w2 gd 78 (clD (fillC (stepsF 0 (L.take (k + 1))) n)) := by
      rw [← hw2];have h := (HR1.out.set (k * 2) (.bool true)).set (k * 2 + 1) (.int .i64 d);rw [HX.out] at h;rw [HSTEP.out];show Row _ gd _ (clD (fillC (F ++ [(true, IntKind.i64.wrap (x - p))]) n));rw [rd, ← fill_set F n _ (by have := HFL.out; omega), HFL.out, ← cl_set];exact h
     have hf2 : Fr (fun _ => False) w w2 := by
      rw [← hw2];have hb : w.heap.size ≤ gd := by rw [HGD.out]; exact Nat.le_refl _
      exact (HF1.out.setCell (fun h => by have h3 : gd < w.heap.size := h; omega) _).setCell (fun h => by have h3 : gd < w.heap.size := h; omega) _
     have c0 : w1.cell? ⟨gd, k * 2, none⟩ = some (.bool false) := by have h := HR1.out; rw [HX.out] at h; exact h.cell HFA.out.1
     have c1 : w1.cell? ⟨gd, k * 2 + 1, none⟩ = some (.int .i64 0) := by have h := HR1.out; rw [HX.out] at h; exact h.cell HFA.out.2
     have z0 : w1.frozen? ⟨gd, k * 2, none⟩ = false := HR1.out.free _;have z1 : w1.frozen? ⟨gd, k * 2 + 1, none⟩ = false := HR1.out.free _;have hne : ¬ gd = g1 := by omega
     have hne' : ¬ g1 = gd := by omega
     have b1 : w2.cell? ⟨g1, 1, none⟩ = some (.int .i64 x) := by rw [← hw2]; exact ((Fr.set1 _ gd _ _).cell ((Fr.set1 _ gd _ _).cell a1 hne') hne')
     have HR2 := hid hr2;have HF2 := hid hf2;clear hd hlast hr2 hf2
     go_upto_region 8 with fail
     clear c0 c1 z0 z1 a0 a1 hw2;go_wp2_with fail;exact ⟨⟨k + 1, by omega, by go_num, by rw [HLAST.out], HR2.out, HF2.out⟩, by simp [intOf]; omega⟩
  · obtain rfl : k = n := by omega
    have hrn := HR.out;rw [List.take_of_length_le (by have := HLN.out; omega)] at hrn;have hlf : (stepsF 0 L).length = k := by rw [steps_len]; exact HLN.out
    have hown : OwnC nv 78 wr w.heap.size (some ⟨gd, 0, none⟩) k (stepsF 0 L) := by
     rw [← hlf, fill_full] at hrn;exact own_row hlf hrn (by have := HGD.out; omega) (by unfold maxLen; omega)
    have HO := hid hown;clear hown hrn hlf;go_wp2_with fail;go_ret;exact ⟨_, _, rfl, HO.out, HF.out⟩
theorem sums_any (A : Option Addr) (n c : Nat) (L : List (Bool × Int)) (w : World) (hL : Cls nv w A n L) (hn : n ≤ 1000000) (hm : ∀ x ∈ L, mayS x) :
    Calls Tryz.prog 105 #[.slice A n c] w fun e w' => ∃ A' c', e = .returned (.slice A' n c') ∧ OwnC nv 78 w' w.heap.size A' c' (sumsF 0 L) ∧ Fr (fun _ => False) w w' := by
 have HL := hid hL;have HLN := hid hL.1;have HM := hid hm;have hmk := mkZ n (by omega) w;clear hL hm;go_enter Tryz.func105, Tryz.ntmps105;go_wp2_with fail;obtain ⟨w0, hw0⟩ := nm_ (w.alloc (.cells (clD (List.replicate n (false, 0))).toArray 78));rw [hw0];obtain ⟨gd, hgd⟩ := nm_ w.heap.size;rw [hgd];have HF0 : Hid (Fr (fun _ => False) w w0) := hid (by rw [← hw0]; exact (Fr.refl _ _).alloc _);have HR0 : Hid (Row w0 gd 78 (clD (fillC (sumsF 0 (L.take 0)) n))) := hid (by rw [← hw0, ← hgd, List.take_zero]; exact Row.new w _ _);have HGD := hid hgd;clear hw0 hgd hmk
 go_loopw [4, 12] (fun la v wr => ∃ (k : Nat), k ≤ n ∧ v = .int .i64 (k : Int) ∧ la = .int .i64 (lastS 0 (L.take k)) ∧ Hid (Row wr gd 78 (clD (fillC (sumsF 0 (L.take k)) n))) ∧ Hid (Fr (fun _ => False) w wr)) (fun _ v _ => n - (intOf v).toNat)
 case atStart => exact ⟨0, Nat.zero_le _, rfl, rfl, HR0.out, HF0.out⟩
 case round =>
  obtain ⟨k, hk, rfl, rfl, HR, HF⟩ := hrel
  rename World => wr
  by_cases hlt : k < n
  · obtain ⟨t, ht⟩ : ∃ t, L[k]? = some t := ⟨_, List.getElem?_eq_getElem (by have := HLN.out; omega)⟩
    obtain ⟨g, o, hA0, hg, h1, h2⟩ := (HL.out.fr HF.out (fun _ _ => id)).2 k t ht;subst hA0;have hmt := HM.out t (List.mem_of_getElem? ht);obtain ⟨i, x⟩ := t;simp only [nv] at h1 h2;have hlast := (sums_take 0 L k _ ht).2;have hstep := (sums_take 0 L k _ ht).1;obtain ⟨p, hp⟩ : ∃ p, p = lastS 0 (L.take k) := ⟨_, rfl⟩
    rw [← hp] at hlast hstep ⊢;obtain ⟨F, hF⟩ : ∃ F, F = sumsF 0 (L.take k) := ⟨_, rfl⟩
    have hFl : F.length = k := by rw [hF, sums_len, List.length_take]; have := HLN.out; omega
    rw [← hF] at hstep;have hR := HR.out;rw [← hF] at hR;have hfa := fill_at F n (by omega);rw [hFl] at hfa;have hla : (fillC F n).length = n := fill_len F n (by omega);have HFL := hid hFl;have HFA := hid (cl_at _ _ _ hfa);have HMT := hid hmt;have HSTEP := hid hstep;obtain ⟨X, hX⟩ : ∃ X, X = clD (fillC F n) := ⟨_, rfl⟩
    rw [← hX] at hR;replace HR := hid hR;have HX := hid hX;clear ht hp hF hFl hR hfa hla hmt hstep hX
    go_upto_region 6 with fail
    obtain ⟨w1, hw1⟩ := nm_ (wr.alloc (.cells #[.bool i, .int .i64 x] 78));rw [hw1];obtain ⟨g1, hg1'⟩ : ∃ g, wr.heap.size = g := ⟨_, rfl⟩
    rw [hg1'];have hf1 : Fr (fun _ => False) wr w1 := by rw [← hw1]; exact (Fr.refl _ _).alloc _
    have hg1 : Row w1 g1 78 [.bool i, .int .i64 x] := by rw [← hw1, ← hg1']; exact Row.new wr _ _
    have hgg : gd < g1 := by rw [← hg1']; exact HR.out.lt
    have hr1 : Row w1 gd 78 X := HR.out.fr hf1 (fun h => h);have HR1 := hid hr1;have HF1 := hid (HF.out.trans hf1 im_);have a0 : w1.cell? ⟨g1, 0, none⟩ = some (.bool i) := hg1.cell rfl;have a1 : w1.cell? ⟨g1, 1, none⟩ = some (.int .i64 x) := hg1.cell rfl;clear h1 h2 hw1 hg1' hf1 hg1 hr1;cases i with
    | false =>
     rw [if_neg (by simp)] at hlast;have hx0 : x = 0 := HMT.out.1 rfl;have HLAST := hid hlast;have hrn : Row w1 gd 78 (clD (fillC (sumsF 0 (L.take (k + 1))) n)) := by
      rw [HSTEP.out];show Row w1 gd _ (clD (fillC (F ++ [(false, x)]) n));rw [hx0, fill_zero F n (by have := HFL.out; omega), ← HX.out];exact HR1.out
     have HRN := hid hrn;clear hrn hx0 hlast;go_wp2_with fail;exact ⟨⟨k + 1, by omega, by go_num, by rw [HLAST.out], HRN.out, HF1.out⟩, by simp [intOf]; omega⟩
    | true =>
     rw [if_pos rfl] at hlast;obtain ⟨d, hd⟩ : ∃ d, d = IntKind.i64.wrap (p + x) := ⟨_, rfl⟩
     have rd : IntKind.i64.wrap (p + x) = d := hd.symm;rw [rd] at hlast;have HLAST := hid hlast;obtain ⟨w2, hw2⟩ : ∃ w2, (w1.setCell ⟨gd, k * 2, none⟩ (.bool true)).setCell ⟨gd, k * 2 + 1, none⟩ (.int .i64 d) = w2 := ⟨_, rfl⟩
     have hr2 : Row w2 gd 78 (clD (fillC (sumsF 0 (L.take (k + 1))) n)) := by
      rw [← hw2];have h := (HR1.out.set (k * 2) (.bool true)).set (k * 2 + 1) (.int .i64 d);rw [HX.out] at h;rw [HSTEP.out];show Row _ gd _ (clD (fillC (F ++ [(true, IntKind.i64.wrap (p + x))]) n));rw [rd, ← fill_set F n _ (by have := HFL.out; omega), HFL.out, ← cl_set];exact h
     have hf2 : Fr (fun _ => False) w w2 := by
      rw [← hw2];have hb : w.heap.size ≤ gd := by rw [HGD.out]; exact Nat.le_refl _
      exact (HF1.out.setCell (fun h => by have h3 : gd < w.heap.size := h; omega) _).setCell (fun h => by have h3 : gd < w.heap.size := h; omega) _
     have c0 : w1.cell? ⟨gd, k * 2, none⟩ = some (.bool false) := by have h := HR1.out; rw [HX.out] at h; exact h.cell HFA.out.1
     have c1 : w1.cell? ⟨gd, k * 2 + 1, none⟩ = some (.int .i64 0) := by have h := HR1.out; rw [HX.out] at h; exact h.cell HFA.out.2
     have z0 : w1.frozen? ⟨gd, k * 2, none⟩ = false := HR1.out.free _;have z1 : w1.frozen? ⟨gd, k * 2 + 1, none⟩ = false := HR1.out.free _;have hne : ¬ gd = g1 := by omega
     have hne' : ¬ g1 = gd := by omega
     have b1 : w2.cell? ⟨g1, 1, none⟩ = some (.int .i64 x) := by rw [← hw2]; exact ((Fr.set1 _ gd _ _).cell ((Fr.set1 _ gd _ _).cell a1 hne') hne')
     have HR2 := hid hr2;have HF2 := hid hf2;clear hd hlast hr2 hf2
     go_upto_region 9 with fail
     clear c0 c1 z0 z1 a0 a1 hw2;go_wp2_with fail;exact ⟨⟨k + 1, by omega, by go_num, by rw [HLAST.out], HR2.out, HF2.out⟩, by simp [intOf]; omega⟩
  · obtain rfl : k = n := by omega
    have hrn := HR.out;rw [List.take_of_length_le (by have := HLN.out; omega)] at hrn;have hlf : (sumsF 0 L).length = k := by rw [sums_len]; exact HLN.out
    have hown : OwnC nv 78 wr w.heap.size (some ⟨gd, 0, none⟩) k (sumsF 0 L) := by
     rw [← hlf, fill_full] at hrn;exact own_row hlf hrn (by have := HGD.out; omega) (by unfold maxLen; omega)
    have HO := hid hown;clear hown hrn hlf;go_wp2_with fail;go_ret;exact ⟨_, _, rfl, HO.out, HF.out⟩
end
end Go.Proofs.YtbabgnadgdidmaaGreat
