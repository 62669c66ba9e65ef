/-
  The law HuffShort, out of the contracts of the program's Lengths and Right (written by gen_short2.py).
-/
import Derived.Test.YtphalcpmeblkgaaHuffH
namespace Go.Proofs.Ytphalcpmeblkgaa
open Go.RowKit HuffM Mem Go.Lib
attribute [local go_sem ↓] Go.wp_at_zero Go.wp_at_succ
set_option linter.unusedVariables false

theorem mxL_le {L : List Nat} {k s : Nat} (hs : s < k) (hk : k ≤ L.length) : oat L s ≤ mxL L k := by
  induction k with
  | zero => omega
  | succ k ih =>
    rw [mxL_succ (by omega)]
    rcases Nat.lt_succ_iff_lt_or_eq.1 hs with h | rfl
    · have := ih h (by omega); omega
    · omega
theorem oat_out {L : List Nat} {s : Nat} (h : L.length ≤ s) : oat L s = 0 := by unfold oat; rw [List.getD_eq_getElem?_getD, List.getElem?_eq_none h]; rfl
theorem anyP_yes {L : List Nat} {k : Nat} (h : anyP L k = true) (hk : k ≤ L.length) : ∃ s, 0 < oat L s := by
  induction k with
  | zero => simp [anyP] at h
  | succ k ih =>
    rw [anyP_succ (by omega), Bool.or_eq_true] at h
    rcases h with h | h
    · exact ih h (by omega)
    · exact ⟨k, by simpa using h⟩
theorem tot_sum (W : List Nat) (k : Nat) (hk : k ≤ W.length) (h : totL W k < 2000) : (W.take k).sum = totL W k := by
  induction k with
  | zero => simp [totL]
  | succ k ih =>
    rw [totL_succ (by omega)] at h ⊢
    rw [take_snoc (oat_get (show k < W.length by omega)), List.sum_append, ih (by omega) (by omega)]
    simp
    omega
theorem rd_int {w : World} {A : Option Addr} {n : Nat} {L : List Nat} (h : Rd w A n (L.map natc)) : Rd w A n ((L.map fun x : Nat => (x : Int)).map intc) := by
  rw [List.map_map]; exact h
set_option maxRecDepth 1000000 in
set_option maxHeartbeats 3200000 in
theorem short_law (hl : LensC 11) (K : HuffC) (hw : Awake5) (most : Int) (A : Option Addr) (n c : Nat) (W : List Int) (w : World) (hrd : Rd w A n (W.map intc)) (hc : n ≤ c) (hA : ∀ ad, A = some ad → ad.block < w.heap.size) :
    Calls Try.prog 6 #[.int .i64 most, .slice A n c] w fun e w' => e = .returned (.bool true) ∧ Fr (fun _ => False) w w' := by
  have HR := Lib.hid hrd
  have HA := Lib.hid hA
  have HFi := Lib.hid (fun (w' : World) (hf : Fr (fun _ => False) w w') => fits_any most A n c W w' (HR.out.fr hf (fun _ _ h => h)))
  have hln : W.length = n := by simpa using HR.out.1
  obtain ⟨v, hv⟩ : ∃ v, v = fitsW most W := ⟨_, rfl⟩
  rw [← hv] at HFi
  clear hrd hA
  cases v with
  | false =>
    clear hv
    go_enter Try.func6, Try.ntmps6
    go_wp2_with fail
    refine (hw _).mono ?_
    rintro e w1 ⟨rfl, hf1⟩
    have HF1 := Lib.hid hf1
    go_wp2_with fail
    refine (HFi.out _ HF1.out).mono ?_
    rintro e w2 ⟨rfl, rfl⟩
    go_wp2_with fail
    refine (hw _).mono ?_
    rintro e w2 ⟨rfl, hf2⟩
    go_wp2
    go_ret
    exact ⟨rfl, hf1.trans hf2 (fun _ _ h => h)⟩
  | true =>
    obtain ⟨m, N, rfl, hm1, hm15, hNl, hW3, hWN, hNb, hcn⟩ := fitsW_nat hv.symm
    have hrN : Rd w A n (N.map natc) := hWN ▸ HR.out
    have hc15 : cnt N ≤ 2 ^ 15 := Nat.le_trans hcn (Nat.pow_le_pow_right (by omega) hm15)
    have HLl := Lib.hid (fun (w' : World) (hf : Fr (fun _ => False) w w') => hl A n c m N w' (hrN.fr hf (fun _ _ h => h)) hc (by omega) (fun ad h => Nat.lt_of_lt_of_le (HA.out ad h) hf.size) hNb hm1 hm15 hcn)
    have h15 : ∀ (w' : World) (hf : Fr (fun _ => False) w w'), Calls Try.prog 11 #[.int .i64 15, .slice A n c] w' fun e w2 => ∃ A' c', e = .returned (.slice A' n c') ∧ n ≤ c' ∧ Rd w2 A' n ((lens 15 N).map natc) ∧ Fr (fun _ => False) w' w2 ∧ ∀ ad, A' = some ad → ad.block < w2.heap.size :=
      fun w' hf => hl A n c 15 N w' (hrN.fr hf (fun _ _ h => h)) hc (by omega) (fun ad h => Nat.lt_of_lt_of_le (HA.out ad h) hf.size) hNb (by omega) (by omega) hc15
    have H15 := Lib.hid h15
    obtain ⟨s1, s2, s3, s4⟩ := lens_short hm1 hm15 hcn
    have HS := Lib.hid s4
    have HM := Lib.hid s2
    have HZ : Hid (∀ s, oat (lens m N) s = 0 ↔ oat N s = 0) := Lib.hid (fun s => by have := s3 s; unfold oat at this ⊢; omega)
    have HN3 := Lib.hid s3
    have hfree := @lens_free m N
    have HFREE := Lib.hid hfree
    have hFl := lens_len 15 N
    obtain ⟨L, hL⟩ : ∃ L, L = lens m N := ⟨_, rfl⟩
    obtain ⟨F, hF⟩ : ∃ F, F = lens 15 N := ⟨_, rfl⟩
    rw [← hL] at HLl HS HM HZ HFREE s1 HN3
    rw [← hF] at H15 HFREE hFl
    have HLL : Hid (L.length = n) := Lib.hid (by omega)
    have HFL : Hid (F.length = n) := Lib.hid (by omega)
    have HNL : Hid (N.length = n) := Lib.hid (by omega)
    have HRN := Lib.hid hrN
    have hn3 : n ≤ 300 := by omega
    clear hv hl hWN hNb hNl hcn hln hc15 h15 s1 s2 s3 s4 hfree hFl hL hF hrN HR
    go_enter Try.func6, Try.ntmps6
    go_wp2_with fail
    refine (hw _).mono ?_
    rintro e w1 ⟨rfl, hf1⟩
    have HF1 := Lib.hid hf1
    clear hf1
    go_wp2_with fail
    refine (HFi.out _ HF1.out).mono ?_
    rintro e w2 ⟨rfl, rfl⟩
    go_wp2_with fail
    refine (HLl.out _ HF1.out).mono ?_
    rintro e w2 ⟨A2, c2, rfl, hc2, hr2, hf2, hb2⟩
    have HR2 := Lib.hid hr2
    have HB2 := Lib.hid hb2
    have HF2 := Lib.hid (HF1.out.trans hf2 (fun _ _ h => h))
    clear hr2 hf2 hb2
    go_wp2_with fail
    refine (H15.out _ HF2.out).mono ?_
    rintro e w3 ⟨A3, c3, rfl, hc3, hr3, hf3, _⟩
    have HR3 := Lib.hid hr3
    have HR23 := Lib.hid (HR2.out.fr hf3 (fun _ _ h => h))
    have HF3 := Lib.hid (HF2.out.trans hf3 (fun _ _ h => h))
    have HB3 : Hid (∀ ad, A2 = some ad → ad.block < w3.heap.size) := Lib.hid (fun ad h => Nat.lt_of_lt_of_le (HB2.out ad h) hf3.size)
    have HRN3 := Lib.hid (HRN.out.fr HF3.out (fun _ _ h => h))
    clear hr3 hf3 HB2 HR2
    go_wp2_with fail
    refine tell_loop _ _ _ _ _ _ _ _ _ _ _ _ _ _ _ _ _ _ _ _ _ _ _ _ _ _ _ _ _ _ _ _ _ _ _ _ _ _ _ _ _ _ _ _ _ _ _ _ _ _ _ _ _ _ _ _ _ _ _ _ _ _ _ _ _ _ _ _ _ _ _ _ _ _ _ _ _ _ _ _ _ _ _ _ _ _ _ _ _ _ _ _ _ _ _ _ _ _ _ _ _ _ _ _ _ _ _ _ _ _ _ _ _ _ _ _ _ _ _ _ _ _ _ _ _ _ _ _ _ _ _ _ _ _ _ _ _ _ _ _ _ _ _ _ _ _ _  A A2 A3 n c c2 c3 m L F N _ HRN3 HR23 HR3 hn3 hc hc2 hc3 HM HZ ?_
    intro w4 q4 q9 q40 q41 q42 q43 q44 q45 q46 q47 q48 q49 q50 q51 q52 q53 q54 q55 q56 q57 q58 q59 q60 q61 q62 q63 q64 q65 q66 q67 q68 q69 q70 q71 q72 q73 q74 q75 q76 q77 q78 q79 q80 q81 q82 q83 q84 q85 hf4
    have HF4 := Lib.hid hf4
    clear hf4
    cases hany : anyP L n with
    | false =>
      have HANY := Lib.hid hany
      clear hany
      go_wp2
      go_ret
      exact ⟨rfl, HF3.out.trans HF4.out (fun _ _ h => h)⟩
    | true =>
      obtain ⟨s0, hs0⟩ := anyP_yes hany (by rw [HLL.out]; exact Nat.le_refl _)
      have hrt := HS.out ⟨s0, by have := (HN3.out s0); omega⟩
      have h1 := K.right A2 n c2 _ w4 (rd_int (HR23.out.fr HF4.out (fun _ _ h => h))) hc2 (by omega) (fun ad h => Nat.lt_of_lt_of_le (HB3.out ad h) HF4.out.size)
      rw [hrt] at h1
      have H1 := Lib.hid h1
      have HANY := Lib.hid hany
      clear hany hrt h1 hs0
      go_wp2_with fail
      refine H1.out.mono ?_
      rintro e w5 ⟨rfl, hf5⟩
      have HF5 := Lib.hid (HF4.out.trans hf5 (fun _ _ h => h))
      clear hf5 H1
      go_wp2_with fail
      refine total_loop _ _ _ _ _ _ _ _ _ _ _ _ _ _ _ _ _ _ _ _ _ _ _ _ _ _ _ _ _ _ _ _ _ _ _ _ _ _ _ _ _ _ _ _ _ _ _ _ _ _ _ _ _ _ _ _ _ _ _ _ _ _ _ _ _ _ _ _ _ _ _ _ _ _ _ _ _ _ _ _ _ _ _ _ _ _ _ _ _ _ _ _ _ _ _ _ _ _ _ _ _ _ _ _ _ _ _ _ _ _ _ _ _ _ _ _ _ _ _ _ _ _ _ _ _ _ _ _ _ _ _ _ _ _ _ _ _ _ _ _ _ _ _ _ _ _ _ _ _ _ _  A n c N _ (Lib.hid (HRN3.out.fr HF5.out (fun _ _ h => h))) hn3 hc ?_
      intro w6 q11 q91 q92 q93 q94 q95 q96 q97 q98 q99 q100 q101 q102 q103 hf6
      have HF6 := Lib.hid (HF5.out.trans hf6 (fun _ _ h => h))
      clear hf6
      by_cases hlong : m < mxL F n
      · have t : decide (m < mxL F n) = true := by simpa using hlong
        clear hlong
        go_wp2
        go_ret
        exact ⟨rfl, HF3.out.trans HF6.out (fun _ _ h => h)⟩
      · have t : decide (m < mxL F n) = false := by simpa using hlong
        by_cases htot : 2000 ≤ totL N n
        · have t2 : decide (2000 ≤ totL N n) = true := by simpa using htot
          have t3 : decide ((2000 : Int) ≤ (totL N n : Int)) = true := by simp; omega
          clear hlong htot
          go_wp2
          go_ret
          exact ⟨rfl, HF3.out.trans HF6.out (fun _ _ h => h)⟩
        · have t2 : decide (2000 ≤ totL N n) = false := by simpa using htot
          have t3 : decide ((2000 : Int) ≤ (totL N n : Int)) = false := by simp; omega
          have hs : N.sum < 2000 := by
            have := tot_sum N n (by rw [HNL.out]; exact Nat.le_refl _) (by omega)
            rw [List.take_of_length_le (by rw [HNL.out]; exact Nat.le_refl _)] at this
            omega
          have hall : ∀ s, oat F s ≤ m := by
            intro s
            rcases Nat.lt_or_ge s n with h | h
            · have := mxL_le (L := F) h (by rw [HFL.out]; exact Nat.le_refl _); omega
            · rw [oat_out (by rw [HFL.out]; exact h)]; omega
          obtain ⟨heq, hmono⟩ := HFREE.out hs hall
          have HC : Hid (∀ i k, 0 < oat N k → oat N k < oat N i → oat L i ≤ oat L k) := Lib.hid (fun i k h1 h2 => hmono i k h1 h2)
          have HEQ := Lib.hid heq
          clear heq hmono hall hs hlong htot
          go_wp2_with fail
          refine cmpi_loop _ _ _ _ _ _ _ _ _ _ _ _ _ _ _ _ _ _ _ _ _ _ _ _ _ _ _ _ _ _ _ _ _ _ _ _ _ _ _ _ _ _ _ _ _ _ _ _ _ _ _ _ _ _ _ _ _ _ _ _ _ _ _ _ _ _ _ _ _ _ _ _ _ _ _ _ _ _ _ _ _ _ _ _ _ _ _ _ _ _ _ _ _ _ _ _ _ _ _ _ _ _ _ _ _ _ _ _ _ _ _ _ _ _ _ _ _ _ _ _ _ _ _ _ _ _ _ _ _ _ _ _ _ _ _ _ _ _ _ _ _ _ _ _ _ _ _ _ _ _ _  A A2 n c c2 L N _ (Lib.hid (HRN3.out.fr HF6.out (fun _ _ h => h))) (Lib.hid (HR23.out.fr HF6.out (fun _ _ h => h))) hn3 hc hc2 HC ?_
          intro w7 q4 q12 q13 q111 q112 q113 q114 q115 q116 q117 q118 q119 q120 q121 q122 q123 q124 q125 q126 q127 q128 q129 q130 q131 q132 q133 q134 q135 q136 q137 q138 q139 q140 q141 q142 q143 q144 q145 q146 q147 q148 q149 hf7
          have HF7 := Lib.hid (HF6.out.trans hf7 (fun _ _ h => h))
          clear hf7
          go_wp2_with fail
          refine (same_eq A2 A3 n c2 c3 (by omega) _ (natc_int _) _ (HR23.out.fr HF7.out (fun _ _ h => h)) (HEQ.out ▸ HR3.out.fr HF7.out (fun _ _ h => h))).mono ?_
          rintro e w8 ⟨rfl, hf8⟩
          go_wp2
          go_ret
          exact ⟨rfl, (HF3.out.trans HF7.out (fun _ _ h => h)).trans hf8 (fun _ _ h => h)⟩
end Go.Proofs.Ytphalcpmeblkgaa
