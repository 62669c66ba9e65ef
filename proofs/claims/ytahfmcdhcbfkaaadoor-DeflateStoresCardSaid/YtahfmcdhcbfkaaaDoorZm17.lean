/-
  Layer 9's program: a symbol's code, and what follows it.
  Contract of the library's search by halves, at the two closures of layer 7's program (written by gen_search.py).
-/
import Derived.Test.YtahfmcdhcbfkaaaDoorZm11
import Derived.Test.YtahfmcdhcbfkaaaDoorZm16
import Derived.Test.YtahfmcdhcbfkaaaDoorZm08
import Derived.Test.YtahfmcdhcbfkaaaDoorZm09
namespace Go.Proofs.YtahfmcdhcbfkaaaDoor
open Go.RowKit BitsM Mem Go.Lib
attribute [local go_sem ↓] Go.wp_at_zero Go.wp_at_succ
set_option linter.unusedVariables false
set_option maxRecDepth 100000

set_option maxHeartbeats 1600000 in
theorem sym9_any (g c : Nat) (A AL AC : Option Addr) (nl cl nc cc s b x : Nat) (len cs : List Nat) (bs : List Bool) (w : World) (hw : Wr w g A c bs) (hb : bs.length ≤ 2000000000)
    (hL : Rd w AL nl (len.map natc)) (hC : Rd w AC nc (cs.map numc)) (hs : s < nl) (hs2 : s < nc) (hb64 : b ≤ 64) (hx : x < 18446744073709551616) (hcs : ∀ x ∈ cs, x < 18446744073709551616) :
    Calls Tryd.prog 49 #[.agg #[.pointer (some ⟨g, 0, none⟩)], .agg #[.slice AL nl cl, .slice AC nc cc], .agg #[.int .i64 (s : Int), .int .i64 (b : Int), .int .u64 (x : Int)]] w fun e w' => e = .returned (.tuple #[]) ∧ ∃ A' c', Wr w' g A' c' (bs ++ (low cs[s]! (min len[s]! 64)).reverse ++ low x b) ∧ Fr (Ft g A) w w' ∧ Nx w A A' := by
  have hCl : cs.length = nc := by simpa using hC.1
  have HB := Lib.hid hb
  obtain ⟨w0, hw0⟩ : ∃ w0, w0 = w.alloc (.cells #[Value.pointer (some ⟨g, 0, none⟩)] 36) := ⟨_, rfl⟩
  obtain ⟨p, hp⟩ : ∃ p, p = w.heap.size := ⟨_, rfl⟩
  have hr0 : Row w0 p 36 [Value.pointer (some ⟨g, 0, none⟩)] := by rw [hw0, hp]; exact Row.new w _ _
  have hf0 : Fr (fun _ => False) w w0 := by rw [hw0]; exact (Fr.refl _ w).alloc _
  obtain ⟨wc, hwc⟩ : ∃ wc, wc = w0.alloc (.cells #[Value.slice AL nl cl, .slice AC nc cc] 60) := ⟨_, rfl⟩
  obtain ⟨r, hr⟩ : ∃ r, r = p + 1 := ⟨_, rfl⟩
  have hrs : w0.heap.size = r := by rw [hw0, hr, hp]; simp
  have hrc : Row wc r 60 [Value.slice AL nl cl, .slice AC nc cc] := by rw [hwc, ← hrs]; exact Row.new w0 _ _
  have hf0c : Fr (fun _ => False) w0 wc := by rw [hwc]; exact (Fr.refl _ w0).alloc _
  obtain ⟨w1, hw1⟩ : ∃ w1, w1 = wc.alloc (.cells #[Value.int .i64 (s : Int), .int .i64 (b : Int), .int .u64 (x : Int)] 81) := ⟨_, rfl⟩
  obtain ⟨q, hq⟩ : ∃ q, q = r + 1 := ⟨_, rfl⟩
  have hqs : wc.heap.size = q := by rw [hwc, hq, ← hrs]; simp
  have hr1 : Row w1 q 81 [Value.int .i64 (s : Int), .int .i64 (b : Int), .int .u64 (x : Int)] := by rw [hw1, ← hqs]; exact Row.new wc _ _
  have hfc1 : Fr (fun _ => False) wc w1 := by rw [hw1]; exact (Fr.refl _ wc).alloc _
  have hf1 : Fr (fun _ => False) w w1 := (hf0.trans hf0c (fun _ _ h => h)).trans hfc1 (fun _ _ h => h)
  have hr01 : Row w1 p 36 [Value.pointer (some ⟨g, 0, none⟩)] := (hr0.fr hf0c (fun h => h)).fr hfc1 (fun h => h)
  have hrc1 : Row w1 r 60 [Value.slice AL nl cl, .slice AC nc cc] := hrc.fr hfc1 (fun h => h)
  have hw_1 := hw.frA hf1 (fun h => h) (fun _ _ h => h)
  have HPN := Lib.hid (hw.new (k := p) (by omega))
  have HQN := Lib.hid (hw.new (k := q) (by omega))
  obtain ⟨adL, hAL, cL⟩ := nat_cell (hL.fr hf1 (fun _ _ h => h)) (k := s) hs
  obtain ⟨adC, hAC, cC⟩ := num_cell (hC.fr hf1 (fun _ _ h => h)) (k := s) hs2
  subst hAL
  subst hAC
  obtain ⟨v, hv⟩ : ∃ v, v = len[s]! := ⟨_, rfl⟩
  obtain ⟨cv, hcv⟩ : ∃ cv, cv = cs[s]! := ⟨_, rfl⟩
  have hcv64 : cv < 18446744073709551616 := by rw [hcv, getElem!_pos cs s (by omega)]; exact hcs _ (List.getElem_mem _)
  rw [← hv] at cL
  rw [← hcv] at cC
  rw [← hv, ← hcv]
  have HF1 := Lib.hid hf1
  have HR0 := Lib.hid hr01
  have HR1 := Lib.hid hr1
  have HB64 := Lib.hid hb64
  have c0 : w1.cell? ⟨p, 0, none⟩ = some (.pointer (some ⟨g, 0, none⟩)) := hr01.cell rfl
  have d0 : w1.cell? ⟨q, 0, none⟩ = some (.int .i64 (s : Int)) := hr1.cell rfl
  have e0 : w1.cell? ⟨r, 0, none⟩ = some (.slice (some adL) nl cl) := hrc1.cell rfl
  have e1 : w1.cell? ⟨r, 1, none⟩ = some (.slice (some adC) nc cc) := hrc1.cell rfl
  have hsn : (s : Int) < (nl : Int) := by omega
  have hsn2 : (s : Int) < (nc : Int) := by omega
  have HCODE : Hid (Calls Tryd.prog 75 #[.pointer (some ⟨g, 0, none⟩), .int .i64 (v : Int), .int .u64 (cv : Int)] w1.drew fun e w' => e = .returned (.tuple #[]) ∧ ∃ A' c', Wr w' g A' c' (bs ++ (low cv (min v 64)).reverse) ∧ Fr (Ft g A) w1.drew w' ∧ Nx w1.drew A A') := Lib.hid (by
    have h := code_any g c A (v : Int) cv bs w1.drew hw_1.drew (by omega) hcv64
    rw [Int.toNat_natCast] at h
    exact h)
  clear hw hb hL hC hcs hr0 hf0 hr1 hf0c hfc1 hf1 hr01 hrc hrc1 hw_1 hv hcv hcv64 hCl hb64 hrs hqs
  go_enter Tryd.func49, Tryd.ntmps49
  go_upto_region 1 with fail
  rw [← hw0, ← hwc, ← hw1, ← hp, ← hr]
  rw [← hq]
  clear hw0 hwc hw1 hp hr hq
  go_still_tail 14, (by kernel_rfl)
  change wpList _ _ _ _ _ w1.drew
  go_wp2_with (refine HCODE.out.mono ?_)
  rintro e w3 ⟨rfl, A3, c3, hw3, hf3, hn3⟩
  have hr3 := Row.fr (w := w1.drew) HR1.out hf3 HQN.out
  have hr03 := Row.fr (w := w1.drew) HR0.out hf3 HPN.out
  have e0' : w3.cell? ⟨p, 0, none⟩ = some (.pointer (some ⟨g, 0, none⟩)) := hr03.cell rfl
  have d1 : w3.cell? ⟨q, 1, none⟩ = some (.int .i64 (b : Int)) := hr3.cell rfl
  have d2 : w3.cell? ⟨q, 2, none⟩ = some (.int .u64 (x : Int)) := hr3.cell rfl
  have HF3 : Hid (Fr (Ft g A) w w3) := Lib.hid (HF1.out.drew.mono (fun _ _ h => h.elim) |>.trans hf3 (fun _ _ h => h))
  have HN3 : Hid (Nx w A A3) := Lib.hid (hn3.back HF1.out.size)
  have HPUT : Hid (Calls Tryd.prog 42 #[.pointer (some ⟨g, 0, none⟩), .int .i64 (b : Int), .slice (some ⟨w3.heap.size, 0, none⟩) 1 1] (w3.alloc (.cells #[.int .u64 (x : Int)] 44)) fun e w' => e = .returned (.tuple #[]) ∧ ∃ A' c', Wr w' g A' c' (bs ++ (low cv (min v 64)).reverse ++ low x b) ∧ Fr (Ft g A3) w3 w' ∧ Nx w3 A3 A') :=
    Lib.hid (put1_any g c3 A3 b x _ w3 hw3 (by rw [List.length_append, List.length_reverse, low_length]; have := HB.out; omega) HB64.out hx)
  clear hw3 hf3 hn3 hr3 hr03 cL cC c0 d0 e0 e1 HCODE
  go_wp2_with (refine HPUT.out.mono ?_)
  rintro e w5 ⟨rfl, A5, c5, hw5, hf5, hn5⟩
  have HW5 := Lib.hid hw5
  have HF5 := Lib.hid (Fr.next HF3.out HN3.out hf5)
  have HN5 := Lib.hid (HN3.out.trans hn5 HF3.out.size)
  clear hw5 hf5 hn5 e0' d1 d2 HPUT
  go_wp2_with fail
  go_end0
  exact ⟨rfl, A5, c5, HW5.out, HF5.out, HN5.out⟩
end Go.Proofs.YtahfmcdhcbfkaaaDoor
namespace Go.Proofs.YtahfmcdhcbfkaaaDoor
open Go.RowKit SyM LzM Mem Go.Lib
attribute [local go_sem ↓] Go.wp_at_zero Go.wp_at_succ
set_option linter.unusedVariables false

set_option maxRecDepth 100000 in
set_option maxHeartbeats 1600000 in
theorem search_len (p n : Nat) (f : Nat → Bool) (w : World) (hn : n ≤ 1000000) (hmono : ∀ a b, a ≤ b → b < n → f a = true → f b = true)
    (hf : ∀ (i : Nat) (wr : World), i < n → Fr (fun _ => False) w wr → Calls Tryd.prog 78 #[.int .i64 (i : Int), .pointer (some ⟨p, 0, none⟩)] wr fun e w' => e = .returned (.bool (f i)) ∧ Fr (fun _ => False) wr w') :
    Calls Tryd.prog 77 #[.int .i64 (n : Int), .func (.func 78) #[] #[.pointer (some ⟨p, 0, none⟩)]] w fun e w' => ∃ k : Nat, e = .returned (.int .i64 (k : Int)) ∧ Fr (fun _ => False) w w' ∧ k ≤ n ∧ (∀ t, t < k → f t = false) ∧ (∀ t, k ≤ t → t < n → f t = true) := by
  have HF := Lib.hid hf
  have HM := Lib.hid hmono
  clear hf hmono
  go_enter Tryd.func77, Tryd.ntmps77
  go_wp2_with fail
  go_loopw [5, 6] (fun a b wr => ∃ lo hi : Nat, a = .int .i64 (lo : Int) ∧ b = .int .i64 (hi : Int) ∧ lo ≤ hi ∧ hi ≤ n ∧ Hid ((∀ t, t < lo → f t = false) ∧ (∀ t, hi ≤ t → t < n → f t = true)) ∧ Hid (Fr (fun _ => False) w wr)) (fun a b _ => (intOf b).toNat - (intOf a).toNat)
  case atStart => exact ⟨0, n, rfl, rfl, Nat.zero_le _, Nat.le_refl _, ⟨fun t ht => absurd ht (Nat.not_lt_zero _), fun t h1 h2 => by omega⟩, Fr.refl _ _⟩
  case round =>
    obtain ⟨lo, hi, rfl, rfl, hlh, hin, I, HFR⟩ := hrel
    rename World => wr
    by_cases hlt : lo < hi
    · obtain ⟨h, hh⟩ : ∃ h, h = (lo + hi) / 2 := ⟨_, rfl⟩
      have hhi : ((lo : Int) + (hi : Int)) / 2 = (h : Int) := by omega
      have hb1 : lo ≤ h := by omega
      have hb2 : h < hi := by omega
      have hc := HF.out h wr (by omega) HFR.out
      obtain ⟨q, hq⟩ : ∃ q, q = f h := ⟨_, rfl⟩
      rw [← hq] at hc
      have HQ := Lib.hid hq
      have HC := Lib.hid hc
      clear hc hq hh
      cases q
      · go_wp2_with fail
        refine HC.out.mono ?_
        rintro e w' ⟨rfl, hf2⟩
        have HF2 := Lib.hid (HFR.out.trans hf2 (fun _ _ h => h))
        have I2 : Hid ((∀ t, t < h + 1 → f t = false) ∧ (∀ t, hi ≤ t → t < n → f t = true)) := Lib.hid ⟨fun t ht => (by
          cases h5 : f t with
          | false => rfl
          | true => have := HM.out t h (by omega) (by omega) h5; rw [← HQ.out] at this; cases this), I.out.2⟩
        clear hf2
        go_wp2_with fail
        exact ⟨⟨h + 1, hi, by go_num, rfl, by omega, hin, I2.out, HF2.out⟩, by simp [intOf]; omega⟩
      · go_wp2_with fail
        refine HC.out.mono ?_
        rintro e w' ⟨rfl, hf2⟩
        have HF2 := Lib.hid (HFR.out.trans hf2 (fun _ _ h => h))
        have I2 : Hid ((∀ t, t < lo → f t = false) ∧ (∀ t, h ≤ t → t < n → f t = true)) := Lib.hid ⟨I.out.1, fun t ht htn => HM.out h t ht htn HQ.out.symm⟩
        clear hf2
        go_wp2_with fail
        exact ⟨⟨lo, h, rfl, rfl, hb1, by omega, I2.out, HF2.out⟩, by simp [intOf]; omega⟩
    · obtain rfl : hi = lo := by omega
      go_wp2_with fail
      go_ret
      exact ⟨hi, rfl, HFR.out, hin, I.out.1, I.out.2⟩

set_option maxRecDepth 100000 in
set_option maxHeartbeats 1600000 in
theorem search_dist (p n : Nat) (f : Nat → Bool) (w : World) (hn : n ≤ 1000000) (hmono : ∀ a b, a ≤ b → b < n → f a = true → f b = true)
    (hf : ∀ (i : Nat) (wr : World), i < n → Fr (fun _ => False) w wr → Calls Tryd.prog 80 #[.int .i64 (i : Int), .pointer (some ⟨p, 0, none⟩)] wr fun e w' => e = .returned (.bool (f i)) ∧ Fr (fun _ => False) wr w') :
    Calls Tryd.prog 77 #[.int .i64 (n : Int), .func (.func 80) #[] #[.pointer (some ⟨p, 0, none⟩)]] w fun e w' => ∃ k : Nat, e = .returned (.int .i64 (k : Int)) ∧ Fr (fun _ => False) w w' ∧ k ≤ n ∧ (∀ t, t < k → f t = false) ∧ (∀ t, k ≤ t → t < n → f t = true) := by
  have HF := Lib.hid hf
  have HM := Lib.hid hmono
  clear hf hmono
  go_enter Tryd.func77, Tryd.ntmps77
  go_wp2_with fail
  go_loopw [5, 6] (fun a b wr => ∃ lo hi : Nat, a = .int .i64 (lo : Int) ∧ b = .int .i64 (hi : Int) ∧ lo ≤ hi ∧ hi ≤ n ∧ Hid ((∀ t, t < lo → f t = false) ∧ (∀ t, hi ≤ t → t < n → f t = true)) ∧ Hid (Fr (fun _ => False) w wr)) (fun a b _ => (intOf b).toNat - (intOf a).toNat)
  case atStart => exact ⟨0, n, rfl, rfl, Nat.zero_le _, Nat.le_refl _, ⟨fun t ht => absurd ht (Nat.not_lt_zero _), fun t h1 h2 => by omega⟩, Fr.refl _ _⟩
  case round =>
    obtain ⟨lo, hi, rfl, rfl, hlh, hin, I, HFR⟩ := hrel
    rename World => wr
    by_cases hlt : lo < hi
    · obtain ⟨h, hh⟩ : ∃ h, h = (lo + hi) / 2 := ⟨_, rfl⟩
      have hhi : ((lo : Int) + (hi : Int)) / 2 = (h : Int) := by omega
      have hb1 : lo ≤ h := by omega
      have hb2 : h < hi := by omega
      have hc := HF.out h wr (by omega) HFR.out
      obtain ⟨q, hq⟩ : ∃ q, q = f h := ⟨_, rfl⟩
      rw [← hq] at hc
      have HQ := Lib.hid hq
      have HC := Lib.hid hc
      clear hc hq hh
      cases q
      · go_wp2_with fail
        refine HC.out.mono ?_
        rintro e w' ⟨rfl, hf2⟩
        have HF2 := Lib.hid (HFR.out.trans hf2 (fun _ _ h => h))
        have I2 : Hid ((∀ t, t < h + 1 → f t = false) ∧ (∀ t, hi ≤ t → t < n → f t = true)) := Lib.hid ⟨fun t ht => (by
          cases h5 : f t with
          | false => rfl
          | true => have := HM.out t h (by omega) (by omega) h5; rw [← HQ.out] at this; cases this), I.out.2⟩
        clear hf2
        go_wp2_with fail
        exact ⟨⟨h + 1, hi, by go_num, rfl, by omega, hin, I2.out, HF2.out⟩, by simp [intOf]; omega⟩
      · go_wp2_with fail
        refine HC.out.mono ?_
        rintro e w' ⟨rfl, hf2⟩
        have HF2 := Lib.hid (HFR.out.trans hf2 (fun _ _ h => h))
        have I2 : Hid ((∀ t, t < lo → f t = false) ∧ (∀ t, h ≤ t → t < n → f t = true)) := Lib.hid ⟨I.out.1, fun t ht htn => HM.out h t ht htn HQ.out.symm⟩
        clear hf2
        go_wp2_with fail
        exact ⟨⟨lo, h, rfl, rfl, hb1, by omega, I2.out, HF2.out⟩, by simp [intOf]; omega⟩
    · obtain rfl : hi = lo := by omega
      go_wp2_with fail
      go_ret
      exact ⟨hi, rfl, HFR.out, hin, I.out.1, I.out.2⟩
end Go.Proofs.YtahfmcdhcbfkaaaDoor
