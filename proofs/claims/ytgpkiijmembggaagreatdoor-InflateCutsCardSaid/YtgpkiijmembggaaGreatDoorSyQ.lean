/-
  Contract of the library's search by halves, at the two closures of layer 7's program (written by gen_search.py).
-/
import Derived.Test.YtgpkiijmembggaaGreatDoorZm13
namespace Go.Proofs.YtgpkiijmembggaaGreatDoor
open Go.RowKit SyM LzM Mem Go.Lib
attribute [local go_sem ↓] Go.wp_at_zero Go.wp_at_succ
set_option linter.unusedVariables false

set_option maxRecDepth 100000 in
set_option maxHeartbeats 1600000 in
theorem search_len (p n : Nat) (f : Nat → Bool) (w : World) (hn : n ≤ 1000000) (hmono : ∀ a b, a ≤ b → b < n → f a = true → f b = true)
    (hf : ∀ (i : Nat) (wr : World), i < n → Fr (fun _ => False) w wr → Calls Tryz.prog 66 #[.int .i64 (i : Int), .pointer (some ⟨p, 0, none⟩)] wr fun e w' => e = .returned (.bool (f i)) ∧ Fr (fun _ => False) wr w') :
    Calls Tryz.prog 65 #[.int .i64 (n : Int), .func (.func 66) #[] #[.pointer (some ⟨p, 0, none⟩)]] w fun e w' => ∃ k : Nat, e = .returned (.int .i64 (k : Int)) ∧ Fr (fun _ => False) w w' ∧ k ≤ n ∧ (∀ t, t < k → f t = false) ∧ (∀ t, k ≤ t → t < n → f t = true) := by
  have HF := Lib.hid hf
  have HM := Lib.hid hmono
  clear hf hmono
  go_enter Tryz.func65, Tryz.ntmps65
  go_wp2_with fail
  go_loopw [5, 6] (fun a b wr => ∃ lo hi : Nat, a = .int .i64 (lo : Int) ∧ b = .int .i64 (hi : Int) ∧ lo ≤ hi ∧ hi ≤ n ∧ Hid ((∀ t, t < lo → f t = false) ∧ (∀ t, hi ≤ t → t < n → f t = true)) ∧ Hid (Fr (fun _ => False) w wr)) (fun a b _ => (intOf b).toNat - (intOf a).toNat)
  case atStart => exact ⟨0, n, rfl, rfl, Nat.zero_le _, Nat.le_refl _, ⟨fun t ht => absurd ht (Nat.not_lt_zero _), fun t h1 h2 => by omega⟩, Fr.refl _ _⟩
  case round =>
    obtain ⟨lo, hi, rfl, rfl, hlh, hin, I, HFR⟩ := hrel
    rename World => wr
    by_cases hlt : lo < hi
    · obtain ⟨h, hh⟩ : ∃ h, h = (lo + hi) / 2 := ⟨_, rfl⟩
      have hhi : ((lo : Int) + (hi : Int)) / 2 = (h : Int) := by omega
      have hb1 : lo ≤ h := by omega
      have hb2 : h < hi := by omega
      have hc := HF.out h wr (by omega) HFR.out
      obtain ⟨q, hq⟩ : ∃ q, q = f h := ⟨_, rfl⟩
      rw [← hq] at hc
      have HQ := Lib.hid hq
      have HC := Lib.hid hc
      clear hc hq hh
      cases q
      · go_wp2_with fail
        refine HC.out.mono ?_
        rintro e w' ⟨rfl, hf2⟩
        have HF2 := Lib.hid (HFR.out.trans hf2 (fun _ _ h => h))
        have I2 : Hid ((∀ t, t < h + 1 → f t = false) ∧ (∀ t, hi ≤ t → t < n → f t = true)) := Lib.hid ⟨fun t ht => (by
          cases h5 : f t with
          | false => rfl
          | true => have := HM.out t h (by omega) (by omega) h5; rw [← HQ.out] at this; cases this), I.out.2⟩
        clear hf2
        go_wp2_with fail
        exact ⟨⟨h + 1, hi, by go_num, rfl, by omega, hin, I2.out, HF2.out⟩, by simp [intOf]; omega⟩
      · go_wp2_with fail
        refine HC.out.mono ?_
        rintro e w' ⟨rfl, hf2⟩
        have HF2 := Lib.hid (HFR.out.trans hf2 (fun _ _ h => h))
        have I2 : Hid ((∀ t, t < lo → f t = false) ∧ (∀ t, h ≤ t → t < n → f t = true)) := Lib.hid ⟨I.out.1, fun t ht htn => HM.out h t ht htn HQ.out.symm⟩
        clear hf2
        go_wp2_with fail
        exact ⟨⟨lo, h, rfl, rfl, hb1, by omega, I2.out, HF2.out⟩, by simp [intOf]; omega⟩
    · obtain rfl : hi = lo := by omega
      go_wp2_with fail
      go_ret
      exact ⟨hi, rfl, HFR.out, hin, I.out.1, I.out.2⟩

set_option maxRecDepth 100000 in
set_option maxHeartbeats 1600000 in
theorem search_dist (p n : Nat) (f : Nat → Bool) (w : World) (hn : n ≤ 1000000) (hmono : ∀ a b, a ≤ b → b < n → f a = true → f b = true)
    (hf : ∀ (i : Nat) (wr : World), i < n → Fr (fun _ => False) w wr → Calls Tryz.prog 68 #[.int .i64 (i : Int), .pointer (some ⟨p, 0, none⟩)] wr fun e w' => e = .returned (.bool (f i)) ∧ Fr (fun _ => False) wr w') :
    Calls Tryz.prog 65 #[.int .i64 (n : Int), .func (.func 68) #[] #[.pointer (some ⟨p, 0, none⟩)]] w fun e w' => ∃ k : Nat, e = .returned (.int .i64 (k : Int)) ∧ Fr (fun _ => False) w w' ∧ k ≤ n ∧ (∀ t, t < k → f t = false) ∧ (∀ t, k ≤ t → t < n → f t = true) := by
  have HF := Lib.hid hf
  have HM := Lib.hid hmono
  clear hf hmono
  go_enter Tryz.func65, Tryz.ntmps65
  go_wp2_with fail
  go_loopw [5, 6] (fun a b wr => ∃ lo hi : Nat, a = .int .i64 (lo : Int) ∧ b = .int .i64 (hi : Int) ∧ lo ≤ hi ∧ hi ≤ n ∧ Hid ((∀ t, t < lo → f t = false) ∧ (∀ t, hi ≤ t → t < n → f t = true)) ∧ Hid (Fr (fun _ => False) w wr)) (fun a b _ => (intOf b).toNat - (intOf a).toNat)
  case atStart => exact ⟨0, n, rfl, rfl, Nat.zero_le _, Nat.le_refl _, ⟨fun t ht => absurd ht (Nat.not_lt_zero _), fun t h1 h2 => by omega⟩, Fr.refl _ _⟩
  case round =>
    obtain ⟨lo, hi, rfl, rfl, hlh, hin, I, HFR⟩ := hrel
    rename World => wr
    by_cases hlt : lo < hi
    · obtain ⟨h, hh⟩ : ∃ h, h = (lo + hi) / 2 := ⟨_, rfl⟩
      have hhi : ((lo : Int) + (hi : Int)) / 2 = (h : Int) := by omega
      have hb1 : lo ≤ h := by omega
      have hb2 : h < hi := by omega
      have hc := HF.out h wr (by omega) HFR.out
      obtain ⟨q, hq⟩ : ∃ q, q = f h := ⟨_, rfl⟩
      rw [← hq] at hc
      have HQ := Lib.hid hq
      have HC := Lib.hid hc
      clear hc hq hh
      cases q
      · go_wp2_with fail
        refine HC.out.mono ?_
        rintro e w' ⟨rfl, hf2⟩
        have HF2 := Lib.hid (HFR.out.trans hf2 (fun _ _ h => h))
        have I2 : Hid ((∀ t, t < h + 1 → f t = false) ∧ (∀ t, hi ≤ t → t < n → f t = true)) := Lib.hid ⟨fun t ht => (by
          cases h5 : f t with
          | false => rfl
          | true => have := HM.out t h (by omega) (by omega) h5; rw [← HQ.out] at this; cases this), I.out.2⟩
        clear hf2
        go_wp2_with fail
        exact ⟨⟨h + 1, hi, by go_num, rfl, by omega, hin, I2.out, HF2.out⟩, by simp [intOf]; omega⟩
      · go_wp2_with fail
        refine HC.out.mono ?_
        rintro e w' ⟨rfl, hf2⟩
        have HF2 := Lib.hid (HFR.out.trans hf2 (fun _ _ h => h))
        have I2 : Hid ((∀ t, t < lo → f t = false) ∧ (∀ t, h ≤ t → t < n → f t = true)) := Lib.hid ⟨I.out.1, fun t ht htn => HM.out h t ht htn HQ.out.symm⟩
        clear hf2
        go_wp2_with fail
        exact ⟨⟨lo, h, rfl, rfl, hb1, by omega, I2.out, HF2.out⟩, by simp [intOf]; omega⟩
    · obtain rfl : hi = lo := by omega
      go_wp2_with fail
      go_ret
      exact ⟨hi, rfl, HFR.out, hin, I.out.1, I.out.2⟩
end Go.Proofs.YtgpkiijmembggaaGreatDoor
