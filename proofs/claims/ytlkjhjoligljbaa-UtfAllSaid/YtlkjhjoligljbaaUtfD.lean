/-
  The law UtfAll, out of the program's contracts.
-/
import Derived.Test.YtlkjhjoligljbaaUtfK
import Derived.Test.YtlkjhjoligljbaaUtfN
namespace Go.Proofs.Ytlkjhjoligljbaa
open Go.RowKit UtfM Mem Go.Lib

theorem valid_no (K : UtfP) (B : List UInt8) (w : World) {k : Nat} (hk : k = w.heap.size) (hl : B.length ≤ 1000000) (h0 : nx B = 0) (h1 : B ≠ []) :
    Calls Try.prog 13 #[.slice (some ⟨k, 0, none⟩) 1 1] (w.alloc (.cells #[.string (txt B)] 9)) fun e w' => e = .returned (.bool false) ∧ Fr (fun _ => False) w w' := by
  refine valid1 K B w hk hl false ?_
  rw [wh_zero h0]
  cases B with
  | nil => exact absurd rfl h1
  | cons => simp

set_option maxRecDepth 100000 in
set_option maxHeartbeats 3200000 in
theorem all_law (K : UtfP) (n : Nat) (w : World) (hn : n < 4294967296) :
    Calls Try.prog 4 #[.int .u32 (n : Int)] w fun e w' => e = .returned (.bool true) ∧ Fr (fun _ => False) w w' := by
  have HA := Lib.hid (awake_any K)
  obtain ⟨k, hk⟩ : ∃ k, k = n % 1200000 := ⟨_, rfl⟩
  have hk2 : ((n : Int) % 1200000) = (k : Int) := by omega
  have hk3 : k < 1200000 := by omega
  have hput := fun w => Put_any (k : Int) w (by omega) (by omega)
  clear hk
  by_cases hbad : put (k : Int) = []
  · have hwhich := put_nil k hbad
    rw [hbad] at hput
    have HP := Lib.hid hput
    have te : (txt []).toList = [] := ByteArray.toList_mk []
    clear hput hbad
    have hc3 := fun w => str_cells (w := w) rfl [UInt8.ofNat (224 + k / 4096 % 16), UInt8.ofNat (128 + k / 64 % 64), UInt8.ofNat (128 + k % 64)] #[.int .u8 (224 + (k : Int) / 4096 % 16), .int .u8 (128 + (k : Int) / 64 % 64), .int .u8 (128 + (k : Int) % 64)] (by simp only [List.map_cons, List.map_nil]; rw [bytec_ofNat (by omega), bytec_ofNat (by omega), bytec_ofNat (by omega)]; simp) 3 rfl
    obtain ⟨T3, hT3⟩ : ∃ T, T = txt [UInt8.ofNat (224 + k / 4096 % 16), UInt8.ofNat (128 + k / 64 % 64), UInt8.ofNat (128 + k % 64)] := ⟨_, rfl⟩
    rw [← hT3] at hc3
    rcases hwhich with ⟨h1, h2⟩ | h1
    · have hx := fun w => K.next _ w (show [UInt8.ofNat (224 + k / 4096 % 16), UInt8.ofNat (128 + k / 64 % 64), UInt8.ofNat (128 + k % 64)].length ≤ 1000000 by simp)
      have hv := fun (w : World) => valid_no K _ w rfl (show [UInt8.ofNat (224 + k / 4096 % 16), UInt8.ofNat (128 + k / 64 % 64), UInt8.ofNat (128 + k % 64)].length ≤ 1000000 by simp) (bad3 k h1 h2) (by simp)
      rw [bad3 k h1 h2, ← hT3] at hx
      rw [← hT3] at hv
      have t6 : decide (65535 < (k : Int)) = false := by simp; omega
      have HX := Lib.hid hx
      have HV := Lib.hid hv
      clear hx hv hT3
      go_enter Try.func4, Try.ntmps4
      go_wp2_with fail
      refine (HA.out _).mono ?_
      rintro e w1 ⟨rfl, hf1⟩
      go_wp2_with fail
      refine (HP.out _).mono ?_
      rintro e w2 ⟨rfl, hf2⟩
      go_wp2_with fail
      refine (HX.out _).mono ?_
      rintro e w3 ⟨rfl, hf3⟩
      go_wp2_with fail
      refine (HV.out _).mono ?_
      rintro e w4 ⟨rfl, hf4⟩
      go_wp2
      go_ret
      exact ⟨rfl, ((((hf1.trans hf2 (fun _ _ h => h)).alloc _).trans hf3 (fun _ _ h => h))).trans hf4 (fun _ _ h => h)⟩
    · have hc4 := fun (w : World) (o : Obj) => str_cells (w := w.alloc o) (k := w.heap.size + 1) (by simp) [UInt8.ofNat (240 + k / 262144), UInt8.ofNat (128 + k / 4096 % 64), UInt8.ofNat (128 + k / 64 % 64), UInt8.ofNat (128 + k % 64)] #[.int .u8 (240 + (k : Int) / 262144), .int .u8 (128 + (k : Int) / 4096 % 64), .int .u8 (128 + (k : Int) / 64 % 64), .int .u8 (128 + (k : Int) % 64)] (by simp only [List.map_cons, List.map_nil]; rw [bytec_ofNat (by omega), bytec_ofNat (by omega), bytec_ofNat (by omega), bytec_ofNat (by omega)]; simp) 4 rfl
      obtain ⟨T4, hT4⟩ : ∃ T, T = txt [UInt8.ofNat (240 + k / 262144), UInt8.ofNat (128 + k / 4096 % 64), UInt8.ofNat (128 + k / 64 % 64), UInt8.ofNat (128 + k % 64)] := ⟨_, rfl⟩
      rw [← hT4] at hc4
      have hx := fun w => K.next _ w (show [UInt8.ofNat (240 + k / 262144), UInt8.ofNat (128 + k / 4096 % 64), UInt8.ofNat (128 + k / 64 % 64), UInt8.ofNat (128 + k % 64)].length ≤ 1000000 by simp)
      have hv := fun (w : World) => valid_no K _ w rfl (show [UInt8.ofNat (240 + k / 262144), UInt8.ofNat (128 + k / 4096 % 64), UInt8.ofNat (128 + k / 64 % 64), UInt8.ofNat (128 + k % 64)].length ≤ 1000000 by simp) (bad4 k h1 hk3) (by simp)
      rw [bad4 k h1 hk3, ← hT4] at hx
      rw [← hT4] at hv
      have t6 : decide (65535 < (k : Int)) = true := by simp; omega
      have HX := Lib.hid hx
      have HV := Lib.hid hv
      clear hx hv hT3 hT4
      go_enter Try.func4, Try.ntmps4
      go_wp2_with fail
      refine (HA.out _).mono ?_
      rintro e w1 ⟨rfl, hf1⟩
      go_wp2_with fail
      refine (HP.out _).mono ?_
      rintro e w2 ⟨rfl, hf2⟩
      go_wp2_with fail
      refine (HX.out _).mono ?_
      rintro e w3 ⟨rfl, hf3⟩
      go_wp2_with fail
      refine (HV.out _).mono ?_
      rintro e w4 ⟨rfl, hf4⟩
      go_wp2
      go_ret
      exact ⟨rfl, (((((hf1.trans hf2 (fun _ _ h => h)).alloc _).alloc _).trans hf3 (fun _ _ h => h))).trans hf4 (fun _ _ h => h)⟩
  · have hnx := nx_put k hbad
    have hfr := nx_front k hbad
    have hl4 := put_len k
    obtain ⟨P, hP⟩ : ∃ P, P = put (k : Int) := ⟨_, rfl⟩
    rw [← hP] at hput hbad hnx hfr hl4
    obtain ⟨m, hm⟩ : ∃ m, P.length = m := ⟨_, rfl⟩
    have hm0 : 0 < m := by rw [← hm]; exact List.length_pos_iff.2 hbad
    rw [hm] at hnx hfr hl4
    have h1 := fun w => K.next P w (by omega)
    have h2 := fun w => K.next (P ++ [120]) w (by simp; omega)
    rw [nx_app P [120] (by omega)] at h2
    rw [hnx] at h1 h2
    have h3 := fun (w : World) => valid1 K P w rfl (by omega) true (by rw [wh_of_nx (by rw [hnx, hm])]; simp)
    have h4 := fun w => K.next (P.take (m - 1)) w (by simp; omega)
    obtain ⟨T, hT⟩ : ∃ T, T = txt P := ⟨_, rfl⟩
    have hTs : T.size = m := by rw [hT, txt_sz, hm]
    obtain ⟨T2, hT2⟩ : ∃ T2, T ++ txt [120] = T2 := ⟨_, rfl⟩
    have hT2' : T2 = txt (P ++ [120]) := by rw [← hT2, hT]; apply ByteArray.ext; simp [txt]
    have hT2c : T ++ { data := #[120] } = T2 := hT2
    obtain ⟨T3, hT3⟩ : ∃ T3, T.extract 0 (m - 1) = T3 := ⟨_, rfl⟩
    have hT3' : T3 = txt (P.take (m - 1)) := by rw [← hT3, hT, ext_upto]
    have hne : T.toList.isEmpty = false := by
      rw [hT, show (txt P).toList = P from ByteArray.toList_mk _]
      cases P with
      | nil => exact absurd rfl hbad
      | cons => rfl
    rw [← hT] at h1 h3 hput
    rw [← hT2'] at h2
    rw [← hT3'] at h4
    have HP := Lib.hid hput
    have H1 := Lib.hid h1
    have H2 := Lib.hid h2
    have H3 := Lib.hid h3
    clear h1 h2 h3 hput hP hm hT hT2' hT3' hnx
    by_cases hm1 : m = 1
    · have te : ((m : Int) == 1) = true := by simp; omega
      clear hm1 hfr h4
      go_enter Try.func4, Try.ntmps4
      go_wp2_with fail
      refine (HA.out _).mono ?_
      rintro e w1 ⟨rfl, hf1⟩
      go_wp2_with fail
      refine (HP.out _).mono ?_
      rintro e w2 ⟨rfl, hf2⟩
      go_wp2_with fail
      refine (H1.out _).mono ?_
      rintro e w3 ⟨rfl, hf3⟩
      go_wp2_with fail
      refine (H2.out _).mono ?_
      rintro e w4 ⟨rfl, hf4⟩
      go_wp2_with fail
      refine (H3.out _).mono ?_
      rintro e w5 ⟨rfl, hf5⟩
      go_wp2
      go_ret
      exact ⟨rfl, (((hf1.trans hf2 (fun _ _ h => h)).trans hf3 (fun _ _ h => h)).trans hf4 (fun _ _ h => h)).trans hf5 (fun _ _ h => h)⟩
    · have te : ((m : Int) == 1) = false := by simp; omega
      rw [hfr hm1] at h4
      have hm2 : ((m : Int) - 1) = ((m - 1 : Nat) : Int) := by omega
      obtain ⟨r, hr⟩ : ∃ r, r = m - 1 := ⟨_, rfl⟩
      rw [← hr] at hm2 hT3
      have hrI : (r : Int) ≤ (m : Int) := by omega
      have H4 := Lib.hid h4
      clear hm1 hfr h4 hr
      go_enter Try.func4, Try.ntmps4
      go_wp2_with fail
      refine (HA.out _).mono ?_
      rintro e w1 ⟨rfl, hf1⟩
      go_wp2_with fail
      refine (HP.out _).mono ?_
      rintro e w2 ⟨rfl, hf2⟩
      go_wp2_with fail
      refine (H1.out _).mono ?_
      rintro e w3 ⟨rfl, hf3⟩
      go_wp2_with fail
      refine (H2.out _).mono ?_
      rintro e w4 ⟨rfl, hf4⟩
      go_wp2_with fail
      refine (H3.out _).mono ?_
      rintro e w5 ⟨rfl, hf5⟩
      go_wp2_with fail
      refine (H4.out _).mono ?_
      rintro e w6 ⟨rfl, hf6⟩
      go_wp2
      go_ret
      exact ⟨rfl, ((((hf1.trans hf2 (fun _ _ h => h)).trans hf3 (fun _ _ h => h)).trans hf4 (fun _ _ h => h)).trans hf5 (fun _ _ h => h)).trans hf6 (fun _ _ h => h)⟩
end Go.Proofs.Ytlkjhjoligljbaa
