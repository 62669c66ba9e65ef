/-
  The law LebSizes: a number has a byte for each seven bits that it needs.
-/
import Derived.Test.YtodliocbncjlcaaLebW
namespace Go.Proofs.Ytodliocbncjlcaa
open Go.RowKit LebM Mem Go.Lib

set_option maxRecDepth 100000 in
set_option maxHeartbeats 1600000 in
theorem sizes_law (n : Nat) (w : World) (hn : n < 18446744073709551616) :
    Calls Try.prog 7 #[.int .u64 (n : Int)] w fun e w' => e = .returned (.bool true) ∧ Fr (fun _ => False) w w' := by
  obtain ⟨M, hM⟩ : ∃ M, wrap64 (n : Int) = M := ⟨_, rfl⟩
  have hM0 : -9223372036854775808 ≤ M := by rw [← hM]; unfold wrap64; omega
  have hM1 : M < 9223372036854775808 := by rw [← hM]; unfold wrap64; omega
  have hz64 := sz_le 64 n hn
  have hm63 := sz_le 63 (mag M) (by unfold mag; split <;> omega)
  have hus := u_size n
  have hss := s_size M
  obtain ⟨p, hp⟩ : ∃ p, p = sz n := ⟨_, rfl⟩
  obtain ⟨q, hq⟩ : ∃ q, q = sz (mag M) := ⟨_, rfl⟩
  rw [← hp] at hz64 hus
  rw [← hq] at hm63 hss
  have HP := Lib.hid hp
  have HQ := Lib.hid hq
  have HUS := Lib.hid hus
  have HSS := Lib.hid hss
  have HUM := Lib.hid (U_any n · hn)
  have HSM := Lib.hid (S_any M · hM0 hM1)
  clear hp hq hus hss
  go_enter Try.func7, Try.ntmps7
  go_wp2_with fail
  refine (awake_any _).mono ?_
  rintro e w1 ⟨rfl, hfr1⟩
  go_wp2_with fail
  go_loop [3, 4] (fun b x => ∃ k z : Nat, b = .int .i64 k ∧ x = .int .u64 (z : Int) ∧ z < 18446744073709551616 ∧ k ≤ 64 ∧ Hid (k + sz z = p)) (fun _ x => (intOf x).toNat)
  case atStart => exact ⟨0, n, rfl, rfl, hn, by omega, by show _ = _; rw [HP.out]; omega⟩
  case round =>
    obtain ⟨k, z, rfl, rfl, hz, hk, Hk⟩ := hrel
    by_cases h0 : 0 < z
    · have hs := sz_pos (n := z) (by omega)
      have h2 := Hk.out
      have HH := Lib.hid (show (k + 1) + sz (z / 2) = p by omega)
      have hk' : k + 1 ≤ 64 := by omega
      clear hs h2
      go_wp2
      go_round
      case rel => exact ⟨k + 1, z / 2, by go_num, by congr 1, by omega, hk', HH.out⟩
      case measure => simp [intOf] <;> omega
    · have hz0 : z = 0 := by omega
      have hkp := Hk.out
      rw [hz0, sz_zero, Nat.add_zero] at hkp
      have HKP := Lib.hid hkp
      clear hkp hz0 Hk
      have hg0 : M < 0 → Value.int .i64 (-(M + 1)) = .int .i64 ((mag M : Nat) : Int) := by intro h; congr 1; unfold mag; rw [if_pos h]; omega
      have hg1 : ¬ M < 0 → Value.int .i64 M = .int .i64 ((mag M : Nat) : Int) := by intro h; congr 1; unfold mag; rw [if_neg h]; omega
      have hgm : mag M < 9223372036854775808 := by unfold mag; split <;> omega
      have HG0 := Lib.hid hg0
      have HG1 := Lib.hid hg1
      have HGM := Lib.hid hgm
      clear hg0 hg1 hgm
      by_cases hneg : M < 0
      all_goals
        have HN := Lib.hid hneg
        go_wp2_with fail
        go_loop [5, 6] (fun x b => ∃ j y : Nat, b = .int .i64 j ∧ x = .int .i64 (y : Int) ∧ y < 9223372036854775808 ∧ j ≤ 63 ∧ Hid (j + sz y = q)) (fun x _ => (intOf x).toNat)
        case atStart => exact ⟨0, mag M, rfl, by first | exact HG0.out HN.out | exact HG1.out HN.out, HGM.out, by omega, by show _ = _; rw [HQ.out]; omega⟩
        case round =>
          obtain ⟨j, y, rfl, rfl, hy, hj, Hj⟩ := hrel
          by_cases h1 : 0 < y
          · have hs := sz_pos (n := y) (by omega)
            have h2 := Hj.out
            have HH := Lib.hid (show (j + 1) + sz (y / 2) = q by omega)
            have hj' : j + 1 ≤ 63 := by omega
            clear hs h2
            go_wp2
            go_round
            case rel => exact ⟨j + 1, y / 2, by go_num, by congr 1, by omega, hj', HH.out⟩
            case measure => simp [intOf] <;> omega
          · have hy0 : y = 0 := by omega
            have hjq := Hj.out
            rw [hy0, sz_zero, Nat.add_zero] at hjq
            have HJQ := Lib.hid hjq
            clear hjq hy0 Hj
            have hu1 := HUS.out
            have hs1 := HSS.out
            rw [← HKP.out] at hu1
            rw [← HJQ.out] at hs1
            have t2 : (((s M).length : Int) == ((j : Int) + 7) / 7) = true := by simp; omega
            rcases Nat.eq_zero_or_pos k with hk0 | hk0
            · have t1 : (((u n).length : Int) == 1) = true := by simp; omega
              have hlt1 : ((k : Int) + 6) / 7 < 1 := by omega
              clear hu1 hs1 hk0
              go_wp2_with fail
              refine (HUM.out _).mono ?_
              rintro e w2 ⟨A1, c1, rfl, hown1, hfr2⟩
              clear hown1
              go_wp2_with fail
              refine (HSM.out _).mono ?_
              rintro e w3 ⟨A2, c2, rfl, hown2, hfr3⟩
              clear hown2
              go_wp2
              go_ret
              exact ⟨rfl, (hfr1.trans hfr2 (fun _ _ h => h)).trans hfr3 (fun _ _ h => h)⟩
            · have t1 : (((u n).length : Int) == ((k : Int) + 6) / 7) = true := by simp; omega
              have hlt1 : 1 ≤ ((k : Int) + 6) / 7 := by omega
              clear hu1 hs1 hk0
              go_wp2_with fail
              refine (HUM.out _).mono ?_
              rintro e w2 ⟨A1, c1, rfl, hown1, hfr2⟩
              clear hown1
              go_wp2_with fail
              refine (HSM.out _).mono ?_
              rintro e w3 ⟨A2, c2, rfl, hown2, hfr3⟩
              clear hown2
              go_wp2
              go_ret
              exact ⟨rfl, (hfr1.trans hfr2 (fun _ _ h => h)).trans hfr3 (fun _ _ h => h)⟩
end Go.Proofs.Ytodliocbncjlcaa
