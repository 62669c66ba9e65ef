/-
  Contract of layer 3's reference: Where.
-/
import Derived.Test.YtmiofhoojahpjaaUtfA
namespace Go.Proofs.Ytmiofhoojahpjaa
open Go.RowKit UtfM Mem Go.Lib

set_option maxRecDepth 100000 in
set_option maxHeartbeats 800000 in
theorem rWhere_any (B : List UInt8) (w : World) (hl : B.length ≤ 1000000000) :
    Calls Try.prog 25 #[.string (txt B)] w fun e w' => e = .returned (.int .i64 (wh B : Int)) ∧ Fr (fun _ => False) w w' := by
  have hsz := txt_sz B
  obtain ⟨n, hn⟩ : ∃ n, n = B.length := ⟨_, rfl⟩
  rw [← hn] at hsz hl
  have HSZ := Lib.hid hsz
  have HN := Lib.hid hn
  clear hn hsz
  go_enter Try.func25, Try.ntmps25
  go_wp2
  go_loopw [3] (fun i wr => ∃ k : Nat, k ≤ n ∧ i = .int .i64 k ∧ Hid (k + wh (B.drop k) = wh B) ∧ Fr (fun _ => False) w wr) (fun i _ => n - (intOf i).toNat)
  case atStart => exact ⟨0, by omega, rfl, by show _ = _; simp, Fr.refl _ _⟩
  case round =>
    obtain ⟨k, hk, rfl, Hk, hfr⟩ := hrel
    have hszI : (k : Int) ≤ ((txt B).size : Int) := by rw [HSZ.out]; omega
    have hkI : (0 : Int) ≤ (k : Int) := by omega
    by_cases hlt : k < n
    · have hltI : (k : Int) < ((txt B).size : Int) := by rw [HSZ.out]; omega
      obtain ⟨T, hT⟩ : ∃ T, (txt B).extract k (txt B).size = T := ⟨_, rfl⟩
      have hT2 : T = txt (B.drop k) := by rw [← hT, ext_from]
      obtain ⟨q, hq⟩ : ∃ q, q = nx (B.drop k) := ⟨_, rfl⟩
      have hql := nx_le (B.drop k)
      rw [← hq, List.length_drop, ← HN.out] at hql
      have hnx : ∀ w' : World, Calls Try.prog 31 #[.string T] w' fun e w'' => e = .returned (.int .i64 (q : Int)) ∧ Fr (fun _ => False) w' w'' := by
        intro w'
        rw [hT2, hq]
        exact rNext_any (B.drop k) w' (by rw [List.length_drop, ← HN.out]; omega)
      have HNX := Lib.hid hnx
      have HQ := Lib.hid hq
      clear hnx hT2 hq
      by_cases hq0 : 0 < q
      · have hdec : decide (0 < (q : Int)) = true := by simp; omega
        have hnext : (k + q) + wh (B.drop (k + q)) = wh B := by
          rw [← Hk.out, wh_pos (B := B.drop k) (by rw [← HQ.out]; exact hq0), ← HQ.out, List.drop_drop]
          omega
        have HNEXT := Lib.hid hnext
        clear hnext
        go_wp2_with fail
        refine (HNX.out _).mono ?_
        rintro e w2 ⟨rfl, hf2⟩
        go_wp2_with fail
        refine (HNX.out _).mono ?_
        rintro e w3 ⟨rfl, hf3⟩
        go_wp2
        go_roundw
        case rel => exact ⟨k + q, by omega, by go_num, HNEXT.out, (hfr.trans hf2 (fun _ _ h => h)).trans hf3 (fun _ _ h => h)⟩
        case measure => simp [intOf] <;> omega
      · have hdec : decide (0 < (q : Int)) = false := by simp; omega
        have hres : wh B = k := by rw [← Hk.out, wh_zero (B := B.drop k) (by rw [← HQ.out]; omega)]; omega
        have HRES := Lib.hid hres
        clear hres
        go_wp2_with fail
        refine (HNX.out _).mono ?_
        rintro e w2 ⟨rfl, hf2⟩
        go_wp2
        go_ret
        rw [HRES.out]
        exact ⟨rfl, hfr.trans hf2 (fun _ _ h => h)⟩
    · have hltI : ¬ (k : Int) < ((txt B).size : Int) := by rw [HSZ.out]; omega
      have hres : wh B = k := by rw [← Hk.out, List.drop_eq_nil_of_le (by have := HN.out; omega), wh_nil]; omega
      have HRES := Lib.hid hres
      clear hres
      go_wp2
      go_ret
      rw [HRES.out]
      exact ⟨rfl, hfr⟩
end Go.Proofs.Ytmiofhoojahpjaa
