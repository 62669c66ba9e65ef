/-
  The law LzBack.
-/
import Derived.Test.YtgieckdfbkonpaaLzU
namespace Go.Proofs.Ytgieckdfbkonpaa
open Go.RowKit LzM LzN LzV Mem Go.Lib
attribute [local go_sem ↓] Go.wp_at_zero Go.wp_at_succ
set_option linter.unusedVariables false

set_option maxRecDepth 100000 in
set_option maxHeartbeats 3200000 in
theorem back_law (A : Option Addr) (n c : Nat) (B : List UInt8) (w : World) (hB : Rd w A n (B.map bytec)) (hc : n ≤ c) (hcm : c ≤ maxLen) :
    Calls Try.prog 5 #[.slice A n c] w fun e w' => e = .returned (.bool true) ∧ Fr (fun _ => False) w w' := by
  have HR := Lib.hid hB
  have HC := Lib.hid (And.intro hc hcm)
  have hln : B.length = n := by simpa using hB.1
  have HLN := Lib.hid hln
  clear hB hc hcm hln
  by_cases hn : 4500 < n
  · go_enter Try.func5, Try.ntmps5
    go_wp2_with fail
    refine (awake_any w).mono ?_
    rintro e w2 ⟨rfl, hf2⟩
    go_wp2_with fail
    refine (awake_any w2).mono ?_
    rintro e w3 ⟨rfl, hf3⟩
    go_wp2_with fail
    go_ret
    exact ⟨rfl, hf2.trans hf3 (fun _ _ h => h)⟩
  · have hn2 : n ≤ 4500 := by omega
    clear hn
    go_enter Try.func5, Try.ntmps5
    go_wp2_with fail
    refine (awake_any w).mono ?_
    rintro e w2 ⟨rfl, hf2⟩
    have HF2 := Lib.hid hf2
    clear hf2
    go_wp2_with fail
    refine (pPress_any A n c B w2 (HR.out.fr HF2.out (fun _ _ h => h)) (by omega) HC.out.1 HC.out.2).mono ?_
    rintro e w3 ⟨A3, c3, rfl, hO3, hf3⟩
    have HF3 := Lib.hid (HF2.out.trans hf3 (fun _ _ h => h))
    have HT3 := Lib.hid hO3.toks
    have hL1 := press_len B
    have hop := open_press B (n : Int) (by rw [HLN.out]; omega)
    have hsh : 0 < n → openT ((n : Int) - 1) [] (press B) = .error 4 := fun h => by
      have := open_press_short B (by rw [HLN.out]; exact h)
      rwa [HLN.out] at this
    obtain ⟨T, hT⟩ : ∃ T, T = press B := ⟨_, rfl⟩
    rw [← hT] at HT3 hL1 hop hsh ⊢
    obtain ⟨L, hL⟩ : ∃ L, L = T.length := ⟨_, rfl⟩
    rw [← hL] at HT3 hL1 ⊢
    rw [HLN.out] at hL1
    have HOP := Lib.hid hop
    have HSH := Lib.hid hsh
    clear hO3 hf3 hT hL hop hsh
    go_wp2_with fail
    refine (pOpen_any (n : Int) A3 L c3 T w3 HT3.out (by omega)).mono ?_
    rw [HOP.out]
    rintro e w4 ⟨A4, c4, rfl, hO4, hf4⟩
    have HF4 := Lib.hid (HF3.out.trans hf4 (fun _ _ h => h))
    have HT4 := Lib.hid (HT3.out.fr hf4 (fun _ _ h => h))
    have HO4 : Hid (Own w4 w3.heap.size A4 c4 B) := Lib.hid hO4
    clear hO4 hf4
    simp only [toP]
    rw [HLN.out]
    go_wp2_with fail
    have hopen2 : Calls Try.prog 12 #[.int .i64 ((n : Int) - 1), .slice A3 L c3] w4 fun e w' => ∃ A' c' N, e = .returned (.tuple #[.slice A' N c', .int .i64 (if 0 < n then 4 else (toP (openT (-1) [] T)).2 : Nat)]) ∧ (0 < n → N = 0) ∧ Fr (fun _ => False) w4 w' := by
      refine (pOpen_any ((n : Int) - 1) A3 L c3 T w4 HT4.out (by omega)).mono ?_
      rintro e w5 ⟨A5, c5, rfl, hO5, hf5⟩
      by_cases h0 : 0 < n
      · rw [HSH.out h0, if_pos h0]
        exact ⟨A5, c5, 0, rfl, fun _ => rfl, hf5⟩
      · obtain rfl : n = 0 := by omega
        exact ⟨A5, c5, _, rfl, fun h => by omega, hf5⟩
    refine hopen2.mono ?_
    rintro e w5 ⟨A5, c5, N5, rfl, hN5, hf5⟩
    have HF5 := Lib.hid (HF4.out.trans hf5 (fun _ _ h => h))
    obtain ⟨S, hS⟩ : ∃ S, S = txt B := ⟨_, rfl⟩
    have hs1 : (convert 22 9 (.slice A4 n c4)).run Try.prog w5 = .ok (.string S) w5 := by rw [hS, ← HLN.out]; exact (HO4.out.fr hf5).str
    have hs2 : (convert 22 9 (.slice A n c)).run Try.prog w5 = .ok (.string S) w5 := by rw [hS]; exact str_rd (HR.out.fr HF5.out (fun _ _ h => h)) c
    clear hf5 hS hopen2
    by_cases h0 : 0 < n
    · obtain rfl := hN5 h0
      rw [if_pos h0]
      clear hN5
      go_wp2_with fail
      go_ret
      exact ⟨rfl, HF5.out⟩
    · obtain rfl : n = 0 := by omega
      rw [if_neg h0]
      clear hN5
      go_wp2_with fail
      go_ret
      exact ⟨rfl, HF5.out⟩
end Go.Proofs.Ytgieckdfbkonpaa
