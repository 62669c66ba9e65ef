/-
  Layer 18, the program: the actor that bytes begin with.
-/
import Derived.Test.YtbagclhghcglbaaAcC
import Derived.Test.YtbagclhghcglbaaLebD
namespace Go.Proofs.Ytbagclhghcglbaa
open Go.RowKit Mem Go.Lib LebM UtfM VaM OpM AcM
attribute [local go_sem ↓] Go.wp_at_zero Go.wp_at_succ
set_option linter.unusedVariables false

theorem gu_le (B : List UInt8) : (gu B).2.1 ≤ B.length ∧ (gu B).2.1 ≤ 10 ∧ (gu B).2.2 ≤ 3 ∧ (gu B).1 < 18446744073709551616 := by
  have h := spanK_le B
  have h2 := spanE_le B
  unfold gu
  split
  · exact ⟨Nat.zero_le _, Nat.zero_le _, h2, by show 0 < _; omega⟩
  · split
    · exact ⟨h.1, h.2, by show 0 ≤ 3; omega, Nat.mod_lt _ (by omega)⟩
    · exact ⟨Nat.zero_le _, Nat.zero_le _, by show 3 ≤ 3; omega, by show 0 < _; omega⟩
set_option maxRecDepth 100000 in
set_option maxHeartbeats 3200000 in
theorem first_any (A : Option Addr) (n c : Nat) (B : List UInt8) (w : World) (hr : Rd w A n (B.map bytec)) (hc : n ≤ c) (hn : n ≤ 1000000000) :
    Calls Try.prog 30 #[.slice A n c] w fun e w' => e = .returned (.tuple #[.string (txt (firstA B).1), .int .i64 ((firstA B).2.1 : Int), .int .i64 ((firstA B).2.2 : Int)]) ∧ Fr (fun _ => False) w w' := by
  have hBn : B.length = n := by simpa using hr.1
  have hg := GetU_any A n c B w hr hc
  have hle := gu_le B
  obtain ⟨N, hN⟩ : ∃ N, (gu B).1 = N := ⟨_, rfl⟩
  obtain ⟨K, hK⟩ : ∃ K, (gu B).2.1 = K := ⟨_, rfl⟩
  obtain ⟨E, hE⟩ : ∃ E, (gu B).2.2 = E := ⟨_, rfl⟩
  have hf : firstA B = if E ≠ 0 then ([], 0, E) else if N < 1 ∨ 16 < N then ([], 0, 4) else if n - K < N then ([], 0, 2) else ((B.drop K).take N, K + N, 0) := by
    unfold firstA
    rw [hN, hK, hE, hBn]
  rw [hN, hK, hE] at hg hle
  rw [hBn] at hle
  obtain ⟨hl1, hl2, hl3, hl4⟩ := hle
  have HRD := Lib.hid hr
  have HBN := Lib.hid hBn
  have HG := Lib.hid hg
  clear hr hBn hg hN hK hE
  by_cases he : E ≠ 0
  · rw [if_pos he] at hf
    have t0 : ((E : Int) != 0) = true := by simp; omega
    have t0' : (E != 0) = true := by simp; omega
    have HFI := Lib.hid hf
    clear hf he hl1 hl2 hl3 hl4
    go_enter Try.func30, Try.ntmps30
    go_wp2_with fail
    refine HG.out.mono ?_
    rintro e w1 ⟨rfl, hf1⟩
    have HF1 := Lib.hid hf1
    clear hf1
    go_wp2_with fail
    refine bodyPost_ret (v := .tuple #[.string ⟨#[]⟩, .int .i64 0, .int .i64 (E : Int)]) (by simp [results, Try.results30, go_sem]) rfl ?_
    rw [HFI.out]
    exact ⟨rfl, HF1.out⟩
  · have he0 : E = 0 := by omega
    subst he0
    rw [if_neg (by simp)] at hf
    clear he hl3
    by_cases h16 : N < 1 ∨ 16 < N
    · rw [if_pos h16] at hf
      have HFI := Lib.hid hf
      clear hf hl1 hl2
      by_cases h0 : N < 1
      · have t1 : decide ((N : Int) < 1) = true := decide_eq_true (by omega)
        have t1' : decide (N < 1) = true := decide_eq_true (by omega)
        clear h16 h0
        go_enter Try.func30, Try.ntmps30
        go_wp2_with fail
        refine HG.out.mono ?_
        rintro e w1 ⟨rfl, hf1⟩
        have HF1 := Lib.hid hf1
        clear hf1
        go_wp2_with fail
        refine bodyPost_ret (v := .tuple #[.string ⟨#[]⟩, .int .i64 0, .int .i64 4]) (by simp [results, Try.results30, go_sem]) rfl ?_
        rw [HFI.out]
        exact ⟨rfl, HF1.out⟩
      · have t1 : decide ((N : Int) < 1) = false := decide_eq_false (by omega)
        have t1' : decide (N < 1) = false := decide_eq_false (by omega)
        have t2 : decide ((16 : Int) < (N : Int)) = true := decide_eq_true (by omega)
        have t2' : decide (16 < N) = true := decide_eq_true (by omega)
        clear h16 h0
        go_enter Try.func30, Try.ntmps30
        go_wp2_with fail
        refine HG.out.mono ?_
        rintro e w1 ⟨rfl, hf1⟩
        have HF1 := Lib.hid hf1
        clear hf1
        go_wp2_with fail
        refine bodyPost_ret (v := .tuple #[.string ⟨#[]⟩, .int .i64 0, .int .i64 4]) (by simp [results, Try.results30, go_sem]) rfl ?_
        rw [HFI.out]
        exact ⟨rfl, HF1.out⟩
    · rw [if_neg h16] at hf
      have t1 : decide ((N : Int) < 1) = false := decide_eq_false (by omega)
      have t1' : decide (N < 1) = false := decide_eq_false (by omega)
      have t2 : decide ((16 : Int) < (N : Int)) = false := decide_eq_false (by omega)
      have t2' : decide (16 < N) = false := decide_eq_false (by omega)
      obtain ⟨m, hm⟩ : ∃ m, n - K = m := ⟨_, rfl⟩
      have r1 : IntKind.i64.wrap ((n : Int) - (K : Int)) = (m : Int) := by rw [IntKind.wrap_i64]; omega
      have r2 : IntKind.u64.wrap (m : Int) = (m : Int) := by rw [IntKind.wrap_u64]; omega
      rw [hm] at hf
      by_cases hs : m < N
      · rw [if_pos hs] at hf
        have t3 : decide ((m : Int) < (N : Int)) = true := decide_eq_true (by omega)
        have t3' : decide (m < N) = true := decide_eq_true (by omega)
        have HFI := Lib.hid hf
        clear hf h16 hs hm
        go_enter Try.func30, Try.ntmps30
        go_wp2_with fail
        refine HG.out.mono ?_
        rintro e w1 ⟨rfl, hf1⟩
        have HF1 := Lib.hid hf1
        clear hf1
        go_wp2_with fail
        refine bodyPost_ret (v := .tuple #[.string ⟨#[]⟩, .int .i64 0, .int .i64 2]) (by simp [results, Try.results30, go_sem]) rfl ?_
        rw [HFI.out]
        exact ⟨rfl, HF1.out⟩
      · rw [if_neg hs] at hf
        have t3 : decide ((m : Int) < (N : Int)) = false := decide_eq_false (by omega)
        have t3' : decide (m < N) = false := decide_eq_false (by omega)
        have r3 : IntKind.i64.wrap (N : Int) = (N : Int) := by rw [IntKind.wrap_i64]; omega
        obtain ⟨y, hy⟩ : ∃ y, K + N = y := ⟨_, rfl⟩
        have r4 : IntKind.i64.wrap ((K : Int) + (N : Int)) = (y : Int) := by rw [IntKind.wrap_i64]; omega
        have hcut := run_cutB A n c K y (by omega) (by omega) hc (K : Int) (y : Int) rfl rfl
        have hrd := fun (w' : World) (h : Fr (fun _ => False) w w') => rd_cut (HRD.out.fr h (fun _ _ h => h)) (f := K) (y := y) (by omega) (by omega) hc
        obtain ⟨A2, hA2⟩ : ∃ A2, cutAt A c K = A2 := ⟨_, rfl⟩
        rw [hA2] at hcut hrd
        have he : (B.take y).drop K = (B.drop K).take N := by rw [← hy, List.drop_take, Nat.add_sub_cancel_left]
        obtain ⟨X, hX⟩ : ∃ X, (B.drop K).take N = X := ⟨_, rfl⟩
        rw [hX] at he hf
        simp only [← List.map_take, ← List.map_drop, he] at hrd
        obtain ⟨z, hz⟩ : ∃ z, y - K = z := ⟨_, rfl⟩
        obtain ⟨c2, hc2⟩ : ∃ c2, c - K = c2 := ⟨_, rfl⟩
        rw [hz, hc2] at hcut
        simp only [hz] at hrd
        rw [hy] at hf
        have HFI := Lib.hid hf
        have HRX := Lib.hid hrd
        clear hf h16 hs hm hrd hA2 he hX hy hz hc2
        go_enter Try.func30, Try.ntmps30
        go_wp2_with fail
        refine HG.out.mono ?_
        rintro e w1 ⟨rfl, hf1⟩
        have HF1 := Lib.hid hf1
        have hstr := str_rd (HRX.out w1 hf1) c2
        clear hf1
        go_wp2_with fail
        refine bodyPost_ret (v := .tuple #[.string (txt X), .int .i64 (y : Int), .int .i64 0]) (by simp [results, Try.results30, go_sem]) rfl ?_
        rw [HFI.out]
        exact ⟨rfl, HF1.out⟩
end Go.Proofs.Ytbagclhghcglbaa
