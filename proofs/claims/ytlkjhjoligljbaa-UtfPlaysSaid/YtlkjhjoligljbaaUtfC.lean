/-
  The law UtfPlays, out of the program's contracts.
-/
import Derived.Test.YtlkjhjoligljbaaUtfK
namespace Go.Proofs.Ytlkjhjoligljbaa
open Go.RowKit UtfM Mem Go.Lib

set_option maxRecDepth 100000 in
set_option maxHeartbeats 3200000 in
theorem plays_law (K : UtfP) (B C : List UInt8) (w : World) :
    Calls Try.prog 3 #[.string (txt B), .string (txt C)] w fun e w' => e = .returned (.bool true) ∧ Fr (fun _ => False) w w' := by
  obtain ⟨n, hn⟩ : ∃ n, B.length = n := ⟨_, rfl⟩
  obtain ⟨m, hm⟩ : ∃ m, C.length = m := ⟨_, rfl⟩
  have hsB : (txt B).size = n := by rw [txt_sz, hn]
  have hsC : (txt C).size = m := by rw [txt_sz, hm]
  have HK := Lib.hid K
  have HA := Lib.hid (awake_any K)
  by_cases hbig : 2000 < n ∨ 2000 < m
  · clear hn hm
    have tn : decide (2000 < (n : Int)) = true ∨ decide (2000 < (n : Int)) = false ∧ decide (2000 < (m : Int)) = true := by
      by_cases h : 2000 < n
      · left; simp; omega
      · right; constructor <;> simp <;> omega
    clear hbig
    rcases tn with tn | ⟨tn, tm⟩
    all_goals
      go_enter Try.func3, Try.ntmps3
      go_wp2_with fail
      refine (HA.out _).mono ?_
      rintro e w1 ⟨rfl, hf1⟩
      go_wp2_with fail
      refine (HA.out _).mono ?_
      rintro e w2 ⟨rfl, hf2⟩
      go_wp2
      go_ret
      exact ⟨rfl, hf1.trans hf2 (fun _ _ h => h)⟩
  · have hB6 : B.length ≤ 1000000 := by omega
    have hC6 : C.length ≤ 1000000 := by omega
    have tn : decide (2000 < (n : Int)) = false := by simp; omega
    have tm : decide (2000 < (m : Int)) = false := by simp; omega
    obtain ⟨v, hv⟩ : ∃ v, (wh B == B.length) = v := ⟨_, rfl⟩
    obtain ⟨u, hu⟩ : ∃ u, (wh C == C.length) = u := ⟨_, rfl⟩
    have h1 := fun w => rWhere_any B w (by omega)
    have h2 := fun w => rWhere_any C w (by omega)
    have h3 := fun w => K.next B w hB6
    have h4 := fun w => rNext_any B w (by omega)
    have h5 := fun w => K.where_ B w hB6
    have h6 := fun (w : World) => valid1 K B w rfl hB6 v hv
    have h7 := fun (w : World) => valid2 K B C w rfl hB6 hC6 v u hv hu
    obtain ⟨p, hp⟩ : ∃ p, p = wh B := ⟨_, rfl⟩
    obtain ⟨q, hq⟩ : ∃ q, q = wh C := ⟨_, rfl⟩
    obtain ⟨x, hx⟩ : ∃ x, x = nx B := ⟨_, rfl⟩
    rw [← hp] at h1 h5 hv
    rw [← hq] at h2 hu
    rw [← hx] at h3 h4
    have tv : ((p : Int) == (n : Int)) = v := by rw [← hv, hn, Bool.eq_iff_iff]; simp; omega
    have tu : ((q : Int) == (m : Int)) = u := by rw [← hu, hm, Bool.eq_iff_iff]; simp; omega
    have H1 := Lib.hid h1
    have H2 := Lib.hid h2
    have H3 := Lib.hid h3
    have H4 := Lib.hid h4
    have H5 := Lib.hid h5
    have H6 := Lib.hid h6
    have H7 := Lib.hid h7
    have H8 := Lib.hid (valid0 K)
    clear h1 h2 h3 h4 h5 h6 h7 hv hu hp hq hx hn hm hbig K HK hB6 hC6
    cases v <;> cases u
    all_goals
      go_enter Try.func3, Try.ntmps3
      go_wp2_with fail
      refine (HA.out _).mono ?_
      rintro e w1 ⟨rfl, hf1⟩
      go_wp2_with fail
      refine (H1.out _).mono ?_
      rintro e w2 ⟨rfl, hf2⟩
      go_wp2_with fail
      refine (H2.out _).mono ?_
      rintro e w3 ⟨rfl, hf3⟩
      go_wp2_with fail
      refine (H3.out _).mono ?_
      rintro e w4 ⟨rfl, hf4⟩
      go_wp2_with fail
      refine (H4.out _).mono ?_
      rintro e w5 ⟨rfl, hf5⟩
      go_wp2_with fail
      refine (H5.out _).mono ?_
      rintro e w6 ⟨rfl, hf6⟩
      go_wp2_with fail
      refine (H6.out _).mono ?_
      rintro e w7 ⟨rfl, hf7⟩
      go_wp2_with fail
      refine (H7.out _).mono ?_
      rintro e w8 ⟨rfl, hf8⟩
      go_wp2_with fail
      refine (H8.out _).mono ?_
      rintro e w9 ⟨rfl, hf9⟩
      go_wp2
      go_ret
      exact ⟨rfl, (((((((hf1.trans hf2 (fun _ _ h => h)).trans hf3 (fun _ _ h => h)).trans hf4 (fun _ _ h => h)).trans hf5 (fun _ _ h => h)).trans hf6 (fun _ _ h => h)).trans hf7 (fun _ _ h => h)).trans hf8 (fun _ _ h => h)).trans hf9 (fun _ _ h => h)⟩
end Go.Proofs.Ytlkjhjoligljbaa
