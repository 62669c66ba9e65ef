/-
  The law UtfJoins, out of the program's contracts.
-/
import Derived.Test.YtlkjhjoligljbaaUtfK
import Derived.Test.YtlkjhjoligljbaaUtfN
namespace Go.Proofs.Ytlkjhjoligljbaa
open Go.RowKit UtfM Mem Go.Lib

theorem txt_cat (B C : List UInt8) : txt B ++ txt C = txt (B ++ C) := by
  apply ByteArray.ext
  simp [txt]

set_option maxRecDepth 100000 in
set_option maxHeartbeats 3200000 in
theorem joins_law (K : UtfP) (B C : List UInt8) (w : World) :
    Calls Try.prog 5 #[.string (txt B), .string (txt C)] w fun e w' => e = .returned (.bool true) ∧ Fr (fun _ => False) w w' := by
  obtain ⟨n, hn⟩ : ∃ n, B.length = n := ⟨_, rfl⟩
  obtain ⟨m, hm⟩ : ∃ m, C.length = m := ⟨_, rfl⟩
  have hsB : (txt B).size = n := by rw [txt_sz, hn]
  have hsC : (txt C).size = m := by rw [txt_sz, hm]
  have HA := Lib.hid (awake_any K)
  by_cases hbig : 2000 < n ∨ 2000 < m
  · clear hn hm
    have tn : decide (2000 < (n : Int)) = true ∨ decide (2000 < (n : Int)) = false ∧ decide (2000 < (m : Int)) = true := by
      by_cases h : 2000 < n
      · left; simp; omega
      · right; constructor <;> simp <;> omega
    clear hbig
    rcases tn with tn | ⟨tn, tm⟩
    all_goals
      go_enter Try.func5, Try.ntmps5
      go_wp2_with fail
      refine (HA.out _).mono ?_
      rintro e w1 ⟨rfl, hf1⟩
      go_wp2_with fail
      refine (HA.out _).mono ?_
      rintro e w2 ⟨rfl, hf2⟩
      go_wp2
      go_ret
      exact ⟨rfl, hf1.trans hf2 (fun _ _ h => h)⟩
  · have hB6 : B.length ≤ 1000000 := by omega
    have hC6 : C.length ≤ 1000000 := by omega
    have tn : decide (2000 < (n : Int)) = false := by simp; omega
    have tm : decide (2000 < (m : Int)) = false := by simp; omega
    have h1 := fun w => K.where_ B w hB6
    have h2 := fun w => K.where_ C w hC6
    have h3 := fun w => K.where_ (B ++ C) w (by rw [List.length_append]; omega)
    rw [← txt_cat] at h3
    have hfront := wh_front B
    have hmore := wh_more B C
    have happ := wh_app B C
    have hpn := wh_le B
    have hall := wh_all B C
    have hqm := wh_le C
    have hx := wh_le (B ++ C)
    rw [List.length_append, hn, hm] at hx
    rw [hn] at hpn hall
    rw [hm] at hqm
    obtain ⟨p, hp⟩ : ∃ p, p = wh B := ⟨_, rfl⟩
    obtain ⟨q, hq⟩ : ∃ q, q = wh C := ⟨_, rfl⟩
    obtain ⟨x, hxx⟩ : ∃ x, x = wh (B ++ C) := ⟨_, rfl⟩
    have h4 := fun (w : World) => valid1 K (B.take p) w rfl (by simp; omega) true (by rw [hp, hfront, List.length_take]; simp; rw [hn]; omega)
    have h5 := fun w => K.where_ (B.take p ++ C) w (by simp; omega)
    rw [← hp] at h1 hpn hmore happ hall
    rw [← hq] at h2 hqm happ hall
    rw [← hxx] at h3 hmore hx hall
    rw [happ] at h5
    obtain ⟨T, hT⟩ : ∃ T, (txt B).extract 0 p = T := ⟨_, rfl⟩
    have hT2 : T = txt (B.take p) := by rw [← hT, ext_upto]
    have hTs : T.size = p := by rw [hT2, txt_sz, List.length_take]; omega
    rw [← txt_cat, ← hT2] at h5
    rw [← hT2] at h4
    have hcat : ¬ 9223372036854775807 < n + m := by omega
    have hcat2 : ¬ 9223372036854775807 < p + m := by omega
    have H1 := Lib.hid h1
    have H2 := Lib.hid h2
    have H3 := Lib.hid h3
    have H4 := Lib.hid h4
    have H5 := Lib.hid h5
    have hpI : (p : Int) ≤ (n : Int) := by omega
    have hp0 : (0 : Int) ≤ (p : Int) := by omega
    clear h1 h2 h3 h4 h5 hp hq hxx hn hm hB6 hC6 hfront happ hT2
    by_cases hpn2 : p = n
    · have hxe : ((x : Int) == (p : Int) + (q : Int)) = true := by have := hall hpn2; simp; omega
      have tp : ((p : Int) == (n : Int)) = true := by simp; omega
      clear hall hpn2 hmore
      go_enter Try.func5, Try.ntmps5
      go_wp2_with fail
      refine (HA.out _).mono ?_
      rintro e w1 ⟨rfl, hf1⟩
      go_wp2_with fail
      refine (H1.out _).mono ?_
      rintro e w2 ⟨rfl, hf2⟩
      go_wp2_with fail
      refine (H2.out _).mono ?_
      rintro e w3 ⟨rfl, hf3⟩
      go_wp2_with fail
      refine (H3.out _).mono ?_
      rintro e w4 ⟨rfl, hf4⟩
      go_wp2
      go_ret
      exact ⟨rfl, ((hf1.trans hf2 (fun _ _ h => h)).trans hf3 (fun _ _ h => h)).trans hf4 (fun _ _ h => h)⟩
    · have tp : ((p : Int) == (n : Int)) = false := by simp; omega
      have tx : decide ((p : Int) ≤ (x : Int)) = true := by simp; omega
      clear hall hpn2
      go_enter Try.func5, Try.ntmps5
      go_wp2_with fail
      refine (HA.out _).mono ?_
      rintro e w1 ⟨rfl, hf1⟩
      go_wp2_with fail
      refine (H1.out _).mono ?_
      rintro e w2 ⟨rfl, hf2⟩
      go_wp2_with fail
      refine (H2.out _).mono ?_
      rintro e w3 ⟨rfl, hf3⟩
      go_wp2_with fail
      refine (H4.out _).mono ?_
      rintro e w4 ⟨rfl, hf4⟩
      go_wp2_with fail
      refine (H3.out _).mono ?_
      rintro e w5 ⟨rfl, hf5⟩
      go_wp2_with fail
      refine (H5.out _).mono ?_
      rintro e w6 ⟨rfl, hf6⟩
      go_wp2
      go_ret
      exact ⟨rfl, ((((hf1.trans hf2 (fun _ _ h => h)).trans hf3 (fun _ _ h => h)).trans hf4 (fun _ _ h => h)).trans hf5 (fun _ _ h => h)).trans hf6 (fun _ _ h => h)⟩
end Go.Proofs.Ytlkjhjoligljbaa
