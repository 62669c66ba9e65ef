/-
  Layer 18, the law ActorsGets (written by gen_laws18.py).
-/
import Derived.Test.YtbagclhghcglbaaAcJ
import Derived.Test.YtbagclhghcglbaaAcI
namespace Go.Proofs.Ytbagclhghcglbaa
open Go.RowKit Mem Go.Lib LebM UtfM VaM OpM AcM
attribute [local go_sem ↓] Go.wp_at_zero Go.wp_at_succ
set_option linter.unusedVariables false

theorem run_len (a : Tx) : ∀ (k : Nat) (last : Tx) (B : List UInt8), (runA a k last B).1.length ≤ B.length
  | 0, _, _ => Nat.zero_le _
  | k + 1, last, B => by
    have h := first_le B
    have ih := run_len a k (firstA B).1 (B.drop (firstA B).2.1)
    rw [List.length_drop] at ih
    unfold runA
    split
    · exact Nat.zero_le _
    · rename_i h0
      have h1 := (h.2.2.2 (by omega)).1
      split
      · exact Nat.zero_le _
      · split
        · exact Nat.zero_le _
        · show ((firstA B).1 :: (runA a k (firstA B).1 (B.drop (firstA B).2.1)).1).length ≤ _
          rw [List.length_cons]
          omega
theorem get_len (a : Tx) (B : List UInt8) : (getA a B).1.length ≤ B.length + 1 := by
  have h := gu_le B
  have h2 := run_len a (gu B).1 [] (B.drop (gu B).2.1)
  rw [List.length_drop] at h2
  unfold getA
  split
  · exact Nat.zero_le _
  · split
    · exact Nat.zero_le _
    · show (a :: (runA a (gu B).1 [] (B.drop (gu B).2.1)).1).length ≤ _
      rw [List.length_cons]
      omega
set_option maxRecDepth 100000 in
set_option maxHeartbeats 6400000 in
theorem acgets_law (a : Tx) (A : Option Addr) (n c : Nat) (B : List UInt8) (w : World) (hr : Rd w A n (B.map bytec)) (hc : n ≤ c) (hcm : c ≤ maxLen) (ha : a.length ≤ 9223372036854775807) :
    Calls Try.prog 4 #[.string (txt a), .slice A n c] w fun e w' => e = .returned (.bool true) ∧ Fr (fun _ => False) w w' := by
  have HAW := Lib.hid (fun w' => awake18_any w')
  have HR := Lib.hid hr
  have HBN : Hid (B.length = n) := Lib.hid (by simpa using hr.1)
  have hcm' : n ≤ 9223372036854775807 := by unfold maxLen at hcm; omega
  clear hr hcm
  have hsza := txt_sz a
  obtain ⟨ma, hma⟩ : ∃ m, m = a.length := ⟨_, rfl⟩
  rw [← hma] at hsza
  have HLa : Hid (a.length = ma) := Lib.hid hma.symm
  clear hma
  by_cases hq0 : 1000 < ma
  · have tq0 : decide ((1000 : Int) < (ma : Int)) = true := decide_eq_true (by omega)
    have tq0' : decide (1000 < ma) = true := decide_eq_true hq0
    clear hq0
    go_enter Try.func4, Try.ntmps4
    go_wp2_with fail
    refine (HAW.out _).mono ?_
    rintro e w1 ⟨rfl, hf⟩
    have HF1 := Lib.hid hf
    clear hf
    go_wp2_with fail
    refine (HAW.out _).mono ?_
    rintro e w3 ⟨rfl, hf⟩
    have HF3 := Lib.hid (HF1.out.trans hf (fun _ _ h => h))
    clear hf
    go_wp2_with fail
    go_ret
    exact ⟨rfl, HF3.out⟩
  · have tq0 : decide ((1000 : Int) < (ma : Int)) = false := decide_eq_false (by omega)
    have tq0' : decide (1000 < ma) = false := decide_eq_false hq0
    by_cases hq1 : 1000 < n
    · have tq1 : decide ((1000 : Int) < (n : Int)) = true := decide_eq_true (by omega)
      have tq1' : decide (1000 < n) = true := decide_eq_true hq1
      clear hq1
      go_enter Try.func4, Try.ntmps4
      go_wp2_with fail
      refine (HAW.out _).mono ?_
      rintro e w1 ⟨rfl, hf⟩
      have HF1 := Lib.hid hf
      clear hf
      go_wp2_with fail
      refine (HAW.out _).mono ?_
      rintro e w3 ⟨rfl, hf⟩
      have HF3 := Lib.hid (HF1.out.trans hf (fun _ _ h => h))
      clear hf
      go_wp2_with fail
      go_ret
      exact ⟨rfl, HF3.out⟩
    · have tq1 : decide ((1000 : Int) < (n : Int)) = false := decide_eq_false (by omega)
      have tq1' : decide (1000 < n) = false := decide_eq_false hq1
      have hgt := fun w' (hf : Fr (fun _ => False) w w') => acGet_any a A n c B w' (HR.out.fr hf (fun _ _ => id)) hc (by omega) (by have := HLa.out; omega)
      have hrg := fun w' (hf : Fr (fun _ => False) w w') => racGet_any a A n c B w' (HR.out.fr hf (fun _ _ => id)) hc (by omega)
      have hgl := get_len a B
      rw [HBN.out] at hgl
      obtain ⟨T, hT⟩ : ∃ T, (getA a B).1 = T := ⟨_, rfl⟩
      obtain ⟨K, hK⟩ : ∃ K, (getA a B).2.1 = K := ⟨_, rfl⟩
      obtain ⟨E, hE⟩ : ∃ E, (getA a B).2.2 = E := ⟨_, rfl⟩
      obtain ⟨nt, hnt⟩ : ∃ k, T.length = k := ⟨_, rfl⟩
      rw [hT, hnt] at hgl
      have HGT := Lib.hid hgt
      have HRG := Lib.hid hrg
      have HTT := Lib.hid hT
      have HTK := Lib.hid hK
      have HTE := Lib.hid hE
      have HTN := Lib.hid hnt
      have HTL : Hid (nt ≤ 1000 + 1) := Lib.hid (by omega)
      clear hgt hrg hT hK hE hnt hgl
      go_enter Try.func4, Try.ntmps4
      go_wp2_with fail
      refine (HAW.out _).mono ?_
      rintro e w1 ⟨rfl, hf⟩
      have HF1 := Lib.hid hf
      clear hf
      go_wp2_with fail
      refine (HGT.out _ HF1.out).mono ?_
      rintro e w3 ⟨A3, c3, rfl, ho3, hf3⟩
      rw [HTT.out] at ho3
      rw [HTT.out, HTK.out, HTE.out]
      have HF3 := Lib.hid (HF1.out.trans hf3 (fun _ _ h => h))
      have HO3 := Lib.hid ho3
      clear ho3 hf3
      rw [HTN.out]
      go_wp2_with fail
      refine (HRG.out _ HF3.out).mono ?_
      rintro e w4 ⟨A4, c4, rfl, ho4, hf4⟩
      rw [HTT.out] at ho4
      rw [HTT.out, HTK.out, HTE.out, HTN.out]
      have HF4 := Lib.hid (HF3.out.trans hf4 (fun _ _ h => h))
      have hsame := racSame_any A3 nt c3 T A4 nt c4 T w4 (by have h := (HO3.out.fr hf4).rd; rwa [HTN.out] at h) (by have h := ho4.rd; rwa [HTN.out] at h) (by have := HTL.out; omega) (by have := HTL.out; omega)
      rw [decide_eq_true rfl] at hsame
      have HSA := Lib.hid hsame
      have te1 : ((K : Int) == (K : Int)) = true := by simp
      have te2 : ((E : Int) == (E : Int)) = true := by simp
      clear ho4 hf4 hsame
      go_wp2_with fail
      refine HSA.out.mono ?_
      rintro e w5 ⟨rfl, hf5⟩
      have HF5 := Lib.hid (HF4.out.trans hf5 (fun _ _ h => h))
      clear hf5
      go_wp2_with fail
      go_ret
      exact ⟨rfl, HF5.out⟩
end Go.Proofs.Ytbagclhghcglbaa
