/-
  Plain mathematics of layer 14: what the document's own Get reckons.
-/
import Derived.Test.YtbnkahjmeobblaaZm04
namespace Go.Proofs.Ytbnkahjmeobblaa.VaM
open Go Go.RowKit LebM UtfM

theorem val_drop {B : List UInt8} {j : Nat} {b : UInt8} (h : B[j]? = some b) : val (B.drop j) = b.toNat % 128 + 128 * val (B.drop (j + 1)) := by
  obtain ⟨hj, rfl⟩ := List.getElem?_eq_some_iff.1 h
  rw [List.drop_eq_getElem_cons hj]
  rfl
def m64 : Nat := 18446744073709551616
/-- what is reckoned of the bytes from j on -/
def vd (B : List UInt8) (j : Nat) : Nat := val (B.drop j) % 18446744073709551616
theorem vd_lt (B : List UInt8) (j : Nat) : vd B j < 18446744073709551616 := Nat.mod_lt _ (by omega)
theorem vd_end {B : List UInt8} {j : Nat} (h : B.length ≤ j) : vd B j = 0 := by unfold vd; rw [List.drop_eq_nil_of_le h]; rfl
theorem vd_step {B : List UInt8} {j : Nat} {b : UInt8} (h : B[j]? = some b) : vd B j = (vd B (j + 1) * 128 % 18446744073709551616 + b.toNat % 128) % 18446744073709551616 := by
  unfold vd
  rw [val_drop h]
  omega
theorem vd_zero (B : List UInt8) : vd B 0 = val B % 18446744073709551616 := rfl
/-- bytes that aren't all a number's -/
theorem get_short {k : Int} {B : List UInt8} (hc : cl k = 1 ∨ cl k = 2) (h : spanE B ≠ 0 ∨ spanK B ≠ B.length) : getV k B = (zeroV, false) := by
  unfold getV
  rcases hc with e | e
  all_goals
    rw [e]
    simp only [getC]
    rw [if_neg]
    rintro ⟨h1, h2⟩
  · unfold gu at h1 h2
    by_cases he : spanE B ≠ 0
    · rw [if_pos he] at h1; exact he h1
    · rw [if_neg he] at h1 h2
      by_cases hu : u (val (B.take (spanK B)) % 18446744073709551616) = B.take (spanK B)
      · rw [if_pos hu] at h2
        have h3 : spanK B = B.length := h2
        omega
      · rw [if_neg hu] at h1; simp at h1
  · unfold gs at h1 h2
    by_cases he : spanE B ≠ 0
    · rw [if_pos he] at h1; exact he h1
    · rw [if_neg he] at h1 h2
      by_cases hu : s (sgn (val (B.take (spanK B)) % 18446744073709551616) (spanK B)) = B.take (spanK B)
      · rw [if_pos hu] at h2
        have h3 : spanK B = B.length := h2
        omega
      · rw [if_neg hu] at h1; simp at h1
/-- the value that the document reckons, held against its bytes -/
def endG (y : V) (B : List UInt8) : V × Bool := if (rightV y && decide (putV y = B)) = true then (y, true) else (zeroV, false)
theorem get_bare {k : Int} {B : List UInt8} (hc : cl k = 0 ∨ cl k = 5) : getV k B = endG ⟨k, 0, 0, []⟩ B := by
  unfold getV endG
  rcases hc with e | e
  · simp [e, rightV, putV, getC, eq_comm]
  · simp [e, rightV, putV, getC]
theorem get_text {k : Int} {B : List UInt8} (hc : cl k = 3 ∨ cl k = 4) : getV k B = endG ⟨k, 0, 0, B⟩ B := by
  unfold getV endG
  rcases hc with e | e
  · simp [e, rightV, putV, getC]
  · simp [e, rightV, putV, getC]
theorem get_num {k : Int} {B : List UInt8} (hc : cl k = 1) (h0 : spanE B = 0) (h1 : spanK B = B.length) : getV k B = endG ⟨k, vd B 0, 0, []⟩ B := by
  unfold getV endG
  rw [hc]
  have hr : rightV ⟨k, vd B 0, 0, []⟩ = true := by unfold rightV; rw [hc]; simp
  have hp : putV ⟨k, vd B 0, 0, []⟩ = u (vd B 0) := by simp [putV, hc]
  rw [hr, hp, Bool.true_and]
  have hg : gu B = if u (vd B 0) = B then (vd B 0, B.length, 0) else (0, 0, 3) := by
    unfold gu
    rw [if_neg (by omega), h1, List.take_length, ← vd_zero]
  simp only [getC]
  rw [hg]
  by_cases hu : u (vd B 0) = B
  · simp [hu]
  · simp [hu]
theorem get_sgn {k : Int} {B : List UInt8} (hc : cl k = 2) (h0 : spanE B = 0) (h1 : spanK B = B.length) : getV k B = endG ⟨k, 0, sgn (vd B 0) B.length, []⟩ B := by
  unfold getV endG
  rw [hc]
  obtain ⟨M, hM⟩ : ∃ M, M = sgn (vd B 0) B.length := ⟨_, rfl⟩
  rw [← hM]
  have hr : rightV ⟨k, 0, M, []⟩ = true := by unfold rightV; rw [hc]; simp
  have hp : putV ⟨k, 0, M, []⟩ = s M := by simp [putV, hc]
  rw [hr, hp, Bool.true_and]
  have hg : gs B = if s M = B then (M, B.length, 0) else (0, 0, 3) := by
    unfold gs
    rw [if_neg (by omega), h1, List.take_length, ← vd_zero, ← hM]
  simp only [getC]
  rw [hg]
  by_cases hu : s M = B
  · simp [hu]
  · simp [hu]
theorem span_of {B : List UInt8} (h0 : spanE B = 0) (h1 : spanK B = B.length) : LebM.Form B ∧ B.length ≤ 10 ∧ 0 < B.length := by
  unfold spanE at h0
  unfold spanK at h1
  by_cases hf : fst B < min B.length 10
  · rw [if_pos hf] at h1
    have h2 := form_of (B := B) (by omega)
    rw [h1, List.take_length] at h2
    exact ⟨h2, by omega, by omega⟩
  · rw [if_neg hf] at h0
    split at h0 <;> omega
/-- the sign, as the document reckons it -/
theorem sign_of {B : List UInt8} (h0 : spanE B = 0) (h1 : spanK B = B.length) :
    sgn (vd B 0) B.length = wrap64 (if B.length < 10 ∧ 64 ≤ last B then (((vd B 0 : Int) - 2 ^ (7 * B.length)) % 18446744073709551616) else (vd B 0 : Int)) := by
  obtain ⟨hf, h10, hpos⟩ := span_of h0 h1
  rw [vd_zero, sgn_sval B hf h10]
  obtain ⟨x, h1, h2, h3⟩ := parts B hf
  have hl := last_lt hf
  generalize val B = v at *
  generalize sval B = s at *
  generalize last B = t at *
  generalize B.length = n at *
  clear hf
  unfold sg at h3
  unfold wrap64
  have hc : n = 1 ∨ n = 2 ∨ n = 3 ∨ n = 4 ∨ n = 5 ∨ n = 6 ∨ n = 7 ∨ n = 8 ∨ n = 9 ∨ n = 10 := by omega
  rcases hc with rfl | rfl | rfl | rfl | rfl | rfl | rfl | rfl | rfl | rfl
  all_goals
    simp only [Nat.reduceSub, Nat.reduceMul, Nat.reducePow, Int.reducePow] at h1 h2 h3 ⊢
    split at h3 <;> split <;> omega
end Go.Proofs.Ytbnkahjmeobblaa.VaM
