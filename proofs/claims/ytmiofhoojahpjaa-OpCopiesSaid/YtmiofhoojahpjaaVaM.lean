/-
  Plain mathematics of layer 14: which values may be, a value's bytes, the value of a kind that bytes are.
-/
import Derived.Test.YtmiofhoojahpjaaLebN
import Derived.Test.YtmiofhoojahpjaaUtfM
namespace Go.Proofs.Ytmiofhoojahpjaa.VaM
open Go Go.RowKit LebM UtfM

/-- how values of a kind are told: 0 by nothing, 1 by U, 2 by N, 3 by S that is UTF-8, 4 by S, 5: there is no such kind -/
def cl (k : Int) : Nat := if k = 0 ∨ k = 1 ∨ k = 2 then 0 else if k = 3 then 1 else if k = 4 ∨ k = 7 ∨ k = 8 then 2 else if k = 5 then 3 else if k = 6 then 4 else 5
theorem cl_le (k : Int) : cl k ≤ 5 := by unfold cl; (repeat' split) <;> omega
theorem cl0 {k : Int} (h : cl k = 0) : k = 0 ∨ k = 1 ∨ k = 2 := by unfold cl at h; (repeat' split at h) <;> omega
theorem cl1 {k : Int} (h : cl k = 1) : k = 3 := by unfold cl at h; (repeat' split at h) <;> omega
theorem cl2 {k : Int} (h : cl k = 2) : k = 4 ∨ k = 7 ∨ k = 8 := by unfold cl at h; (repeat' split at h) <;> omega
theorem cl3 {k : Int} (h : cl k = 3) : k = 5 := by unfold cl at h; (repeat' split at h) <;> omega
theorem cl4 {k : Int} (h : cl k = 4) : k = 6 := by unfold cl at h; (repeat' split at h) <;> omega
theorem cl5 {k : Int} (h : cl k = 5) : k < 0 ∨ 8 < k := by unfold cl at h; (repeat' split at h) <;> omega

/-- a value -/
structure V where
  k : Int
  u : Nat
  n : Int
  s : List UInt8
def V.ok (v : V) : Prop := (-9223372036854775808 ≤ v.k ∧ v.k < 9223372036854775808) ∧ v.u < 18446744073709551616 ∧ (-9223372036854775808 ≤ v.n ∧ v.n < 9223372036854775808)
def zeroV : V := ⟨0, 0, 0, []⟩
theorem V.ext' {v w : V} (h1 : v.k = w.k) (h2 : v.u = w.u) (h3 : v.n = w.n) (h4 : v.s = w.s) : v = w := by
  cases v; cases w
  simp only at h1 h2 h3 h4
  rw [h1, h2, h3, h4]
/-- two values are the same -/
def eqV (v w : V) : Bool := decide (v.k = w.k) && (decide (v.u = w.u) && (decide (v.n = w.n) && decide (v.s = w.s)))
theorem eqV_iff (v w : V) : eqV v w = true ↔ v = w := by
  unfold eqV
  simp only [Bool.and_eq_true, decide_eq_true_eq]
  exact ⟨fun ⟨h1, h2, h3, h4⟩ => V.ext' h1 h2 h3 h4, by rintro rfl; exact ⟨rfl, rfl, rfl, rfl⟩⟩
theorem eqV_self (v : V) : eqV v v = true := (eqV_iff v v).2 rfl
/-- may a value be? -/
def rightV (v : V) : Bool :=
  match cl v.k with
  | 0 => decide (v.u = 0) && decide (v.n = 0) && decide (v.s = [])
  | 1 => decide (v.n = 0) && decide (v.s = [])
  | 2 => decide (v.u = 0) && decide (v.s = [])
  | 3 => decide (v.u = 0) && decide (v.n = 0) && decide (v.s.length ≤ 4000) && decide (wh v.s = v.s.length)
  | 4 => decide (v.u = 0) && decide (v.n = 0) && decide (v.s.length ≤ 4000)
  | _ => false
/-- its bytes -/
def putV (v : V) : List UInt8 :=
  match cl v.k with
  | 1 => u v.u
  | 2 => s v.n
  | 3 => v.s
  | 4 => v.s
  | _ => []
/-- the value that bytes are, and whether there is one -/
def getC (c : Nat) (k : Int) (B : List UInt8) : V × Bool :=
  match c with
  | 0 => if B = [] then (⟨k, 0, 0, []⟩, true) else (zeroV, false)
  | 1 => if (gu B).2.2 = 0 ∧ (gu B).2.1 = B.length then (⟨k, (gu B).1, 0, []⟩, true) else (zeroV, false)
  | 2 => if (gs B).2.2 = 0 ∧ (gs B).2.1 = B.length then (⟨k, 0, (gs B).1, []⟩, true) else (zeroV, false)
  | 3 => if B.length ≤ 4000 ∧ wh B = B.length then (⟨k, 0, 0, B⟩, true) else (zeroV, false)
  | 4 => if B.length ≤ 4000 then (⟨k, 0, 0, B⟩, true) else (zeroV, false)
  | _ => (zeroV, false)
def getV (k : Int) (B : List UInt8) : V × Bool := getC (cl k) k B

theorem gu_lt (B : List UInt8) : (gu B).1 < 18446744073709551616 ∧ (gu B).2.1 ≤ B.length ∧ (gu B).2.2 ≤ 3 := by
  have h1 := spanK_le B
  have h2 := spanE_le B
  unfold gu
  split
  · exact ⟨by show (0 : Nat) < _; omega, Nat.zero_le _, h2⟩
  · split
    · exact ⟨Nat.mod_lt _ (by omega), h1.1, Nat.zero_le _⟩
    · exact ⟨by show (0 : Nat) < _; omega, Nat.zero_le _, Nat.le_refl _⟩
theorem gs_lt (B : List UInt8) : (-9223372036854775808 ≤ (gs B).1 ∧ (gs B).1 < 9223372036854775808) ∧ (gs B).2.1 ≤ B.length ∧ (gs B).2.2 ≤ 3 := by
  have h1 := spanK_le B
  have h2 := spanE_le B
  unfold gs
  split
  · exact ⟨by show (-9223372036854775808 : Int) ≤ 0 ∧ (0 : Int) < _; omega, Nat.zero_le _, h2⟩
  · split
    · exact ⟨sgn_bd _ _, h1.1, Nat.zero_le _⟩
    · exact ⟨by show (-9223372036854775808 : Int) ≤ 0 ∧ (0 : Int) < _; omega, Nat.zero_le _, Nat.le_refl _⟩
theorem gu_of {B : List UInt8} (h : (gu B).2.2 = 0 ∧ (gu B).2.1 = B.length) : u (gu B).1 = B := by
  obtain ⟨h0, h1⟩ := h
  unfold gu at h0 h1 ⊢
  by_cases he : spanE B ≠ 0
  · rw [if_pos he] at h0
    exact absurd h0 he
  · rw [if_neg he] at h0 h1 ⊢
    by_cases hu : u (val (B.take (spanK B)) % 18446744073709551616) = B.take (spanK B)
    · rw [if_pos hu] at h1 ⊢
      have h2 : spanK B = B.length := h1
      rw [h2, List.take_length] at hu
      rw [h2, List.take_length]
      exact hu
    · rw [if_neg hu] at h0
      exact absurd h0 (by simp)
theorem gs_of {B : List UInt8} (h : (gs B).2.2 = 0 ∧ (gs B).2.1 = B.length) : s (gs B).1 = B := by
  obtain ⟨h0, h1⟩ := h
  unfold gs at h0 h1 ⊢
  by_cases he : spanE B ≠ 0
  · rw [if_pos he] at h0
    exact absurd h0 he
  · rw [if_neg he] at h0 h1 ⊢
    by_cases hu : s (sgn (val (B.take (spanK B)) % 18446744073709551616) (spanK B)) = B.take (spanK B)
    · rw [if_pos hu] at h1 ⊢
      have h2 : spanK B = B.length := h1
      rw [h2, List.take_length] at hu
      rw [h2, List.take_length]
      exact hu
    · rw [if_neg hu] at h0
      exact absurd h0 (by simp)

theorem right_len {v : V} (h : rightV v = true) : v.s.length ≤ 4000 := by
  unfold rightV at h
  have hc := cl_le v.k
  rcases (show cl v.k = 0 ∨ cl v.k = 1 ∨ cl v.k = 2 ∨ cl v.k = 3 ∨ cl v.k = 4 ∨ cl v.k = 5 by omega) with e | e | e | e | e | e <;> rw [e] at h <;> simp at h
  · rw [h.2]; simp
  · rw [h.2]; simp
  · rw [h.2]; simp
  · exact h.1.2
  · exact h.2
/-- what may be is read as it was -/
theorem get_put {v : V} (hk : v.ok) (h : rightV v = true) : getV v.k (putV v) = (v, true) := by
  obtain ⟨k, x, n, t⟩ := v
  obtain ⟨_, hu, hn⟩ := hk
  simp only at hu hn
  unfold rightV at h
  unfold getV putV
  simp only at h ⊢
  have hc := cl_le k
  rcases (show cl k = 0 ∨ cl k = 1 ∨ cl k = 2 ∨ cl k = 3 ∨ cl k = 4 ∨ cl k = 5 by omega) with e | e | e | e | e | e
  all_goals rw [e] at h ⊢
  all_goals simp at h
  · obtain ⟨⟨rfl, rfl⟩, rfl⟩ := h
    simp [getC]
  · obtain ⟨rfl, rfl⟩ := h
    have := gu_back x [] hu
    rw [List.append_nil] at this
    simp only [getC]
    rw [this, if_pos ⟨rfl, rfl⟩]
  · obtain ⟨rfl, rfl⟩ := h
    have := gs_back n [] hn.1 hn.2
    rw [List.append_nil] at this
    simp only [getC]
    rw [this, if_pos ⟨rfl, rfl⟩]
  · obtain ⟨⟨⟨rfl, rfl⟩, h1⟩, h2⟩ := h
    simp only [getC]
    rw [if_pos ⟨h1, h2⟩]
  · obtain ⟨⟨rfl, rfl⟩, h1⟩ := h
    simp only [getC]
    rw [if_pos h1]
theorem zero_right (k : Int) (h : cl k = 0) : rightV ⟨k, 0, 0, []⟩ = true := by unfold rightV; simp [h]
/-- whatever is read may be, and has just these bytes -/
theorem put_get {k : Int} {B : List UInt8} {v : V} (h : getV k B = (v, true)) : v.k = k ∧ rightV v = true ∧ putV v = B := by
  unfold getV at h
  have hc := cl_le k
  rcases (show cl k = 0 ∨ cl k = 1 ∨ cl k = 2 ∨ cl k = 3 ∨ cl k = 4 ∨ cl k = 5 by omega) with e | e | e | e | e | e
  all_goals rw [e] at h
  all_goals simp only [getC] at h
  · by_cases hB : B = []
    · rw [if_pos hB] at h
      simp only [Prod.mk.injEq, and_true] at h
      subst h
      subst hB
      exact ⟨rfl, by simp [rightV, e], by simp [putV, e]⟩
    · rw [if_neg hB] at h; simp at h
  · by_cases hB : (gu B).2.2 = 0 ∧ (gu B).2.1 = B.length
    · rw [if_pos hB] at h
      simp only [Prod.mk.injEq, and_true] at h
      subst h
      exact ⟨rfl, by simp [rightV, e], by simp [putV, e]; exact gu_of hB⟩
    · rw [if_neg hB] at h; simp at h
  · by_cases hB : (gs B).2.2 = 0 ∧ (gs B).2.1 = B.length
    · rw [if_pos hB] at h
      simp only [Prod.mk.injEq, and_true] at h
      subst h
      exact ⟨rfl, by simp [rightV, e], by simp [putV, e]; exact gs_of hB⟩
    · rw [if_neg hB] at h; simp at h
  · by_cases hB : B.length ≤ 4000 ∧ wh B = B.length
    · rw [if_pos hB] at h
      simp only [Prod.mk.injEq, and_true] at h
      subst h
      exact ⟨rfl, by simp [rightV, e, hB], by simp [putV, e]⟩
    · rw [if_neg hB] at h; simp at h
  · by_cases hB : B.length ≤ 4000
    · rw [if_pos hB] at h
      simp only [Prod.mk.injEq, and_true] at h
      subst h
      exact ⟨rfl, by simp [rightV, e, hB], by simp [putV, e]⟩
    · rw [if_neg hB] at h; simp at h
  · simp at h
theorem get_no {k : Int} {B : List UInt8} (h : (getV k B).2 = false) : getV k B = (zeroV, false) := by
  unfold getV at h ⊢
  have hc := cl_le k
  rcases (show cl k = 0 ∨ cl k = 1 ∨ cl k = 2 ∨ cl k = 3 ∨ cl k = 4 ∨ cl k = 5 by omega) with e | e | e | e | e | e
  all_goals rw [e] at h ⊢
  all_goals simp only [getC] at h ⊢
  all_goals (try (split at h <;> simp_all))
theorem get_ok {k : Int} {B : List UInt8} (hk : -9223372036854775808 ≤ k ∧ k < 9223372036854775808) : (getV k B).1.ok := by
  have hz : zeroV.ok := ⟨by show (-9223372036854775808 : Int) ≤ 0 ∧ (0 : Int) < _; omega, by show (0 : Nat) < _; omega, by show (-9223372036854775808 : Int) ≤ 0 ∧ (0 : Int) < _; omega⟩
  have h0 : (0 : Nat) < 18446744073709551616 := by omega
  have h1 : (-9223372036854775808 : Int) ≤ 0 ∧ (0 : Int) < 9223372036854775808 := by omega
  unfold getV
  have hc := cl_le k
  rcases (show cl k = 0 ∨ cl k = 1 ∨ cl k = 2 ∨ cl k = 3 ∨ cl k = 4 ∨ cl k = 5 by omega) with e | e | e | e | e | e
  all_goals rw [e]
  all_goals simp only [getC]
  · split
    · exact ⟨hk, h0, h1⟩
    · exact hz
  · split
    · exact ⟨hk, (gu_lt B).1, h1⟩
    · exact hz
  · split
    · exact ⟨hk, h0, (gs_lt B).1⟩
    · exact hz
  · split
    · exact ⟨hk, h0, h1⟩
    · exact hz
  · split
    · exact ⟨hk, h0, h1⟩
    · exact hz
  · exact hz
/-- what the program asks: is a value read from its bytes as it was? -/
theorem right_iff {v : V} (hk : v.ok) : rightV v = (decide (v.s.length ≤ 4000) && ((getV v.k (putV v)).2 && eqV (getV v.k (putV v)).1 v)) := by
  obtain ⟨g, hg⟩ : ∃ g, g = getV v.k (putV v) := ⟨_, rfl⟩
  rw [← hg]
  cases hr : rightV v with
  | true =>
    rw [get_put hk hr] at hg
    rw [hg]
    have := right_len hr
    simp [eqV_self, this]
  | false =>
    obtain ⟨x, b⟩ := g
    cases b with
    | false => simp
    | true =>
      have h1 := put_get hg.symm
      have h2 : eqV x v = false := by
        cases h3 : eqV x v with
        | false => rfl
        | true =>
          rw [(eqV_iff x v).1 h3, hr] at h1
          exact absurd h1.2.1 (by simp)
      simp [h2]
/-- two of a kind that may be have the same bytes just if they are the same -/
theorem put_apart {v w : V} (hv : v.ok) (hw : w.ok) (h1 : rightV v = true) (h2 : rightV w = true) (hk : v.k = w.k) : decide (putV v = putV w) = eqV v w := by
  by_cases h : putV v = putV w
  · have a := get_put hv h1
    have b := get_put hw h2
    rw [h, hk, b] at a
    simp only [Prod.mk.injEq, and_true] at a
    subst a
    rw [eqV_self]
    simp
  · cases h3 : eqV v w with
    | false => simp [h]
    | true => exact absurd (by rw [(eqV_iff v w).1 h3]) h
theorem put_len {v : V} (hv : v.ok) (h : v.s.length ≤ 1000000) : (putV v).length ≤ 1000000 := by
  unfold putV
  have h1 := u_len10 hv.2.1
  have h2 := s_len10 hv.2.2.1 hv.2.2.2
  have hc := cl_le v.k
  rcases (show cl v.k = 0 ∨ cl v.k = 1 ∨ cl v.k = 2 ∨ cl v.k = 3 ∨ cl v.k = 4 ∨ cl v.k = 5 by omega) with e | e | e | e | e | e
  all_goals rw [e]
  all_goals simp only [List.length_nil]
  all_goals omega
end Go.Proofs.Ytmiofhoojahpjaa.VaM
