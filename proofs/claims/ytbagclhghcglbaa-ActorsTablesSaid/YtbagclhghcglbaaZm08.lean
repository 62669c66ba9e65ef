/-
  Plain mathematics of layer 14: which values may be, a value's bytes, the value of a kind that bytes are.
  Plain mathematics of layer 17: names, which may name something, their order; ops, which may be; what they speak of.
-/
import Derived.Test.YtbagclhghcglbaaLebN
import Derived.Test.YtbagclhghcglbaaUtfM
import Derived.WalkKit
namespace Go.Proofs.Ytbagclhghcglbaa.VaM
open Go Go.RowKit LebM UtfM

/-- how values of a kind are told: 0 by nothing, 1 by U, 2 by N, 3 by S that is UTF-8, 4 by S, 5: there is no such kind -/
def cl (k : Int) : Nat := if k = 0 ∨ k = 1 ∨ k = 2 then 0 else if k = 3 then 1 else if k = 4 ∨ k = 7 ∨ k = 8 then 2 else if k = 5 then 3 else if k = 6 then 4 else 5
theorem cl_le (k : Int) : cl k ≤ 5 := by unfold cl; (repeat' split) <;> omega
theorem cl0 {k : Int} (h : cl k = 0) : k = 0 ∨ k = 1 ∨ k = 2 := by unfold cl at h; (repeat' split at h) <;> omega
theorem cl1 {k : Int} (h : cl k = 1) : k = 3 := by unfold cl at h; (repeat' split at h) <;> omega
theorem cl2 {k : Int} (h : cl k = 2) : k = 4 ∨ k = 7 ∨ k = 8 := by unfold cl at h; (repeat' split at h) <;> omega
theorem cl3 {k : Int} (h : cl k = 3) : k = 5 := by unfold cl at h; (repeat' split at h) <;> omega
theorem cl4 {k : Int} (h : cl k = 4) : k = 6 := by unfold cl at h; (repeat' split at h) <;> omega
theorem cl5 {k : Int} (h : cl k = 5) : k < 0 ∨ 8 < k := by unfold cl at h; (repeat' split at h) <;> omega

/-- a value -/
structure V where
  k : Int
  u : Nat
  n : Int
  s : List UInt8
def V.ok (v : V) : Prop := (-9223372036854775808 ≤ v.k ∧ v.k < 9223372036854775808) ∧ v.u < 18446744073709551616 ∧ (-9223372036854775808 ≤ v.n ∧ v.n < 9223372036854775808)
def zeroV : V := ⟨0, 0, 0, []⟩
theorem V.ext' {v w : V} (h1 : v.k = w.k) (h2 : v.u = w.u) (h3 : v.n = w.n) (h4 : v.s = w.s) : v = w := by
  cases v; cases w
  simp only at h1 h2 h3 h4
  rw [h1, h2, h3, h4]
/-- two values are the same -/
def eqV (v w : V) : Bool := decide (v.k = w.k) && (decide (v.u = w.u) && (decide (v.n = w.n) && decide (v.s = w.s)))
theorem eqV_iff (v w : V) : eqV v w = true ↔ v = w := by
  unfold eqV
  simp only [Bool.and_eq_true, decide_eq_true_eq]
  exact ⟨fun ⟨h1, h2, h3, h4⟩ => V.ext' h1 h2 h3 h4, by rintro rfl; exact ⟨rfl, rfl, rfl, rfl⟩⟩
theorem eqV_self (v : V) : eqV v v = true := (eqV_iff v v).2 rfl
/-- may a value be? -/
def rightV (v : V) : Bool :=
  match cl v.k with
  | 0 => decide (v.u = 0) && decide (v.n = 0) && decide (v.s = [])
  | 1 => decide (v.n = 0) && decide (v.s = [])
  | 2 => decide (v.u = 0) && decide (v.s = [])
  | 3 => decide (v.u = 0) && decide (v.n = 0) && decide (v.s.length ≤ 4000) && decide (wh v.s = v.s.length)
  | 4 => decide (v.u = 0) && decide (v.n = 0) && decide (v.s.length ≤ 4000)
  | _ => false
/-- its bytes -/
def putV (v : V) : List UInt8 :=
  match cl v.k with
  | 1 => u v.u
  | 2 => s v.n
  | 3 => v.s
  | 4 => v.s
  | _ => []
/-- the value that bytes are, and whether there is one -/
def getC (c : Nat) (k : Int) (B : List UInt8) : V × Bool :=
  match c with
  | 0 => if B = [] then (⟨k, 0, 0, []⟩, true) else (zeroV, false)
  | 1 => if (gu B).2.2 = 0 ∧ (gu B).2.1 = B.length then (⟨k, (gu B).1, 0, []⟩, true) else (zeroV, false)
  | 2 => if (gs B).2.2 = 0 ∧ (gs B).2.1 = B.length then (⟨k, 0, (gs B).1, []⟩, true) else (zeroV, false)
  | 3 => if B.length ≤ 4000 ∧ wh B = B.length then (⟨k, 0, 0, B⟩, true) else (zeroV, false)
  | 4 => if B.length ≤ 4000 then (⟨k, 0, 0, B⟩, true) else (zeroV, false)
  | _ => (zeroV, false)
def getV (k : Int) (B : List UInt8) : V × Bool := getC (cl k) k B

theorem gu_lt (B : List UInt8) : (gu B).1 < 18446744073709551616 ∧ (gu B).2.1 ≤ B.length ∧ (gu B).2.2 ≤ 3 := by
  have h1 := spanK_le B
  have h2 := spanE_le B
  unfold gu
  split
  · exact ⟨by show (0 : Nat) < _; omega, Nat.zero_le _, h2⟩
  · split
    · exact ⟨Nat.mod_lt _ (by omega), h1.1, Nat.zero_le _⟩
    · exact ⟨by show (0 : Nat) < _; omega, Nat.zero_le _, Nat.le_refl _⟩
theorem gs_lt (B : List UInt8) : (-9223372036854775808 ≤ (gs B).1 ∧ (gs B).1 < 9223372036854775808) ∧ (gs B).2.1 ≤ B.length ∧ (gs B).2.2 ≤ 3 := by
  have h1 := spanK_le B
  have h2 := spanE_le B
  unfold gs
  split
  · exact ⟨by show (-9223372036854775808 : Int) ≤ 0 ∧ (0 : Int) < _; omega, Nat.zero_le _, h2⟩
  · split
    · exact ⟨sgn_bd _ _, h1.1, Nat.zero_le _⟩
    · exact ⟨by show (-9223372036854775808 : Int) ≤ 0 ∧ (0 : Int) < _; omega, Nat.zero_le _, Nat.le_refl _⟩
theorem gu_of {B : List UInt8} (h : (gu B).2.2 = 0 ∧ (gu B).2.1 = B.length) : u (gu B).1 = B := by
  obtain ⟨h0, h1⟩ := h
  unfold gu at h0 h1 ⊢
  by_cases he : spanE B ≠ 0
  · rw [if_pos he] at h0
    exact absurd h0 he
  · rw [if_neg he] at h0 h1 ⊢
    by_cases hu : u (val (B.take (spanK B)) % 18446744073709551616) = B.take (spanK B)
    · rw [if_pos hu] at h1 ⊢
      have h2 : spanK B = B.length := h1
      rw [h2, List.take_length] at hu
      rw [h2, List.take_length]
      exact hu
    · rw [if_neg hu] at h0
      exact absurd h0 (by simp)
theorem gs_of {B : List UInt8} (h : (gs B).2.2 = 0 ∧ (gs B).2.1 = B.length) : s (gs B).1 = B := by
  obtain ⟨h0, h1⟩ := h
  unfold gs at h0 h1 ⊢
  by_cases he : spanE B ≠ 0
  · rw [if_pos he] at h0
    exact absurd h0 he
  · rw [if_neg he] at h0 h1 ⊢
    by_cases hu : s (sgn (val (B.take (spanK B)) % 18446744073709551616) (spanK B)) = B.take (spanK B)
    · rw [if_pos hu] at h1 ⊢
      have h2 : spanK B = B.length := h1
      rw [h2, List.take_length] at hu
      rw [h2, List.take_length]
      exact hu
    · rw [if_neg hu] at h0
      exact absurd h0 (by simp)

theorem right_len {v : V} (h : rightV v = true) : v.s.length ≤ 4000 := by
  unfold rightV at h
  have hc := cl_le v.k
  rcases (show cl v.k = 0 ∨ cl v.k = 1 ∨ cl v.k = 2 ∨ cl v.k = 3 ∨ cl v.k = 4 ∨ cl v.k = 5 by omega) with e | e | e | e | e | e <;> rw [e] at h <;> simp at h
  · rw [h.2]; simp
  · rw [h.2]; simp
  · rw [h.2]; simp
  · exact h.1.2
  · exact h.2
/-- what may be is read as it was -/
theorem get_put {v : V} (hk : v.ok) (h : rightV v = true) : getV v.k (putV v) = (v, true) := by
  obtain ⟨k, x, n, t⟩ := v
  obtain ⟨_, hu, hn⟩ := hk
  simp only at hu hn
  unfold rightV at h
  unfold getV putV
  simp only at h ⊢
  have hc := cl_le k
  rcases (show cl k = 0 ∨ cl k = 1 ∨ cl k = 2 ∨ cl k = 3 ∨ cl k = 4 ∨ cl k = 5 by omega) with e | e | e | e | e | e
  all_goals rw [e] at h ⊢
  all_goals simp at h
  · obtain ⟨⟨rfl, rfl⟩, rfl⟩ := h
    simp [getC]
  · obtain ⟨rfl, rfl⟩ := h
    have := gu_back x [] hu
    rw [List.append_nil] at this
    simp only [getC]
    rw [this, if_pos ⟨rfl, rfl⟩]
  · obtain ⟨rfl, rfl⟩ := h
    have := gs_back n [] hn.1 hn.2
    rw [List.append_nil] at this
    simp only [getC]
    rw [this, if_pos ⟨rfl, rfl⟩]
  · obtain ⟨⟨⟨rfl, rfl⟩, h1⟩, h2⟩ := h
    simp only [getC]
    rw [if_pos ⟨h1, h2⟩]
  · obtain ⟨⟨rfl, rfl⟩, h1⟩ := h
    simp only [getC]
    rw [if_pos h1]
theorem zero_right (k : Int) (h : cl k = 0) : rightV ⟨k, 0, 0, []⟩ = true := by unfold rightV; simp [h]
/-- whatever is read may be, and has just these bytes -/
theorem put_get {k : Int} {B : List UInt8} {v : V} (h : getV k B = (v, true)) : v.k = k ∧ rightV v = true ∧ putV v = B := by
  unfold getV at h
  have hc := cl_le k
  rcases (show cl k = 0 ∨ cl k = 1 ∨ cl k = 2 ∨ cl k = 3 ∨ cl k = 4 ∨ cl k = 5 by omega) with e | e | e | e | e | e
  all_goals rw [e] at h
  all_goals simp only [getC] at h
  · by_cases hB : B = []
    · rw [if_pos hB] at h
      simp only [Prod.mk.injEq, and_true] at h
      subst h
      subst hB
      exact ⟨rfl, by simp [rightV, e], by simp [putV, e]⟩
    · rw [if_neg hB] at h; simp at h
  · by_cases hB : (gu B).2.2 = 0 ∧ (gu B).2.1 = B.length
    · rw [if_pos hB] at h
      simp only [Prod.mk.injEq, and_true] at h
      subst h
      exact ⟨rfl, by simp [rightV, e], by simp [putV, e]; exact gu_of hB⟩
    · rw [if_neg hB] at h; simp at h
  · by_cases hB : (gs B).2.2 = 0 ∧ (gs B).2.1 = B.length
    · rw [if_pos hB] at h
      simp only [Prod.mk.injEq, and_true] at h
      subst h
      exact ⟨rfl, by simp [rightV, e], by simp [putV, e]; exact gs_of hB⟩
    · rw [if_neg hB] at h; simp at h
  · by_cases hB : B.length ≤ 4000 ∧ wh B = B.length
    · rw [if_pos hB] at h
      simp only [Prod.mk.injEq, and_true] at h
      subst h
      exact ⟨rfl, by simp [rightV, e, hB], by simp [putV, e]⟩
    · rw [if_neg hB] at h; simp at h
  · by_cases hB : B.length ≤ 4000
    · rw [if_pos hB] at h
      simp only [Prod.mk.injEq, and_true] at h
      subst h
      exact ⟨rfl, by simp [rightV, e, hB], by simp [putV, e]⟩
    · rw [if_neg hB] at h; simp at h
  · simp at h
theorem get_no {k : Int} {B : List UInt8} (h : (getV k B).2 = false) : getV k B = (zeroV, false) := by
  unfold getV at h ⊢
  have hc := cl_le k
  rcases (show cl k = 0 ∨ cl k = 1 ∨ cl k = 2 ∨ cl k = 3 ∨ cl k = 4 ∨ cl k = 5 by omega) with e | e | e | e | e | e
  all_goals rw [e] at h ⊢
  all_goals simp only [getC] at h ⊢
  all_goals (try (split at h <;> simp_all))
theorem get_ok {k : Int} {B : List UInt8} (hk : -9223372036854775808 ≤ k ∧ k < 9223372036854775808) : (getV k B).1.ok := by
  have hz : zeroV.ok := ⟨by show (-9223372036854775808 : Int) ≤ 0 ∧ (0 : Int) < _; omega, by show (0 : Nat) < _; omega, by show (-9223372036854775808 : Int) ≤ 0 ∧ (0 : Int) < _; omega⟩
  have h0 : (0 : Nat) < 18446744073709551616 := by omega
  have h1 : (-9223372036854775808 : Int) ≤ 0 ∧ (0 : Int) < 9223372036854775808 := by omega
  unfold getV
  have hc := cl_le k
  rcases (show cl k = 0 ∨ cl k = 1 ∨ cl k = 2 ∨ cl k = 3 ∨ cl k = 4 ∨ cl k = 5 by omega) with e | e | e | e | e | e
  all_goals rw [e]
  all_goals simp only [getC]
  · split
    · exact ⟨hk, h0, h1⟩
    · exact hz
  · split
    · exact ⟨hk, (gu_lt B).1, h1⟩
    · exact hz
  · split
    · exact ⟨hk, h0, (gs_lt B).1⟩
    · exact hz
  · split
    · exact ⟨hk, h0, h1⟩
    · exact hz
  · split
    · exact ⟨hk, h0, h1⟩
    · exact hz
  · exact hz
/-- what the program asks: is a value read from its bytes as it was? -/
theorem right_iff {v : V} (hk : v.ok) : rightV v = (decide (v.s.length ≤ 4000) && ((getV v.k (putV v)).2 && eqV (getV v.k (putV v)).1 v)) := by
  obtain ⟨g, hg⟩ : ∃ g, g = getV v.k (putV v) := ⟨_, rfl⟩
  rw [← hg]
  cases hr : rightV v with
  | true =>
    rw [get_put hk hr] at hg
    rw [hg]
    have := right_len hr
    simp [eqV_self, this]
  | false =>
    obtain ⟨x, b⟩ := g
    cases b with
    | false => simp
    | true =>
      have h1 := put_get hg.symm
      have h2 : eqV x v = false := by
        cases h3 : eqV x v with
        | false => rfl
        | true =>
          rw [(eqV_iff x v).1 h3, hr] at h1
          exact absurd h1.2.1 (by simp)
      simp [h2]
/-- two of a kind that may be have the same bytes just if they are the same -/
theorem put_apart {v w : V} (hv : v.ok) (hw : w.ok) (h1 : rightV v = true) (h2 : rightV w = true) (hk : v.k = w.k) : decide (putV v = putV w) = eqV v w := by
  by_cases h : putV v = putV w
  · have a := get_put hv h1
    have b := get_put hw h2
    rw [h, hk, b] at a
    simp only [Prod.mk.injEq, and_true] at a
    subst a
    rw [eqV_self]
    simp
  · cases h3 : eqV v w with
    | false => simp [h]
    | true => exact absurd (by rw [(eqV_iff v w).1 h3]) h
theorem put_len {v : V} (hv : v.ok) (h : v.s.length ≤ 1000000) : (putV v).length ≤ 1000000 := by
  unfold putV
  have h1 := u_len10 hv.2.1
  have h2 := s_len10 hv.2.2.1 hv.2.2.2
  have hc := cl_le v.k
  rcases (show cl v.k = 0 ∨ cl v.k = 1 ∨ cl v.k = 2 ∨ cl v.k = 3 ∨ cl v.k = 4 ∨ cl v.k = 5 by omega) with e | e | e | e | e | e
  all_goals rw [e]
  all_goals simp only [List.length_nil]
  all_goals omega
end Go.Proofs.Ytbagclhghcglbaa.VaM
namespace Go.Proofs.Ytbagclhghcglbaa.OpM
open Go Go.RowKit LebM UtfM VaM

/-- an op's name -/
structure Nm where
  c : Int
  a : List UInt8
def Nm.ok (x : Nm) : Prop := -9223372036854775808 ≤ x.c ∧ x.c < 9223372036854775808
def zeroN : Nm := ⟨0, []⟩
theorem Nm.ext' {x y : Nm} (h1 : x.c = y.c) (h2 : x.a = y.a) : x = y := by
  cases x; cases y
  simp only at h1 h2
  rw [h1, h2]
/-- two names are the same -/
def eqN (x y : Nm) : Bool := decide (x.c = y.c) && decide (x.a = y.a)
theorem eqN_iff (x y : Nm) : eqN x y = true ↔ x = y := by
  unfold eqN
  simp only [Bool.and_eq_true, decide_eq_true_eq]
  exact ⟨fun ⟨h1, h2⟩ => Nm.ext' h1 h2, by rintro rfl; exact ⟨rfl, rfl⟩⟩
theorem eqN_self (x : Nm) : eqN x x = true := (eqN_iff x x).2 rfl
theorem eqN_comm (x y : Nm) : eqN x y = eqN y x := by
  rw [Bool.eq_iff_iff, eqN_iff, eqN_iff]
  exact ⟨Eq.symm, Eq.symm⟩
theorem eqN_false {x y : Nm} (h : eqN x y = false) : x ≠ y := fun e => by rw [(eqN_iff x y).2 e] at h; cases h
def zeroB (x : Nm) : Bool := eqN x zeroN
def actorB (s : List UInt8) : Bool := decide (0 < s.length) && decide (s.length ≤ 16)
def idB (x : Nm) : Bool := decide (1 ≤ x.c) && decide (x.c ≤ 9007199254740991) && actorB x.a
/-- is x the lesser one? -/
def lessN (x y : Nm) : Bool := decide (x.c < y.c) || (decide (x.c = y.c) && Op.bytesLess x.a y.a)
def cmpN (x y : Nm) : Int := if eqN x y = true then 0 else if lessN x y = true then -1 else 1

theorem bless_cons (a b : UInt8) (x y : List UInt8) : Op.bytesLess (a :: x) (b :: y) = true ↔ a.toNat < b.toNat ∨ (a = b ∧ Op.bytesLess x y = true) := by
  simp [Op.bytesLess, UInt8.lt_iff_toNat_lt]
theorem bless_irr : ∀ x : List UInt8, Op.bytesLess x x = false
  | [] => rfl
  | a :: x => by
    cases h : Op.bytesLess (a :: x) (a :: x) with
    | false => rfl
    | true =>
      rcases (bless_cons a a x x).1 h with h | ⟨_, h⟩
      · omega
      · rw [bless_irr x] at h; cases h
theorem bless_tri : ∀ x y : List UInt8, Op.bytesLess x y = true ∨ x = y ∨ Op.bytesLess y x = true
  | [], [] => Or.inr (Or.inl rfl)
  | [], _ :: _ => Or.inl rfl
  | _ :: _, [] => Or.inr (Or.inr rfl)
  | a :: x, b :: y => by
    rcases Nat.lt_trichotomy a.toNat b.toNat with h | h | h
    · exact Or.inl ((bless_cons a b x y).2 (Or.inl h))
    · obtain rfl : a = b := UInt8.toNat_inj.1 h
      rcases bless_tri x y with h2 | h2 | h2
      · exact Or.inl ((bless_cons a a x y).2 (Or.inr ⟨rfl, h2⟩))
      · exact Or.inr (Or.inl (by rw [h2]))
      · exact Or.inr (Or.inr ((bless_cons a a y x).2 (Or.inr ⟨rfl, h2⟩)))
    · exact Or.inr (Or.inr ((bless_cons b a y x).2 (Or.inl h)))
theorem bless_trans : ∀ {x y z : List UInt8}, Op.bytesLess x y = true → Op.bytesLess y z = true → Op.bytesLess x z = true
  | [], y, [], h1, h2 => by cases y <;> simp [Op.bytesLess] at h1 h2
  | [], _, _ :: _, _, _ => rfl
  | _ :: _, [], _, h1, _ => by simp [Op.bytesLess] at h1
  | _ :: _, _ :: _, [], _, h2 => by simp [Op.bytesLess] at h2
  | a :: x, b :: y, c :: z, h1, h2 => by
    rw [bless_cons] at *
    rcases h1 with h1 | ⟨h1, h1'⟩ <;> rcases h2 with h2 | ⟨h2, h2'⟩
    · exact Or.inl (by omega)
    · subst h2; exact Or.inl h1
    · subst h1; exact Or.inl h2
    · exact Or.inr ⟨h1.trans h2, bless_trans h1' h2'⟩
theorem less_iff (x y : Nm) : lessN x y = true ↔ x.c < y.c ∨ (x.c = y.c ∧ Op.bytesLess x.a y.a = true) := by
  unfold lessN
  simp [Bool.or_eq_true, Bool.and_eq_true]
theorem less_irr (x : Nm) : lessN x x = false := by
  cases h : lessN x x with
  | false => rfl
  | true =>
    rcases (less_iff x x).1 h with h | ⟨_, h⟩
    · omega
    · rw [bless_irr] at h; cases h
theorem less_trans {x y z : Nm} (h1 : lessN x y = true) (h2 : lessN y z = true) : lessN x z = true := by
  rw [less_iff] at *
  rcases h1 with h1 | ⟨h1, h1'⟩ <;> rcases h2 with h2 | ⟨h2, h2'⟩
  · exact Or.inl (by omega)
  · exact Or.inl (by omega)
  · exact Or.inl (by omega)
  · exact Or.inr ⟨by omega, bless_trans h1' h2'⟩
theorem less_asym {x y : Nm} (h : lessN x y = true) : lessN y x = false := by
  cases h2 : lessN y x with
  | false => rfl
  | true => have := less_trans h h2; rw [less_irr] at this; cases this
theorem less_tri (x y : Nm) : lessN x y = true ∨ x = y ∨ lessN y x = true := by
  rcases Int.lt_trichotomy x.c y.c with h | h | h
  · exact Or.inl ((less_iff x y).2 (Or.inl h))
  · rcases bless_tri x.a y.a with h2 | h2 | h2
    · exact Or.inl ((less_iff x y).2 (Or.inr ⟨h, h2⟩))
    · exact Or.inr (Or.inl (Nm.ext' h h2))
    · exact Or.inr (Or.inr ((less_iff y x).2 (Or.inr ⟨h.symm, h2⟩)))
  · exact Or.inr (Or.inr ((less_iff y x).2 (Or.inl h)))
theorem less_ne {x y : Nm} (h : lessN x y = true) : eqN x y = false := by
  cases h2 : eqN x y with
  | false => rfl
  | true => rw [(eqN_iff x y).1 h2, less_irr] at h; cases h
/-- the three ways of a comparison -/
theorem cmp_ways (x y : Nm) : (cmpN x y = 0 ∧ eqN x y = true ∧ lessN x y = false ∧ lessN y x = false) ∨ (cmpN x y = -1 ∧ eqN x y = false ∧ lessN x y = true ∧ lessN y x = false) ∨ (cmpN x y = 1 ∧ eqN x y = false ∧ lessN x y = false ∧ lessN y x = true) := by
  unfold cmpN
  rcases less_tri x y with h | h | h
  · exact Or.inr (Or.inl ⟨by rw [less_ne h, h]; rfl, less_ne h, h, less_asym h⟩)
  · subst h
    exact Or.inl ⟨by rw [eqN_self]; rfl, eqN_self x, less_irr x, less_irr x⟩
  · have e : eqN x y = false := by rw [eqN_comm]; exact less_ne h
    exact Or.inr (Or.inr ⟨by rw [e, less_asym h]; rfl, e, less_asym h, h⟩)
theorem cmp_bd (x y : Nm) : -1 ≤ cmpN x y ∧ cmpN x y ≤ 1 := by
  rcases cmp_ways x y with ⟨h, _⟩ | ⟨h, _⟩ | ⟨h, _⟩ <;> rw [h] <;> omega
theorem cmp_anti (x y : Nm) : cmpN x y = -cmpN y x := by
  have e := eqN_comm x y
  rcases cmp_ways x y with ⟨h, h1, h2, h3⟩ | ⟨h, h1, h2, h3⟩ | ⟨h, h1, h2, h3⟩ <;> rcases cmp_ways y x with ⟨g, g1, g2, g3⟩ | ⟨g, g1, g2, g3⟩ | ⟨g, g1, g2, g3⟩ <;> simp_all
theorem cmp_zero (x y : Nm) : (cmpN x y == 0) = eqN x y := by
  rcases cmp_ways x y with ⟨h, h1, h2, h3⟩ | ⟨h, h1, h2, h3⟩ | ⟨h, h1, h2, h3⟩ <;> rw [h, h1] <;> rfl
theorem cmp_trans {x y z : Nm} (h1 : cmpN x y ≤ 0) (h2 : cmpN y z ≤ 0) : cmpN x z ≤ 0 := by
  rcases cmp_ways x y with ⟨h, a1, a2, a3⟩ | ⟨h, a1, a2, a3⟩ | ⟨h, a1, a2, a3⟩
  · rw [(eqN_iff x y).1 a1]; exact h2
  · rcases cmp_ways y z with ⟨g, b1, b2, b3⟩ | ⟨g, b1, b2, b3⟩ | ⟨g, b1, b2, b3⟩
    · rw [← (eqN_iff y z).1 b1]; exact h1
    · have := less_trans a2 b2
      rcases cmp_ways x z with ⟨k, c1, c2, c3⟩ | ⟨k, c1, c2, c3⟩ | ⟨k, c1, c2, c3⟩
      · rw [k]; omega
      · rw [k]; omega
      · rw [this] at c2; cases c2
    · omega
  · omega

/-- an op -/
structure O where
  obj : Nm
  key : List UInt8
  keyed : Bool
  elem : Nm
  ins : Bool
  act : Int
  val : V
  pr : List Nm
def zeroO : O := ⟨zeroN, [], false, zeroN, false, 0, zeroV, []⟩
/-- its texts are no longer than they are looked at -/
def O.ok (o : O) : Prop := o.obj.ok ∧ o.elem.ok ∧ (-9223372036854775808 ≤ o.act ∧ o.act < 9223372036854775808) ∧ o.val.ok ∧ ∀ x ∈ o.pr, x.ok
def ptB (x : Nm) : Bool := zeroB x || idB x
def keyB (o : O) : Bool := if o.keyed then decide (o.key.length ≤ 4000) && (wh o.key == o.key.length) && zeroB o.elem && !o.ins else decide (o.key = []) && ptB o.elem
/-- names that rise, each greater than the last one -/
def riseB : Nm → List Nm → Bool
  | _, [] => true
  | last, x :: l => idB x && lessN last x && riseB x l
def predsB (l : List Nm) : Bool := decide (l.length ≤ 16) && riseB zeroN l
def rightO (o : O) : Bool := ptB o.obj && keyB o && decide (0 ≤ o.act) && decide (o.act ≤ 1000) && rightV o.val && predsB o.pr

/-- the last one of a row's front -/
def lastN (l : List Nm) : Nm := l.getLast?.getD zeroN
theorem rise_app (a : Nm) : ∀ (l : List Nm) (x : Nm), riseB a (l ++ [x]) = (riseB a l && (idB x && lessN (l.getLast?.getD a) x))
  | [], x => by simp [riseB]
  | y :: l, x => by
    simp only [List.cons_append, riseB]
    rw [rise_app y l x, ← Bool.and_assoc]
    congr 2
    rw [List.getLast?_cons]
    rfl
theorem rise_snoc (l : List Nm) (x : Nm) : riseB zeroN (l ++ [x]) = (riseB zeroN l && (idB x && lessN (lastN l) x)) := rise_app zeroN l x
theorem rise_more {a : Nm} : ∀ {l m : List Nm}, riseB a l = false → riseB a (l ++ m) = false
  | [], m, h => by cases h
  | y :: l, m, h => by
    simp only [List.cons_append, riseB] at h ⊢
    cases h1 : (idB y && lessN a y) with
    | false => rfl
    | true =>
      rw [h1, Bool.true_and] at h
      rw [Bool.true_and]
      exact rise_more h
theorem rise_take {a : Nm} {l : List Nm} (h : riseB a l = true) (k : Nat) : riseB a (l.take k) = true := by
  cases h2 : riseB a (l.take k) with
  | true => rfl
  | false =>
    have := rise_more (m := l.drop k) h2
    rw [List.take_append_drop, h] at this
    cases this
theorem zero_less {x : Nm} (h : idB x = true) : lessN zeroN x = true := by
  unfold idB at h
  simp only [Bool.and_eq_true, decide_eq_true_eq] at h
  exact (less_iff _ _).2 (Or.inl (by show (0 : Int) < _; omega))
/-- with fewer of those it takes the place of an op may be, too -/
theorem right_fewer {o : O} (h : rightO o = true) (k : Nat) : rightO { o with pr := o.pr.take k } = true := by
  unfold rightO at *
  simp only [Bool.and_eq_true] at h ⊢
  obtain ⟨⟨⟨⟨⟨h1, h2⟩, h3⟩, h4⟩, h5⟩, h6⟩ := h
  refine ⟨⟨⟨⟨⟨h1, h2⟩, h3⟩, h4⟩, h5⟩, ?_⟩
  unfold predsB at *
  simp only [Bool.and_eq_true, decide_eq_true_eq] at h6 ⊢
  refine ⟨?_, rise_take h6.2 k⟩
  rw [List.length_take]
  omega

/-- what an op speaks of -/
def namesO (o : O) : List Nm := (o.obj :: o.elem :: o.pr).filter fun x => !zeroB x
def namesL (l : List O) : List Nm := l.flatMap namesO
/-- two ops are alike -/
def eqNs : List Nm → List Nm → Bool
  | [], [] => true
  | x :: l, y :: m => eqN x y && eqNs l m
  | _, _ => false
theorem eqNs_iff : ∀ l m : List Nm, eqNs l m = true ↔ l = m
  | [], [] => by simp [eqNs]
  | [], y :: m => by simp [eqNs]
  | x :: l, [] => by simp [eqNs]
  | x :: l, y :: m => by
    simp only [eqNs, Bool.and_eq_true, eqN_iff, eqNs_iff l m, List.cons.injEq]
def eqO (x y : O) : Bool := eqN x.obj y.obj && decide (x.key = y.key) && (x.keyed == y.keyed) && eqN x.elem y.elem && (x.ins == y.ins) && decide (x.act = y.act) && eqV x.val y.val && eqNs x.pr y.pr
theorem O.ext' {x y : O} (h1 : x.obj = y.obj) (h2 : x.key = y.key) (h3 : x.keyed = y.keyed) (h4 : x.elem = y.elem) (h5 : x.ins = y.ins) (h6 : x.act = y.act) (h7 : x.val = y.val) (h8 : x.pr = y.pr) : x = y := by
  cases x; cases y
  simp only at h1 h2 h3 h4 h5 h6 h7 h8
  rw [h1, h2, h3, h4, h5, h6, h7, h8]
theorem eqO_iff (x y : O) : eqO x y = true ↔ x = y := by
  unfold eqO
  simp only [Bool.and_eq_true, decide_eq_true_eq, eqN_iff, eqV_iff, eqNs_iff, beq_iff_eq]
  exact ⟨fun ⟨⟨⟨⟨⟨⟨⟨h1, h2⟩, h3⟩, h4⟩, h5⟩, h6⟩, h7⟩, h8⟩ => O.ext' h1 h2 h3 h4 h5 h6 h7 h8, by rintro rfl; exact ⟨⟨⟨⟨⟨⟨⟨rfl, rfl⟩, rfl⟩, rfl⟩, rfl⟩, rfl⟩, rfl⟩, rfl⟩⟩
theorem eqO_self (x : O) : eqO x x = true := (eqO_iff x x).2 rfl
/-- ops are few, and their texts short -/
def fewO (o : O) : Bool := decide (o.pr.length ≤ 40) && decide (o.key.length ≤ 5000) && decide (o.val.s.length ≤ 5000) && decide (o.obj.a.length ≤ 100) && decide (o.elem.a.length ≤ 100) && o.pr.all fun x => decide (x.a.length ≤ 100)
end Go.Proofs.Ytbagclhghcglbaa.OpM
