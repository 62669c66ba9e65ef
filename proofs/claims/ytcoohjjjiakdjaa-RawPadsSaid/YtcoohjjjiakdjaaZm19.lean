/-
  Plain mathematics of layer 14: which values may be, a value's bytes, the value of a kind that bytes are.
  Plain mathematics of layer 15: columns of values.
-/
import Derived.Test.YtcoohjjjiakdjaaZm05
import Derived.Test.YtcoohjjjiakdjaaZm18
import Derived.Test.YtcoohjjjiakdjaaZm16
namespace Go.Proofs.Ytcoohjjjiakdjaa.VaM
open Go Go.RowKit LebM UtfM

/-- how values of a kind are told: 0 by nothing, 1 by U, 2 by N, 3 by S that is UTF-8, 4 by S, 5: there is no such kind -/
def cl (k : Int) : Nat := if k = 0 ∨ k = 1 ∨ k = 2 then 0 else if k = 3 then 1 else if k = 4 ∨ k = 7 ∨ k = 8 then 2 else if k = 5 then 3 else if k = 6 then 4 else 5
theorem cl_le (k : Int) : cl k ≤ 5 := by unfold cl; (repeat' split) <;> omega
theorem cl0 {k : Int} (h : cl k = 0) : k = 0 ∨ k = 1 ∨ k = 2 := by unfold cl at h; (repeat' split at h) <;> omega
theorem cl1 {k : Int} (h : cl k = 1) : k = 3 := by unfold cl at h; (repeat' split at h) <;> omega
theorem cl2 {k : Int} (h : cl k = 2) : k = 4 ∨ k = 7 ∨ k = 8 := by unfold cl at h; (repeat' split at h) <;> omega
theorem cl3 {k : Int} (h : cl k = 3) : k = 5 := by unfold cl at h; (repeat' split at h) <;> omega
theorem cl4 {k : Int} (h : cl k = 4) : k = 6 := by unfold cl at h; (repeat' split at h) <;> omega
theorem cl5 {k : Int} (h : cl k = 5) : k < 0 ∨ 8 < k := by unfold cl at h; (repeat' split at h) <;> omega

/-- a value -/
structure V where
  k : Int
  u : Nat
  n : Int
  s : List UInt8
def V.ok (v : V) : Prop := (-9223372036854775808 ≤ v.k ∧ v.k < 9223372036854775808) ∧ v.u < 18446744073709551616 ∧ (-9223372036854775808 ≤ v.n ∧ v.n < 9223372036854775808)
def zeroV : V := ⟨0, 0, 0, []⟩
theorem V.ext' {v w : V} (h1 : v.k = w.k) (h2 : v.u = w.u) (h3 : v.n = w.n) (h4 : v.s = w.s) : v = w := by
  cases v; cases w
  simp only at h1 h2 h3 h4
  rw [h1, h2, h3, h4]
/-- two values are the same -/
def eqV (v w : V) : Bool := decide (v.k = w.k) && (decide (v.u = w.u) && (decide (v.n = w.n) && decide (v.s = w.s)))
theorem eqV_iff (v w : V) : eqV v w = true ↔ v = w := by
  unfold eqV
  simp only [Bool.and_eq_true, decide_eq_true_eq]
  exact ⟨fun ⟨h1, h2, h3, h4⟩ => V.ext' h1 h2 h3 h4, by rintro rfl; exact ⟨rfl, rfl, rfl, rfl⟩⟩
theorem eqV_self (v : V) : eqV v v = true := (eqV_iff v v).2 rfl
/-- may a value be? -/
def rightV (v : V) : Bool :=
  match cl v.k with
  | 0 => decide (v.u = 0) && decide (v.n = 0) && decide (v.s = [])
  | 1 => decide (v.n = 0) && decide (v.s = [])
  | 2 => decide (v.u = 0) && decide (v.s = [])
  | 3 => decide (v.u = 0) && decide (v.n = 0) && decide (v.s.length ≤ 4000) && decide (wh v.s = v.s.length)
  | 4 => decide (v.u = 0) && decide (v.n = 0) && decide (v.s.length ≤ 4000)
  | _ => false
/-- its bytes -/
def putV (v : V) : List UInt8 :=
  match cl v.k with
  | 1 => u v.u
  | 2 => s v.n
  | 3 => v.s
  | 4 => v.s
  | _ => []
/-- the value that bytes are, and whether there is one -/
def getC (c : Nat) (k : Int) (B : List UInt8) : V × Bool :=
  match c with
  | 0 => if B = [] then (⟨k, 0, 0, []⟩, true) else (zeroV, false)
  | 1 => if (gu B).2.2 = 0 ∧ (gu B).2.1 = B.length then (⟨k, (gu B).1, 0, []⟩, true) else (zeroV, false)
  | 2 => if (gs B).2.2 = 0 ∧ (gs B).2.1 = B.length then (⟨k, 0, (gs B).1, []⟩, true) else (zeroV, false)
  | 3 => if B.length ≤ 4000 ∧ wh B = B.length then (⟨k, 0, 0, B⟩, true) else (zeroV, false)
  | 4 => if B.length ≤ 4000 then (⟨k, 0, 0, B⟩, true) else (zeroV, false)
  | _ => (zeroV, false)
def getV (k : Int) (B : List UInt8) : V × Bool := getC (cl k) k B

theorem gu_lt (B : List UInt8) : (gu B).1 < 18446744073709551616 ∧ (gu B).2.1 ≤ B.length ∧ (gu B).2.2 ≤ 3 := by
  have h1 := spanK_le B
  have h2 := spanE_le B
  unfold gu
  split
  · exact ⟨by show (0 : Nat) < _; omega, Nat.zero_le _, h2⟩
  · split
    · exact ⟨Nat.mod_lt _ (by omega), h1.1, Nat.zero_le _⟩
    · exact ⟨by show (0 : Nat) < _; omega, Nat.zero_le _, Nat.le_refl _⟩
theorem gs_lt (B : List UInt8) : (-9223372036854775808 ≤ (gs B).1 ∧ (gs B).1 < 9223372036854775808) ∧ (gs B).2.1 ≤ B.length ∧ (gs B).2.2 ≤ 3 := by
  have h1 := spanK_le B
  have h2 := spanE_le B
  unfold gs
  split
  · exact ⟨by show (-9223372036854775808 : Int) ≤ 0 ∧ (0 : Int) < _; omega, Nat.zero_le _, h2⟩
  · split
    · exact ⟨sgn_bd _ _, h1.1, Nat.zero_le _⟩
    · exact ⟨by show (-9223372036854775808 : Int) ≤ 0 ∧ (0 : Int) < _; omega, Nat.zero_le _, Nat.le_refl _⟩
theorem gu_of {B : List UInt8} (h : (gu B).2.2 = 0 ∧ (gu B).2.1 = B.length) : u (gu B).1 = B := by
  obtain ⟨h0, h1⟩ := h
  unfold gu at h0 h1 ⊢
  by_cases he : spanE B ≠ 0
  · rw [if_pos he] at h0
    exact absurd h0 he
  · rw [if_neg he] at h0 h1 ⊢
    by_cases hu : u (val (B.take (spanK B)) % 18446744073709551616) = B.take (spanK B)
    · rw [if_pos hu] at h1 ⊢
      have h2 : spanK B = B.length := h1
      rw [h2, List.take_length] at hu
      rw [h2, List.take_length]
      exact hu
    · rw [if_neg hu] at h0
      exact absurd h0 (by simp)
theorem gs_of {B : List UInt8} (h : (gs B).2.2 = 0 ∧ (gs B).2.1 = B.length) : s (gs B).1 = B := by
  obtain ⟨h0, h1⟩ := h
  unfold gs at h0 h1 ⊢
  by_cases he : spanE B ≠ 0
  · rw [if_pos he] at h0
    exact absurd h0 he
  · rw [if_neg he] at h0 h1 ⊢
    by_cases hu : s (sgn (val (B.take (spanK B)) % 18446744073709551616) (spanK B)) = B.take (spanK B)
    · rw [if_pos hu] at h1 ⊢
      have h2 : spanK B = B.length := h1
      rw [h2, List.take_length] at hu
      rw [h2, List.take_length]
      exact hu
    · rw [if_neg hu] at h0
      exact absurd h0 (by simp)

theorem right_len {v : V} (h : rightV v = true) : v.s.length ≤ 4000 := by
  unfold rightV at h
  have hc := cl_le v.k
  rcases (show cl v.k = 0 ∨ cl v.k = 1 ∨ cl v.k = 2 ∨ cl v.k = 3 ∨ cl v.k = 4 ∨ cl v.k = 5 by omega) with e | e | e | e | e | e <;> rw [e] at h <;> simp at h
  · rw [h.2]; simp
  · rw [h.2]; simp
  · rw [h.2]; simp
  · exact h.1.2
  · exact h.2
/-- what may be is read as it was -/
theorem get_put {v : V} (hk : v.ok) (h : rightV v = true) : getV v.k (putV v) = (v, true) := by
  obtain ⟨k, x, n, t⟩ := v
  obtain ⟨_, hu, hn⟩ := hk
  simp only at hu hn
  unfold rightV at h
  unfold getV putV
  simp only at h ⊢
  have hc := cl_le k
  rcases (show cl k = 0 ∨ cl k = 1 ∨ cl k = 2 ∨ cl k = 3 ∨ cl k = 4 ∨ cl k = 5 by omega) with e | e | e | e | e | e
  all_goals rw [e] at h ⊢
  all_goals simp at h
  · obtain ⟨⟨rfl, rfl⟩, rfl⟩ := h
    simp [getC]
  · obtain ⟨rfl, rfl⟩ := h
    have := gu_back x [] hu
    rw [List.append_nil] at this
    simp only [getC]
    rw [this, if_pos ⟨rfl, rfl⟩]
  · obtain ⟨rfl, rfl⟩ := h
    have := gs_back n [] hn.1 hn.2
    rw [List.append_nil] at this
    simp only [getC]
    rw [this, if_pos ⟨rfl, rfl⟩]
  · obtain ⟨⟨⟨rfl, rfl⟩, h1⟩, h2⟩ := h
    simp only [getC]
    rw [if_pos ⟨h1, h2⟩]
  · obtain ⟨⟨rfl, rfl⟩, h1⟩ := h
    simp only [getC]
    rw [if_pos h1]
theorem zero_right (k : Int) (h : cl k = 0) : rightV ⟨k, 0, 0, []⟩ = true := by unfold rightV; simp [h]
/-- whatever is read may be, and has just these bytes -/
theorem put_get {k : Int} {B : List UInt8} {v : V} (h : getV k B = (v, true)) : v.k = k ∧ rightV v = true ∧ putV v = B := by
  unfold getV at h
  have hc := cl_le k
  rcases (show cl k = 0 ∨ cl k = 1 ∨ cl k = 2 ∨ cl k = 3 ∨ cl k = 4 ∨ cl k = 5 by omega) with e | e | e | e | e | e
  all_goals rw [e] at h
  all_goals simp only [getC] at h
  · by_cases hB : B = []
    · rw [if_pos hB] at h
      simp only [Prod.mk.injEq, and_true] at h
      subst h
      subst hB
      exact ⟨rfl, by simp [rightV, e], by simp [putV, e]⟩
    · rw [if_neg hB] at h; simp at h
  · by_cases hB : (gu B).2.2 = 0 ∧ (gu B).2.1 = B.length
    · rw [if_pos hB] at h
      simp only [Prod.mk.injEq, and_true] at h
      subst h
      exact ⟨rfl, by simp [rightV, e], by simp [putV, e]; exact gu_of hB⟩
    · rw [if_neg hB] at h; simp at h
  · by_cases hB : (gs B).2.2 = 0 ∧ (gs B).2.1 = B.length
    · rw [if_pos hB] at h
      simp only [Prod.mk.injEq, and_true] at h
      subst h
      exact ⟨rfl, by simp [rightV, e], by simp [putV, e]; exact gs_of hB⟩
    · rw [if_neg hB] at h; simp at h
  · by_cases hB : B.length ≤ 4000 ∧ wh B = B.length
    · rw [if_pos hB] at h
      simp only [Prod.mk.injEq, and_true] at h
      subst h
      exact ⟨rfl, by simp [rightV, e, hB], by simp [putV, e]⟩
    · rw [if_neg hB] at h; simp at h
  · by_cases hB : B.length ≤ 4000
    · rw [if_pos hB] at h
      simp only [Prod.mk.injEq, and_true] at h
      subst h
      exact ⟨rfl, by simp [rightV, e, hB], by simp [putV, e]⟩
    · rw [if_neg hB] at h; simp at h
  · simp at h
theorem get_no {k : Int} {B : List UInt8} (h : (getV k B).2 = false) : getV k B = (zeroV, false) := by
  unfold getV at h ⊢
  have hc := cl_le k
  rcases (show cl k = 0 ∨ cl k = 1 ∨ cl k = 2 ∨ cl k = 3 ∨ cl k = 4 ∨ cl k = 5 by omega) with e | e | e | e | e | e
  all_goals rw [e] at h ⊢
  all_goals simp only [getC] at h ⊢
  all_goals (try (split at h <;> simp_all))
theorem get_ok {k : Int} {B : List UInt8} (hk : -9223372036854775808 ≤ k ∧ k < 9223372036854775808) : (getV k B).1.ok := by
  have hz : zeroV.ok := ⟨by show (-9223372036854775808 : Int) ≤ 0 ∧ (0 : Int) < _; omega, by show (0 : Nat) < _; omega, by show (-9223372036854775808 : Int) ≤ 0 ∧ (0 : Int) < _; omega⟩
  have h0 : (0 : Nat) < 18446744073709551616 := by omega
  have h1 : (-9223372036854775808 : Int) ≤ 0 ∧ (0 : Int) < 9223372036854775808 := by omega
  unfold getV
  have hc := cl_le k
  rcases (show cl k = 0 ∨ cl k = 1 ∨ cl k = 2 ∨ cl k = 3 ∨ cl k = 4 ∨ cl k = 5 by omega) with e | e | e | e | e | e
  all_goals rw [e]
  all_goals simp only [getC]
  · split
    · exact ⟨hk, h0, h1⟩
    · exact hz
  · split
    · exact ⟨hk, (gu_lt B).1, h1⟩
    · exact hz
  · split
    · exact ⟨hk, h0, (gs_lt B).1⟩
    · exact hz
  · split
    · exact ⟨hk, h0, h1⟩
    · exact hz
  · split
    · exact ⟨hk, h0, h1⟩
    · exact hz
  · exact hz
/-- what the program asks: is a value read from its bytes as it was? -/
theorem right_iff {v : V} (hk : v.ok) : rightV v = (decide (v.s.length ≤ 4000) && ((getV v.k (putV v)).2 && eqV (getV v.k (putV v)).1 v)) := by
  obtain ⟨g, hg⟩ : ∃ g, g = getV v.k (putV v) := ⟨_, rfl⟩
  rw [← hg]
  cases hr : rightV v with
  | true =>
    rw [get_put hk hr] at hg
    rw [hg]
    have := right_len hr
    simp [eqV_self, this]
  | false =>
    obtain ⟨x, b⟩ := g
    cases b with
    | false => simp
    | true =>
      have h1 := put_get hg.symm
      have h2 : eqV x v = false := by
        cases h3 : eqV x v with
        | false => rfl
        | true =>
          rw [(eqV_iff x v).1 h3, hr] at h1
          exact absurd h1.2.1 (by simp)
      simp [h2]
/-- two of a kind that may be have the same bytes just if they are the same -/
theorem put_apart {v w : V} (hv : v.ok) (hw : w.ok) (h1 : rightV v = true) (h2 : rightV w = true) (hk : v.k = w.k) : decide (putV v = putV w) = eqV v w := by
  by_cases h : putV v = putV w
  · have a := get_put hv h1
    have b := get_put hw h2
    rw [h, hk, b] at a
    simp only [Prod.mk.injEq, and_true] at a
    subst a
    rw [eqV_self]
    simp
  · cases h3 : eqV v w with
    | false => simp [h]
    | true => exact absurd (by rw [(eqV_iff v w).1 h3]) h
theorem put_len {v : V} (hv : v.ok) (h : v.s.length ≤ 1000000) : (putV v).length ≤ 1000000 := by
  unfold putV
  have h1 := u_len10 hv.2.1
  have h2 := s_len10 hv.2.2.1 hv.2.2.2
  have hc := cl_le v.k
  rcases (show cl v.k = 0 ∨ cl v.k = 1 ∨ cl v.k = 2 ∨ cl v.k = 3 ∨ cl v.k = 4 ∨ cl v.k = 5 by omega) with e | e | e | e | e | e
  all_goals rw [e]
  all_goals simp only [List.length_nil]
  all_goals omega
end Go.Proofs.Ytcoohjjjiakdjaa.VaM
namespace Go.Proofs.Ytcoohjjjiakdjaa
open RleM LebM VaM

/-- a value's cell -/
def metaC (v : V) : Bool × Int := if v.k = 0 then (false, 0) else (true, 16 * ((putV v).length : Int) + v.k)
/-- both columns -/
def putM (L : List V) : List UInt8 := tellW kU (gatherG (L.map metaC))
def putB (L : List V) : List UInt8 := L.flatMap putV
/-- the value of a cell, how many bytes it has, the error's number -/
def firstR (c : Bool × Int) (B : List UInt8) : V × Nat × Nat :=
  if c.1 = false then (zeroV, 0, 0) else
  if c.2 % 16 = 0 then (zeroV, 0, 3) else
  if (B.length : Int) < c.2 / 16 then (zeroV, 0, 2) else
  if (getV (c.2 % 16) (B.take (c.2 / 16).toNat)).2 = true then ((getV (c.2 % 16) (B.take (c.2 / 16).toNat)).1, (c.2 / 16).toNat, 0) else (zeroV, 0, 3)
/-- the values of cells, behind those that are there -/
def valsF (F : List V) : List (Bool × Int) → List UInt8 → List V × Nat
  | [], B => if B = [] then (F, 0) else ([], 3)
  | c :: T, B => if (firstR c B).2.2 ≠ 0 then ([], (firstR c B).2.2) else valsF (F ++ [(firstR c B).1]) T (B.drop (firstR c B).2.1)
def padR (L : List (Bool × Int)) (n : Int) : List (Bool × Int) × Bool :=
  if 0 < L.length then (L, decide ((L.length : Int) = n)) else if 2147483647 < n then ([], false) else (List.replicate n.toNat (false, 0), true)
/-- what is read, of an n up to 10^6 -/
def getM (M B : List UInt8) (n : Int) : List V × Nat :=
  if (toC (readG kU n M)).2 ≠ 0 then ([], (toC (readG kU n M)).2) else
  if (padR (toC (readG kU n M)).1 n).2 = true then valsF [] (padR (toC (readG kU n M)).1 n).1 B else ([], 3)

theorem right_k {v : V} (h : rightV v = true) : 0 ≤ v.k ∧ v.k ≤ 8 := by
  unfold rightV at h
  have hc := cl_le v.k
  rcases (show cl v.k = 0 ∨ cl v.k = 1 ∨ cl v.k = 2 ∨ cl v.k = 3 ∨ cl v.k = 4 ∨ cl v.k = 5 by omega) with e | e | e | e | e | e
  · have := cl0 e; omega
  · have := cl1 e; omega
  · have := cl2 e; omega
  · have := cl3 e; omega
  · have := cl4 e; omega
  · simp [e] at h
theorem right_put {v : V} (hv : v.ok) (h : rightV v = true) : (putV v).length ≤ 4000 := by
  have h3 := u_len10 hv.2.1
  have h4 := s_len10 hv.2.2.1 hv.2.2.2
  have h5 := right_len h
  unfold putV
  split <;> first | omega | simp
theorem right_null {v : V} (h : rightV v = true) (hk : v.k = 0) : v = zeroV ∧ putV v = [] := by
  have e : cl v.k = 0 := by rw [hk]; rfl
  refine ⟨?_, by simp [putV, e]⟩
  simp only [rightV, e, Bool.and_eq_true, decide_eq_true_eq] at h
  exact V.ext' hk h.1.1 h.1.2 h.2
theorem meta_may {v : V} (hv : v.ok) (h : rightV v = true) : mayU (metaC v) := by
  have h1 := right_k h
  have h2 := right_put hv h
  unfold metaC
  split
  · exact ⟨fun _ => rfl, Int.le_refl _, by show (0 : Int) < _; omega⟩
  · exact ⟨fun (h : true = false) => (by cases h), show (0 : Int) ≤ 16 * ((putV v).length : Int) + v.k by omega, show 16 * ((putV v).length : Int) + v.k < 9223372036854775808 by omega⟩
theorem putM_may {L : List V} (h : ∀ v ∈ L, v.ok ∧ rightV v = true) : ∀ c ∈ L.map metaC, mayU c := by
  intro c hc
  obtain ⟨v, hv, rfl⟩ := List.mem_map.1 hc
  exact meta_may (h v hv).1 (h v hv).2
theorem putB_len : ∀ {L : List V}, (∀ v ∈ L, v.ok ∧ rightV v = true) → (putB L).length ≤ L.length * 4000
  | [], _ => Nat.le_refl _
  | v :: T, h => by
    have h1 := putB_len (L := T) (fun x hx => h x (List.mem_cons_of_mem _ hx))
    have h2 := right_put (h v (List.mem_cons_self ..)).1 (h v (List.mem_cons_self ..)).2
    unfold putB at h1 ⊢
    rw [List.flatMap_cons, List.length_append, List.length_cons, Nat.add_mul, Nat.one_mul]
    omega
theorem putM_len {L : List V} (h : ∀ v ∈ L, v.ok ∧ rightV v = true) (hl : L.length ≤ 1000000) : (putM L).length ≤ L.length * 30 :=
  (tell_le (L.map metaC) 10 L.length (by rw [List.length_map]; exact Nat.le_refl _) hl (fun c hc => putU10 (putM_may h c hc).2)).2
theorem putB_snoc (L : List V) (v : V) : putB (L ++ [v]) = putB L ++ putV v := by simp [putB]
theorem first_put {v : V} (hv : v.ok) (h : rightV v = true) (R : List UInt8) : firstR (metaC v) (putV v ++ R) = (v, (putV v).length, 0) := by
  have h1 := right_k h
  unfold firstR metaC
  by_cases hk : v.k = 0
  · obtain ⟨e1, e2⟩ := right_null h hk
    rw [if_pos hk, e2, e1]
    rfl
  · rw [if_neg hk]
    have e1 : (16 * ((putV v).length : Int) + v.k) % 16 = v.k := by omega
    have e2 : (16 * ((putV v).length : Int) + v.k) / 16 = ((putV v).length : Int) := by omega
    simp only [e1, e2, Int.toNat_natCast, List.take_left']
    rw [if_neg (by simp), if_neg hk, if_neg (by rw [List.length_append]; omega), get_put hv h]
    rfl
theorem vals_put : ∀ {L : List V} (_ : ∀ v ∈ L, v.ok ∧ rightV v = true) (F : List V) (R : List UInt8), valsF F (L.map metaC) (putB L ++ R) = if R = [] then (F ++ L, 0) else ([], 3)
  | [], _, F, R => by simp [valsF, putB]
  | v :: T, h, F, R => by
    have hf := first_put (h v (List.mem_cons_self ..)).1 (h v (List.mem_cons_self ..)).2 (putB T ++ R)
    have ih := vals_put (L := T) (fun x hx => h x (List.mem_cons_of_mem _ hx)) (F ++ [v]) R
    have e : putB (v :: T) ++ R = putV v ++ (putB T ++ R) := by unfold putB; rw [List.flatMap_cons, List.append_assoc]
    rw [List.map_cons, e, valsF, hf, if_neg (by simp)]
    simp only
    rw [List.drop_append_length, ih, List.append_assoc, List.singleton_append]
theorem metas_null {L : List V} (h : ∀ c ∈ L.map metaC, c = ((false, 0) : Bool × Int)) : L.map metaC = List.replicate L.length (false, 0) := by
  rw [List.eq_replicate_iff]
  exact ⟨List.length_map _, h⟩
/-- are any not Null? -/
def someV (L : List V) : Bool := L.any fun v => decide (v.k ≠ 0)
theorem some_meta {L : List V} (h : someV L = true) : ∃ c ∈ L.map metaC, c.1 = true := by
  obtain ⟨v, hv, hk⟩ := List.any_eq_true.1 h
  refine ⟨metaC v, List.mem_map.2 ⟨v, hv, rfl⟩, ?_⟩
  rw [metaC, if_neg (by simpa using hk)]
theorem none_meta {L : List V} (h : someV L = false) : ∀ c ∈ L.map metaC, c = ((false, 0) : Bool × Int) := by
  intro c hc
  obtain ⟨v, hv, rfl⟩ := List.mem_map.1 hc
  have := List.any_eq_false.1 h v hv
  rw [metaC, if_pos (by simpa using this)]
theorem putM_none {L : List V} (h : someV L = false) : putM L = [] := told_none (none_meta h)
theorem putM_some {L : List V} (h : someV L = true) : putM L ≠ [] := by
  obtain ⟨c, hc, h1⟩ := some_meta h
  have e := told_some (K := kU) hc (fun e => by rw [e] at h1; cases h1)
  unfold putM
  rw [e]
  refine tell_ne (fun h0 => ?_)
  have h2 := spread_gather (L.map metaC)
  rw [h0] at h2
  rw [← h2] at hc
  cases hc
theorem putB_none : ∀ {L : List V}, (∀ v ∈ L, v.ok ∧ rightV v = true) → someV L = false → putB L = []
  | [], _, _ => rfl
  | v :: T, h, hs => by
    unfold someV at hs
    rw [List.any_cons, Bool.or_eq_false_iff] at hs
    have h1 := right_null (h v (List.mem_cons_self ..)).2 (by simpa using hs.1)
    have h2 := putB_none (L := T) (fun x hx => h x (List.mem_cons_of_mem _ hx)) hs.2
    unfold putB at h2 ⊢
    rw [List.flatMap_cons, h1.2, h2]
    rfl
/-- what the first column is read as -/
theorem read_metas {L : List V} (h : ∀ v ∈ L, v.ok ∧ rightV v = true) (hl : L.length ≤ 1000000) (n : Int) (hn : 0 ≤ n) :
    toC (readG kU n (putM L)) = if someV L = true then (if (L.length : Int) ≤ n then (L.map metaC, 0) else ([], 4)) else ([], 0) := by
  unfold putM
  by_cases hs : someV L = true
  · rw [if_pos hs]
    obtain ⟨c, hc, h1⟩ := some_meta hs
    have e := read_back backU (putM_may h) hc (fun e => by rw [e] at h1; cases h1) (by rw [List.length_map]; omega) n hn
    rw [e, List.length_map]
    by_cases hf : (L.length : Int) ≤ n
    · rw [if_pos hf, if_pos hf]
      show (spreadG (gatherG (L.map metaC)), 0) = _
      rw [spread_gather]
    · rw [if_neg hf, if_neg hf]; rfl
  · rw [if_neg hs, told_none (none_meta (by simpa using hs)), read_nil _ hn]
    rfl
/-- what is put is read as it was; with bytes behind it isn't -/
theorem get_back {L : List V} (h : ∀ v ∈ L, v.ok ∧ rightV v = true) (hl : L.length ≤ 1000000) (R : List UInt8) : getM (putM L) (putB L ++ R) (L.length : Int) = if R = [] then (L, 0) else ([], 3) := by
  unfold getM
  rw [read_metas h hl _ (by omega)]
  by_cases hs : someV L = true
  · have hpos : 0 < (L.map metaC).length := by
      obtain ⟨c, hc, _⟩ := some_meta hs
      exact List.length_pos_of_mem hc
    have hp : padR (L.map metaC) (L.length : Int) = (L.map metaC, true) := by
      unfold padR
      rw [if_pos hpos, List.length_map]
      simp
    rw [if_pos hs, if_pos (Int.le_refl _)]
    simp only [hp]
    rw [if_neg (by simp), if_pos trivial, vals_put h]
    simp
  · have hp : padR [] (L.length : Int) = (L.map metaC, true) := by
      unfold padR
      rw [if_neg (by simp), if_neg (by omega), metas_null (none_meta (by simpa using hs)), Int.toNat_natCast]
    rw [if_neg hs]
    simp only [hp]
    rw [if_neg (by simp), if_pos trivial, vals_put h]
    simp
theorem get_more {L : List V} (h : ∀ v ∈ L, v.ok ∧ rightV v = true) (hl : L.length ≤ 1000000) (hs : someV L = true) (B : List UInt8) : getM (putM L) B ((L.length : Int) + 1) = ([], 3) := by
  have hpos : 0 < (L.map metaC).length := by
    obtain ⟨c, hc, _⟩ := some_meta hs
    exact List.length_pos_of_mem hc
  unfold getM
  have hp : padR (L.map metaC) ((L.length : Int) + 1) = (L.map metaC, false) := by
    unfold padR
    rw [if_pos hpos, List.length_map, show decide ((L.length : Int) = (L.length : Int) + 1) = false from by simp; omega]
  have hr : (if (L.length : Int) ≤ (L.length : Int) + 1 then (L.map metaC, 0) else (([] : List (Bool × Int)), 4)) = (L.map metaC, 0) := if_pos (by omega)
  rw [read_metas h hl _ (by omega), if_pos hs, hr]
  simp [hp]
theorem get_less {L : List V} (h : ∀ v ∈ L, v.ok ∧ rightV v = true) (hl : L.length ≤ 1000000) (hs : someV L = true) (B : List UInt8) : getM (putM L) B ((L.length : Int) - 1) = ([], 4) := by
  have hpos : 0 < L.length := by
    obtain ⟨c, hc, _⟩ := some_meta hs
    have := List.length_pos_of_mem hc
    rwa [List.length_map] at this
  unfold getM
  have hr : (if (L.length : Int) ≤ (L.length : Int) - 1 then (L.map metaC, 0) else (([] : List (Bool × Int)), 4)) = ([], 4) := if_neg (by omega)
  rw [read_metas h hl _ (by omega), if_pos hs, hr]
  simp
/-- so many Nulls -/
theorem put_nulls (k : Nat) : putM (List.replicate k zeroV) = [] ∧ putB (List.replicate k zeroV) = [] := by
  have hs : someV (List.replicate k zeroV) = false := by
    unfold someV
    rw [List.any_eq_false]
    intro v hv
    rw [(List.mem_replicate.1 hv).2]
    simp [zeroV]
  have hr : ∀ v ∈ List.replicate k zeroV, v.ok ∧ rightV v = true := by
    intro v hv
    rw [(List.mem_replicate.1 hv).2]
    exact ⟨⟨⟨by decide, by decide⟩, by decide, by decide, by decide⟩, rfl⟩
  exact ⟨putM_none hs, putB_none hr hs⟩
theorem get_nulls (k : Nat) (hk : k ≤ 1000000) : getM [] [] (k : Int) = (List.replicate k zeroV, 0) := by
  have hr : ∀ v ∈ List.replicate k zeroV, v.ok ∧ rightV v = true := by
    intro v hv
    rw [(List.mem_replicate.1 hv).2]
    exact ⟨⟨⟨by decide, by decide⟩, by decide, by decide, by decide⟩, rfl⟩
  have h := get_back hr (by rw [List.length_replicate]; exact hk) []
  rw [(put_nulls k).1, (put_nulls k).2, List.length_replicate, if_pos rfl] at h
  exact h
end Go.Proofs.Ytcoohjjjiakdjaa
