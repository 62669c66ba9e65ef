/-
  Layer 16, plain: columns side by side, with a directory of them ahead: what is put, what is read, and that these are each other's.
  Layer 20, plain: what stands ahead of a change's ops: its bytes, how they are read, and that these are each other's.
-/
import Derived.Test.YtbnkahjmeobblaaZm03
import Derived.Test.YtbnkahjmeobblaaZm06
namespace Go.Proofs.Ytbnkahjmeobblaa
open Go.RowKit Mem LebM
namespace DirM

/-- a column: its number, its bytes -/
abbrev Col := Nat × List UInt8
def full (l : List Col) : List Col := l.filter (fun c => decide (0 < c.2.length))
def headC (l : List Col) : List UInt8 := l.flatMap (fun c => u c.1 ++ u c.2.length)
def dataC (l : List Col) : List UInt8 := l.flatMap (fun c => c.2)
def putC (l : List Col) : List UInt8 := u (full l).length ++ (headC (full l) ++ dataC (full l))
def findC : List Col → Int → List UInt8
  | [], _ => []
  | c :: l, id => if (c.1 : Int) = id then c.2 else findC l id
/-- a number, at most m: it, how many bytes, which error -/
def numD (m : Nat) (B : List UInt8) : Nat × Nat × Nat :=
  if (gu B).2.2 ≠ 0 then (0, 0, (gu B).2.2) else if m < (gu B).1 then (0, 0, 4) else ((gu B).1, (gu B).2.1, 0)
/-- the directory: which error, the places, what is left -/
def plD : Nat → Int → List UInt8 → Nat × List (Nat × Nat) × List UInt8
  | 0, _, B => (0, [], B)
  | k + 1, last, B =>
    if (numD 1048576 B).2.2 ≠ 0 then ((numD 1048576 B).2.2, [], []) else
    if (numD 1048576 (B.drop (numD 1048576 B).2.1)).2.2 ≠ 0 then ((numD 1048576 (B.drop (numD 1048576 B).2.1)).2.2, [], []) else
    if ((numD 1048576 B).1 : Int) ≤ last ∨ (numD 1048576 (B.drop (numD 1048576 B).2.1)).1 = 0 then (3, [], []) else
    ((plD k (numD 1048576 B).1 ((B.drop (numD 1048576 B).2.1).drop (numD 1048576 (B.drop (numD 1048576 B).2.1)).2.1)).1,
      ((numD 1048576 B).1, (numD 1048576 (B.drop (numD 1048576 B).2.1)).1) :: (plD k (numD 1048576 B).1 ((B.drop (numD 1048576 B).2.1).drop (numD 1048576 (B.drop (numD 1048576 B).2.1)).2.1)).2.1,
      (plD k (numD 1048576 B).1 ((B.drop (numD 1048576 B).2.1).drop (numD 1048576 (B.drop (numD 1048576 B).2.1)).2.1)).2.2)
/-- the columns that the places tell: which error, they, what is left -/
def coD : List (Nat × Nat) → List UInt8 → Nat × List Col × List UInt8
  | [], B => (0, [], B)
  | p :: P, B => if B.length < p.2 then (2, [], []) else ((coD P (B.drop p.2)).1, (p.1, B.take p.2) :: (coD P (B.drop p.2)).2.1, (coD P (B.drop p.2)).2.2)
def getC (B : List UInt8) : List Col × Nat :=
  if (numD 64 B).2.2 ≠ 0 then ([], (numD 64 B).2.2) else
  if (plD (numD 64 B).1 (-1) (B.drop (numD 64 B).2.1)).1 ≠ 0 then ([], (plD (numD 64 B).1 (-1) (B.drop (numD 64 B).2.1)).1) else
  if (coD (plD (numD 64 B).1 (-1) (B.drop (numD 64 B).2.1)).2.1 (plD (numD 64 B).1 (-1) (B.drop (numD 64 B).2.1)).2.2).1 ≠ 0 then
    ([], (coD (plD (numD 64 B).1 (-1) (B.drop (numD 64 B).2.1)).2.1 (plD (numD 64 B).1 (-1) (B.drop (numD 64 B).2.1)).2.2).1) else
  if 0 < (coD (plD (numD 64 B).1 (-1) (B.drop (numD 64 B).2.1)).2.1 (plD (numD 64 B).1 (-1) (B.drop (numD 64 B).2.1)).2.2).2.2.length then ([], 3) else
  ((coD (plD (numD 64 B).1 (-1) (B.drop (numD 64 B).2.1)).2.1 (plD (numD 64 B).1 (-1) (B.drop (numD 64 B).2.1)).2.2).2.1, 0)

/-- columns that may be: the numbers rise, all have bytes -/
def Ok : Int → List Col → Prop
  | _, [] => True
  | last, c :: l => last < (c.1 : Int) ∧ c.1 ≤ 1048576 ∧ 0 < c.2.length ∧ c.2.length ≤ 1048576 ∧ Ok c.1 l
def pls (l : List Col) : List (Nat × Nat) := l.map (fun c => (c.1, c.2.length))
def headP (P : List (Nat × Nat)) : List UInt8 := P.flatMap (fun p => u p.1 ++ u p.2)
theorem headP_pls (l : List Col) : headP (pls l) = headC l := by
  induction l with
  | nil => rfl
  | cons c l ih => show _ ++ headP (pls l) = _ ++ headC l; rw [ih]

theorem num_u {n m : Nat} (R : List UInt8) (h : n ≤ m) (hn : n < 18446744073709551616) : numD m (u n ++ R) = (n, (u n).length, 0) := by
  unfold numD
  rw [gu_back n R hn]
  simp
  omega
theorem gu_ok {B : List UInt8} (h : (gu B).2.2 = 0) : B.take (gu B).2.1 = u (gu B).1 ∧ (gu B).1 < 18446744073709551616 := by
  by_cases h1 : spanE B ≠ 0
  · have e : gu B = (0, 0, spanE B) := by unfold gu; rw [if_pos h1]
    rw [e] at h
    exact absurd h h1
  · by_cases h2 : u (val (B.take (spanK B)) % 18446744073709551616) = B.take (spanK B)
    · have e : gu B = (val (B.take (spanK B)) % 18446744073709551616, spanK B, 0) := by unfold gu; rw [if_neg h1, if_pos h2]
      rw [e]
      exact ⟨h2.symm, Nat.mod_lt _ (by omega)⟩
    · have e : gu B = (0, 0, 3) := by unfold gu; rw [if_neg h1, if_neg h2]
      rw [e] at h
      cases h
theorem gu_lt (B : List UInt8) : (gu B).1 < 18446744073709551616 ∧ (gu B).2.1 ≤ B.length ∧ (gu B).2.1 ≤ 10 ∧ (gu B).2.2 ≤ 3 := by
  have h1 := spanK_le B
  have h2 := spanE_le B
  unfold gu
  split
  · simp; exact h2
  · split
    · exact ⟨Nat.mod_lt _ (by omega), h1.1, h1.2, by simp⟩
    · simp
theorem numD_lt (m : Nat) (B : List UInt8) : (numD m B).1 ≤ m ∧ (numD m B).2.1 ≤ B.length ∧ (numD m B).2.2 ≤ 4 := by
  have h := gu_lt B
  unfold numD
  split
  · simp; omega
  · split
    · simp
    · simp; omega
theorem num_ok {m : Nat} {B : List UInt8} (h : (numD m B).2.2 = 0) : B = u (numD m B).1 ++ B.drop (numD m B).2.1 ∧ (numD m B).1 ≤ m := by
  by_cases h1 : (gu B).2.2 ≠ 0
  · have e : numD m B = (0, 0, (gu B).2.2) := by unfold numD; rw [if_pos h1]
    rw [e] at h
    exact absurd h h1
  · by_cases h2 : m < (gu B).1
    · have e : numD m B = (0, 0, 4) := by unfold numD; rw [if_neg h1, if_pos h2]
      rw [e] at h
      cases h
    · have e : numD m B = ((gu B).1, (gu B).2.1, 0) := by unfold numD; rw [if_neg h1, if_neg h2]
      rw [e]
      refine ⟨?_, by omega⟩
      show B = u (gu B).1 ++ B.drop (gu B).2.1
      rw [← (gu_ok (by omega)).1, List.take_append_drop]
theorem num_front {n m j : Nat} (hn : n < 18446744073709551616) (hj : j < (u n).length) : (numD m ((u n).take j)).2.2 = 2 := by
  unfold numD
  rw [gu_front (u_form n) (u_len10 hn) j hj]
  rfl
theorem drop_u (n : Nat) (R : List UInt8) : (u n ++ R).drop (u n).length = R := List.drop_left

theorem pl_put : ∀ (l : List Col) (last : Int) (R : List UInt8), Ok last l → plD l.length last (headC l ++ R) = (0, pls l, R)
  | [], last, R, _ => rfl
  | c :: l, last, R, h => by
    obtain ⟨h1, h2, h3, h4, h5⟩ := h
    have e : headC (c :: l) ++ R = u c.1 ++ (u c.2.length ++ (headC l ++ R)) := by simp [headC]
    rw [e]
    show plD (l.length + 1) last _ = _
    have ih := pl_put l c.1 R h5
    unfold plD
    rw [num_u _ h2 (by omega)]
    simp only [drop_u]
    rw [num_u _ h4 (by omega)]
    simp only [drop_u]
    rw [ih, if_neg (by simp), if_neg (by simp), if_neg (by omega)]
    rfl
theorem pl_front : ∀ (l : List Col) (last : Int) (j : Nat), Ok last l → j < (headC l).length → (plD l.length last ((headC l).take j)).1 = 2
  | [], last, j, _, hj => by simp [headC] at hj
  | c :: l, last, j, h, hj => by
    obtain ⟨h1, h2, h3, h4, h5⟩ := h
    have e : headC (c :: l) = u c.1 ++ (u c.2.length ++ headC l) := by simp [headC]
    rw [e] at hj ⊢
    show (plD (l.length + 1) last _).1 = 2
    by_cases hj1 : j < (u c.1).length
    · rw [List.take_append_of_le_length (by omega)]
      unfold plD
      have hn := num_front (m := 1048576) (show c.1 < 18446744073709551616 by omega) hj1
      rw [if_pos (by rw [hn]; decide)]
      exact hn
    · rw [List.take_append, List.take_of_length_le (by omega)]
      by_cases hj2 : j - (u c.1).length < (u c.2.length).length
      · rw [List.take_append_of_le_length (by omega)]
        unfold plD
        rw [num_u _ h2 (by omega)]
        simp only [drop_u]
        have hn := num_front (m := 1048576) (show c.2.length < 18446744073709551616 by omega) hj2
        rw [if_neg (by simp), if_pos (by rw [hn]; decide)]
        exact hn
      · rw [List.take_append, List.take_of_length_le (by omega)]
        have ih := pl_front l c.1 (j - (u c.1).length - (u c.2.length).length) h5 (by simp only [List.length_append] at hj; omega)
        unfold plD
        rw [num_u _ h2 (by omega)]
        simp only [drop_u]
        rw [num_u _ h4 (by omega)]
        simp only [drop_u]
        rw [if_neg (by simp), if_neg (by simp), if_neg (by omega)]
        exact ih
theorem co_put : ∀ (l : List Col) (R : List UInt8), coD (pls l) (dataC l ++ R) = (0, l, R)
  | [], R => rfl
  | c :: l, R => by
    have e : dataC (c :: l) ++ R = c.2 ++ (dataC l ++ R) := by simp [dataC]
    rw [e]
    show coD ((c.1, c.2.length) :: pls l) _ = _
    unfold coD
    rw [if_neg (by simp), List.drop_left, List.take_left, co_put l R]
theorem co_front : ∀ (l : List Col) (j : Nat), j < (dataC l).length → (coD (pls l) ((dataC l).take j)).1 = 2
  | [], j, hj => by simp [dataC] at hj
  | c :: l, j, hj => by
    have e : dataC (c :: l) = c.2 ++ dataC l := by simp [dataC]
    rw [e] at hj ⊢
    show (coD ((c.1, c.2.length) :: pls l) _).1 = 2
    by_cases hc : j < c.2.length
    · rw [List.take_append_of_le_length (by omega)]
      unfold coD
      rw [if_pos (by simp; omega)]
    · rw [List.take_append, List.take_of_length_le (by omega)]
      unfold coD
      rw [if_neg (by simp), List.drop_left]
      exact co_front l _ (by rw [List.length_append] at hj; omega)
theorem ok_full {last : Int} {l : List Col} (h : Ok last l) : full l = l := by
  induction l generalizing last with
  | nil => rfl
  | cons c l ih =>
    obtain ⟨h1, h2, h3, h4, h5⟩ := h
    unfold full
    rw [List.filter_cons, if_pos (by simpa using h3)]
    exact congrArg _ (ih h5)
/-- what is put is read as it was -/
theorem get_put {l : List Col} (h : Ok (-1) l) (hl : l.length ≤ 64) : getC (u l.length ++ (headC l ++ dataC l)) = (l, 0) := by
  unfold getC
  rw [num_u _ hl (by omega)]
  simp only [drop_u]
  rw [pl_put l (-1) _ h]
  have hc := co_put l []
  rw [List.append_nil] at hc
  simp only [hc]
  simp
theorem get_more {l : List Col} (h : Ok (-1) l) (hl : l.length ≤ 64) {R : List UInt8} (hR : 0 < R.length) : getC (u l.length ++ (headC l ++ dataC l) ++ R) = ([], 3) := by
  unfold getC
  rw [List.append_assoc, List.append_assoc, num_u _ hl (by omega)]
  simp only [drop_u]
  rw [pl_put l (-1) _ h]
  simp only [co_put l R]
  rw [if_neg (by simp), if_neg (by simp), if_neg (by simp), if_pos hR]
theorem get_front {l : List Col} (h : Ok (-1) l) (hl : l.length ≤ 64) {j : Nat} (hj : j < (u l.length ++ (headC l ++ dataC l)).length) : getC ((u l.length ++ (headC l ++ dataC l)).take j) = ([], 2) := by
  by_cases h1 : j < (u l.length).length
  · rw [List.take_append_of_le_length (by omega)]
    unfold getC
    have hn := num_front (m := 64) (show l.length < 18446744073709551616 by omega) h1
    rw [if_pos (by rw [hn]; decide), hn]
  · rw [List.take_append, List.take_of_length_le (by omega)]
    unfold getC
    rw [num_u _ hl (by omega)]
    simp only [drop_u]
    rw [List.length_append, List.length_append] at hj
    by_cases h2 : j - (u l.length).length < (headC l).length
    · rw [List.take_append_of_le_length (by omega)]
      have hp := pl_front l (-1) _ h h2
      rw [if_neg (by simp), if_pos (by rw [hp]; decide), hp]
    · rw [List.take_append, List.take_of_length_le (by omega), pl_put l (-1) _ h]
      have hc := co_front l (j - (u l.length).length - (headC l).length) (by omega)
      simp only [hc]
      rw [if_neg (by simp), if_neg (by simp), if_pos (by decide)]
theorem pl_ok : ∀ (k : Nat) (last : Int) (B : List UInt8), (plD k last B).1 = 0 → (plD k last B).2.1.length = k ∧ B = headP (plD k last B).2.1 ++ (plD k last B).2.2 ∧
    ∀ l : List Col, pls l = (plD k last B).2.1 → Ok last l
  | 0, last, B, _ => ⟨rfl, rfl, fun l hl => by
      have : l = [] := List.map_eq_nil_iff.1 hl
      subst this; exact trivial⟩
  | k + 1, last, B, h => by
    by_cases h1 : (numD 1048576 B).2.2 ≠ 0
    · unfold plD at h
      rw [if_pos h1] at h
      exact absurd h h1
    · obtain ⟨C, hC⟩ : ∃ C, C = B.drop (numD 1048576 B).2.1 := ⟨_, rfl⟩
      have n1 := num_ok (m := 1048576) (B := B) (by omega)
      rw [← hC] at n1
      by_cases h2 : (numD 1048576 C).2.2 ≠ 0
      · unfold plD at h
        rw [← hC, if_neg h1, if_pos h2] at h
        exact absurd h h2
      · have n2 := num_ok (m := 1048576) (B := C) (by omega)
        by_cases h3 : ((numD 1048576 B).1 : Int) ≤ last ∨ (numD 1048576 C).1 = 0
        · unfold plD at h
          rw [← hC, if_neg h1, if_neg h2, if_pos h3] at h
          cases h
        · obtain ⟨D, hD⟩ : ∃ D, D = C.drop (numD 1048576 C).2.1 := ⟨_, rfl⟩
          have e : plD (k + 1) last B = ((plD k (numD 1048576 B).1 D).1, ((numD 1048576 B).1, (numD 1048576 C).1) :: (plD k (numD 1048576 B).1 D).2.1, (plD k (numD 1048576 B).1 D).2.2) := by
            conv => lhs; unfold plD
            rw [← hC, if_neg h1, if_neg h2, if_neg h3, ← hD]
          rw [e] at h ⊢
          obtain ⟨i1, i2, i3⟩ := pl_ok k (numD 1048576 B).1 D h
          refine ⟨by simp [i1], ?_, ?_⟩
          · show B = (u (numD 1048576 B).1 ++ u (numD 1048576 C).1) ++ headP _ ++ _
            rw [← hD] at n2
            rw [List.append_assoc, List.append_assoc, ← i2, ← n2.1, ← n1.1]
          · intro l hl
            cases l with
            | nil => cases hl
            | cons c l =>
              simp only [pls, List.map_cons, List.cons.injEq, Prod.mk.injEq] at hl
              obtain ⟨⟨e1, e2⟩, e3⟩ := hl
              exact ⟨by omega, by omega, by omega, by omega, by rw [e1]; exact i3 l e3⟩
theorem co_ok : ∀ (P : List (Nat × Nat)) (B : List UInt8), (coD P B).1 = 0 → pls (coD P B).2.1 = P ∧ B = dataC (coD P B).2.1 ++ (coD P B).2.2
  | [], B, _ => ⟨rfl, rfl⟩
  | p :: P, B, h => by
    by_cases h1 : B.length < p.2
    · unfold coD at h
      rw [if_pos h1] at h
      cases h
    · have e : coD (p :: P) B = ((coD P (B.drop p.2)).1, (p.1, B.take p.2) :: (coD P (B.drop p.2)).2.1, (coD P (B.drop p.2)).2.2) := by
        conv => lhs; unfold coD
        rw [if_neg h1]
      rw [e] at h ⊢
      obtain ⟨i1, i2⟩ := co_ok P (B.drop p.2) h
      refine ⟨?_, ?_⟩
      · show (p.1, (B.take p.2).length) :: pls _ = p :: P
        rw [i1, List.length_take, Nat.min_eq_left (by omega)]
      · show B = B.take p.2 ++ dataC _ ++ _
        rw [List.append_assoc, ← i2, List.take_append_drop]
theorem get_nil {B : List UInt8} (h : (getC B).2 ≠ 0) : (getC B).1 = [] := by
  unfold getC at h ⊢
  split
  · rfl
  · split
    · rfl
    · split
      · rfl
      · split
        · rfl
        · rename_i h1 h2 h3 h4
          rw [if_neg h1, if_neg h2, if_neg h3, if_neg h4] at h
          exact absurd rfl h
/-- whatever is read has just these bytes -/
theorem put_get {B : List UInt8} (h : (getC B).2 = 0) : (getC B).1.length ≤ 64 ∧ Ok (-1) (getC B).1 ∧ putC (getC B).1 = B := by
  obtain ⟨C, hC⟩ : ∃ C, C = B.drop (numD 64 B).2.1 := ⟨_, rfl⟩
  obtain ⟨p, hp⟩ : ∃ p, p = plD (numD 64 B).1 (-1) C := ⟨_, rfl⟩
  obtain ⟨q, hq⟩ : ∃ q, q = coD p.2.1 p.2.2 := ⟨_, rfl⟩
  have e : getC B = if (numD 64 B).2.2 ≠ 0 then ([], (numD 64 B).2.2) else if p.1 ≠ 0 then ([], p.1) else if q.1 ≠ 0 then ([], q.1) else if 0 < q.2.2.length then ([], 3) else (q.2.1, 0) := by
    unfold getC
    rw [← hC, ← hp, ← hq]
  by_cases h1 : (numD 64 B).2.2 ≠ 0
  · rw [e, if_pos h1] at h
    exact absurd h h1
  rw [if_neg h1] at e
  by_cases h2 : p.1 ≠ 0
  · rw [e, if_pos h2] at h
    exact absurd h h2
  rw [if_neg h2] at e
  by_cases h3 : q.1 ≠ 0
  · rw [e, if_pos h3] at h
    exact absurd h h3
  rw [if_neg h3] at e
  by_cases h4 : 0 < q.2.2.length
  · rw [e, if_pos h4] at h
    cases h
  rw [if_neg h4] at e
  rw [e]
  have n1 := num_ok (m := 64) (B := B) (by omega)
  obtain ⟨i1, i2, i3⟩ := pl_ok (numD 64 B).1 (-1) C (by rw [← hp]; omega)
  rw [← hp] at i1 i2 i3
  obtain ⟨j1, j2⟩ := co_ok p.2.1 p.2.2 (by rw [← hq]; omega)
  rw [← hq] at j1 j2
  have hlen : q.2.1.length = (numD 64 B).1 := by rw [← i1, ← j1]; simp [pls]
  have hok := i3 q.2.1 j1
  have h0 : q.2.2 = [] := List.eq_nil_of_length_eq_zero (by omega)
  refine ⟨by show q.2.1.length ≤ 64; omega, hok, ?_⟩
  show putC q.2.1 = B
  unfold putC
  rw [ok_full hok, ← headP_pls, j1, hlen]
  rw [h0, List.append_nil] at j2
  rw [← j2, ← i2, hC, ← n1.1]
end DirM
end Go.Proofs.Ytbnkahjmeobblaa
namespace Go.Proofs.Ytbnkahjmeobblaa
open Go.RowKit Mem LebM UtfM VaM OpM AcM DirM
set_option linter.unusedVariables false
namespace HeM

/-- what stands ahead of ops -/
structure Ch where
  a : Tx
  q : Int
  s : Int
  t : Int
  m : Tx
  d : List Tx
def zeroC : Ch := ⟨[], 0, 0, 0, [], []⟩
def rises (l : List Tx) : Bool := (List.range (l.length - 1)).all (fun j => Op.bytesLess (l.getD j []) (l.getD (j + 1) []))
theorem rises_iff (l : List Tx) : rises l = true ↔ ∀ j, j + 1 < l.length → Op.bytesLess (l.getD j []) (l.getD (j + 1) []) = true := by
  unfold rises
  rw [List.all_eq_true]
  constructor
  · intro h j hj
    exact h j (List.mem_range.2 (by omega))
  · intro h j hj
    have := List.mem_range.1 hj
    exact h j (by omega)
theorem rises_front {l r : List Tx} (h : rises (l ++ r) = true) : rises l = true := by
  rw [rises_iff] at h ⊢
  intro j hj
  have h1 := h j (by rw [List.length_append]; omega)
  rwa [List.getD_eq_getElem?_getD, List.getD_eq_getElem?_getD, List.getElem?_append_left (by omega), List.getElem?_append_left (by omega), ← List.getD_eq_getElem?_getD, ← List.getD_eq_getElem?_getD] at h1
def rightN (n : Int) : Bool := decide (1 ≤ n) && decide (n ≤ 9007199254740991)
def rightH (c : Ch) : Bool := actorB c.a && (rightN c.q && (rightN c.s && (decide (c.m.length ≤ 1000) && (decide (wh c.m = c.m.length) && (decide (c.d.length ≤ 16) && rises c.d)))))
def headT (x : Tx) : List UInt8 := u x.length ++ x
def putH (c : Ch) (T : List Tx) : List UInt8 :=
  (u c.d.length ++ c.d.flatten) ++ (headT c.a ++ (u c.q.toNat ++ (u c.s.toNat ++ (s c.t ++ (headT c.m ++ putA T)))))

/-- a reader: what is left, and the error -/
structure St where
  l : List UInt8
  e : Nat
def rf (b : Bool) (x e : Nat) : Nat := if b = true ∧ e = 0 then x else e
theorem rf_keep {b : Bool} {x e : Nat} (h : e ≠ 0) : rf b x e = e := if_neg (fun g => h g.2)
theorem rf_no {x e : Nat} : rf false x e = e := if_neg (fun g => by cases g.1)
theorem rf_yes {x : Nat} : rf true x 0 = x := if_pos ⟨rfl, rfl⟩
theorem rf_zero {b : Bool} {x e : Nat} (hx : x ≠ 0) (h : rf b x e = 0) : b = false ∧ e = 0 := by
  unfold rf at h
  split at h
  · exact absurd h hx
  · rename_i g
    refine ⟨?_, h⟩
    cases b
    · rfl
    · exact absurd ⟨rfl, h⟩ g
def num (m : Nat) (s : St) : Nat × St := if s.e ≠ 0 then (0, s) else ((numD m s.l).1, ⟨s.l.drop (numD m s.l).2.1, (numD m s.l).2.2⟩)
def pos (m : Nat) (s : St) : Nat × St := ((num m s).1, ⟨(num m s).2.l, rf (decide ((num m s).1 = 0)) 3 (num m s).2.e⟩)
def sig (s : St) : Int × St := if s.e ≠ 0 then (0, s) else ((gs s.l).1, ⟨s.l.drop (gs s.l).2.1, (gs s.l).2.2⟩)
def byt (n : Nat) (s : St) : List UInt8 × St := if s.e ≠ 0 then ([], s) else if s.l.length < n then ([], ⟨s.l, 2⟩) else (s.l.take n, ⟨s.l.drop n, 0⟩)
def chk (b : Bool) (s : St) : Unit × St := ((), ⟨s.l, rf b 3 s.e⟩)
def padH (b : List UInt8) : Tx := b ++ List.replicate (32 - b.length) 0
def depS : Nat → List Tx → St → List Tx × St
  | 0, acc, s => (acc, s)
  | k + 1, acc, s => depS k (acc ++ [padH (byt 32 s).1]) ⟨(byt 32 s).2.l, rf (!rises (acc ++ [padH (byt 32 s).1])) 3 (byt 32 s).2.e⟩
def tabS (a : Tx) (s : St) : List Tx × St := if s.e ≠ 0 then ([], s) else ((getA a s.l).1, ⟨s.l.drop (getA a s.l).2.1, (getA a s.l).2.2⟩)
def bnd {α β : Type} (f : St → α × St) (g : α → St → β × St) (s : St) : β × St := g (f s).1 (f s).2
def rt {α : Type} (x : α) (s : St) : α × St := (x, s)
def deps : St → List Tx × St := bnd (num 16) (fun k => depS k [])
def chg : St → Ch × St :=
  bnd deps fun D => bnd (pos 16) fun n => bnd (byt n) fun a => bnd (pos 9007199254740991) fun q => bnd (pos 9007199254740991) fun s => bnd sig fun t =>
  bnd (num 1000) fun k => bnd (byt k) fun m => bnd (chk (!decide (wh m = m.length))) fun _ => rt ⟨a, (q : Int), (s : Int), t, m, D⟩
def rdH : St → (Ch × List Tx) × St := bnd chg fun c => bnd (tabS c.a) fun T => rt (c, T)
def getH (B : List UInt8) : Ch × List Tx × Nat × Nat :=
  if (rdH ⟨B, 0⟩).2.e ≠ 0 then (zeroC, [], 0, (rdH ⟨B, 0⟩).2.e) else ((rdH ⟨B, 0⟩).1.1, (rdH ⟨B, 0⟩).1.2, B.length - (rdH ⟨B, 0⟩).2.l.length, 0)

/-- errors stay -/
def Sticky {α : Type} (f : St → α × St) : Prop := ∀ s, s.e ≠ 0 → (f s).2 = s
theorem Sticky.bnd {α β : Type} {f : St → α × St} {g : α → St → β × St} (h1 : Sticky f) (h2 : ∀ x, Sticky (g x)) : Sticky (bnd f g) := by
  intro s hs
  unfold HeM.bnd
  rw [h1 s hs]
  exact h2 _ s hs
theorem rt_sticky {α : Type} (x : α) : Sticky (rt x) := fun s _ => rfl
theorem num_sticky (m : Nat) : Sticky (num m) := fun s hs => by unfold num; rw [if_pos hs]
theorem pos_sticky (m : Nat) : Sticky (pos m) := fun s hs => by
  unfold pos
  rw [num_sticky m s hs, rf_keep hs]
theorem sig_sticky : Sticky sig := fun s hs => by unfold sig; rw [if_pos hs]
theorem byt_sticky (n : Nat) : Sticky (byt n) := fun s hs => by unfold byt; rw [if_pos hs]
theorem chk_sticky (b : Bool) : Sticky (chk b) := fun s hs => by unfold chk; rw [rf_keep hs]
theorem tab_sticky (a : Tx) : Sticky (tabS a) := fun s hs => by unfold tabS; rw [if_pos hs]
theorem depS_sticky : ∀ (k : Nat) (acc : List Tx), Sticky (depS k acc)
  | 0, _ => fun s _ => rfl
  | k + 1, acc => fun s hs => by
    unfold depS
    rw [byt_sticky 32 s hs, rf_keep hs]
    exact depS_sticky k _ s hs
theorem deps_sticky : Sticky deps := (num_sticky 16).bnd (fun k => depS_sticky k [])
theorem chg_tail (D : List Tx) : Sticky (bnd (pos 16) fun n => bnd (byt n) fun a => bnd (pos 9007199254740991) fun q => bnd (pos 9007199254740991) fun s => bnd sig fun t =>
  bnd (num 1000) fun k => bnd (byt k) fun m => bnd (chk (!decide (wh m = m.length))) fun _ => rt (⟨a, (q : Int), (s : Int), t, m, D⟩ : Ch)) :=
  (pos_sticky _).bnd fun _ => (byt_sticky _).bnd fun _ => (pos_sticky _).bnd fun _ => (pos_sticky _).bnd fun _ => sig_sticky.bnd fun _ => (num_sticky _).bnd fun _ => (byt_sticky _).bnd fun _ => (chk_sticky _).bnd fun _ => rt_sticky _
theorem chg_sticky : Sticky chg := deps_sticky.bnd chg_tail
theorem rd_sticky : Sticky rdH := chg_sticky.bnd fun c => (tab_sticky _).bnd fun T => rt_sticky _

/-- what is put is read, and a front of it is too short -/
structure Pz {α : Type} (f : St → α × St) (x : α) (X : List UInt8) : Prop where
  back : ∀ R, f ⟨X ++ R, 0⟩ = (x, ⟨R, 0⟩)
  front : ∀ j, j < X.length → (f ⟨X.take j, 0⟩).2.e = 2
theorem Pz.bnd {α β : Type} {f : St → α × St} {g : α → St → β × St} {x : α} {y : β} {X Y : List UInt8} (h1 : Pz f x X) (h2 : Pz (g x) y Y) (hs : ∀ z, Sticky (g z)) : Pz (bnd f g) y (X ++ Y) := by
  refine ⟨fun R => ?_, fun j hj => ?_⟩
  · unfold HeM.bnd
    rw [List.append_assoc, h1.back]
    exact h2.back R
  · rw [List.length_append] at hj
    unfold HeM.bnd
    by_cases h : j < X.length
    · rw [List.take_append_of_le_length (by omega)]
      have h3 := h1.front j h
      rw [hs _ _ (by rw [h3]; simp), h3]
    · rw [List.take_append, List.take_of_length_le (by omega), h1.back]
      exact h2.front _ (by omega)
theorem Pz.rt {α : Type} (x : α) : Pz (rt x) x [] := ⟨fun R => rfl, fun j hj => absurd hj (Nat.not_lt_zero _)⟩
theorem Pz.end_ {α β : Type} {f : St → α × St} {g : α → St → β × St} {x : α} {y : β} {X : List UInt8} (h1 : Pz f x X) (h2 : Pz (g x) y []) (hs : ∀ z, Sticky (g z)) : Pz (HeM.bnd f g) y X := by
  have h := h1.bnd h2 hs
  rwa [List.append_nil] at h
theorem numD_front {m n : Nat} (hn : n < 18446744073709551616) (j : Nat) (hj : j < (u n).length) : numD m ((u n).take j) = (0, 0, 2) := by
  unfold numD
  rw [gu_front (u_form n) (u_len10 hn) j hj]
  rfl
theorem pz_num {m n : Nat} (h : n ≤ m) (hm : m < 18446744073709551616) : Pz (num m) n (u n) := by
  refine ⟨fun R => ?_, fun j hj => ?_⟩
  · unfold num
    rw [if_neg (by simp)]
    simp only
    rw [num_u R h (by omega)]
    simp
  · unfold num
    rw [if_neg (by simp)]
    simp only
    rw [numD_front (by omega) j hj]
theorem pz_pos {m n : Nat} (h0 : 1 ≤ n) (h : n ≤ m) (hm : m < 18446744073709551616) : Pz (pos m) n (u n) := by
  have hz := pz_num h hm
  refine ⟨fun R => ?_, fun j hj => ?_⟩
  · unfold pos
    rw [hz.back R]
    simp only
    rw [decide_eq_false (by omega), rf_no]
  · unfold pos
    have := hz.front j hj
    rw [rf_keep (by rw [this]; simp)]
    exact this
theorem pz_sig {t : Int} (h0 : -9223372036854775808 ≤ t) (h1 : t < 9223372036854775808) : Pz sig t (s t) := by
  refine ⟨fun R => ?_, fun j hj => ?_⟩
  · unfold sig
    rw [if_neg (by simp)]
    simp only
    rw [gs_back t R h0 h1]
    simp
  · unfold sig
    rw [if_neg (by simp)]
    simp only
    rw [gs_front (s_form t) (s_len10 h0 h1) j hj]
theorem pz_byt (x : List UInt8) : Pz (byt x.length) x x := by
  refine ⟨fun R => ?_, fun j hj => ?_⟩
  · unfold byt
    rw [if_neg (by simp), if_neg (by simp)]
    simp
  · unfold byt
    rw [if_neg (by simp), if_pos (by simp; omega)]
theorem pz_chk : Pz (chk false) () [] := ⟨fun R => by unfold chk; rw [rf_no]; rfl, fun j hj => absurd hj (Nat.not_lt_zero _)⟩
theorem padH_full {h : List UInt8} (hl : h.length = 32) : padH h = h := by unfold padH; rw [hl]; simp
theorem pz_depS : ∀ (H : List Tx) (acc : List Tx), (∀ h ∈ H, h.length = 32) → rises (acc ++ H) = true → Pz (depS H.length acc) (acc ++ H) H.flatten
  | [], acc, _, _ => by rw [List.append_nil]; exact Pz.rt acc
  | h :: H, acc, hl, hr => by
    have h32 : h.length = 32 := hl h (List.mem_cons_self ..)
    have hz := pz_byt h
    rw [h32] at hz
    have ih := pz_depS H (acc ++ [h]) (fun x hx => hl x (List.mem_cons_of_mem _ hx)) (by rw [List.append_assoc]; exact hr)
    rw [List.append_assoc, List.singleton_append] at ih
    have hr1 : rises (acc ++ [h]) = true := by
      have : acc ++ h :: H = (acc ++ [h]) ++ H := by simp
      rw [this] at hr
      exact rises_front hr
    have hb : Pz (bnd (byt 32) (fun b s => depS H.length (acc ++ [padH b]) ⟨s.l, rf (!rises (acc ++ [padH b])) 3 s.e⟩)) (acc ++ h :: H) (h ++ H.flatten) := by
      refine hz.bnd ⟨fun R => ?_, fun j hj => ?_⟩ (fun z s hs => ?_)
      · rw [padH_full h32, hr1]
        show depS H.length (acc ++ [h]) ⟨H.flatten ++ R, rf false 3 0⟩ = _
        rw [rf_no]
        exact ih.back R
      · rw [padH_full h32, hr1]
        show (depS H.length (acc ++ [h]) ⟨H.flatten.take j, rf false 3 0⟩).2.e = _
        rw [rf_no]
        exact ih.front j hj
      · show (depS H.length (acc ++ [padH z]) ⟨s.l, rf (!rises (acc ++ [padH z])) 3 s.e⟩).2 = s
        rw [rf_keep hs]
        exact depS_sticky _ _ s hs
    rw [List.flatten_cons]
    exact hb
theorem pz_tab {a : Tx} {O : List Tx} (hr : Rise O) (ha : a ∉ O) (hl : ∀ x ∈ O, 1 ≤ x.length ∧ x.length ≤ 16) (hn : O.length < 18446744073709551616) : Pz (tabS a) (a :: O) (putA (a :: O)) := by
  refine ⟨fun R => ?_, fun j hj => ?_⟩
  · unfold tabS
    rw [if_neg (by simp)]
    simp only
    rw [get_back hr ha hl hn R]
    simp
  · unfold tabS
    rw [if_neg (by simp)]
    simp only
    rw [get_front hr ha hl hn hj]
theorem pz_text {m : Nat} {x : Tx} (h0 : 1 ≤ x.length) (h : x.length ≤ m) (hm : m < 18446744073709551616) : Pz (bnd (pos m) byt) x (headT x) := (pz_pos h0 h hm).bnd (pz_byt x) byt_sticky
theorem pz_text0 {m : Nat} {x : Tx} (h : x.length ≤ m) (hm : m < 18446744073709551616) : Pz (bnd (num m) byt) x (headT x) := (pz_num h hm).bnd (pz_byt x) byt_sticky
theorem right_parts {c : Ch} (h : rightH c = true) : (1 ≤ c.a.length ∧ c.a.length ≤ 16) ∧ (1 ≤ c.q ∧ c.q ≤ 9007199254740991) ∧ (1 ≤ c.s ∧ c.s ≤ 9007199254740991) ∧ c.m.length ≤ 1000 ∧ wh c.m = c.m.length ∧ c.d.length ≤ 16 ∧ rises c.d = true := by
  unfold rightH actorB rightN at h
  simp only [Bool.and_eq_true, decide_eq_true_eq] at h
  exact ⟨⟨by omega, h.1.2⟩, h.2.1, h.2.2.1, h.2.2.2⟩
theorem right_of {c : Ch} (h : (1 ≤ c.a.length ∧ c.a.length ≤ 16) ∧ (1 ≤ c.q ∧ c.q ≤ 9007199254740991) ∧ (1 ≤ c.s ∧ c.s ≤ 9007199254740991) ∧ c.m.length ≤ 1000 ∧ wh c.m = c.m.length ∧ c.d.length ≤ 16 ∧ rises c.d = true) : rightH c = true := by
  unfold rightH actorB rightN
  simp only [Bool.and_eq_true, decide_eq_true_eq]
  exact ⟨⟨by omega, h.1.2⟩, h.2.1, h.2.2.1, h.2.2.2⟩
theorem pz_rd {c : Ch} {O : List Tx} (hc : rightH c = true) (h32 : ∀ h ∈ c.d, h.length = 32) (ht0 : -9223372036854775808 ≤ c.t) (ht1 : c.t < 9223372036854775808)
    (hr : Rise O) (ha : c.a ∉ O) (hl : ∀ x ∈ O, 1 ≤ x.length ∧ x.length ≤ 16) (hn : O.length < 18446744073709551616) : Pz rdH (c, c.a :: O) (putH c (c.a :: O)) := by
  obtain ⟨⟨a0, a1⟩, ⟨q0, q1⟩, ⟨s0, s1⟩, m1, mw, d1, dr⟩ := right_parts hc
  obtain ⟨a, q, st, t, m, d⟩ := c
  simp only at *
  obtain ⟨q, rfl⟩ := Int.eq_ofNat_of_zero_le (show 0 ≤ q by omega)
  obtain ⟨st, rfl⟩ := Int.eq_ofNat_of_zero_le (show 0 ≤ st by omega)
  have hd : Pz deps d (u d.length ++ d.flatten) := (pz_num d1 (by omega)).bnd (pz_depS d [] h32 dr) (fun k => depS_sticky k [])
  have hw : (!decide (wh m = m.length)) = false := by rw [mw]; simp
  have hchk : Pz (chk (!decide (wh m = m.length))) () [] := by rw [hw]; exact pz_chk
  have hc1 : Pz chg ⟨a, (q : Int), (st : Int), t, m, d⟩ ((u d.length ++ d.flatten) ++ ((u a.length) ++ (a ++ (u q ++ (u st ++ (s t ++ (u m.length ++ m))))))) := by
    unfold chg
    refine hd.bnd ?_ chg_tail
    refine (pz_pos a0 a1 (by omega)).bnd ?_ (fun _ => (byt_sticky _).bnd fun _ => (pos_sticky _).bnd fun _ => (pos_sticky _).bnd fun _ => sig_sticky.bnd fun _ => (num_sticky _).bnd fun _ => (byt_sticky _).bnd fun _ => (chk_sticky _).bnd fun _ => rt_sticky _)
    refine (pz_byt a).bnd ?_ (fun _ => (pos_sticky _).bnd fun _ => (pos_sticky _).bnd fun _ => sig_sticky.bnd fun _ => (num_sticky _).bnd fun _ => (byt_sticky _).bnd fun _ => (chk_sticky _).bnd fun _ => rt_sticky _)
    refine (pz_pos (by omega) (by omega) (by omega)).bnd ?_ (fun _ => (pos_sticky _).bnd fun _ => sig_sticky.bnd fun _ => (num_sticky _).bnd fun _ => (byt_sticky _).bnd fun _ => (chk_sticky _).bnd fun _ => rt_sticky _)
    refine (pz_pos (by omega) (by omega) (by omega)).bnd ?_ (fun _ => sig_sticky.bnd fun _ => (num_sticky _).bnd fun _ => (byt_sticky _).bnd fun _ => (chk_sticky _).bnd fun _ => rt_sticky _)
    refine (pz_sig ht0 ht1).bnd ?_ (fun _ => (num_sticky _).bnd fun _ => (byt_sticky _).bnd fun _ => (chk_sticky _).bnd fun _ => rt_sticky _)
    refine (pz_num m1 (by omega)).bnd ?_ (fun _ => (byt_sticky _).bnd fun _ => (chk_sticky _).bnd fun _ => rt_sticky _)
    refine (pz_byt m).end_ ?_ (fun _ => (chk_sticky _).bnd fun _ => rt_sticky _)
    exact hchk.end_ (Pz.rt _) (fun _ => rt_sticky _)
  have h := hc1.bnd ((pz_tab hr ha hl hn).end_ (Pz.rt ((⟨a, (q : Int), (st : Int), t, m, d⟩ : Ch), a :: O)) (fun _ => rt_sticky _)) (fun c => (tab_sticky c.a).bnd fun T => rt_sticky (c, T))
  have e : putH ⟨a, (q : Int), (st : Int), t, m, d⟩ (a :: O) = ((u d.length ++ d.flatten) ++ ((u a.length) ++ (a ++ (u q ++ (u st ++ (s t ++ (u m.length ++ m))))))) ++ putA (a :: O) := by
    unfold putH headT
    simp
  rw [e]
  exact h
theorem get_back20 {c : Ch} {O : List Tx} (hc : rightH c = true) (h32 : ∀ h ∈ c.d, h.length = 32) (ht0 : -9223372036854775808 ≤ c.t) (ht1 : c.t < 9223372036854775808)
    (hr : Rise O) (ha : c.a ∉ O) (hl : ∀ x ∈ O, 1 ≤ x.length ∧ x.length ≤ 16) (hn : O.length < 18446744073709551616) (R : List UInt8) : getH (putH c (c.a :: O) ++ R) = (c, c.a :: O, (putH c (c.a :: O)).length, 0) := by
  have h := (pz_rd hc h32 ht0 ht1 hr ha hl hn).back R
  unfold getH
  rw [h]
  simp
theorem get_front20 {c : Ch} {O : List Tx} (hc : rightH c = true) (h32 : ∀ h ∈ c.d, h.length = 32) (ht0 : -9223372036854775808 ≤ c.t) (ht1 : c.t < 9223372036854775808)
    (hr : Rise O) (ha : c.a ∉ O) (hl : ∀ x ∈ O, 1 ≤ x.length ∧ x.length ≤ 16) (hn : O.length < 18446744073709551616) {j : Nat} (hj : j < (putH c (c.a :: O)).length) : getH ((putH c (c.a :: O)).take j) = (zeroC, [], 0, 2) := by
  have h := (pz_rd hc h32 ht0 ht1 hr ha hl hn).front j hj
  unfold getH
  rw [if_pos (by rw [h]; simp), h]

/-- what is read has just these bytes -/
def Oz {α : Type} (f : St → α × St) (Q : α → List UInt8 → Prop) : Prop := ∀ s, (f s).2.e = 0 → s.e = 0 ∧ ∃ X, s.l = X ++ (f s).2.l ∧ Q (f s).1 X
theorem Oz.bnd {α β : Type} {f : St → α × St} {g : α → St → β × St} {Q : α → List UInt8 → Prop} {R : α → β → List UInt8 → Prop} {T : β → List UInt8 → Prop} (h1 : Oz f Q) (h2 : ∀ x, Oz (g x) (R x)) (h : ∀ x X y Y, Q x X → R x y Y → T y (X ++ Y)) : Oz (bnd f g) T := by
  intro s hs
  unfold HeM.bnd at hs ⊢
  obtain ⟨e1, Y, hY, hR⟩ := h2 _ _ hs
  obtain ⟨e0, X, hX, hQ⟩ := h1 s e1
  exact ⟨e0, X ++ Y, by rw [hX, hY, List.append_assoc], h _ _ _ _ hQ hR⟩
theorem oz_rt {α : Type} (x : α) : Oz (rt x) (fun y Y => y = x ∧ Y = []) := fun s hs => ⟨hs, [], rfl, rfl, rfl⟩
theorem oz_num {m : Nat} (hm : m < 18446744073709551616) : Oz (num m) (fun n X => X = u n ∧ n ≤ m) := by
  intro s hs
  unfold num at hs ⊢
  by_cases h : s.e ≠ 0
  · rw [if_pos h] at hs
    exact absurd hs h
  · rw [if_neg h] at hs ⊢
    simp only at hs ⊢
    refine ⟨by omega, s.l.take (numD m s.l).2.1, (List.take_append_drop _ _).symm, ?_, (numD_lt m s.l).1⟩
    unfold numD at hs ⊢
    split at hs
    · exact absurd hs (by assumption)
    · rename_i h1
      rw [if_neg h1]
      split at hs
      · cases hs
      · rename_i h2
        rw [if_neg h2]
        exact (gu_ok (by omega)).1
theorem oz_pos {m : Nat} (hm : m < 18446744073709551616) : Oz (pos m) (fun n X => X = u n ∧ 1 ≤ n ∧ n ≤ m) := by
  intro s hs
  unfold pos at hs ⊢
  simp only at hs ⊢
  obtain ⟨h1, h2⟩ := rf_zero (by omega) hs
  obtain ⟨h3, X, h4, h5, h6⟩ := oz_num hm s h2
  refine ⟨h3, X, h4, h5, ?_, h6⟩
  have := of_decide_eq_false h1
  omega
theorem div_bd {N a d : Int} (hN : 0 ≤ N) (hd : 1 ≤ d) (h0 : -N ≤ a) (h1 : a < N) : -N ≤ a / d ∧ a / d < N := by
  have h2 : N * 1 ≤ N * d := Int.mul_le_mul_of_nonneg_left hd hN
  rw [Int.mul_one] at h2
  refine ⟨Int.le_ediv_of_mul_le (by omega) (by rw [Int.neg_mul]; omega), Int.ediv_lt_of_lt_mul (by omega) (by omega)⟩
theorem sgn_bd (n k : Nat) : -9223372036854775808 ≤ sgn n k ∧ sgn n k < 9223372036854775808 := by
  unfold sgn
  have h1 : (1 : Int) ≤ 2 ^ (64 - 7 * k) := by have := Int.pow_pos (n := 2) (m := 64 - 7 * k) (by omega); omega
  refine div_bd (by omega) h1 ?_ ?_ <;> (unfold wrap64; omega)
theorem gs_ok {B : List UInt8} (h : (gs B).2.2 = 0) : B.take (gs B).2.1 = s (gs B).1 ∧ -9223372036854775808 ≤ (gs B).1 ∧ (gs B).1 < 9223372036854775808 := by
  unfold gs at h ⊢
  by_cases h1 : spanE B ≠ 0
  · rw [if_pos h1] at h
    exact absurd h h1
  · rw [if_neg h1] at h ⊢
    split at h
    · rename_i h2
      rw [if_pos h2]
      refine ⟨h2.symm, ?_⟩
      exact sgn_bd _ _
    · cases h
theorem oz_sig : Oz sig (fun t X => X = s t ∧ -9223372036854775808 ≤ t ∧ t < 9223372036854775808) := by
  intro s hs
  unfold sig at hs ⊢
  by_cases h : s.e ≠ 0
  · rw [if_pos h] at hs
    exact absurd hs h
  · rw [if_neg h] at hs ⊢
    simp only at hs ⊢
    exact ⟨by omega, s.l.take (gs s.l).2.1, (List.take_append_drop _ _).symm, gs_ok hs⟩
theorem oz_byt (n : Nat) : Oz (byt n) (fun x X => X = x ∧ x.length = n) := by
  intro s hs
  unfold byt at hs ⊢
  by_cases h : s.e ≠ 0
  · rw [if_pos h] at hs
    exact absurd hs h
  · rw [if_neg h] at hs ⊢
    by_cases h1 : s.l.length < n
    · rw [if_pos h1] at hs
      cases hs
    · rw [if_neg h1]
      exact ⟨by omega, s.l.take n, (List.take_append_drop _ _).symm, rfl, by rw [List.length_take]; omega⟩
theorem oz_chk (b : Bool) : Oz (chk b) (fun _ X => X = [] ∧ b = false) := by
  intro s hs
  obtain ⟨h1, h2⟩ := rf_zero (by omega) hs
  exact ⟨h2, [], rfl, rfl, h1⟩
theorem oz_depS : ∀ (k : Nat) (acc : List Tx), (∀ h ∈ acc, h.length = 32) → (0 < k ∨ rises acc = true) → Oz (depS k acc) (fun D X => ∃ H, D = acc ++ H ∧ H.length = k ∧ X = H.flatten ∧ (∀ h ∈ D, h.length = 32) ∧ rises D = true)
  | 0, acc, h32, hr => by
    intro s hs
    exact ⟨hs, [], rfl, [], by simp [depS], rfl, rfl, h32, hr.resolve_left (by omega)⟩
  | k + 1, acc, h32, hr => by
    intro s hs
    unfold depS at hs ⊢
    have e1 : rf (!rises (acc ++ [padH (byt 32 s).1])) 3 (byt 32 s).2.e = 0 := by
      refine Decidable.byContradiction fun hne => ?_
      rw [depS_sticky k _ _ hne] at hs
      exact hne hs
    obtain ⟨e2, e3⟩ := rf_zero (by omega) e1
    obtain ⟨e0, X, hX, rfl, hl⟩ := oz_byt 32 s e3
    rw [padH_full hl] at hs e2 ⊢
    rw [e2, rf_no] at hs ⊢
    have hr2 : rises (acc ++ [(byt 32 s).1]) = true := by simpa using e2
    obtain ⟨_, Y, hY, H, h1, h2, h3, h4, h5⟩ := oz_depS k (acc ++ [(byt 32 s).1]) (fun h hh => by
      rcases List.mem_append.1 hh with g | g
      · exact h32 h g
      · rw [List.mem_singleton.1 g]; exact hl) (.inr hr2) _ hs
    refine ⟨e0, (byt 32 s).1 ++ Y, by rw [hX, List.append_assoc]; congr 1, (byt 32 s).1 :: H, ?_, by rw [List.length_cons, h2], by rw [h3, List.flatten_cons], h4, h5⟩
    rw [h1, List.append_assoc, List.singleton_append]
theorem first_ok {B : List UInt8} (h : (firstA B).2.2 = 0) : B.take (firstA B).2.1 = oneA (firstA B).1 ∧ 1 ≤ (firstA B).1.length ∧ (firstA B).1.length ≤ 16 := by
  unfold firstA at h ⊢
  split at h
  · exact absurd h (by assumption)
  · rename_i h1
    rw [if_neg h1]
    split at h
    · cases h
    · rename_i h2
      rw [if_neg h2]
      split at h
      · cases h
      · rename_i h3
        rw [if_neg h3]
        simp only
        have h4 := (gu_ok (B := B) (by omega)).1
        have hl : ((B.drop (gu B).2.1).take (gu B).1).length = (gu B).1 := by rw [List.length_take, List.length_drop]; omega
        refine ⟨?_, by rw [hl]; omega, by rw [hl]; omega⟩
        unfold oneA
        rw [hl, List.take_add, h4]
theorem run_ok {a : Tx} : ∀ (k : Nat) (last : Tx) (B : List UInt8), (runA a k last B).2.2 = 0 → B.take (runA a k last B).2.1 = (runA a k last B).1.flatMap oneA ∧ (runA a k last B).1.length = k ∧ a ∉ (runA a k last B).1 ∧
    (last :: (runA a k last B).1).Pairwise (fun x y => Op.bytesLess x y = true) ∧ (∀ x ∈ (runA a k last B).1, 1 ≤ x.length ∧ x.length ≤ 16) ∧ (runA a k last B).2.1 ≤ B.length
  | 0, last, B, _ => by unfold runA; simp
  | k + 1, last, B, h => by
    unfold runA at h ⊢
    split at h
    · exact absurd h (by assumption)
    · rename_i h1
      rw [if_neg h1]
      split at h
      · cases h
      · rename_i h2
        rw [if_neg h2]
        split at h
        · exact absurd h (by assumption)
        · rename_i h3
          rw [if_neg h3]
          simp only
          obtain ⟨f1, f2, f3⟩ := first_ok (B := B) (by omega)
          obtain ⟨r1, r2, r3, r4, r5, r6⟩ := run_ok (a := a) k (firstA B).1 (B.drop (firstA B).2.1) (by omega)
          have hne : ¬ (firstA B).1 = a := fun e => h2 (.inl e)
          have hlt : Op.bytesLess last (firstA B).1 = true := by
            cases hq : Op.bytesLess last (firstA B).1
            · exact absurd (.inr hq) h2
            · rfl
          have hle : (firstA B).2.1 ≤ B.length := by
            have h5 := congrArg List.length f1
            unfold oneA at h5
            rw [List.length_take, List.length_append] at h5
            refine Nat.le_of_not_lt fun h6 => ?_
            have hB : (firstA B).2.1 = (gu B).2.1 + (gu B).1 ∧ (gu B).2.1 + (gu B).1 ≤ B.length := by
              unfold firstA at h1 ⊢
              split at h1
              · exact absurd h1 (by simp; omega)
              · rename_i g1
                rw [if_neg g1]
                split at h1
                · exact absurd h1 (by simp)
                · rename_i g2
                  rw [if_neg g2]
                  split at h1
                  · exact absurd h1 (by simp)
                  · rename_i g3
                    rw [if_neg g3]
                    have := (DirM.gu_lt B).2.1
                    exact ⟨rfl, by omega⟩
            omega
          rw [List.length_drop] at r6
          refine ⟨?_, by rw [List.length_cons, r2], ?_, ?_, ?_, by omega⟩
          · rw [List.flatMap_cons, List.take_add, f1, r1]
          · intro hm
            rcases List.mem_cons.1 hm with g | g
            · exact hne g.symm
            · exact r3 g
          · rw [List.pairwise_cons]
            refine ⟨fun x hx => ?_, r4⟩
            rcases List.mem_cons.1 hx with rfl | g
            · exact hlt
            · exact bless_trans hlt ((List.pairwise_cons.1 r4).1 x g)
          · intro x hx
            rcases List.mem_cons.1 hx with rfl | g
            · exact ⟨f2, f3⟩
            · exact r5 x g
theorem oz_tab (a : Tx) : Oz (tabS a) (fun T X => ∃ O, T = a :: O ∧ X = putA T ∧ Rise O ∧ a ∉ O ∧ (∀ x ∈ O, 1 ≤ x.length ∧ x.length ≤ 16) ∧ O.length < 18446744073709551616) := by
  intro s hs
  unfold tabS at hs ⊢
  by_cases h : s.e ≠ 0
  · rw [if_pos h] at hs
    exact absurd hs h
  · rw [if_neg h] at hs ⊢
    simp only at hs ⊢
    refine ⟨by omega, s.l.take (getA a s.l).2.1, (List.take_append_drop _ _).symm, ?_⟩
    unfold getA at hs ⊢
    split at hs
    · exact absurd hs (by assumption)
    · rename_i h1
      rw [if_neg h1]
      split at hs
      · exact absurd hs (by assumption)
      · rename_i h2
        rw [if_neg h2]
        simp only
        obtain ⟨g1, g2⟩ := gu_ok (B := s.l) (by omega)
        obtain ⟨r1, r2, r3, r4, r5, r6⟩ := run_ok (a := a) (gu s.l).1 [] (s.l.drop (gu s.l).2.1) (by omega)
        refine ⟨_, rfl, ?_, (List.pairwise_cons.1 r4).2, r3, r5, by rw [r2]; exact g2⟩
        rw [put_tab, List.take_add, g1, r1, r2]
theorem Oz.imp {α : Type} {f : St → α × St} {Q R : α → List UInt8 → Prop} (h : Oz f Q) (hi : ∀ x X, Q x X → R x X) : Oz f R := fun s hs => by
  obtain ⟨e0, X, hX, hQ⟩ := h s hs
  exact ⟨e0, X, hX, hi _ _ hQ⟩
theorem oz_deps : Oz deps (fun D X => D.length ≤ 16 ∧ X = u D.length ++ D.flatten ∧ (∀ h ∈ D, h.length = 32) ∧ rises D = true) := by
  refine (oz_num (by omega)).bnd (fun k => oz_depS k [] (fun h hh => by cases hh) (.inr rfl)) ?_
  rintro k X D Y ⟨rfl, hk⟩ ⟨H, rfl, h2, rfl, h4, h5⟩
  exact ⟨by omega, by rw [h2], h4, h5⟩
/-- what stands behind the Deps -/
def Tl (D : List Tx) (c : Ch) (X : List UInt8) : Prop := ∃ (a : Tx) (q s : Nat) (t : Int) (m : Tx), c = ⟨a, (q : Int), (s : Int), t, m, D⟩ ∧ (1 ≤ a.length ∧ a.length ≤ 16) ∧ (1 ≤ q ∧ q ≤ 9007199254740991) ∧ (1 ≤ s ∧ s ≤ 9007199254740991) ∧
  (-9223372036854775808 ≤ t ∧ t < 9223372036854775808) ∧ m.length ≤ 1000 ∧ wh m = m.length ∧ X = u a.length ++ (a ++ (u q ++ (u s ++ (LebM.s t ++ (u m.length ++ (m ++ []))))))
theorem oz_tail (D : List Tx) : Oz (bnd (pos 16) fun n => bnd (byt n) fun a => bnd (pos 9007199254740991) fun q => bnd (pos 9007199254740991) fun s => bnd sig fun t =>
  bnd (num 1000) fun k => bnd (byt k) fun m => bnd (chk (!decide (wh m = m.length))) fun _ => rt (⟨a, (q : Int), (s : Int), t, m, D⟩ : Ch)) (Tl D) := by
  have h8 : ∀ (a : Tx) (q s : Nat) (t : Int) (m : Tx), Oz (bnd (chk (!decide (wh m = m.length))) fun _ => rt (⟨a, (q : Int), (s : Int), t, m, D⟩ : Ch)) (fun c X => c = ⟨a, (q : Int), (s : Int), t, m, D⟩ ∧ wh m = m.length ∧ X = []) :=
    fun a q s t m => (oz_chk _).bnd (fun _ => oz_rt _) (by rintro _ X c Y ⟨rfl, h⟩ ⟨rfl, rfl⟩; exact ⟨rfl, by simpa using h, rfl⟩)
  have h7 := fun (a : Tx) (q s : Nat) (t : Int) (k : Nat) => (oz_byt k).bnd (T := fun c X => ∃ m, c = (⟨a, (q : Int), (s : Int), t, m, D⟩ : Ch) ∧ wh m = m.length ∧ m.length = k ∧ X = m ++ []) (h8 a q s t) (by rintro m' X c Y ⟨rfl, h⟩ ⟨rfl, h2, rfl⟩; exact ⟨_, rfl, h2, h, rfl⟩)
  have h6 := fun (a : Tx) (q s : Nat) (t : Int) => (oz_num (m := 1000) (by omega)).bnd (T := fun c X => ∃ m, c = (⟨a, (q : Int), (s : Int), t, m, D⟩ : Ch) ∧ wh m = m.length ∧ m.length ≤ 1000 ∧ X = u m.length ++ (m ++ [])) (h7 a q s t) (by rintro k X c Y ⟨rfl, h⟩ ⟨m, rfl, h2, h3, rfl⟩; exact ⟨m, rfl, h2, by omega, by rw [h3]⟩)
  have h5 := fun (a : Tx) (q s : Nat) => oz_sig.bnd (T := fun c X => ∃ t m, c = (⟨a, (q : Int), (s : Int), t, m, D⟩ : Ch) ∧ (-9223372036854775808 ≤ t ∧ t < 9223372036854775808) ∧ wh m = m.length ∧ m.length ≤ 1000 ∧ X = LebM.s t ++ (u m.length ++ (m ++ []))) (h6 a q s) (by rintro t X c Y ⟨rfl, h⟩ ⟨m, rfl, h2, h3, rfl⟩; exact ⟨t, m, rfl, h, h2, h3, rfl⟩)
  have h4 := fun (a : Tx) (q : Nat) => (oz_pos (m := 9007199254740991) (by omega)).bnd (T := fun c X => ∃ (s : Nat) (t : Int) (m : Tx), c = (⟨a, (q : Int), (s : Int), t, m, D⟩ : Ch) ∧ (1 ≤ s ∧ s ≤ 9007199254740991) ∧ (-9223372036854775808 ≤ t ∧ t < 9223372036854775808) ∧ wh m = m.length ∧ m.length ≤ 1000 ∧ X = u s ++ (LebM.s t ++ (u m.length ++ (m ++ [])))) (h5 a q) (by rintro s X c Y ⟨rfl, h⟩ ⟨t, m, rfl, h1, h2, h3, rfl⟩; exact ⟨s, t, m, rfl, h, h1, h2, h3, rfl⟩)
  have h3 := fun (a : Tx) => (oz_pos (m := 9007199254740991) (by omega)).bnd (T := fun c X => ∃ (q s : Nat) (t : Int) (m : Tx), c = (⟨a, (q : Int), (s : Int), t, m, D⟩ : Ch) ∧ (1 ≤ q ∧ q ≤ 9007199254740991) ∧ (1 ≤ s ∧ s ≤ 9007199254740991) ∧ (-9223372036854775808 ≤ t ∧ t < 9223372036854775808) ∧ wh m = m.length ∧ m.length ≤ 1000 ∧ X = u q ++ (u s ++ (LebM.s t ++ (u m.length ++ (m ++ []))))) (h4 a) (by rintro q X c Y ⟨rfl, h⟩ ⟨s, t, m, rfl, h0, h1, h2, h3, rfl⟩; exact ⟨q, s, t, m, rfl, h, h0, h1, h2, h3, rfl⟩)
  have h2 := fun (n : Nat) => (oz_byt n).bnd (T := fun c X => ∃ (a : Tx) (q s : Nat) (t : Int) (m : Tx), c = (⟨a, (q : Int), (s : Int), t, m, D⟩ : Ch) ∧ a.length = n ∧ (1 ≤ q ∧ q ≤ 9007199254740991) ∧ (1 ≤ s ∧ s ≤ 9007199254740991) ∧ (-9223372036854775808 ≤ t ∧ t < 9223372036854775808) ∧ wh m = m.length ∧ m.length ≤ 1000 ∧ X = a ++ (u q ++ (u s ++ (LebM.s t ++ (u m.length ++ (m ++ [])))))) h3 (by rintro a' X c Y ⟨rfl, h⟩ ⟨q, s, t, m, rfl, hq, h0, h1, h2, h3, rfl⟩; exact ⟨_, q, s, t, m, rfl, h, hq, h0, h1, h2, h3, rfl⟩)
  refine (oz_pos (m := 16) (by omega)).bnd h2 ?_
  rintro n X c Y ⟨rfl, h⟩ ⟨a, q, s, t, m, rfl, ha, hq, h0, h1, h2, h3, rfl⟩
  exact ⟨a, q, s, t, m, rfl, by omega, hq, h0, h1, h3, h2, by rw [ha]⟩
theorem oz_rd : Oz rdH (fun p X => rightH p.1 = true ∧ (∀ h ∈ p.1.d, h.length = 32) ∧ (-9223372036854775808 ≤ p.1.t ∧ p.1.t < 9223372036854775808) ∧ X = putH p.1 p.2 ∧
    ∃ O, p.2 = p.1.a :: O ∧ Rise O ∧ p.1.a ∉ O ∧ (∀ x ∈ O, 1 ≤ x.length ∧ x.length ≤ 16) ∧ O.length < 18446744073709551616) := by
  have hc : Oz chg (fun c X => rightH c = true ∧ (∀ h ∈ c.d, h.length = 32) ∧ (-9223372036854775808 ≤ c.t ∧ c.t < 9223372036854775808) ∧ ∀ T, X ++ putA T = putH c T) := by
    refine oz_deps.bnd oz_tail ?_
    rintro D X c Y ⟨d0, rfl, d2, d3⟩ ⟨a, q, s, t, m, rfl, ha, hq, hs, ht, hm, hw, rfl⟩
    refine ⟨right_of ⟨ha, by simp only; omega, by simp only; omega, hm, hw, d0, d3⟩, d2, ht, fun T => ?_⟩
    unfold putH headT
    simp
  refine hc.bnd (fun c => (oz_tab c.a).bnd (T := fun p X => p.1 = c ∧ X = putA p.2 ∧ ∃ O, p.2 = c.a :: O ∧ Rise O ∧ c.a ∉ O ∧ (∀ x ∈ O, 1 ≤ x.length ∧ x.length ≤ 16) ∧ O.length < 18446744073709551616) (fun T => oz_rt (c, T)) ?_) ?_
  · rintro T X p Y ⟨O, h1, rfl, h3⟩ ⟨rfl, rfl⟩
    exact ⟨rfl, List.append_nil _, O, h1, h3⟩
  · rintro c X p Y ⟨h1, h2, h3, h4⟩ ⟨rfl, rfl, h5⟩
    exact ⟨h1, h2, h3, h4 _, h5⟩
theorem get_once20 {B : List UInt8} (h : (getH B).2.2.2 = 0) : rightH (getH B).1 = true ∧ (∀ h ∈ (getH B).1.d, h.length = 32) ∧ (-9223372036854775808 ≤ (getH B).1.t ∧ (getH B).1.t < 9223372036854775808) ∧ (getH B).2.2.1 ≤ B.length ∧ B.take (getH B).2.2.1 = putH (getH B).1 (getH B).2.1 ∧
    ∃ O, (getH B).2.1 = (getH B).1.a :: O ∧ Rise O ∧ (getH B).1.a ∉ O ∧ (∀ x ∈ O, 1 ≤ x.length ∧ x.length ≤ 16) ∧ O.length < 18446744073709551616 := by
  by_cases h0 : (rdH ⟨B, 0⟩).2.e ≠ 0
  · unfold getH at h
    rw [if_pos h0] at h
    exact absurd h h0
  · have e : getH B = ((rdH ⟨B, 0⟩).1.1, (rdH ⟨B, 0⟩).1.2, B.length - (rdH ⟨B, 0⟩).2.l.length, 0) := by unfold getH; rw [if_neg h0]
    rw [e]
    obtain ⟨_, X, hX, h1, h2, h3, h4, h5⟩ := oz_rd ⟨B, 0⟩ (by omega)
    simp only at hX ⊢
    refine ⟨h1, h2, h3, by omega, ?_, h5⟩
    have hl : B.length = X.length + (rdH ⟨B, 0⟩).2.l.length := by
      have := congrArg List.length hX
      rwa [List.length_append] at this
    have h6 : B.length - (rdH ⟨B, 0⟩).2.l.length = X.length := by omega
    rw [h6, ← h4]
    have h7 := congrArg (List.take X.length) hX
    rwa [List.take_left] at h7
theorem get_bad20 {B : List UInt8} (h : (getH B).2.2.2 ≠ 0) : getH B = (zeroC, [], 0, (getH B).2.2.2) := by
  by_cases h0 : (rdH ⟨B, 0⟩).2.e ≠ 0
  · unfold getH
    rw [if_pos h0]
  · unfold getH at h
    rw [if_neg h0] at h
    exact absurd rfl h
end HeM
end Go.Proofs.Ytbnkahjmeobblaa
