/-
  Layer 16, plain: columns side by side, with a directory of them ahead: what is put, what is read, and that these are each other's.
-/
import Derived.Test.YtbnkahjmeobblaaZm03
namespace Go.Proofs.Ytbnkahjmeobblaa
open Go.RowKit Mem LebM
namespace DirM

/-- a column: its number, its bytes -/
abbrev Col := Nat × List UInt8
def full (l : List Col) : List Col := l.filter (fun c => decide (0 < c.2.length))
def headC (l : List Col) : List UInt8 := l.flatMap (fun c => u c.1 ++ u c.2.length)
def dataC (l : List Col) : List UInt8 := l.flatMap (fun c => c.2)
def putC (l : List Col) : List UInt8 := u (full l).length ++ (headC (full l) ++ dataC (full l))
def findC : List Col → Int → List UInt8
  | [], _ => []
  | c :: l, id => if (c.1 : Int) = id then c.2 else findC l id
/-- a number, at most m: it, how many bytes, which error -/
def numD (m : Nat) (B : List UInt8) : Nat × Nat × Nat :=
  if (gu B).2.2 ≠ 0 then (0, 0, (gu B).2.2) else if m < (gu B).1 then (0, 0, 4) else ((gu B).1, (gu B).2.1, 0)
/-- the directory: which error, the places, what is left -/
def plD : Nat → Int → List UInt8 → Nat × List (Nat × Nat) × List UInt8
  | 0, _, B => (0, [], B)
  | k + 1, last, B =>
    if (numD 1048576 B).2.2 ≠ 0 then ((numD 1048576 B).2.2, [], []) else
    if (numD 1048576 (B.drop (numD 1048576 B).2.1)).2.2 ≠ 0 then ((numD 1048576 (B.drop (numD 1048576 B).2.1)).2.2, [], []) else
    if ((numD 1048576 B).1 : Int) ≤ last ∨ (numD 1048576 (B.drop (numD 1048576 B).2.1)).1 = 0 then (3, [], []) else
    ((plD k (numD 1048576 B).1 ((B.drop (numD 1048576 B).2.1).drop (numD 1048576 (B.drop (numD 1048576 B).2.1)).2.1)).1,
      ((numD 1048576 B).1, (numD 1048576 (B.drop (numD 1048576 B).2.1)).1) :: (plD k (numD 1048576 B).1 ((B.drop (numD 1048576 B).2.1).drop (numD 1048576 (B.drop (numD 1048576 B).2.1)).2.1)).2.1,
      (plD k (numD 1048576 B).1 ((B.drop (numD 1048576 B).2.1).drop (numD 1048576 (B.drop (numD 1048576 B).2.1)).2.1)).2.2)
/-- the columns that the places tell: which error, they, what is left -/
def coD : List (Nat × Nat) → List UInt8 → Nat × List Col × List UInt8
  | [], B => (0, [], B)
  | p :: P, B => if B.length < p.2 then (2, [], []) else ((coD P (B.drop p.2)).1, (p.1, B.take p.2) :: (coD P (B.drop p.2)).2.1, (coD P (B.drop p.2)).2.2)
def getC (B : List UInt8) : List Col × Nat :=
  if (numD 64 B).2.2 ≠ 0 then ([], (numD 64 B).2.2) else
  if (plD (numD 64 B).1 (-1) (B.drop (numD 64 B).2.1)).1 ≠ 0 then ([], (plD (numD 64 B).1 (-1) (B.drop (numD 64 B).2.1)).1) else
  if (coD (plD (numD 64 B).1 (-1) (B.drop (numD 64 B).2.1)).2.1 (plD (numD 64 B).1 (-1) (B.drop (numD 64 B).2.1)).2.2).1 ≠ 0 then
    ([], (coD (plD (numD 64 B).1 (-1) (B.drop (numD 64 B).2.1)).2.1 (plD (numD 64 B).1 (-1) (B.drop (numD 64 B).2.1)).2.2).1) else
  if 0 < (coD (plD (numD 64 B).1 (-1) (B.drop (numD 64 B).2.1)).2.1 (plD (numD 64 B).1 (-1) (B.drop (numD 64 B).2.1)).2.2).2.2.length then ([], 3) else
  ((coD (plD (numD 64 B).1 (-1) (B.drop (numD 64 B).2.1)).2.1 (plD (numD 64 B).1 (-1) (B.drop (numD 64 B).2.1)).2.2).2.1, 0)

/-- columns that may be: the numbers rise, all have bytes -/
def Ok : Int → List Col → Prop
  | _, [] => True
  | last, c :: l => last < (c.1 : Int) ∧ c.1 ≤ 1048576 ∧ 0 < c.2.length ∧ c.2.length ≤ 1048576 ∧ Ok c.1 l
def pls (l : List Col) : List (Nat × Nat) := l.map (fun c => (c.1, c.2.length))
def headP (P : List (Nat × Nat)) : List UInt8 := P.flatMap (fun p => u p.1 ++ u p.2)
theorem headP_pls (l : List Col) : headP (pls l) = headC l := by
  induction l with
  | nil => rfl
  | cons c l ih => show _ ++ headP (pls l) = _ ++ headC l; rw [ih]

theorem num_u {n m : Nat} (R : List UInt8) (h : n ≤ m) (hn : n < 18446744073709551616) : numD m (u n ++ R) = (n, (u n).length, 0) := by
  unfold numD
  rw [gu_back n R hn]
  simp
  omega
theorem gu_ok {B : List UInt8} (h : (gu B).2.2 = 0) : B.take (gu B).2.1 = u (gu B).1 ∧ (gu B).1 < 18446744073709551616 := by
  by_cases h1 : spanE B ≠ 0
  · have e : gu B = (0, 0, spanE B) := by unfold gu; rw [if_pos h1]
    rw [e] at h
    exact absurd h h1
  · by_cases h2 : u (val (B.take (spanK B)) % 18446744073709551616) = B.take (spanK B)
    · have e : gu B = (val (B.take (spanK B)) % 18446744073709551616, spanK B, 0) := by unfold gu; rw [if_neg h1, if_pos h2]
      rw [e]
      exact ⟨h2.symm, Nat.mod_lt _ (by omega)⟩
    · have e : gu B = (0, 0, 3) := by unfold gu; rw [if_neg h1, if_neg h2]
      rw [e] at h
      cases h
theorem gu_lt (B : List UInt8) : (gu B).1 < 18446744073709551616 ∧ (gu B).2.1 ≤ B.length ∧ (gu B).2.1 ≤ 10 ∧ (gu B).2.2 ≤ 3 := by
  have h1 := spanK_le B
  have h2 := spanE_le B
  unfold gu
  split
  · simp; exact h2
  · split
    · exact ⟨Nat.mod_lt _ (by omega), h1.1, h1.2, by simp⟩
    · simp
theorem numD_lt (m : Nat) (B : List UInt8) : (numD m B).1 ≤ m ∧ (numD m B).2.1 ≤ B.length ∧ (numD m B).2.2 ≤ 4 := by
  have h := gu_lt B
  unfold numD
  split
  · simp; omega
  · split
    · simp
    · simp; omega
theorem num_ok {m : Nat} {B : List UInt8} (h : (numD m B).2.2 = 0) : B = u (numD m B).1 ++ B.drop (numD m B).2.1 ∧ (numD m B).1 ≤ m := by
  by_cases h1 : (gu B).2.2 ≠ 0
  · have e : numD m B = (0, 0, (gu B).2.2) := by unfold numD; rw [if_pos h1]
    rw [e] at h
    exact absurd h h1
  · by_cases h2 : m < (gu B).1
    · have e : numD m B = (0, 0, 4) := by unfold numD; rw [if_neg h1, if_pos h2]
      rw [e] at h
      cases h
    · have e : numD m B = ((gu B).1, (gu B).2.1, 0) := by unfold numD; rw [if_neg h1, if_neg h2]
      rw [e]
      refine ⟨?_, by omega⟩
      show B = u (gu B).1 ++ B.drop (gu B).2.1
      rw [← (gu_ok (by omega)).1, List.take_append_drop]
theorem num_front {n m j : Nat} (hn : n < 18446744073709551616) (hj : j < (u n).length) : (numD m ((u n).take j)).2.2 = 2 := by
  unfold numD
  rw [gu_front (u_form n) (u_len10 hn) j hj]
  rfl
theorem drop_u (n : Nat) (R : List UInt8) : (u n ++ R).drop (u n).length = R := List.drop_left

theorem pl_put : ∀ (l : List Col) (last : Int) (R : List UInt8), Ok last l → plD l.length last (headC l ++ R) = (0, pls l, R)
  | [], last, R, _ => rfl
  | c :: l, last, R, h => by
    obtain ⟨h1, h2, h3, h4, h5⟩ := h
    have e : headC (c :: l) ++ R = u c.1 ++ (u c.2.length ++ (headC l ++ R)) := by simp [headC]
    rw [e]
    show plD (l.length + 1) last _ = _
    have ih := pl_put l c.1 R h5
    unfold plD
    rw [num_u _ h2 (by omega)]
    simp only [drop_u]
    rw [num_u _ h4 (by omega)]
    simp only [drop_u]
    rw [ih, if_neg (by simp), if_neg (by simp), if_neg (by omega)]
    rfl
theorem pl_front : ∀ (l : List Col) (last : Int) (j : Nat), Ok last l → j < (headC l).length → (plD l.length last ((headC l).take j)).1 = 2
  | [], last, j, _, hj => by simp [headC] at hj
  | c :: l, last, j, h, hj => by
    obtain ⟨h1, h2, h3, h4, h5⟩ := h
    have e : headC (c :: l) = u c.1 ++ (u c.2.length ++ headC l) := by simp [headC]
    rw [e] at hj ⊢
    show (plD (l.length + 1) last _).1 = 2
    by_cases hj1 : j < (u c.1).length
    · rw [List.take_append_of_le_length (by omega)]
      unfold plD
      have hn := num_front (m := 1048576) (show c.1 < 18446744073709551616 by omega) hj1
      rw [if_pos (by rw [hn]; decide)]
      exact hn
    · rw [List.take_append, List.take_of_length_le (by omega)]
      by_cases hj2 : j - (u c.1).length < (u c.2.length).length
      · rw [List.take_append_of_le_length (by omega)]
        unfold plD
        rw [num_u _ h2 (by omega)]
        simp only [drop_u]
        have hn := num_front (m := 1048576) (show c.2.length < 18446744073709551616 by omega) hj2
        rw [if_neg (by simp), if_pos (by rw [hn]; decide)]
        exact hn
      · rw [List.take_append, List.take_of_length_le (by omega)]
        have ih := pl_front l c.1 (j - (u c.1).length - (u c.2.length).length) h5 (by simp only [List.length_append] at hj; omega)
        unfold plD
        rw [num_u _ h2 (by omega)]
        simp only [drop_u]
        rw [num_u _ h4 (by omega)]
        simp only [drop_u]
        rw [if_neg (by simp), if_neg (by simp), if_neg (by omega)]
        exact ih
theorem co_put : ∀ (l : List Col) (R : List UInt8), coD (pls l) (dataC l ++ R) = (0, l, R)
  | [], R => rfl
  | c :: l, R => by
    have e : dataC (c :: l) ++ R = c.2 ++ (dataC l ++ R) := by simp [dataC]
    rw [e]
    show coD ((c.1, c.2.length) :: pls l) _ = _
    unfold coD
    rw [if_neg (by simp), List.drop_left, List.take_left, co_put l R]
theorem co_front : ∀ (l : List Col) (j : Nat), j < (dataC l).length → (coD (pls l) ((dataC l).take j)).1 = 2
  | [], j, hj => by simp [dataC] at hj
  | c :: l, j, hj => by
    have e : dataC (c :: l) = c.2 ++ dataC l := by simp [dataC]
    rw [e] at hj ⊢
    show (coD ((c.1, c.2.length) :: pls l) _).1 = 2
    by_cases hc : j < c.2.length
    · rw [List.take_append_of_le_length (by omega)]
      unfold coD
      rw [if_pos (by simp; omega)]
    · rw [List.take_append, List.take_of_length_le (by omega)]
      unfold coD
      rw [if_neg (by simp), List.drop_left]
      exact co_front l _ (by rw [List.length_append] at hj; omega)
theorem ok_full {last : Int} {l : List Col} (h : Ok last l) : full l = l := by
  induction l generalizing last with
  | nil => rfl
  | cons c l ih =>
    obtain ⟨h1, h2, h3, h4, h5⟩ := h
    unfold full
    rw [List.filter_cons, if_pos (by simpa using h3)]
    exact congrArg _ (ih h5)
/-- what is put is read as it was -/
theorem get_put {l : List Col} (h : Ok (-1) l) (hl : l.length ≤ 64) : getC (u l.length ++ (headC l ++ dataC l)) = (l, 0) := by
  unfold getC
  rw [num_u _ hl (by omega)]
  simp only [drop_u]
  rw [pl_put l (-1) _ h]
  have hc := co_put l []
  rw [List.append_nil] at hc
  simp only [hc]
  simp
theorem get_more {l : List Col} (h : Ok (-1) l) (hl : l.length ≤ 64) {R : List UInt8} (hR : 0 < R.length) : getC (u l.length ++ (headC l ++ dataC l) ++ R) = ([], 3) := by
  unfold getC
  rw [List.append_assoc, List.append_assoc, num_u _ hl (by omega)]
  simp only [drop_u]
  rw [pl_put l (-1) _ h]
  simp only [co_put l R]
  rw [if_neg (by simp), if_neg (by simp), if_neg (by simp), if_pos hR]
theorem get_front {l : List Col} (h : Ok (-1) l) (hl : l.length ≤ 64) {j : Nat} (hj : j < (u l.length ++ (headC l ++ dataC l)).length) : getC ((u l.length ++ (headC l ++ dataC l)).take j) = ([], 2) := by
  by_cases h1 : j < (u l.length).length
  · rw [List.take_append_of_le_length (by omega)]
    unfold getC
    have hn := num_front (m := 64) (show l.length < 18446744073709551616 by omega) h1
    rw [if_pos (by rw [hn]; decide), hn]
  · rw [List.take_append, List.take_of_length_le (by omega)]
    unfold getC
    rw [num_u _ hl (by omega)]
    simp only [drop_u]
    rw [List.length_append, List.length_append] at hj
    by_cases h2 : j - (u l.length).length < (headC l).length
    · rw [List.take_append_of_le_length (by omega)]
      have hp := pl_front l (-1) _ h h2
      rw [if_neg (by simp), if_pos (by rw [hp]; decide), hp]
    · rw [List.take_append, List.take_of_length_le (by omega), pl_put l (-1) _ h]
      have hc := co_front l (j - (u l.length).length - (headC l).length) (by omega)
      simp only [hc]
      rw [if_neg (by simp), if_neg (by simp), if_pos (by decide)]
theorem pl_ok : ∀ (k : Nat) (last : Int) (B : List UInt8), (plD k last B).1 = 0 → (plD k last B).2.1.length = k ∧ B = headP (plD k last B).2.1 ++ (plD k last B).2.2 ∧
    ∀ l : List Col, pls l = (plD k last B).2.1 → Ok last l
  | 0, last, B, _ => ⟨rfl, rfl, fun l hl => by
      have : l = [] := List.map_eq_nil_iff.1 hl
      subst this; exact trivial⟩
  | k + 1, last, B, h => by
    by_cases h1 : (numD 1048576 B).2.2 ≠ 0
    · unfold plD at h
      rw [if_pos h1] at h
      exact absurd h h1
    · obtain ⟨C, hC⟩ : ∃ C, C = B.drop (numD 1048576 B).2.1 := ⟨_, rfl⟩
      have n1 := num_ok (m := 1048576) (B := B) (by omega)
      rw [← hC] at n1
      by_cases h2 : (numD 1048576 C).2.2 ≠ 0
      · unfold plD at h
        rw [← hC, if_neg h1, if_pos h2] at h
        exact absurd h h2
      · have n2 := num_ok (m := 1048576) (B := C) (by omega)
        by_cases h3 : ((numD 1048576 B).1 : Int) ≤ last ∨ (numD 1048576 C).1 = 0
        · unfold plD at h
          rw [← hC, if_neg h1, if_neg h2, if_pos h3] at h
          cases h
        · obtain ⟨D, hD⟩ : ∃ D, D = C.drop (numD 1048576 C).2.1 := ⟨_, rfl⟩
          have e : plD (k + 1) last B = ((plD k (numD 1048576 B).1 D).1, ((numD 1048576 B).1, (numD 1048576 C).1) :: (plD k (numD 1048576 B).1 D).2.1, (plD k (numD 1048576 B).1 D).2.2) := by
            conv => lhs; unfold plD
            rw [← hC, if_neg h1, if_neg h2, if_neg h3, ← hD]
          rw [e] at h ⊢
          obtain ⟨i1, i2, i3⟩ := pl_ok k (numD 1048576 B).1 D h
          refine ⟨by simp [i1], ?_, ?_⟩
          · show B = (u (numD 1048576 B).1 ++ u (numD 1048576 C).1) ++ headP _ ++ _
            rw [← hD] at n2
            rw [List.append_assoc, List.append_assoc, ← i2, ← n2.1, ← n1.1]
          · intro l hl
            cases l with
            | nil => cases hl
            | cons c l =>
              simp only [pls, List.map_cons, List.cons.injEq, Prod.mk.injEq] at hl
              obtain ⟨⟨e1, e2⟩, e3⟩ := hl
              exact ⟨by omega, by omega, by omega, by omega, by rw [e1]; exact i3 l e3⟩
theorem co_ok : ∀ (P : List (Nat × Nat)) (B : List UInt8), (coD P B).1 = 0 → pls (coD P B).2.1 = P ∧ B = dataC (coD P B).2.1 ++ (coD P B).2.2
  | [], B, _ => ⟨rfl, rfl⟩
  | p :: P, B, h => by
    by_cases h1 : B.length < p.2
    · unfold coD at h
      rw [if_pos h1] at h
      cases h
    · have e : coD (p :: P) B = ((coD P (B.drop p.2)).1, (p.1, B.take p.2) :: (coD P (B.drop p.2)).2.1, (coD P (B.drop p.2)).2.2) := by
        conv => lhs; unfold coD
        rw [if_neg h1]
      rw [e] at h ⊢
      obtain ⟨i1, i2⟩ := co_ok P (B.drop p.2) h
      refine ⟨?_, ?_⟩
      · show (p.1, (B.take p.2).length) :: pls _ = p :: P
        rw [i1, List.length_take, Nat.min_eq_left (by omega)]
      · show B = B.take p.2 ++ dataC _ ++ _
        rw [List.append_assoc, ← i2, List.take_append_drop]
theorem get_nil {B : List UInt8} (h : (getC B).2 ≠ 0) : (getC B).1 = [] := by
  unfold getC at h ⊢
  split
  · rfl
  · split
    · rfl
    · split
      · rfl
      · split
        · rfl
        · rename_i h1 h2 h3 h4
          rw [if_neg h1, if_neg h2, if_neg h3, if_neg h4] at h
          exact absurd rfl h
/-- whatever is read has just these bytes -/
theorem put_get {B : List UInt8} (h : (getC B).2 = 0) : (getC B).1.length ≤ 64 ∧ Ok (-1) (getC B).1 ∧ putC (getC B).1 = B := by
  obtain ⟨C, hC⟩ : ∃ C, C = B.drop (numD 64 B).2.1 := ⟨_, rfl⟩
  obtain ⟨p, hp⟩ : ∃ p, p = plD (numD 64 B).1 (-1) C := ⟨_, rfl⟩
  obtain ⟨q, hq⟩ : ∃ q, q = coD p.2.1 p.2.2 := ⟨_, rfl⟩
  have e : getC B = if (numD 64 B).2.2 ≠ 0 then ([], (numD 64 B).2.2) else if p.1 ≠ 0 then ([], p.1) else if q.1 ≠ 0 then ([], q.1) else if 0 < q.2.2.length then ([], 3) else (q.2.1, 0) := by
    unfold getC
    rw [← hC, ← hp, ← hq]
  by_cases h1 : (numD 64 B).2.2 ≠ 0
  · rw [e, if_pos h1] at h
    exact absurd h h1
  rw [if_neg h1] at e
  by_cases h2 : p.1 ≠ 0
  · rw [e, if_pos h2] at h
    exact absurd h h2
  rw [if_neg h2] at e
  by_cases h3 : q.1 ≠ 0
  · rw [e, if_pos h3] at h
    exact absurd h h3
  rw [if_neg h3] at e
  by_cases h4 : 0 < q.2.2.length
  · rw [e, if_pos h4] at h
    cases h
  rw [if_neg h4] at e
  rw [e]
  have n1 := num_ok (m := 64) (B := B) (by omega)
  obtain ⟨i1, i2, i3⟩ := pl_ok (numD 64 B).1 (-1) C (by rw [← hp]; omega)
  rw [← hp] at i1 i2 i3
  obtain ⟨j1, j2⟩ := co_ok p.2.1 p.2.2 (by rw [← hq]; omega)
  rw [← hq] at j1 j2
  have hlen : q.2.1.length = (numD 64 B).1 := by rw [← i1, ← j1]; simp [pls]
  have hok := i3 q.2.1 j1
  have h0 : q.2.2 = [] := List.eq_nil_of_length_eq_zero (by omega)
  refine ⟨by show q.2.1.length ≤ 64; omega, hok, ?_⟩
  show putC q.2.1 = B
  unfold putC
  rw [ok_full hok, ← headP_pls, j1, hlen]
  rw [h0, List.append_nil] at j2
  rw [← j2, ← i2, hC, ← n1.1]
end DirM
end Go.Proofs.Ytbnkahjmeobblaa
