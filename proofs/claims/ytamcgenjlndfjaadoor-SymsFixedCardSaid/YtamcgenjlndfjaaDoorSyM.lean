/-
  Layer 7, plain: the tables of lengths and distances, the symbol of a number, how often symbols are met.
-/
import Derived.Test.YtamcgenjlndfjaaDoorLzM
namespace Go.Proofs.YtamcgenjlndfjaaDoor.SyM
open LzM

def lens : List (Nat × Nat) := [(3, 0), (4, 0), (5, 0), (6, 0), (7, 0), (8, 0), (9, 0), (10, 0), (11, 1), (13, 1), (15, 1), (17, 1), (19, 2), (23, 2), (27, 2), (31, 2), (35, 3), (43, 3), (51, 3), (59, 3), (67, 4), (83, 4), (99, 4), (115, 4), (131, 5), (163, 5), (195, 5), (227, 5), (258, 0)]
def dists : List (Nat × Nat) := [(1, 0), (2, 0), (3, 0), (4, 0), (5, 1), (7, 1), (9, 2), (13, 2), (17, 3), (25, 3), (33, 4), (49, 4), (65, 5), (97, 5), (129, 6), (193, 6), (257, 7), (385, 7), (513, 8), (769, 8), (1025, 9), (1537, 9), (2049, 10), (3073, 10), (4097, 11), (6145, 11), (8193, 12), (12289, 12), (16385, 13), (24577, 13)]

/-- the last place, of the first k, whose least number isn't above n -/
def lastLe (n : Int) (R : List (Nat × Nat)) : Nat → Nat
  | 0 => 0
  | k + 1 => if (((R[k]!).1 : Nat) : Int) ≤ n then k else lastLe n R k
/-- the symbol of a number: its place -/
def sym (n : Int) (R : List (Nat × Nat)) : Nat := lastLe n R R.length
/-- the least number of a place, its bits -/
def least (R : List (Nat × Nat)) (i : Nat) : Nat := (R[i]!).1
def wid (R : List (Nat × Nat)) (i : Nat) : Nat := (R[i]!).2

theorem lastLe_lt (n : Int) (R : List (Nat × Nat)) : ∀ k, lastLe n R k ≤ k - 1
  | 0 => by simp [lastLe]
  | k + 1 => by
    have := lastLe_lt n R k
    unfold lastLe
    split <;> omega
theorem sym_lt (n : Int) (R : List (Nat × Nat)) (h : 0 < R.length) : sym n R < R.length := by
  have := lastLe_lt n R R.length
  unfold sym
  omega
/-- the rows rise -/
def Rise (R : List (Nat × Nat)) : Prop := ∀ i, i + 1 < R.length → least R i < least R (i + 1) ∧ least R (i + 1) ≤ least R i + 2 ^ wid R i
theorem rise_lens : Rise lens := by
  intro i hi
  have h : ∀ i : Fin 28, least lens i < least lens (i + 1) ∧ least lens (i + 1) ≤ least lens i + 2 ^ wid lens i := by decide +kernel
  exact h ⟨i, by simp [lens] at hi; omega⟩
theorem rise_dists : Rise dists := by
  intro i hi
  have h : ∀ i : Fin 29, least dists i < least dists (i + 1) ∧ least dists (i + 1) ≤ least dists i + 2 ^ wid dists i := by decide +kernel
  exact h ⟨i, by simp [dists] at hi; omega⟩
theorem rise_le {R : List (Nat × Nat)} (h : Rise R) : ∀ d i, i + d < R.length → least R i ≤ least R (i + d)
  | 0, i, hi => Nat.le_refl _
  | d + 1, i, hi => by
    have h1 := rise_le h d i (by omega)
    have h2 := (h (i + d) (by omega)).1
    rw [← Nat.add_assoc]
    omega
/-- the symbol tells no more than the number, and the next one more -/
theorem lastLe_is {R : List (Nat × Nat)} (n : Int) (h0 : (least R 0 : Int) ≤ n) : ∀ k, 0 < k → (least R (lastLe n R k) : Int) ≤ n ∧ ∀ j, lastLe n R k < j → j < k → n < (least R j : Int)
  | 0, hk => by omega
  | k + 1, _ => by
    unfold lastLe
    split
    · rename_i hc
      exact ⟨hc, fun j h1 h2 => by omega⟩
    · rename_i hc
      rcases Nat.eq_zero_or_pos k with h | h
      · subst h
        exact absurd h0 hc
      · obtain ⟨h1, h2⟩ := lastLe_is n h0 k h
        refine ⟨h1, fun j hj1 hj2 => ?_⟩
        by_cases e : j = k
        · rw [e]; exact Int.not_le.1 hc
        · exact h2 j hj1 (by omega)
theorem sym_is {R : List (Nat × Nat)} (n : Int) (hR : 0 < R.length) (h0 : (least R 0 : Int) ≤ n) : (least R (sym n R) : Int) ≤ n ∧ ∀ j, sym n R < j → j < R.length → n < (least R j : Int) := lastLe_is n h0 R.length hR
/-- what follows is within its bits -/
theorem sym_wid {R : List (Nat × Nat)} (n : Int) (hR : 0 < R.length) (hr : Rise R) (h0 : (least R 0 : Int) ≤ n) (hend : n < (least R (R.length - 1) + 2 ^ wid R (R.length - 1) : Nat)) : n < (least R (sym n R) + 2 ^ wid R (sym n R) : Nat) := by
  obtain ⟨h1, h2⟩ := sym_is n hR h0
  have hlt := sym_lt n R hR
  by_cases e : sym n R + 1 < R.length
  · have h3 := h2 (sym n R + 1) (by omega) e
    have h4 := (hr (sym n R) e).2
    omega
  · have e2 : sym n R = R.length - 1 := by omega
    rw [e2]
    exact hend
theorem sym_mono {R : List (Nat × Nat)} (x y : Int) (hR : 0 < R.length) (hx : (least R 0 : Int) ≤ x) (hxy : x ≤ y) : sym x R ≤ sym y R := by
  obtain ⟨h1, _⟩ := sym_is x hR hx
  obtain ⟨_, h2⟩ := sym_is y hR (by omega)
  rcases Nat.lt_or_ge (sym y R) (sym x R) with h | h
  · have := h2 (sym x R) h (sym_lt x R hR)
    omega
  · exact h

/-- a number that counts as one between two -/
def clampI (n lo hi : Int) : Int := min (max n lo) hi
def lenS (n : Int) : Nat := sym (clampI n 3 258) lens
def distS (n : Int) : Nat := sym (clampI n 1 32768) dists
def lenX (n : Int) : Nat := (clampI n 3 258 - least lens (lenS n)).toNat
def distX (n : Int) : Nat := (clampI n 1 32768 - least dists (distS n)).toNat

/-- one more at a place -/
def bump (L : List Nat) (i : Nat) : List Nat := L.set i (L[i]! + 1)
/-- how often symbols are met -/
def weigh : List Tok → List Nat × List Nat → List Nat × List Nat
  | [], p => p
  | t :: T, p => if t.l = 0 then weigh T (bump p.1 t.b.toNat, p.2) else weigh T (bump p.1 (257 + sym t.l lens), bump p.2 (sym t.d dists))
def start : List Nat × List Nat := ((List.replicate 286 0).set 256 1, List.replicate 30 0)
theorem bump_length (L : List Nat) (i : Nat) : (bump L i).length = L.length := by simp [bump]
theorem weigh_length : ∀ (T : List Tok) (p : List Nat × List Nat), (weigh T p).1.length = p.1.length ∧ (weigh T p).2.length = p.2.length
  | [], p => ⟨rfl, rfl⟩
  | t :: T, p => by
    unfold weigh
    split
    · have := weigh_length T (bump p.1 t.b.toNat, p.2)
      simp only [bump_length] at this
      exact this
    · have := weigh_length T (bump p.1 (257 + sym t.l lens), bump p.2 (sym t.d dists))
      simp only [bump_length] at this
      exact this
/-- what is agreed upon -/
def fixA : List Nat := List.replicate 144 8 ++ List.replicate 112 9 ++ List.replicate 24 7 ++ List.replicate 8 8
def fixB : List Nat := List.replicate 32 5
end Go.Proofs.YtamcgenjlndfjaaDoor.SyM
