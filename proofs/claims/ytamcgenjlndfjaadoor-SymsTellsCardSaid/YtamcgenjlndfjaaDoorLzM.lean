/-
  Layer 6, plain: tokens, whether one may stand, what tokens tell, how long bytes are the same, the best distance, pressing.
-/
import Derived.WalkKit
namespace Go.Proofs.YtamcgenjlndfjaaDoor.LzM

structure Tok where
  b : UInt8
  l : Int
  d : Int
deriving DecidableEq, Inhabited

/-- may it stand behind n bytes? -/
def rightT (t : Tok) (n : Int) : Bool := if t.l = 0 ∧ t.d = 0 then true else decide (t.b = 0 ∧ 3 ≤ t.l ∧ t.l ≤ 258 ∧ 1 ≤ t.d ∧ t.d ≤ 32768 ∧ t.d ≤ n)

/-- a literal, a match -/
def lit (b : UInt8) : Tok := ⟨b, 0, 0⟩
def mat (l d : Nat) : Tok := ⟨0, l, d⟩

/-- n more bytes, each the one d ahead -/
def copy (d : Nat) : Nat → List UInt8 → List UInt8
  | 0, B => B
  | n + 1, B => copy d n (B ++ [B[B.length - d]!])

/-- what a token tells behind bytes -/
def addT (B : List UInt8) (t : Tok) : List UInt8 := if t.l = 0 then B ++ [t.b] else copy t.d.toNat t.l.toNat B

/-- how many a token tells -/
def wide (t : Tok) : Nat := if t.l = 0 then 1 else t.l.toNat

/-- what tokens tell behind bytes, at most so many; or the error -/
def openT (most : Int) : List UInt8 → List Tok → Except Nat (List UInt8)
  | B, [] => .ok B
  | B, t :: l => if rightT t B.length = false then .error 3 else if ((B.length + wide t : Nat) : Int) > most then .error 4 else openT most (addT B t) l

/-- how many bytes from i are the same as those d ahead: at most f more behind n, within B -/
def same (B : List UInt8) (i d : Nat) : Nat → Nat → Nat
  | 0, n => n
  | f + 1, n => if i + n < B.length ∧ B[i + n]! = B[i + n - d]! then same B i d f (n + 1) else n

def len (B : List UInt8) (i d : Nat) : Nat := same B i d 258 0

/-- the best of the distances below k: its length, itself (0, 0: none) -/
def best (B : List UInt8) (i : Nat) : Nat → Nat × Nat
  | 0 => (0, 0)
  | k + 1 => if (best B i k).1 < len B i (k + 1) then (len B i (k + 1), k + 1) else best B i k

/-- the best at i -/
def find (B : List UInt8) (i : Nat) : Nat × Nat := best B i (min i 32768)

/-- pressing from i on -/
def pressF (B : List UInt8) : Nat → Nat → List Tok
  | 0, _ => []
  | f + 1, i => if i < B.length then (if (find B i).1 < 3 then lit B[i]! :: pressF B f (i + 1) else mat (find B i).1 (find B i).2 :: pressF B f (i + (find B i).1)) else []

def press (B : List UInt8) : List Tok := pressF B B.length 0

theorem copy_length (d : Nat) : ∀ (n : Nat) (B : List UInt8), (copy d n B).length = B.length + n
  | 0, B => rfl
  | n + 1, B => by rw [copy, copy_length d n]; simp; omega

theorem copy_succ (d : Nat) : ∀ (n : Nat) (B : List UInt8), copy d (n + 1) B = copy d n B ++ [(copy d n B)[(copy d n B).length - d]!]
  | 0, B => rfl
  | n + 1, B => by rw [copy, copy_succ d n, copy]

theorem right_cases {t : Tok} {n : Nat} (h : rightT t (n : Nat) = true) : (∃ b, t = ⟨b, 0, 0⟩) ∨ ∃ L D : Nat, t = ⟨0, (L : Int), (D : Int)⟩ ∧ 3 ≤ L ∧ L ≤ 258 ∧ 1 ≤ D ∧ D ≤ 32768 ∧ D ≤ n := by
  obtain ⟨b, l, d⟩ := t
  unfold rightT at h
  split at h
  · rename_i hc
    obtain ⟨rfl, rfl⟩ : l = 0 ∧ d = 0 := hc
    exact .inl ⟨b, rfl⟩
  · simp only [decide_eq_true_eq] at h
    obtain ⟨rfl, h1, h2, h3, h4, h5⟩ := h
    refine .inr ⟨l.toNat, d.toNat, ?_, by omega, by omega, by omega, by omega, by omega⟩
    rw [Int.toNat_of_nonneg (by omega), Int.toNat_of_nonneg (by omega)]

theorem same_ge (B : List UInt8) (i d : Nat) : ∀ f n, n ≤ same B i d f n
  | 0, n => Nat.le_refl _
  | f + 1, n => by
    unfold same
    split
    · exact Nat.le_trans (Nat.le_succ n) (same_ge B i d f (n + 1))
    · exact Nat.le_refl _

theorem same_le (B : List UInt8) (i d : Nat) : ∀ f n, same B i d f n ≤ n + f
  | 0, n => Nat.le_refl _
  | f + 1, n => by
    unfold same
    split
    · have := same_le B i d f (n + 1); omega
    · omega

theorem same_in (B : List UInt8) (i d : Nat) : ∀ f n, i + n ≤ B.length → i + same B i d f n ≤ B.length
  | 0, n, h => h
  | f + 1, n, h => by
    unfold same
    split
    · exact same_in B i d f (n + 1) (by omega)
    · exact h

theorem same_eq (B : List UInt8) (i d : Nat) : ∀ f n k, n ≤ k → k < same B i d f n → B[i + k]! = B[i + k - d]!
  | 0, n, k, h, h' => by unfold same at h'; omega
  | f + 1, n, k, h, h' => by
    unfold same at h'
    split at h'
    · rename_i hc
      by_cases e : k = n
      · rw [e]; exact hc.2
      · exact same_eq B i d f (n + 1) k (by omega) h'
    · omega

theorem len_le (B : List UInt8) (i d : Nat) : len B i d ≤ 258 := by have := same_le B i d 258 0; unfold len; omega
theorem len_in (B : List UInt8) (i d : Nat) (h : i ≤ B.length) : i + len B i d ≤ B.length := same_in B i d 258 0 h

/-- no fuel changes it once it has stopped: n more of the 258 -/
theorem same_step (B : List UInt8) (i d f n : Nat) (h : i + n < B.length) (e : B[i + n]! = B[i + n - d]!) : same B i d (f + 1) n = same B i d f (n + 1) := by
  rw [same, if_pos ⟨h, e⟩]
theorem same_stop (B : List UInt8) (i d f n : Nat) (h : ¬ (i + n < B.length ∧ B[i + n]! = B[i + n - d]!)) : same B i d (f + 1) n = n := by
  rw [same, if_neg h]

theorem best_le (B : List UInt8) (i : Nat) : ∀ k, (best B i k).1 ≤ 258 ∧ (best B i k).2 ≤ k
  | 0 => by simp [best]
  | k + 1 => by
    unfold best
    have := best_le B i k
    split
    · exact ⟨len_le B i _, Nat.le_refl _⟩
    · omega

theorem best_in (B : List UInt8) (i : Nat) (h : i ≤ B.length) : ∀ k, i + (best B i k).1 ≤ B.length
  | 0 => by simpa [best] using h
  | k + 1 => by
    unfold best
    have := best_in B i h k
    split
    · exact len_in B i _ h
    · exact this

theorem best_is (B : List UInt8) (i : Nat) : ∀ k, 0 < (best B i k).1 → 1 ≤ (best B i k).2 ∧ (best B i k).1 = len B i (best B i k).2
  | 0, h => by simp [best] at h
  | k + 1, h => by
    unfold best at h ⊢
    split
    · exact ⟨by omega, rfl⟩
    · rename_i hc
      rw [if_neg hc] at h
      exact best_is B i k h

theorem pressF_more (B : List UInt8) : ∀ f i, B.length ≤ i + f → ∀ g, pressF B (f + g) i = pressF B f i
  | 0, i, h, 0 => rfl
  | 0, i, h, g + 1 => by
    have h0 : pressF B (g + 1) i = [] := by rw [pressF, if_neg (by omega)]
    rw [Nat.zero_add, h0]
    rfl
  | f + 1, i, h, g => by
    rw [show f + 1 + g = (f + g) + 1 by omega, pressF, pressF]
    split
    · split
      · rw [pressF_more B f (i + 1) (by omega) g]
      · rw [pressF_more B f _ (by omega) g]
    · rfl

/-- what is copied is what stands in B, where it is the same -/
theorem copy_take (B : List UInt8) (i d : Nat) (hd : 1 ≤ d) (hdi : d ≤ i) : ∀ (n k : Nat), i + k + n ≤ B.length → (∀ j, k ≤ j → j < k + n → B[i + j]! = B[i + j - d]!) →
    copy d n (B.take (i + k)) = B.take (i + k + n)
  | 0, k, h, he => rfl
  | n + 1, k, h, he => by
    have h1 : (B.take (i + k)).length = i + k := by rw [List.length_take]; omega
    have h2 : (B.take (i + k))[(B.take (i + k)).length - d]! = B[i + k]! := by
      rw [h1, he k (Nat.le_refl _) (by omega), getElem!_pos _ _ (by rw [h1]; omega), getElem!_pos _ _ (by omega), List.getElem_take]
    have h3 : B.take (i + k) ++ [B[i + k]!] = B.take (i + (k + 1)) := by
      rw [getElem!_pos _ _ (by omega), List.take_append_getElem, ← Nat.add_assoc]
    rw [copy, h2, h3, copy_take B i d hd hdi n (k + 1) (by omega) (fun j hj hj' => he j (by omega) (by omega))]
    congr 1
    omega

/-- what is pressed opens as it was -/
theorem open_pressF (B : List UInt8) (most : Int) (hm : (B.length : Int) ≤ most) : ∀ f i, B.length ≤ i + f → i ≤ B.length → openT most (B.take i) (pressF B f i) = .ok B
  | 0, i, h, hi => by
    obtain rfl : i = B.length := by omega
    simp [pressF, openT]
  | f + 1, i, h, hi => by
    rw [pressF]
    split
    · rename_i hlt
      have h1 : (B.take i).length = i := by rw [List.length_take]; omega
      split
      · have h3 : B.take i ++ [B[i]!] = B.take (i + 1) := by
          rw [getElem!_pos B i hlt, List.take_append_getElem]
        rw [openT, if_neg (by simp [rightT, lit]), if_neg (by have hw : wide (lit B[i]!) = 1 := rfl; rw [hw, h1]; omega)]
        have ha : addT (B.take i) (lit B[i]!) = B.take (i + 1) := by rw [addT, if_pos (show (lit B[i]!).l = 0 from rfl)]; exact h3
        rw [ha]
        exact open_pressF B most hm f (i + 1) (by omega) (by omega)
      · rename_i hc
        obtain ⟨p, hp⟩ : ∃ p, p = find B i := ⟨_, rfl⟩
        rw [← hp] at hc ⊢
        have e1 : 1 ≤ p.2 ∧ p.1 = len B i p.2 := by rw [hp]; exact best_is B i _ (by rw [hp] at hc; unfold find at hc; omega)
        have e2 : p.1 ≤ 258 ∧ p.2 ≤ min i 32768 := by rw [hp]; exact best_le B i _
        have e3 : i + p.1 ≤ B.length := by rw [hp]; exact best_in B i hi _
        have hl : (mat p.1 p.2).l ≠ 0 := by simp [mat]; omega
        have hr : rightT (mat p.1 p.2) ((B.take i).length : Nat) = true := by
          rw [h1, rightT, if_neg (by simp [mat]; omega)]
          simp [mat]
          omega
        have hw : wide (mat p.1 p.2) = p.1 := by rw [wide, if_neg hl]; simp [mat]
        have ha : addT (B.take i) (mat p.1 p.2) = B.take (i + p.1) := by
          rw [addT, if_neg hl]
          have := copy_take B i p.2 e1.1 (by omega) p.1 0 (by omega) (fun j _ hj => same_eq B i p.2 258 0 j (by omega) (by rw [e1.2] at hj; unfold len at hj; omega))
          simpa [mat] using this
        rw [openT, if_neg (by rw [hr]; simp), if_neg (by rw [hw, h1]; omega), ha]
        exact open_pressF B most hm f (i + p.1) (by omega) e3
    · obtain rfl : i = B.length := by omega
      simp [openT]

theorem open_press (B : List UInt8) (most : Int) (hm : (B.length : Int) ≤ most) : openT most [] (press B) = .ok B := by
  have := open_pressF B most hm B.length 0 (by omega) (by omega)
  simpa [press] using this

end Go.Proofs.YtamcgenjlndfjaaDoor.LzM
