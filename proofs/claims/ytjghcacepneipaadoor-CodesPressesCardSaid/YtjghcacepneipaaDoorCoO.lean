/-
  Layer 8, plain: items tell the lengths that were pressed.
-/
import Derived.Test.YtjghcacepneipaaDoorCoN
namespace Go.Proofs.YtjghcacepneipaaDoor.CoM

theorem run_take (L : List Nat) (i n : Nat) (h1 : i + n ≤ L.length) (h2 : n ≤ rn L i) : L.take (i + n) = L.take i ++ List.replicate n L[i]! := by
  apply List.ext_getElem?
  intro j
  rcases Nat.lt_or_ge j i with hj | hj
  · rw [List.getElem?_append_left (by simp; omega), List.getElem?_take, List.getElem?_take, if_pos (by omega), if_pos hj]
  · rw [List.getElem?_append_right (by simp; omega), List.getElem?_take, List.length_take, Nat.min_eq_left (by omega), List.getElem?_replicate]
    by_cases hn : j < i + n
    · rw [if_pos hn, if_pos (by omega)]
      have := rn_at L i (j - i) (by omega)
      rw [show i + (j - i) = j by omega, getElem!_pos L j (by omega)] at this
      rw [List.getElem?_eq_getElem (by omega), this]
    · rw [if_neg hn, if_neg (by omega)]
/-- what an item tells -/
theorem item_cases (L : List Nat) (i : Nat) (h : i < L.length) (hL : ∀ x ∈ L, x ≤ 15) :
    ∃ n v, (itemAt L i).2 = n ∧ 1 ≤ n ∧ i + n ≤ L.length ∧ n ≤ 138 ∧ v ≤ 15 ∧ L.take (i + n) = L.take i ++ List.replicate n v ∧
      ((∃ x, (itemAt L i).1 = ⟨18, 7, x⟩ ∧ n = 11 + x ∧ x < 128 ∧ v = 0) ∨ (∃ x, (itemAt L i).1 = ⟨17, 3, x⟩ ∧ n = 3 + x ∧ x < 8 ∧ v = 0) ∨
       (∃ x, (itemAt L i).1 = ⟨16, 2, x⟩ ∧ n = 3 + x ∧ x < 4 ∧ 0 < i ∧ L[i - 1]! = v) ∨ ((itemAt L i).1 = ⟨v, 0, 0⟩ ∧ n = 1)) := by
  have hp := item_pos L i h
  have hv : L[i]! ≤ 15 := by rw [getElem!_pos L i h]; exact hL _ (List.getElem_mem h)
  have ht := run_take L i _ hp.2.1 hp.2.2
  have hp1 := hp.1
  have hp2 := hp.2.1
  clear hp
  unfold itemAt at *
  split
  · rename_i hc
    rw [if_pos hc] at ht hp1 hp2
    simp only at ht hp1 hp2
    exact ⟨_, _, rfl, hp1, hp2, by simp only; omega, hv, ht, .inl ⟨_, rfl, by simp only; omega, by omega, hc.1⟩⟩
  · rename_i hc
    rw [if_neg hc] at ht hp1 hp2
    split
    · rename_i hc2
      rw [if_pos hc2] at ht hp1 hp2
      simp only at ht hp1 hp2
      exact ⟨_, _, rfl, hp1, hp2, by simp only; omega, hv, ht, .inr (.inl ⟨_, rfl, by simp only; omega, by omega, hc2.1⟩)⟩
    · rename_i hc2
      rw [if_neg hc2] at ht hp1 hp2
      split
      · rename_i hc3
        rw [if_pos hc3] at ht hp1 hp2
        simp only at ht hp1 hp2
        exact ⟨_, _, rfl, hp1, hp2, by simp only; omega, hv, ht, .inr (.inr (.inl ⟨_, rfl, by simp only; omega, by omega, hc3.2.1, hc3.2.2.1.symm⟩))⟩
      · rename_i hc3
        rw [if_neg hc3] at ht hp1 hp2
        simp only at ht hp1 hp2
        exact ⟨_, _, rfl, hp1, hp2, by simp only; omega, hv, ht, .inr (.inr (.inr ⟨rfl, rfl⟩))⟩
end Go.Proofs.YtjghcacepneipaaDoor.CoM
