/-
  Layer 8, plain: lengths that are all the same are told by few items.
  Layer 8, plain: items tell the lengths that were pressed.
-/
import Derived.Test.YtjghcacepneipaaDoorZm02
namespace Go.Proofs.YtjghcacepneipaaDoor.CoM

theorem rep_at {k v j : Nat} (h : j < k) : (List.replicate k v)[j]! = v := by
  rw [getElem!_pos _ j (by simpa using h)]
  simp
theorem rn_rep {k v i : Nat} (h : i < k) : rn (List.replicate k v) i = k - i := by
  refine rn_of _ i (k - i) (by simp; omega) (fun j hj => ?_) (.inl (by simp; omega))
  rw [rep_at (by omega), rep_at h]
theorem item_rep {k v i : Nat} (h : i < k) : 1 ≤ (itemAt (List.replicate k v) i).2 ∧ i + (itemAt (List.replicate k v) i).2 ≤ k ∧ (1 ≤ i → 2 < k - i → 6 ≤ (itemAt (List.replicate k v) i).2 ∨ i + (itemAt (List.replicate k v) i).2 = k) := by
  have hp := item_pos (List.replicate k v) i (by simpa using h)
  rw [List.length_replicate] at hp
  refine ⟨hp.1, hp.2.1, fun h1 h2 => ?_⟩
  unfold itemAt
  rw [rn_rep h, rep_at h, rep_at (by omega : i - 1 < k)]
  by_cases hv : v = 0
  · by_cases h10 : 10 < k - i
    · rw [if_pos ⟨hv, h10⟩]
      simp only
      omega
    · rw [if_neg (fun e => h10 e.2), if_pos ⟨hv, h2⟩]
      simp only
      omega
  · rw [if_neg (fun e => hv e.1), if_neg (fun e => hv e.1), if_pos ⟨by omega, by omega, rfl, h2⟩]
    simp only
    omega
theorem press_rep {k v : Nat} : ∀ f i, 1 ≤ i → i ≤ k → (pressI (List.replicate k v) f i).length ≤ 2 + (k - i) / 6
  | 0, i, _, _ => by simp [pressI]
  | f + 1, i, h1, h2 => by
    rw [pressI, List.length_replicate]
    split
    · rename_i hi
      obtain ⟨p1, p2, p3⟩ := item_rep (v := v) hi
      by_cases h3 : 2 < k - i
      · have ih := press_rep (v := v) f (i + (itemAt (List.replicate k v) i).2) (by omega) p2
        rw [List.length_cons]
        rcases p3 h1 h3 with h | h
        · omega
        · have h0 : (pressI (List.replicate k v) f (i + (itemAt (List.replicate k v) i).2)).length = 0 := by
            rw [h]
            cases f with
            | zero => rfl
            | succ f => rw [pressI, List.length_replicate, if_neg (by omega)]; rfl
          omega
      · have hl := pressI_len (List.replicate k v) (f + 1) i (by simp; omega)
        rw [pressI, List.length_replicate, if_pos hi] at hl
        omega
    · simp
theorem items_rep (k v : Nat) : (items (List.replicate k v)).length ≤ 4 + k / 6 := by
  unfold items
  rw [List.length_replicate]
  cases k with
  | zero => simp [pressI]
  | succ f =>
    rw [pressI, List.length_replicate, if_pos (by omega), List.length_cons]
    obtain ⟨p1, p2, _⟩ := item_rep (k := f + 1) (v := v) (i := 0) (by omega)
    have := press_rep (k := f + 1) (v := v) f (0 + (itemAt (List.replicate (f + 1) v) 0).2) (by omega) p2
    omega
end Go.Proofs.YtjghcacepneipaaDoor.CoM
namespace Go.Proofs.YtjghcacepneipaaDoor.CoM

theorem run_take (L : List Nat) (i n : Nat) (h1 : i + n ≤ L.length) (h2 : n ≤ rn L i) : L.take (i + n) = L.take i ++ List.replicate n L[i]! := by
  apply List.ext_getElem?
  intro j
  rcases Nat.lt_or_ge j i with hj | hj
  · rw [List.getElem?_append_left (by simp; omega), List.getElem?_take, List.getElem?_take, if_pos (by omega), if_pos hj]
  · rw [List.getElem?_append_right (by simp; omega), List.getElem?_take, List.length_take, Nat.min_eq_left (by omega), List.getElem?_replicate]
    by_cases hn : j < i + n
    · rw [if_pos hn, if_pos (by omega)]
      have := rn_at L i (j - i) (by omega)
      rw [show i + (j - i) = j by omega, getElem!_pos L j (by omega)] at this
      rw [List.getElem?_eq_getElem (by omega), this]
    · rw [if_neg hn, if_neg (by omega)]
/-- what an item tells -/
theorem item_cases (L : List Nat) (i : Nat) (h : i < L.length) (hL : ∀ x ∈ L, x ≤ 15) :
    ∃ n v, (itemAt L i).2 = n ∧ 1 ≤ n ∧ i + n ≤ L.length ∧ n ≤ 138 ∧ v ≤ 15 ∧ L.take (i + n) = L.take i ++ List.replicate n v ∧
      ((∃ x, (itemAt L i).1 = ⟨18, 7, x⟩ ∧ n = 11 + x ∧ x < 128 ∧ v = 0) ∨ (∃ x, (itemAt L i).1 = ⟨17, 3, x⟩ ∧ n = 3 + x ∧ x < 8 ∧ v = 0) ∨
       (∃ x, (itemAt L i).1 = ⟨16, 2, x⟩ ∧ n = 3 + x ∧ x < 4 ∧ 0 < i ∧ L[i - 1]! = v) ∨ ((itemAt L i).1 = ⟨v, 0, 0⟩ ∧ n = 1)) := by
  have hp := item_pos L i h
  have hv : L[i]! ≤ 15 := by rw [getElem!_pos L i h]; exact hL _ (List.getElem_mem h)
  have ht := run_take L i _ hp.2.1 hp.2.2
  have hp1 := hp.1
  have hp2 := hp.2.1
  clear hp
  unfold itemAt at *
  split
  · rename_i hc
    rw [if_pos hc] at ht hp1 hp2
    simp only at ht hp1 hp2
    exact ⟨_, _, rfl, hp1, hp2, by simp only; omega, hv, ht, .inl ⟨_, rfl, by simp only; omega, by omega, hc.1⟩⟩
  · rename_i hc
    rw [if_neg hc] at ht hp1 hp2
    split
    · rename_i hc2
      rw [if_pos hc2] at ht hp1 hp2
      simp only at ht hp1 hp2
      exact ⟨_, _, rfl, hp1, hp2, by simp only; omega, hv, ht, .inr (.inl ⟨_, rfl, by simp only; omega, by omega, hc2.1⟩)⟩
    · rename_i hc2
      rw [if_neg hc2] at ht hp1 hp2
      split
      · rename_i hc3
        rw [if_pos hc3] at ht hp1 hp2
        simp only at ht hp1 hp2
        exact ⟨_, _, rfl, hp1, hp2, by simp only; omega, hv, ht, .inr (.inr (.inl ⟨_, rfl, by simp only; omega, by omega, hc3.2.1, hc3.2.2.1.symm⟩))⟩
      · rename_i hc3
        rw [if_neg hc3] at ht hp1 hp2
        simp only at ht hp1 hp2
        exact ⟨_, _, rfl, hp1, hp2, by simp only; omega, hv, ht, .inr (.inr (.inr ⟨rfl, rfl⟩))⟩
end Go.Proofs.YtjghcacepneipaaDoor.CoM
