/-
  Layer 8, plain: lengths that are all the same are told by few items.
-/
import Derived.Test.YtjghcacepneipaaDoorCoM
namespace Go.Proofs.YtjghcacepneipaaDoor.CoM

theorem rep_at {k v j : Nat} (h : j < k) : (List.replicate k v)[j]! = v := by
  rw [getElem!_pos _ j (by simpa using h)]
  simp
theorem rn_rep {k v i : Nat} (h : i < k) : rn (List.replicate k v) i = k - i := by
  refine rn_of _ i (k - i) (by simp; omega) (fun j hj => ?_) (.inl (by simp; omega))
  rw [rep_at (by omega), rep_at h]
theorem item_rep {k v i : Nat} (h : i < k) : 1 ≤ (itemAt (List.replicate k v) i).2 ∧ i + (itemAt (List.replicate k v) i).2 ≤ k ∧ (1 ≤ i → 2 < k - i → 6 ≤ (itemAt (List.replicate k v) i).2 ∨ i + (itemAt (List.replicate k v) i).2 = k) := by
  have hp := item_pos (List.replicate k v) i (by simpa using h)
  rw [List.length_replicate] at hp
  refine ⟨hp.1, hp.2.1, fun h1 h2 => ?_⟩
  unfold itemAt
  rw [rn_rep h, rep_at h, rep_at (by omega : i - 1 < k)]
  by_cases hv : v = 0
  · by_cases h10 : 10 < k - i
    · rw [if_pos ⟨hv, h10⟩]
      simp only
      omega
    · rw [if_neg (fun e => h10 e.2), if_pos ⟨hv, h2⟩]
      simp only
      omega
  · rw [if_neg (fun e => hv e.1), if_neg (fun e => hv e.1), if_pos ⟨by omega, by omega, rfl, h2⟩]
    simp only
    omega
theorem press_rep {k v : Nat} : ∀ f i, 1 ≤ i → i ≤ k → (pressI (List.replicate k v) f i).length ≤ 2 + (k - i) / 6
  | 0, i, _, _ => by simp [pressI]
  | f + 1, i, h1, h2 => by
    rw [pressI, List.length_replicate]
    split
    · rename_i hi
      obtain ⟨p1, p2, p3⟩ := item_rep (v := v) hi
      by_cases h3 : 2 < k - i
      · have ih := press_rep (v := v) f (i + (itemAt (List.replicate k v) i).2) (by omega) p2
        rw [List.length_cons]
        rcases p3 h1 h3 with h | h
        · omega
        · have h0 : (pressI (List.replicate k v) f (i + (itemAt (List.replicate k v) i).2)).length = 0 := by
            rw [h]
            cases f with
            | zero => rfl
            | succ f => rw [pressI, List.length_replicate, if_neg (by omega)]; rfl
          omega
      · have hl := pressI_len (List.replicate k v) (f + 1) i (by simp; omega)
        rw [pressI, List.length_replicate, if_pos hi] at hl
        omega
    · simp
theorem items_rep (k v : Nat) : (items (List.replicate k v)).length ≤ 4 + k / 6 := by
  unfold items
  rw [List.length_replicate]
  cases k with
  | zero => simp [pressI]
  | succ f =>
    rw [pressI, List.length_replicate, if_pos (by omega), List.length_cons]
    obtain ⟨p1, p2, _⟩ := item_rep (k := f + 1) (v := v) (i := 0) (by omega)
    have := press_rep (k := f + 1) (v := v) f (0 + (itemAt (List.replicate (f + 1) v) 0).2) (by omega) p2
    omega
end Go.Proofs.YtjghcacepneipaaDoor.CoM
