/-
  Layer 7, plain: symbols and what follows them: bounds, back, and rising.
-/
import Derived.Test.YtamcgenjlndfjaaDoorSyM
namespace Go.Proofs.YtamcgenjlndfjaaDoor.SyM

theorem clampI_in (n lo hi : Int) (h : lo ≤ hi) : lo ≤ clampI n lo hi ∧ clampI n lo hi ≤ hi := by unfold clampI; omega
theorem clampI_id (n lo hi : Int) (h1 : lo ≤ n) (h2 : n ≤ hi) : clampI n lo hi = n := by unfold clampI; omega
theorem clampI_mono (x y lo hi : Int) (h : x ≤ y) : clampI x lo hi ≤ clampI y lo hi := by unfold clampI; omega
theorem lens_len : lens.length = 29 := rfl
theorem dists_len : dists.length = 30 := rfl
theorem len_0 : least lens 0 = 3 := rfl
theorem dist_0 : least dists 0 = 1 := rfl

theorem lenS_lt (n : Int) : lenS n < 29 := sym_lt _ lens (by decide)
theorem distS_lt (n : Int) : distS n < 30 := sym_lt _ dists (by decide)
theorem lenX_is (n : Int) : (least lens (lenS n) : Int) + (lenX n : Int) = clampI n 3 258 ∧ lenX n < 2 ^ wid lens (lenS n) := by
  have hc := clampI_in n 3 258 (by omega)
  have h1 := (sym_is (R := lens) (clampI n 3 258) (by decide) (by rw [len_0]; omega)).1
  have h2 := sym_wid (R := lens) (clampI n 3 258) (by decide) rise_lens (by rw [len_0]; omega) (by
    have e : least lens (lens.length - 1) + 2 ^ wid lens (lens.length - 1) = 259 := by decide +kernel
    rw [e]; omega)
  have h1' : (least lens (lenS n) : Int) ≤ clampI n 3 258 := h1
  have h2' : clampI n 3 258 < (least lens (lenS n) + 2 ^ wid lens (lenS n) : Nat) := h2
  unfold lenX
  generalize 2 ^ wid lens (lenS n) = p at h2' ⊢
  omega
theorem distX_is (n : Int) : (least dists (distS n) : Int) + (distX n : Int) = clampI n 1 32768 ∧ distX n < 2 ^ wid dists (distS n) := by
  have hc := clampI_in n 1 32768 (by omega)
  have h1 := (sym_is (R := dists) (clampI n 1 32768) (by decide) (by rw [dist_0]; omega)).1
  have h2 := sym_wid (R := dists) (clampI n 1 32768) (by decide) rise_dists (by rw [dist_0]; omega) (by
    have e : least dists (dists.length - 1) + 2 ^ wid dists (dists.length - 1) = 32769 := by decide +kernel
    rw [e]; omega)
  have h1' : (least dists (distS n) : Int) ≤ clampI n 1 32768 := h1
  have h2' : clampI n 1 32768 < (least dists (distS n) + 2 ^ wid dists (distS n) : Nat) := h2
  unfold distX
  generalize 2 ^ wid dists (distS n) = p at h2' ⊢
  omega
theorem lenX_le (n : Int) : lenX n ≤ 258 ∧ least lens (lenS n) ≤ 258 := by
  have h := (lenX_is n).1
  have hc := clampI_in n 3 258 (by omega)
  omega
theorem distX_le (n : Int) : distX n ≤ 32768 ∧ least dists (distS n) ≤ 32768 := by
  have h := (distX_is n).1
  have hc := clampI_in n 1 32768 (by omega)
  omega
theorem lens_wid (i : Nat) : wid lens i ≤ 13 := by
  rcases Nat.lt_or_ge i 29 with h | h
  · have := (by decide +kernel : ∀ i : Fin 29, wid lens (i : Nat) ≤ 13) ⟨i, h⟩
    exact this
  · unfold wid; rw [getElem!_neg lens i (by simp [lens_len]; omega)]; exact Nat.zero_le _
theorem dists_wid (i : Nat) : wid dists i ≤ 13 := by
  rcases Nat.lt_or_ge i 30 with h | h
  · have := (by decide +kernel : ∀ i : Fin 30, wid dists (i : Nat) ≤ 13) ⟨i, h⟩
    exact this
  · unfold wid; rw [getElem!_neg dists i (by simp [dists_len]; omega)]; exact Nat.zero_le _
theorem lenS_mono (x y : Int) (h : x ≤ y) : lenS x ≤ lenS y ∧ (lenS x = lenS y → lenX x ≤ lenX y) := by
  have hc := clampI_in x 3 258 (by omega)
  have hm := clampI_mono x y 3 258 h
  refine ⟨sym_mono (R := lens) _ _ (by decide) (by rw [len_0]; omega) hm, fun e => ?_⟩
  have h1 := (lenX_is x).1
  have h2 := (lenX_is y).1
  rw [e] at h1
  omega
theorem distS_mono (x y : Int) (h : x ≤ y) : distS x ≤ distS y ∧ (distS x = distS y → distX x ≤ distX y) := by
  have hc := clampI_in x 1 32768 (by omega)
  have hm := clampI_mono x y 1 32768 h
  refine ⟨sym_mono (R := dists) _ _ (by decide) (by rw [dist_0]; omega) hm, fun e => ?_⟩
  have h1 := (distX_is x).1
  have h2 := (distX_is y).1
  rw [e] at h1
  omega
theorem fix_len : fixA.length = 288 ∧ fixB.length = 32 := by decide +kernel
theorem fix_at (k : Nat) (h : k < 288) : fixA[k]! = (if 143 < k ∧ k < 256 then 9 else if 255 < k ∧ k < 280 then 7 else 8) ∧ fixB[k % 32]! = 5 := by
  have := (by decide +kernel : ∀ k : Fin 288, fixA[(k : Nat)]! = (if 143 < (k : Nat) ∧ (k : Nat) < 256 then 9 else if 255 < (k : Nat) ∧ (k : Nat) < 280 then 7 else 8) ∧ fixB[(k : Nat) % 32]! = 5) ⟨k, h⟩
  exact this
end Go.Proofs.YtamcgenjlndfjaaDoor.SyM
