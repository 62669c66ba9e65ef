/-
  Layer 6, plain: how many tokens there are; of bytes of one kind; what a match is, where it ends.
-/
import Derived.Test.YtgieckdfbkonpaaLzN
namespace Go.Proofs.Ytgieckdfbkonpaa.LzV
open LzM LzN

theorem pressF_len (B : List UInt8) : ∀ f i, i ≤ B.length → (pressF B f i).length ≤ B.length - i
  | 0, i, h => by simp [pressF]
  | f + 1, i, h => by
    rw [pressF]
    split
    · rename_i hlt
      split
      · have := pressF_len B f (i + 1) (by omega)
        rw [List.length_cons]
        omega
      · rename_i h3
        have hin := best_in B i h (min i 32768)
        have e : best B i (min i 32768) = find B i := rfl
        rw [e] at hin
        have := pressF_len B f (i + (find B i).1) hin
        rw [List.length_cons]
        omega
    · simp
theorem press_len (B : List UInt8) : (press B).length ≤ B.length := by
  have := pressF_len B B.length 0 (Nat.zero_le _)
  unfold press
  omega
/-- nothing less opens: the error is 4 -/
theorem open_short (B : List UInt8) (most : Int) (hm : most < (B.length : Int)) : ∀ f i, B.length ≤ i + f → i < B.length → openT most (B.take i) (pressF B f i) = .error 4
  | 0, i, h, hi => by omega
  | f + 1, i, h, hi => by
    rw [pressF, if_pos hi]
    have h1 : (B.take i).length = i := by rw [List.length_take]; omega
    split
    · rw [openT, if_neg (by simp [rightT, lit])]
      have hw : wide (lit B[i]!) = 1 := rfl
      rw [hw, h1]
      by_cases hc : ((i + 1 : Nat) : Int) > most
      · rw [if_pos hc]
      · rw [if_neg hc]
        have h3 : B.take i ++ [B[i]!] = B.take (i + 1) := by
          rw [getElem!_pos B i hi, List.take_append_getElem]
        have ha : addT (B.take i) (lit B[i]!) = B.take (i + 1) := by rw [addT, if_pos (show (lit B[i]!).l = 0 from rfl)]; exact h3
        rw [ha]
        by_cases hj : i + 1 < B.length
        · exact open_short B most hm f (i + 1) (by omega) hj
        · omega
    · rename_i hc
      obtain ⟨p, hp⟩ : ∃ p, p = find B i := ⟨_, rfl⟩
      rw [← hp] at hc ⊢
      have e1 : 1 ≤ p.2 ∧ p.1 = len B i p.2 := by rw [hp]; exact best_is B i _ (by rw [hp] at hc; unfold find at hc; omega)
      have e2 : p.1 ≤ 258 ∧ p.2 ≤ min i 32768 := by rw [hp]; exact best_le B i _
      have e3 : i + p.1 ≤ B.length := by rw [hp]; exact best_in B i (by omega) _
      have hl : (mat p.1 p.2).l ≠ 0 := by simp [mat]; omega
      have hr : rightT (mat p.1 p.2) ((B.take i).length : Nat) = true := by
        rw [h1, rightT, if_neg (by simp [mat]; omega)]
        simp [mat]
        omega
      have hw : wide (mat p.1 p.2) = p.1 := by rw [wide, if_neg hl]; simp [mat]
      have ha : addT (B.take i) (mat p.1 p.2) = B.take (i + p.1) := by
        rw [addT, if_neg hl]
        have := copy_take B i p.2 e1.1 (by omega) p.1 0 (by omega) (fun j _ hj => same_eq B i p.2 258 0 j (by omega) (by rw [e1.2] at hj; unfold len at hj; omega))
        simpa [mat] using this
      rw [openT, if_neg (by rw [hr]; simp), hw, h1]
      by_cases hcc : ((i + p.1 : Nat) : Int) > most
      · rw [if_pos hcc]
      · rw [if_neg hcc, ha]
        exact open_short B most hm f (i + p.1) (by omega) (by omega)
theorem open_press_short (B : List UInt8) (hB : 0 < B.length) : openT ((B.length : Int) - 1) [] (press B) = .error 4 := by
  have := open_short B ((B.length : Int) - 1) (by omega) B.length 0 (by omega) hB
  simpa [press] using this
/-- behind as many as are the same, within B and short of 258, they part -/
theorem same_end (B : List UInt8) (i d : Nat) : ∀ f n m, same B i d f n = m → m < n + f → ¬ (i + m < B.length ∧ B[i + m]! = B[i + m - d]!)
  | 0, n, m, h, hm => by unfold same at h; omega
  | f + 1, n, m, h, hm => by
    unfold same at h
    split at h
    · exact same_end B i d f (n + 1) m h (by omega)
    · rename_i hc
      rw [← h]
      exact hc
theorem len_end (B : List UInt8) (i d : Nat) (h : len B i d < 258) (hi : i + len B i d < B.length) : B[i + len B i d]! ≠ B[i + len B i d - d]! :=
  fun e => same_end B i d 258 0 (len B i d) rfl (by omega) ⟨hi, e⟩
/-- a token that bytes are pressed to, and what follows it -/
theorem pressF_cases (B : List UInt8) (f i : Nat) (t : Tok) (T : List Tok) (h : pressF B f i = t :: T) : ∃ f', f = f' + 1 ∧ i < B.length ∧
    ((t = lit B[i]! ∧ (find B i).1 < 3 ∧ T = pressF B f' (i + 1)) ∨ ∃ L D : Nat, t = mat L D ∧ 3 ≤ L ∧ L ≤ 258 ∧ 1 ≤ D ∧ D ≤ i ∧ D ≤ 32768 ∧ i + L ≤ B.length ∧ L = len B i D ∧ find B i = (L, D) ∧ T = pressF B f' (i + L)) := by
  match f, h with
  | 0, h => cases h
  | f + 1, h =>
    rw [pressF] at h
    split at h
    · rename_i hi
      refine ⟨f, rfl, hi, ?_⟩
      split at h
      · rename_i h3
        injection h with h1 h2
        exact .inl ⟨h1.symm, h3, h2.symm⟩
      · rename_i h3
        injection h with h1 h2
        have e1 : 1 ≤ (find B i).2 ∧ (find B i).1 = len B i (find B i).2 := best_is B i _ (by unfold find at h3; omega)
        have e2 : (find B i).1 ≤ 258 ∧ (find B i).2 ≤ min i 32768 := best_le B i _
        have e3 : i + (find B i).1 ≤ B.length := best_in B i (by omega) _
        exact .inr ⟨_, _, h1.symm, by omega, e2.1, e1.1, by omega, by omega, e3, e1.2, rfl, h2.symm⟩
    · cases h
theorem pressF_nil (B : List UInt8) (f i : Nat) (h : pressF B f i = []) (hi : B.length ≤ i + f) (hib : i ≤ B.length) : i = B.length := by
  match f, h with
  | 0, h => omega
  | f + 1, h =>
    rw [pressF] at h
    split at h
    · split at h <;> cases h
    · omega
/-- bytes of one kind: all of them are the same from any distance -/
theorem rep_len (n : Nat) (c : UInt8) (a d : Nat) (ha : a ≤ n) : len (List.replicate n c) a d = min 258 (n - a) := by
  have hat : ∀ j, j < n → (List.replicate n c)[j]! = c := fun j hj => by rw [getElem!_pos _ j (by simpa using hj)]; simp
  refine len_of _ a d _ (by omega) (fun j hj => ⟨by rw [List.length_replicate]; omega, by rw [hat _ (by omega), hat _ (by omega)]⟩) ?_
  rw [List.length_replicate]
  omega
theorem rep_find (n : Nat) (c : UInt8) (a : Nat) (h0 : 0 < a) (ha : a < n) : find (List.replicate n c) a = (min 258 (n - a), 1) := by
  have h1 : best (List.replicate n c) a 1 = (min 258 (n - a), 1) := by
    have e : best (List.replicate n c) a 1 = if (best (List.replicate n c) a 0).1 < len (List.replicate n c) a 1 then (len (List.replicate n c) a 1, 1) else best (List.replicate n c) a 0 := rfl
    rw [e, rep_len n c a 1 (by omega), if_pos (by show 0 < _; omega)]
  obtain ⟨m, hm⟩ : ∃ m, min a 32768 = 1 + m := ⟨min a 32768 - 1, by omega⟩
  unfold find
  rw [hm, best_full _ a 1 (by simp; omega) (by rw [h1]; simp) m, h1]
theorem rep_find0 (n : Nat) (c : UInt8) : find (List.replicate n c) 0 = (0, 0) := rfl
end Go.Proofs.Ytgieckdfbkonpaa.LzV
