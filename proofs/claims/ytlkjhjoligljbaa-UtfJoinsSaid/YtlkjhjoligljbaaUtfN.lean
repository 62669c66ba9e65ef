/-
  Plain mathematics of layer 3's laws: a number's bytes, what is too long, fronts.
-/
import Derived.Test.YtlkjhjoligljbaaUtfM
namespace Go.Proofs.Ytlkjhjoligljbaa.UtfM

theorem ofN {n : Nat} (h : n < 256) : (UInt8.ofNat n).toNat = n := by simp; omega
/-- what a character's bytes are -/
theorem put_forms (n : Nat) (h : put (n : Int) ≠ []) : (∃ a, put (n : Int) = [a] ∧ a.toNat < 128) ∨ (∃ a b, put (n : Int) = [a, b] ∧ ok2 a b) ∨ (∃ a b c, put (n : Int) = [a, b, c] ∧ ok3 a b c) ∨ (∃ a b c d, put (n : Int) = [a, b, c, d] ∧ ok4 a b c d) := by
  unfold put at h ⊢
  split at h
  · exact absurd rfl h
  · rename_i h0
    rw [if_neg h0]
    split
    · left
      exact ⟨_, rfl, by rw [ofN (by omega)]; omega⟩
    · split
      · right; left
        refine ⟨_, _, rfl, ?_⟩
        unfold ok2 cont
        rw [ofN (by omega), ofN (by omega)]
        omega
      · split
        · right; right; left
          refine ⟨_, _, _, rfl, ?_⟩
          unfold ok3 cont
          rw [ofN (by omega), ofN (by omega), ofN (by omega)]
          omega
        · right; right; right
          refine ⟨_, _, _, _, rfl, ?_⟩
          unfold ok4 cont
          rw [ofN (by omega), ofN (by omega), ofN (by omega), ofN (by omega)]
          omega
theorem nx_put (n : Nat) (h : put (n : Int) ≠ []) : nx (put (n : Int)) = (put (n : Int)).length := by
  rcases put_forms n h with ⟨a, e, h1⟩ | ⟨a, b, e, h1⟩ | ⟨a, b, c, e, h1⟩ | ⟨a, b, c, d, e, h1⟩
  · rw [e]; simp [nx, h1]
  · rw [e]
    have h0 : ¬ a.toNat < 128 := by unfold ok2 at h1; omega
    simp [nx, h0, h1]
  · rw [e]
    have h0 : ¬ a.toNat < 128 := by unfold ok3 at h1; omega
    have h2 : ¬ ok2 a b := by unfold ok3 at h1; unfold ok2; omega
    simp [nx, h0, h1, h2]
  · rw [e]
    have h0 : ¬ a.toNat < 128 := by unfold ok4 at h1; omega
    have h2 : ¬ ok2 a b := by unfold ok4 at h1; unfold ok2; omega
    have h3 : ¬ ok3 a b c := by unfold ok4 at h1; unfold ok3; omega
    simp [nx, h0, h1, h2, h3]
theorem put_len (n : Nat) : (put (n : Int)).length ≤ 4 := by
  unfold put
  (repeat' split) <;> simp
theorem nx_front (n : Nat) (h : put (n : Int) ≠ []) (h1 : (put (n : Int)).length ≠ 1) : nx ((put (n : Int)).take ((put (n : Int)).length - 1)) = 0 := by
  rcases put_forms n h with ⟨a, e, h2⟩ | ⟨a, b, e, h2⟩ | ⟨a, b, c, e, h2⟩ | ⟨a, b, c, d, e, h2⟩
  · rw [e] at h1; simp at h1
  · rw [e]
    have h0 : ¬ a.toNat < 128 := by unfold ok2 at h2; omega
    simp [nx, h0]
  · rw [e]
    have h0 : ¬ a.toNat < 128 := by unfold ok3 at h2; omega
    have h3 : ¬ ok2 a b := by unfold ok3 at h2; unfold ok2; omega
    simp [nx, h0, h3]
  · rw [e]
    have h0 : ¬ a.toNat < 128 := by unfold ok4 at h2; omega
    have h3 : ¬ ok2 a b := by unfold ok4 at h2; unfold ok2; omega
    have h4 : ¬ ok3 a b c := by unfold ok4 at h2; unfold ok3; omega
    simp [nx, h0, h3, h4]
theorem nx_no2 (a b : UInt8) (h0 : ¬ a.toNat < 128) (h2 : ¬ ok2 a b) : nx [a, b] = 0 := by simp [nx, h0, h2]
theorem nx_no3 (a b c : UInt8) (h0 : ¬ a.toNat < 128) (h2 : ¬ ok2 a b) (h3 : ¬ ok3 a b c) : nx [a, b, c] = 0 := by simp [nx, h0, h2, h3]
theorem nx_no4 (a b c d : UInt8) (h0 : ¬ a.toNat < 128) (h2 : ¬ ok2 a b) (h3 : ¬ ok3 a b c) (h4 : ¬ ok4 a b c d) : nx [a, b, c, d] = 0 := by simp [nx, h0, h2, h3, h4]
/-- what has more bytes than it needs -/
theorem long2 (x : Nat) (h : x < 128) : nx [UInt8.ofNat (192 + x / 64), UInt8.ofNat (128 + x % 64)] = 0 := by
  apply nx_no2
  · rw [ofN (by omega)]; omega
  · unfold ok2 cont; rw [ofN (by omega), ofN (by omega)]; omega
theorem long3 (x : Nat) (h : x < 2048) : nx [224, UInt8.ofNat (128 + x / 64), UInt8.ofNat (128 + x % 64)] = 0 := by
  have e : (224 : UInt8).toNat = 224 := rfl
  apply nx_no3
  · rw [e]; omega
  · unfold ok2 cont; rw [e, ofN (by omega)]; omega
  · unfold ok3 cont; rw [e, ofN (by omega), ofN (by omega)]; omega
theorem long4 (x : Nat) (h : x < 65536) : nx [240, UInt8.ofNat (128 + x / 4096), UInt8.ofNat (128 + x / 64 % 64), UInt8.ofNat (128 + x % 64)] = 0 := by
  have e : (240 : UInt8).toNat = 240 := rfl
  apply nx_no4
  · rw [e]; omega
  · unfold ok2 cont; rw [e, ofN (by omega)]; omega
  · unfold ok3 cont; rw [e, ofN (by omega), ofN (by omega)]; omega
  · unfold ok4 cont; rw [e, ofN (by omega), ofN (by omega), ofN (by omega)]; omega
/-- what is no character's number -/
theorem bad3 (k : Nat) (h1 : 55296 ≤ k) (h2 : k ≤ 57343) : nx [UInt8.ofNat (224 + k / 4096 % 16), UInt8.ofNat (128 + k / 64 % 64), UInt8.ofNat (128 + k % 64)] = 0 := by
  apply nx_no3
  · rw [ofN (by omega)]; omega
  · unfold ok2 cont; rw [ofN (by omega), ofN (by omega)]; omega
  · unfold ok3 cont; rw [ofN (by omega), ofN (by omega), ofN (by omega)]; omega
theorem bad4 (k : Nat) (h1 : 1114111 < k) (h2 : k < 1200000) : nx [UInt8.ofNat (240 + k / 262144), UInt8.ofNat (128 + k / 4096 % 64), UInt8.ofNat (128 + k / 64 % 64), UInt8.ofNat (128 + k % 64)] = 0 := by
  apply nx_no4
  · rw [ofN (by omega)]; omega
  · unfold ok2 cont; rw [ofN (by omega), ofN (by omega)]; omega
  · unfold ok3 cont; rw [ofN (by omega), ofN (by omega), ofN (by omega)]; omega
  · unfold ok4 cont; rw [ofN (by omega), ofN (by omega), ofN (by omega), ofN (by omega)]; omega
theorem put_nil (k : Nat) (h : put (k : Int) = []) : 55296 ≤ k ∧ k ≤ 57343 ∨ 1114111 < k := by
  unfold put at h
  split at h
  · omega
  · split at h
    · simp at h
    · split at h
      · simp at h
      · split at h <;> simp at h
theorem wh_of_nx {B : List UInt8} (h : nx B = B.length) : wh B = B.length := by
  by_cases h0 : nx B = 0
  · rw [wh_zero h0]; omega
  · rw [wh_pos (by omega), h, List.drop_length, wh_nil]; omega
theorem nx_self (B : List UInt8) (h : 0 < nx B) : wh (B.take (nx B)) = nx B := by
  have h1 := nx_take B [] h
  rw [List.append_nil] at h1
  have hl : (B.take (nx B)).length = nx B := by have := (nx_le B).2; simp; omega
  have := wh_of_nx (B := B.take (nx B)) (by rw [h1, hl])
  rwa [hl] at this
end Go.Proofs.Ytlkjhjoligljbaa.UtfM
