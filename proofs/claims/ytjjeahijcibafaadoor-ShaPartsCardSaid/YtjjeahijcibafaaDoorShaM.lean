/-
  Plain mathematics of layer 4's tables: digits to the base 65536, roots, primes. Nothing of any program here.
-/
import Derived.WalkKit
namespace Go.Proofs.YtjjeahijcibafaaDoor.ShaM

/-- the number of digits to the base 65536, the lowest first -/
def v16 : List Nat → Nat
  | [] => 0
  | d :: l => d + 65536 * v16 l
def Dig (l : List Nat) : Prop := ∀ d ∈ l, d < 65536
theorem v16_append (a b : List Nat) : v16 (a ++ b) = v16 a + 65536 ^ a.length * v16 b := by
  induction a with
  | nil => simp [v16]
  | cons d a ih => rw [List.cons_append, v16, ih, v16, List.length_cons, Nat.pow_succ, Nat.mul_comm (65536 ^ a.length) 65536, Nat.mul_assoc]; omega
theorem v16_snoc (a : List Nat) (d : Nat) : v16 (a ++ [d]) = v16 a + 65536 ^ a.length * d := by rw [v16_append]; simp [v16]
theorem v16_zero (a : List Nat) : v16 (a ++ [0]) = v16 a := by rw [v16_snoc]; simp
theorem v16_lt {a : List Nat} (h : Dig a) : v16 a < 65536 ^ a.length := by
  induction a with
  | nil => simp [v16]
  | cons d a ih =>
    have h1 := ih (fun x hx => h x (List.mem_cons_of_mem _ hx))
    have h2 := h d (List.mem_cons_self ..)
    rw [v16, List.length_cons, Nat.pow_succ]
    omega
theorem v16_lead (k p : Nat) : v16 (List.replicate k 0 ++ [p]) = 65536 ^ k * p := by
  rw [v16_append]
  have : v16 (List.replicate k 0) = 0 := by
    induction k with
    | zero => rfl
    | succ k ih => rw [List.replicate_succ, v16, ih]
  rw [this]
  simp [v16]
theorem Dig.snoc {a : List Nat} {d : Nat} (h : Dig a) (hd : d < 65536) : Dig (a ++ [d]) := by
  intro x hx
  rcases List.mem_append.1 hx with hx | hx
  · exact h x hx
  · simp at hx; omega
theorem Dig.take {a : List Nat} (h : Dig a) (k : Nat) : Dig (a.take k) := fun x hx => h x (List.mem_of_mem_take hx)
/-- one digit times a number -/
theorem times_step (V P c d x T n : Nat) (h : V + P * c = T * x) (hn : n = d * x + c) : V + P * (n % 65536) + P * 65536 * (n / 65536) = (T + P * d) * x := by
  have e : n = 65536 * (n / 65536) + n % 65536 := (Nat.div_add_mod n 65536).symm
  have e2 : P * (n % 65536) + P * 65536 * (n / 65536) = P * n := by
    conv => rhs; rw [e]
    rw [Nat.mul_add, Nat.mul_assoc, Nat.add_comm]
  rw [Nat.add_assoc, e2, hn, Nat.add_mul, ← h, Nat.mul_add, Nat.mul_assoc]
  omega
theorem carry_le (d x c : Nat) (hd : d < 65536) (hc : c ≤ x) : (d * x + c) / 65536 ≤ x := by
  have h : d * x ≤ 65535 * x := Nat.mul_le_mul_right x (by omega)
  have : d * x + c ≤ 65536 * x := by omega
  exact Nat.div_le_of_le_mul this
theorem mul_bd (d x : Nat) (hd : d < 65536) (hx : x < 1099511627776) : d * x < 72057594037927936 := by
  have h : d * x ≤ 65535 * x := Nat.mul_le_mul_right x (by omega)
  omega
/-- the first digit from above that differs tells -/
theorem differ {A B : List Nat} (hA : Dig A) (hB : Dig B) (i : Nat) (a b : Nat) (ha : A[i]? = some a) (hb : B[i]? = some b) (hd : A.drop (i + 1) = B.drop (i + 1)) (hne : a ≠ b) : (v16 A ≤ v16 B) ↔ a < b := by
  obtain ⟨hla, ea⟩ := List.getElem?_eq_some_iff.1 ha
  obtain ⟨hlb, eb⟩ := List.getElem?_eq_some_iff.1 hb
  have sA : v16 A = v16 (A.take i) + 65536 ^ i * (a + 65536 * v16 (A.drop (i + 1))) := by
    conv => lhs; rw [← List.take_append_drop i A]
    rw [v16_append, List.drop_eq_getElem_cons hla, v16, ea, List.length_take, Nat.min_eq_left (by omega)]
  have sB : v16 B = v16 (B.take i) + 65536 ^ i * (b + 65536 * v16 (A.drop (i + 1))) := by
    rw [hd]
    conv => lhs; rw [← List.take_append_drop i B]
    rw [v16_append, List.drop_eq_getElem_cons hlb, v16, eb, List.length_take, Nat.min_eq_left (by omega)]
  have tA := v16_lt (hA.take i)
  have tB := v16_lt (hB.take i)
  rw [List.length_take, Nat.min_eq_left (by omega)] at tA tB
  generalize v16 (A.drop (i + 1)) = r at sA sB
  generalize (65536 : Nat) ^ i = P at *
  constructor
  · intro h
    rcases Nat.lt_or_ge a b with h1 | h1
    · exact h1
    · exfalso
      have h2 : P * (b + 1 + 65536 * r) ≤ P * (a + 65536 * r) := Nat.mul_le_mul_left P (by omega)
      rw [show b + 1 + 65536 * r = (b + 65536 * r) + 1 from by omega, Nat.mul_add P _ 1] at h2
      omega
  · intro h
    have h2 : P * (a + 1 + 65536 * r) ≤ P * (b + 65536 * r) := Nat.mul_le_mul_left P (by omega)
    rw [show a + 1 + 65536 * r = (a + 65536 * r) + 1 from by omega, Nat.mul_add P _ 1] at h2
    omega

/-- the greatest x between that fits -/
def bs (p k : Nat) : Nat → Nat → Nat → Nat
  | 0, lo, _ => lo
  | f + 1, lo, hi => if hi - lo ≤ 1 then lo else if ((lo + hi) / 2) ^ k ≤ p * 2 ^ (32 * k) then bs p k f ((lo + hi) / 2) hi else bs p k f lo ((lo + hi) / 2)
theorem bs_end (p k f lo hi : Nat) (h : hi - lo ≤ 1) : bs p k f lo hi = lo := by
  cases f with
  | zero => rfl
  | succ f => rw [bs, if_pos h]
/-- the primes below a number -/
def pr : Nat → List Nat
  | 0 => []
  | x + 1 => if 2 ≤ x ∧ (pr x).all (fun o => x % o != 0) = true then pr x ++ [x] else pr x
theorem pr_step (x : Nat) (h : 2 ≤ x) : pr (x + 1) = if (pr x).all (fun o => x % o != 0) = true then pr x ++ [x] else pr x := by
  rw [pr]
  simp [h]
theorem pr_mono (x k : Nat) : (pr x).length ≤ (pr (x + k)).length := by
  induction k with
  | zero => exact Nat.le_refl _
  | succ k ih =>
    rw [← Nat.add_assoc, pr]
    split
    · rw [List.length_append]; omega
    · exact ih
theorem pr_pos (x : Nat) : ∀ o ∈ pr x, 2 ≤ o ∧ o < x := by
  induction x with
  | zero => intro o ho; simp [pr] at ho
  | succ x ih =>
    intro o ho
    rw [pr] at ho
    split at ho
    · rename_i h
      rcases List.mem_append.1 ho with ho | ho
      · have := ih o ho; omega
      · simp at ho; omega
    · have := ih o ho; omega
def P64 : List Nat := [2, 3, 5, 7, 11, 13, 17, 19, 23, 29, 31, 37, 41, 43, 47, 53, 59, 61, 67, 71, 73, 79, 83, 89, 97, 101, 103, 107, 109, 113, 127, 131, 137, 139, 149, 151, 157, 163, 167, 173, 179, 181, 191, 193, 197, 199, 211, 223, 227, 229, 233, 239, 241, 251, 257, 263, 269, 271, 277, 281, 283, 293, 307, 311]
set_option maxRecDepth 100000 in
theorem pr_312 : pr 312 = P64 := by decide +kernel
set_option maxRecDepth 100000 in
theorem pr_311 : (pr 311).length = 63 := by decide +kernel
def rootOf (p k : Nat) : Nat := bs p k 36 0 68719476736 % 4294967296
def first : List Nat := [0x6a09e667, 0xbb67ae85, 0x3c6ef372, 0xa54ff53a, 0x510e527f, 0x9b05688c, 0x1f83d9ab, 0x5be0cd19]
def keys : List Nat := [
  0x428a2f98, 0x71374491, 0xb5c0fbcf, 0xe9b5dba5, 0x3956c25b, 0x59f111f1, 0x923f82a4, 0xab1c5ed5,
  0xd807aa98, 0x12835b01, 0x243185be, 0x550c7dc3, 0x72be5d74, 0x80deb1fe, 0x9bdc06a7, 0xc19bf174,
  0xe49b69c1, 0xefbe4786, 0x0fc19dc6, 0x240ca1cc, 0x2de92c6f, 0x4a7484aa, 0x5cb0a9dc, 0x76f988da,
  0x983e5152, 0xa831c66d, 0xb00327c8, 0xbf597fc7, 0xc6e00bf3, 0xd5a79147, 0x06ca6351, 0x14292967,
  0x27b70a85, 0x2e1b2138, 0x4d2c6dfc, 0x53380d13, 0x650a7354, 0x766a0abb, 0x81c2c92e, 0x92722c85,
  0xa2bfe8a1, 0xa81a664b, 0xc24b8b70, 0xc76c51a3, 0xd192e819, 0xd6990624, 0xf40e3585, 0x106aa070,
  0x19a4c116, 0x1e376c08, 0x2748774c, 0x34b0bcb5, 0x391c0cb3, 0x4ed8aa4a, 0x5b9cca4f, 0x682e6ff3,
  0x748f82ee, 0x78a5636f, 0x84c87814, 0x8cc70208, 0x90befffa, 0xa4506ceb, 0xbef9a3f7, 0xc67178f2]
set_option maxRecDepth 100000 in
theorem first_roots : (P64.take 8).map (rootOf · 2) = first := by decide +kernel
set_option maxRecDepth 100000 in
theorem keys_roots : P64.map (rootOf · 3) = keys := by decide +kernel
/-- a word turned right, bit by bit -/
def tr : Nat → Nat → Nat
  | 0, x => x
  | n + 1, x => tr n x / 2 + tr n x % 2 * 2147483648
def sh (n x : Nat) : Nat := x / 2 ^ n
theorem tr_lt (n x : Nat) (h : x < 4294967296) : tr n x < 4294967296 := by
  induction n with
  | zero => exact h
  | succ n ih => rw [tr]; omega
theorem sh_lt (n x : Nat) (h : x < 4294967296) : sh n x < 4294967296 := Nat.lt_of_le_of_lt (Nat.div_le_self _ _) h
end Go.Proofs.YtjjeahijcibafaaDoor.ShaM
