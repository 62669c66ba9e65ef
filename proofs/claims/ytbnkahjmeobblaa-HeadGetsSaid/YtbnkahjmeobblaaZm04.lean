/-
  Plain mathematics of layer 3: characters' bytes, and texts that are cut into them. Nothing of any program here.
  Plain mathematics of layer 14: which values may be, a value's bytes, the value of a kind that bytes are.
-/
import Derived.WalkKit
import Derived.Test.YtbnkahjmeobblaaZm03
namespace Go.Proofs.Ytbnkahjmeobblaa.UtfM

/-- a character's bytes; none of a number that is none's -/
def put (n : Int) : List UInt8 :=
  if n < 0 ∨ 1114111 < n ∨ 55296 ≤ n ∧ n ≤ 57343 then [] else
  if n < 128 then [UInt8.ofNat n.toNat] else
  if n < 2048 then [UInt8.ofNat (192 + n.toNat / 64), UInt8.ofNat (128 + n.toNat % 64)] else
  if n < 65536 then [UInt8.ofNat (224 + n.toNat / 4096), UInt8.ofNat (128 + n.toNat / 64 % 64), UInt8.ofNat (128 + n.toNat % 64)] else
  [UInt8.ofNat (240 + n.toNat / 262144), UInt8.ofNat (128 + n.toNat / 4096 % 64), UInt8.ofNat (128 + n.toNat / 64 % 64), UInt8.ofNat (128 + n.toNat % 64)]
def cont (b : UInt8) : Prop := 128 ≤ b.toNat ∧ b.toNat < 192
instance (b : UInt8) : Decidable (cont b) := by unfold cont; infer_instance
def ok2 (a b : UInt8) : Prop := 194 ≤ a.toNat ∧ a.toNat < 224 ∧ cont b
def ok3 (a b c : UInt8) : Prop := 224 ≤ a.toNat ∧ a.toNat < 240 ∧ cont b ∧ cont c ∧ (a.toNat = 224 → 160 ≤ b.toNat) ∧ (a.toNat = 237 → b.toNat < 160)
def ok4 (a b c d : UInt8) : Prop := 240 ≤ a.toNat ∧ a.toNat < 245 ∧ cont b ∧ cont c ∧ cont d ∧ (a.toNat = 240 → 144 ≤ b.toNat) ∧ (a.toNat = 244 → b.toNat < 144)
instance (a b : UInt8) : Decidable (ok2 a b) := by unfold ok2; infer_instance
instance (a b c : UInt8) : Decidable (ok3 a b c) := by unfold ok3; infer_instance
instance (a b c d : UInt8) : Decidable (ok4 a b c d) := by unfold ok4; infer_instance
/-- how many bytes the character has with whose bytes a text begins; 0: none -/
def nx (B : List UInt8) : Nat :=
  match B with
  | [] => 0
  | a :: r => if a.toNat < 128 then 1 else match r with
    | [] => 0
    | b :: r => if ok2 a b then 2 else match r with
      | [] => 0
      | c :: r => if ok3 a b c then 3 else match r with
        | [] => 0
        | d :: _ => if ok4 a b c d then 4 else 0

theorem beq_ofNat (n : Nat) (b : UInt8) (h : n < 256) : UInt8.ofNat n = b ↔ n = b.toNat := by
  constructor
  · rintro rfl; simp; omega
  · rintro rfl; simp
theorem put1 (a : UInt8) : put (a.toNat : Int) = [a] ↔ a.toNat < 128 := by
  have ha := a.toNat_lt
  unfold put
  constructor
  · intro h
    split at h
    · simp at h
    · split at h
      · omega
      · split at h
        · simp at h
        · omega
  · intro h
    rw [if_neg (by omega), if_pos (by omega)]
    simp
theorem put2 (a b : UInt8) : put (((a.toNat : Int) - 192) * 64 + (b.toNat : Int) - 128) = [a, b] ↔ ok2 a b := by
  have ha := a.toNat_lt
  have hb := b.toNat_lt
  generalize hn : ((a.toNat : Int) - 192) * 64 + (b.toNat : Int) - 128 = n
  unfold put ok2 cont
  constructor
  · intro h
    split at h
    · simp at h
    · split at h
      · simp at h
      · split at h
        · simp only [List.cons.injEq, and_true] at h
          rw [beq_ofNat _ _ (by omega), beq_ofNat _ _ (by omega)] at h
          omega
        · split at h <;> simp at h
  · intro h
    rw [if_neg (by omega), if_neg (by omega), if_pos (by omega)]
    simp only [List.cons.injEq, and_true]
    rw [beq_ofNat _ _ (by omega), beq_ofNat _ _ (by omega)]
    omega
theorem put3 (a b c : UInt8) : put ((((a.toNat : Int) - 224) * 64 + (b.toNat : Int) - 128) * 64 + (c.toNat : Int) - 128) = [a, b, c] ↔ ok3 a b c := by
  have ha := a.toNat_lt
  have hb := b.toNat_lt
  have hc := c.toNat_lt
  generalize hn : (((a.toNat : Int) - 224) * 64 + (b.toNat : Int) - 128) * 64 + (c.toNat : Int) - 128 = n
  unfold put ok3 cont
  constructor
  · intro h
    split at h
    · simp at h
    · split at h
      · simp at h
      · split at h
        · simp at h
        · split at h
          · simp only [List.cons.injEq, and_true] at h
            rw [beq_ofNat _ _ (by omega), beq_ofNat _ _ (by omega), beq_ofNat _ _ (by omega)] at h
            omega
          · simp at h
  · intro h
    rw [if_neg (by omega), if_neg (by omega), if_neg (by omega), if_pos (by omega)]
    simp only [List.cons.injEq, and_true]
    rw [beq_ofNat _ _ (by omega), beq_ofNat _ _ (by omega), beq_ofNat _ _ (by omega)]
    omega
theorem put4 (a b c d : UInt8) : put (((((a.toNat : Int) - 240) * 64 + (b.toNat : Int) - 128) * 64 + (c.toNat : Int) - 128) * 64 + (d.toNat : Int) - 128) = [a, b, c, d] ↔ ok4 a b c d := by
  have ha := a.toNat_lt
  have hb := b.toNat_lt
  have hc := c.toNat_lt
  have hd := d.toNat_lt
  generalize hn : ((((a.toNat : Int) - 240) * 64 + (b.toNat : Int) - 128) * 64 + (c.toNat : Int) - 128) * 64 + (d.toNat : Int) - 128 = n
  unfold put ok4 cont
  constructor
  · intro h
    split at h
    · simp at h
    · split at h
      · simp at h
      · split at h
        · simp at h
        · split at h
          · simp at h
          · simp only [List.cons.injEq, and_true] at h
            rw [beq_ofNat _ _ (by omega), beq_ofNat _ _ (by omega), beq_ofNat _ _ (by omega), beq_ofNat _ _ (by omega)] at h
            omega
  · intro h
    rw [if_neg (by omega), if_neg (by omega), if_neg (by omega), if_neg (by omega)]
    simp only [List.cons.injEq, and_true]
    rw [beq_ofNat _ _ (by omega), beq_ofNat _ _ (by omega), beq_ofNat _ _ (by omega), beq_ofNat _ _ (by omega)]
    omega

/-- the number that k bytes would tell, so far -/
def off (k : Nat) : Int := if k = 2 then 192 else if k = 3 then 224 else if k = 4 then 240 else 0
def pn (k : Nat) (B : List UInt8) : Nat → Int
  | 0 => ((B.getD 0 0).toNat : Int) - off k
  | i + 1 => pn k B i * 64 + ((B.getD (i + 1) 0).toNat : Int) - 128
theorem pn_bd (k : Nat) (B : List UInt8) (i : Nat) (hi : i ≤ 3) : -100000000 ≤ pn k B i ∧ pn k B i ≤ 100000000 := by
  have h0 := (B.getD 0 0).toNat_lt
  have h1 := (B.getD 1 0).toNat_lt
  have h2 := (B.getD 2 0).toNat_lt
  have h3 := (B.getD 3 0).toNat_lt
  have ho : 0 ≤ off k ∧ off k ≤ 240 := by unfold off; split; omega; split; omega; split <;> omega
  match i, hi with
  | 0, _ => simp only [pn]; omega
  | 1, _ => simp only [pn, Nat.zero_add]; omega
  | 2, _ => simp only [pn, Nat.zero_add, Nat.reduceAdd]; omega
  | 3, _ => simp only [pn, Nat.zero_add, Nat.reduceAdd]; omega
/-- is a character of k bytes here? -/
def hit (k : Nat) (B : List UInt8) : Prop := put (pn k B (k - 1)) = B.take k
instance (k : Nat) (B : List UInt8) : Decidable (hit k B) := by unfold hit; infer_instance
theorem hit1 (a : UInt8) (r : List UInt8) : hit 1 (a :: r) ↔ a.toNat < 128 := by
  rw [← put1]
  unfold hit
  simp [pn, off]
theorem hit2 (a b : UInt8) (r : List UInt8) : hit 2 (a :: b :: r) ↔ ok2 a b := by
  rw [← put2]
  unfold hit
  simp [pn, off]
theorem hit3 (a b c : UInt8) (r : List UInt8) : hit 3 (a :: b :: c :: r) ↔ ok3 a b c := by
  rw [← put3]
  unfold hit
  simp [pn, off]
theorem hit4 (a b c d : UInt8) (r : List UInt8) : hit 4 (a :: b :: c :: d :: r) ↔ ok4 a b c d := by
  rw [← put4]
  unfold hit
  simp [pn, off]
/-- the first k that hits -/
theorem nx_hits (B : List UInt8) (k : Nat) (h1 : 1 ≤ k) (h4 : k ≤ 4) (hl : k ≤ B.length) (hit_ : hit k B) (hno : ∀ j, 1 ≤ j → j < k → ¬ hit j B) : nx B = k := by
  match B with
  | [] => simp at hl; omega
  | [a] =>
    obtain rfl : k = 1 := by simp at hl; omega
    rw [hit1] at hit_
    simp [nx, hit_]
  | [a, b] =>
    rcases (show k = 1 ∨ k = 2 by simp at hl; omega) with rfl | rfl
    · rw [hit1] at hit_; simp [nx, hit_]
    · have n1 := hno 1 (by omega) (by omega)
      rw [hit1] at n1
      rw [hit2] at hit_
      simp [nx, n1, hit_]
  | [a, b, c] =>
    rcases (show k = 1 ∨ k = 2 ∨ k = 3 by simp at hl; omega) with rfl | rfl | rfl
    · rw [hit1] at hit_; simp [nx, hit_]
    · have n1 := hno 1 (by omega) (by omega)
      rw [hit1] at n1
      rw [hit2] at hit_
      simp [nx, n1, hit_]
    · have n1 := hno 1 (by omega) (by omega)
      have n2 := hno 2 (by omega) (by omega)
      rw [hit1] at n1
      rw [hit2] at n2
      rw [hit3] at hit_
      simp [nx, n1, n2, hit_]
  | a :: b :: c :: d :: r =>
    rcases (show k = 1 ∨ k = 2 ∨ k = 3 ∨ k = 4 by omega) with rfl | rfl | rfl | rfl
    · rw [hit1] at hit_; simp [nx, hit_]
    · have n1 := hno 1 (by omega) (by omega)
      rw [hit1] at n1
      rw [hit2] at hit_
      simp [nx, n1, hit_]
    · have n1 := hno 1 (by omega) (by omega)
      have n2 := hno 2 (by omega) (by omega)
      rw [hit1] at n1
      rw [hit2] at n2
      rw [hit3] at hit_
      simp [nx, n1, n2, hit_]
    · have n1 := hno 1 (by omega) (by omega)
      have n2 := hno 2 (by omega) (by omega)
      have n3 := hno 3 (by omega) (by omega)
      rw [hit1] at n1
      rw [hit2] at n2
      rw [hit3] at n3
      rw [hit4] at hit_
      simp [nx, n1, n2, n3, hit_]
theorem nx_none (B : List UInt8) (hno : ∀ j, 1 ≤ j → j ≤ 4 → j ≤ B.length → ¬ hit j B) : nx B = 0 := by
  match B with
  | [] => rfl
  | [a] =>
    have n1 := hno 1 (by omega) (by omega) (by simp)
    rw [hit1] at n1
    simp [nx]; omega
  | [a, b] =>
    have n1 := hno 1 (by omega) (by omega) (by simp)
    have n2 := hno 2 (by omega) (by omega) (by simp)
    rw [hit1] at n1
    rw [hit2] at n2
    simp [nx, n1, n2]
  | [a, b, c] =>
    have n1 := hno 1 (by omega) (by omega) (by simp)
    have n2 := hno 2 (by omega) (by omega) (by simp)
    have n3 := hno 3 (by omega) (by omega) (by simp)
    rw [hit1] at n1
    rw [hit2] at n2
    rw [hit3] at n3
    simp [nx, n1, n2, n3]
  | a :: b :: c :: d :: r =>
    have n1 := hno 1 (by omega) (by omega) (by simp)
    have n2 := hno 2 (by omega) (by omega) (by simp)
    have n3 := hno 3 (by omega) (by omega) (by simp)
    have n4 := hno 4 (by omega) (by omega) (by simp)
    rw [hit1] at n1
    rw [hit2] at n2
    rw [hit3] at n3
    rw [hit4] at n4
    simp [nx, n1, n2, n3, n4]

theorem nx_le (B : List UInt8) : nx B ≤ 4 ∧ nx B ≤ B.length := by
  unfold nx
  (repeat' split) <;> simp_all
/-- only the character's own bytes count -/
theorem nx_take (B t : List UInt8) (h : 0 < nx B) : nx (B.take (nx B) ++ t) = nx B := by
  match B with
  | [] => simp [nx] at h
  | [a] =>
    by_cases h1 : a.toNat < 128
    · simp [nx, h1]
    · simp [nx, h1] at h
  | [a, b] =>
    by_cases h1 : a.toNat < 128
    · simp [nx, h1]
    · by_cases h2 : ok2 a b
      · simp [nx, h1, h2]
      · simp [nx, h1, h2] at h
  | [a, b, c] =>
    by_cases h1 : a.toNat < 128
    · simp [nx, h1]
    · by_cases h2 : ok2 a b
      · simp [nx, h1, h2]
      · by_cases h3 : ok3 a b c
        · simp [nx, h1, h2, h3]
        · simp [nx, h1, h2, h3] at h
  | a :: b :: c :: d :: r =>
    by_cases h1 : a.toNat < 128
    · simp [nx, h1]
    · by_cases h2 : ok2 a b
      · simp [nx, h1, h2]
      · by_cases h3 : ok3 a b c
        · simp [nx, h1, h2, h3]
        · by_cases h4 : ok4 a b c d
          · simp [nx, h1, h2, h3, h4]
          · simp [nx, h1, h2, h3, h4] at h
/-- how many bytes the characters have that a text begins with -/
def wh (B : List UInt8) : Nat := if _h : 0 < nx B then nx B + wh (B.drop (nx B)) else 0
termination_by B.length
decreasing_by have := (nx_le B).2; simp; omega
theorem wh_pos {B : List UInt8} (h : 0 < nx B) : wh B = nx B + wh (B.drop (nx B)) := by rw [wh, dif_pos h]
theorem wh_zero {B : List UInt8} (h : nx B = 0) : wh B = 0 := by rw [wh, dif_neg (by omega)]
theorem wh_le (B : List UInt8) : wh B ≤ B.length := by
  induction B using wh.induct with
  | case1 B h ih => rw [wh_pos h]; have := (nx_le B).2; simp at ih; omega
  | case2 B h => rw [wh_zero (by omega)]; omega
theorem wh_nil : wh [] = 0 := wh_zero rfl
theorem nx_app (B t : List UInt8) (h : 0 < nx B) : nx (B ++ t) = nx B := by
  have := nx_take B (B.drop (nx B) ++ t) h
  rwa [← List.append_assoc, List.take_append_drop] at this
/-- texts that are UTF-8, one behind the other -/
theorem wh_app (B t : List UInt8) : wh (B.take (wh B) ++ t) = wh B + wh t := by
  induction B using wh.induct with
  | case1 B h ih =>
    have hl := (nx_le B).2
    have e : B.take (wh B) ++ t = B.take (nx B) ++ ((B.drop (nx B)).take (wh (B.drop (nx B))) ++ t) := by
      rw [wh_pos h, List.take_add, List.append_assoc]
    have hn := nx_take B ((B.drop (nx B)).take (wh (B.drop (nx B))) ++ t) h
    rw [e, wh_pos (by rw [hn]; exact h), hn, wh_pos h]
    have hd : (B.take (nx B) ++ ((B.drop (nx B)).take (wh (B.drop (nx B))) ++ t)).drop (nx B) = (B.drop (nx B)).take (wh (B.drop (nx B))) ++ t := by
      rw [List.drop_append_of_le_length (by simp; omega), List.drop_eq_nil_of_le (by simp; omega), List.nil_append]
    rw [hd, ih]
    omega
  | case2 B h => rw [wh_zero (B := B) (by omega)]; simp
theorem wh_all (B t : List UInt8) (h : wh B = B.length) : wh (B ++ t) = B.length + wh t := by
  have := wh_app B t
  rwa [h, List.take_length] at this
theorem wh_front (B : List UInt8) : wh (B.take (wh B)) = wh B := by
  have := wh_app B []
  rwa [List.append_nil, wh_nil] at this
theorem wh_more (B t : List UInt8) : wh B ≤ wh (B ++ t) := by
  have := wh_app B (B.drop (wh B) ++ t)
  rw [← List.append_assoc, List.take_append_drop] at this
  omega
end Go.Proofs.Ytbnkahjmeobblaa.UtfM
namespace Go.Proofs.Ytbnkahjmeobblaa.VaM
open Go Go.RowKit LebM UtfM

/-- how values of a kind are told: 0 by nothing, 1 by U, 2 by N, 3 by S that is UTF-8, 4 by S, 5: there is no such kind -/
def cl (k : Int) : Nat := if k = 0 ∨ k = 1 ∨ k = 2 then 0 else if k = 3 then 1 else if k = 4 ∨ k = 7 ∨ k = 8 then 2 else if k = 5 then 3 else if k = 6 then 4 else 5
theorem cl_le (k : Int) : cl k ≤ 5 := by unfold cl; (repeat' split) <;> omega
theorem cl0 {k : Int} (h : cl k = 0) : k = 0 ∨ k = 1 ∨ k = 2 := by unfold cl at h; (repeat' split at h) <;> omega
theorem cl1 {k : Int} (h : cl k = 1) : k = 3 := by unfold cl at h; (repeat' split at h) <;> omega
theorem cl2 {k : Int} (h : cl k = 2) : k = 4 ∨ k = 7 ∨ k = 8 := by unfold cl at h; (repeat' split at h) <;> omega
theorem cl3 {k : Int} (h : cl k = 3) : k = 5 := by unfold cl at h; (repeat' split at h) <;> omega
theorem cl4 {k : Int} (h : cl k = 4) : k = 6 := by unfold cl at h; (repeat' split at h) <;> omega
theorem cl5 {k : Int} (h : cl k = 5) : k < 0 ∨ 8 < k := by unfold cl at h; (repeat' split at h) <;> omega

/-- a value -/
structure V where
  k : Int
  u : Nat
  n : Int
  s : List UInt8
def V.ok (v : V) : Prop := (-9223372036854775808 ≤ v.k ∧ v.k < 9223372036854775808) ∧ v.u < 18446744073709551616 ∧ (-9223372036854775808 ≤ v.n ∧ v.n < 9223372036854775808)
def zeroV : V := ⟨0, 0, 0, []⟩
theorem V.ext' {v w : V} (h1 : v.k = w.k) (h2 : v.u = w.u) (h3 : v.n = w.n) (h4 : v.s = w.s) : v = w := by
  cases v; cases w
  simp only at h1 h2 h3 h4
  rw [h1, h2, h3, h4]
/-- two values are the same -/
def eqV (v w : V) : Bool := decide (v.k = w.k) && (decide (v.u = w.u) && (decide (v.n = w.n) && decide (v.s = w.s)))
theorem eqV_iff (v w : V) : eqV v w = true ↔ v = w := by
  unfold eqV
  simp only [Bool.and_eq_true, decide_eq_true_eq]
  exact ⟨fun ⟨h1, h2, h3, h4⟩ => V.ext' h1 h2 h3 h4, by rintro rfl; exact ⟨rfl, rfl, rfl, rfl⟩⟩
theorem eqV_self (v : V) : eqV v v = true := (eqV_iff v v).2 rfl
/-- may a value be? -/
def rightV (v : V) : Bool :=
  match cl v.k with
  | 0 => decide (v.u = 0) && decide (v.n = 0) && decide (v.s = [])
  | 1 => decide (v.n = 0) && decide (v.s = [])
  | 2 => decide (v.u = 0) && decide (v.s = [])
  | 3 => decide (v.u = 0) && decide (v.n = 0) && decide (v.s.length ≤ 4000) && decide (wh v.s = v.s.length)
  | 4 => decide (v.u = 0) && decide (v.n = 0) && decide (v.s.length ≤ 4000)
  | _ => false
/-- its bytes -/
def putV (v : V) : List UInt8 :=
  match cl v.k with
  | 1 => u v.u
  | 2 => s v.n
  | 3 => v.s
  | 4 => v.s
  | _ => []
/-- the value that bytes are, and whether there is one -/
def getC (c : Nat) (k : Int) (B : List UInt8) : V × Bool :=
  match c with
  | 0 => if B = [] then (⟨k, 0, 0, []⟩, true) else (zeroV, false)
  | 1 => if (gu B).2.2 = 0 ∧ (gu B).2.1 = B.length then (⟨k, (gu B).1, 0, []⟩, true) else (zeroV, false)
  | 2 => if (gs B).2.2 = 0 ∧ (gs B).2.1 = B.length then (⟨k, 0, (gs B).1, []⟩, true) else (zeroV, false)
  | 3 => if B.length ≤ 4000 ∧ wh B = B.length then (⟨k, 0, 0, B⟩, true) else (zeroV, false)
  | 4 => if B.length ≤ 4000 then (⟨k, 0, 0, B⟩, true) else (zeroV, false)
  | _ => (zeroV, false)
def getV (k : Int) (B : List UInt8) : V × Bool := getC (cl k) k B

theorem gu_lt (B : List UInt8) : (gu B).1 < 18446744073709551616 ∧ (gu B).2.1 ≤ B.length ∧ (gu B).2.2 ≤ 3 := by
  have h1 := spanK_le B
  have h2 := spanE_le B
  unfold gu
  split
  · exact ⟨by show (0 : Nat) < _; omega, Nat.zero_le _, h2⟩
  · split
    · exact ⟨Nat.mod_lt _ (by omega), h1.1, Nat.zero_le _⟩
    · exact ⟨by show (0 : Nat) < _; omega, Nat.zero_le _, Nat.le_refl _⟩
theorem gs_lt (B : List UInt8) : (-9223372036854775808 ≤ (gs B).1 ∧ (gs B).1 < 9223372036854775808) ∧ (gs B).2.1 ≤ B.length ∧ (gs B).2.2 ≤ 3 := by
  have h1 := spanK_le B
  have h2 := spanE_le B
  unfold gs
  split
  · exact ⟨by show (-9223372036854775808 : Int) ≤ 0 ∧ (0 : Int) < _; omega, Nat.zero_le _, h2⟩
  · split
    · exact ⟨sgn_bd _ _, h1.1, Nat.zero_le _⟩
    · exact ⟨by show (-9223372036854775808 : Int) ≤ 0 ∧ (0 : Int) < _; omega, Nat.zero_le _, Nat.le_refl _⟩
theorem gu_of {B : List UInt8} (h : (gu B).2.2 = 0 ∧ (gu B).2.1 = B.length) : u (gu B).1 = B := by
  obtain ⟨h0, h1⟩ := h
  unfold gu at h0 h1 ⊢
  by_cases he : spanE B ≠ 0
  · rw [if_pos he] at h0
    exact absurd h0 he
  · rw [if_neg he] at h0 h1 ⊢
    by_cases hu : u (val (B.take (spanK B)) % 18446744073709551616) = B.take (spanK B)
    · rw [if_pos hu] at h1 ⊢
      have h2 : spanK B = B.length := h1
      rw [h2, List.take_length] at hu
      rw [h2, List.take_length]
      exact hu
    · rw [if_neg hu] at h0
      exact absurd h0 (by simp)
theorem gs_of {B : List UInt8} (h : (gs B).2.2 = 0 ∧ (gs B).2.1 = B.length) : s (gs B).1 = B := by
  obtain ⟨h0, h1⟩ := h
  unfold gs at h0 h1 ⊢
  by_cases he : spanE B ≠ 0
  · rw [if_pos he] at h0
    exact absurd h0 he
  · rw [if_neg he] at h0 h1 ⊢
    by_cases hu : s (sgn (val (B.take (spanK B)) % 18446744073709551616) (spanK B)) = B.take (spanK B)
    · rw [if_pos hu] at h1 ⊢
      have h2 : spanK B = B.length := h1
      rw [h2, List.take_length] at hu
      rw [h2, List.take_length]
      exact hu
    · rw [if_neg hu] at h0
      exact absurd h0 (by simp)

theorem right_len {v : V} (h : rightV v = true) : v.s.length ≤ 4000 := by
  unfold rightV at h
  have hc := cl_le v.k
  rcases (show cl v.k = 0 ∨ cl v.k = 1 ∨ cl v.k = 2 ∨ cl v.k = 3 ∨ cl v.k = 4 ∨ cl v.k = 5 by omega) with e | e | e | e | e | e <;> rw [e] at h <;> simp at h
  · rw [h.2]; simp
  · rw [h.2]; simp
  · rw [h.2]; simp
  · exact h.1.2
  · exact h.2
/-- what may be is read as it was -/
theorem get_put {v : V} (hk : v.ok) (h : rightV v = true) : getV v.k (putV v) = (v, true) := by
  obtain ⟨k, x, n, t⟩ := v
  obtain ⟨_, hu, hn⟩ := hk
  simp only at hu hn
  unfold rightV at h
  unfold getV putV
  simp only at h ⊢
  have hc := cl_le k
  rcases (show cl k = 0 ∨ cl k = 1 ∨ cl k = 2 ∨ cl k = 3 ∨ cl k = 4 ∨ cl k = 5 by omega) with e | e | e | e | e | e
  all_goals rw [e] at h ⊢
  all_goals simp at h
  · obtain ⟨⟨rfl, rfl⟩, rfl⟩ := h
    simp [getC]
  · obtain ⟨rfl, rfl⟩ := h
    have := gu_back x [] hu
    rw [List.append_nil] at this
    simp only [getC]
    rw [this, if_pos ⟨rfl, rfl⟩]
  · obtain ⟨rfl, rfl⟩ := h
    have := gs_back n [] hn.1 hn.2
    rw [List.append_nil] at this
    simp only [getC]
    rw [this, if_pos ⟨rfl, rfl⟩]
  · obtain ⟨⟨⟨rfl, rfl⟩, h1⟩, h2⟩ := h
    simp only [getC]
    rw [if_pos ⟨h1, h2⟩]
  · obtain ⟨⟨rfl, rfl⟩, h1⟩ := h
    simp only [getC]
    rw [if_pos h1]
theorem zero_right (k : Int) (h : cl k = 0) : rightV ⟨k, 0, 0, []⟩ = true := by unfold rightV; simp [h]
/-- whatever is read may be, and has just these bytes -/
theorem put_get {k : Int} {B : List UInt8} {v : V} (h : getV k B = (v, true)) : v.k = k ∧ rightV v = true ∧ putV v = B := by
  unfold getV at h
  have hc := cl_le k
  rcases (show cl k = 0 ∨ cl k = 1 ∨ cl k = 2 ∨ cl k = 3 ∨ cl k = 4 ∨ cl k = 5 by omega) with e | e | e | e | e | e
  all_goals rw [e] at h
  all_goals simp only [getC] at h
  · by_cases hB : B = []
    · rw [if_pos hB] at h
      simp only [Prod.mk.injEq, and_true] at h
      subst h
      subst hB
      exact ⟨rfl, by simp [rightV, e], by simp [putV, e]⟩
    · rw [if_neg hB] at h; simp at h
  · by_cases hB : (gu B).2.2 = 0 ∧ (gu B).2.1 = B.length
    · rw [if_pos hB] at h
      simp only [Prod.mk.injEq, and_true] at h
      subst h
      exact ⟨rfl, by simp [rightV, e], by simp [putV, e]; exact gu_of hB⟩
    · rw [if_neg hB] at h; simp at h
  · by_cases hB : (gs B).2.2 = 0 ∧ (gs B).2.1 = B.length
    · rw [if_pos hB] at h
      simp only [Prod.mk.injEq, and_true] at h
      subst h
      exact ⟨rfl, by simp [rightV, e], by simp [putV, e]; exact gs_of hB⟩
    · rw [if_neg hB] at h; simp at h
  · by_cases hB : B.length ≤ 4000 ∧ wh B = B.length
    · rw [if_pos hB] at h
      simp only [Prod.mk.injEq, and_true] at h
      subst h
      exact ⟨rfl, by simp [rightV, e, hB], by simp [putV, e]⟩
    · rw [if_neg hB] at h; simp at h
  · by_cases hB : B.length ≤ 4000
    · rw [if_pos hB] at h
      simp only [Prod.mk.injEq, and_true] at h
      subst h
      exact ⟨rfl, by simp [rightV, e, hB], by simp [putV, e]⟩
    · rw [if_neg hB] at h; simp at h
  · simp at h
theorem get_no {k : Int} {B : List UInt8} (h : (getV k B).2 = false) : getV k B = (zeroV, false) := by
  unfold getV at h ⊢
  have hc := cl_le k
  rcases (show cl k = 0 ∨ cl k = 1 ∨ cl k = 2 ∨ cl k = 3 ∨ cl k = 4 ∨ cl k = 5 by omega) with e | e | e | e | e | e
  all_goals rw [e] at h ⊢
  all_goals simp only [getC] at h ⊢
  all_goals (try (split at h <;> simp_all))
theorem get_ok {k : Int} {B : List UInt8} (hk : -9223372036854775808 ≤ k ∧ k < 9223372036854775808) : (getV k B).1.ok := by
  have hz : zeroV.ok := ⟨by show (-9223372036854775808 : Int) ≤ 0 ∧ (0 : Int) < _; omega, by show (0 : Nat) < _; omega, by show (-9223372036854775808 : Int) ≤ 0 ∧ (0 : Int) < _; omega⟩
  have h0 : (0 : Nat) < 18446744073709551616 := by omega
  have h1 : (-9223372036854775808 : Int) ≤ 0 ∧ (0 : Int) < 9223372036854775808 := by omega
  unfold getV
  have hc := cl_le k
  rcases (show cl k = 0 ∨ cl k = 1 ∨ cl k = 2 ∨ cl k = 3 ∨ cl k = 4 ∨ cl k = 5 by omega) with e | e | e | e | e | e
  all_goals rw [e]
  all_goals simp only [getC]
  · split
    · exact ⟨hk, h0, h1⟩
    · exact hz
  · split
    · exact ⟨hk, (gu_lt B).1, h1⟩
    · exact hz
  · split
    · exact ⟨hk, h0, (gs_lt B).1⟩
    · exact hz
  · split
    · exact ⟨hk, h0, h1⟩
    · exact hz
  · split
    · exact ⟨hk, h0, h1⟩
    · exact hz
  · exact hz
/-- what the program asks: is a value read from its bytes as it was? -/
theorem right_iff {v : V} (hk : v.ok) : rightV v = (decide (v.s.length ≤ 4000) && ((getV v.k (putV v)).2 && eqV (getV v.k (putV v)).1 v)) := by
  obtain ⟨g, hg⟩ : ∃ g, g = getV v.k (putV v) := ⟨_, rfl⟩
  rw [← hg]
  cases hr : rightV v with
  | true =>
    rw [get_put hk hr] at hg
    rw [hg]
    have := right_len hr
    simp [eqV_self, this]
  | false =>
    obtain ⟨x, b⟩ := g
    cases b with
    | false => simp
    | true =>
      have h1 := put_get hg.symm
      have h2 : eqV x v = false := by
        cases h3 : eqV x v with
        | false => rfl
        | true =>
          rw [(eqV_iff x v).1 h3, hr] at h1
          exact absurd h1.2.1 (by simp)
      simp [h2]
/-- two of a kind that may be have the same bytes just if they are the same -/
theorem put_apart {v w : V} (hv : v.ok) (hw : w.ok) (h1 : rightV v = true) (h2 : rightV w = true) (hk : v.k = w.k) : decide (putV v = putV w) = eqV v w := by
  by_cases h : putV v = putV w
  · have a := get_put hv h1
    have b := get_put hw h2
    rw [h, hk, b] at a
    simp only [Prod.mk.injEq, and_true] at a
    subst a
    rw [eqV_self]
    simp
  · cases h3 : eqV v w with
    | false => simp [h]
    | true => exact absurd (by rw [(eqV_iff v w).1 h3]) h
theorem put_len {v : V} (hv : v.ok) (h : v.s.length ≤ 1000000) : (putV v).length ≤ 1000000 := by
  unfold putV
  have h1 := u_len10 hv.2.1
  have h2 := s_len10 hv.2.2.1 hv.2.2.2
  have hc := cl_le v.k
  rcases (show cl v.k = 0 ∨ cl v.k = 1 ∨ cl v.k = 2 ∨ cl v.k = 3 ∨ cl v.k = 4 ∨ cl v.k = 5 by omega) with e | e | e | e | e | e
  all_goals rw [e]
  all_goals simp only [List.length_nil]
  all_goals omega
end Go.Proofs.Ytbnkahjmeobblaa.VaM
