/-
  What GetU and GetS read, in plain words: of a number's bytes, of their front, of whatever bytes.
  Plain mathematics of layer 3: characters' bytes, and texts that are cut into them. Nothing of any program here.
  Plain mathematics of layer 14: which values may be, a value's bytes, the value of a kind that bytes are.
  Plain mathematics of layer 17: names, which may name something, their order; ops, which may be; what they speak of.
  Plain mathematics of layer 18: tables of who is spoken of, their bytes, what is read of bytes.
-/
import Derived.Test.YtedmnkcoflbciaaGreatLebD
import Derived.WalkKit
namespace Go.Proofs.YtedmnkcoflbciaaGreat
open Go.RowKit LebM Mem Go.Lib

end Go.Proofs.YtedmnkcoflbciaaGreat
namespace Go.Proofs.YtedmnkcoflbciaaGreat.UtfM

/-- a character's bytes; none of a number that is none's -/
def put (n : Int) : List UInt8 :=
  if n < 0 ∨ 1114111 < n ∨ 55296 ≤ n ∧ n ≤ 57343 then [] else
  if n < 128 then [UInt8.ofNat n.toNat] else
  if n < 2048 then [UInt8.ofNat (192 + n.toNat / 64), UInt8.ofNat (128 + n.toNat % 64)] else
  if n < 65536 then [UInt8.ofNat (224 + n.toNat / 4096), UInt8.ofNat (128 + n.toNat / 64 % 64), UInt8.ofNat (128 + n.toNat % 64)] else
  [UInt8.ofNat (240 + n.toNat / 262144), UInt8.ofNat (128 + n.toNat / 4096 % 64), UInt8.ofNat (128 + n.toNat / 64 % 64), UInt8.ofNat (128 + n.toNat % 64)]
def cont (b : UInt8) : Prop := 128 ≤ b.toNat ∧ b.toNat < 192
instance (b : UInt8) : Decidable (cont b) := by unfold cont; infer_instance
def ok2 (a b : UInt8) : Prop := 194 ≤ a.toNat ∧ a.toNat < 224 ∧ cont b
def ok3 (a b c : UInt8) : Prop := 224 ≤ a.toNat ∧ a.toNat < 240 ∧ cont b ∧ cont c ∧ (a.toNat = 224 → 160 ≤ b.toNat) ∧ (a.toNat = 237 → b.toNat < 160)
def ok4 (a b c d : UInt8) : Prop := 240 ≤ a.toNat ∧ a.toNat < 245 ∧ cont b ∧ cont c ∧ cont d ∧ (a.toNat = 240 → 144 ≤ b.toNat) ∧ (a.toNat = 244 → b.toNat < 144)
instance (a b : UInt8) : Decidable (ok2 a b) := by unfold ok2; infer_instance
instance (a b c : UInt8) : Decidable (ok3 a b c) := by unfold ok3; infer_instance
instance (a b c d : UInt8) : Decidable (ok4 a b c d) := by unfold ok4; infer_instance
/-- how many bytes the character has with whose bytes a text begins; 0: none -/
def nx (B : List UInt8) : Nat :=
  match B with
  | [] => 0
  | a :: r => if a.toNat < 128 then 1 else match r with
    | [] => 0
    | b :: r => if ok2 a b then 2 else match r with
      | [] => 0
      | c :: r => if ok3 a b c then 3 else match r with
        | [] => 0
        | d :: _ => if ok4 a b c d then 4 else 0

theorem beq_ofNat (n : Nat) (b : UInt8) (h : n < 256) : UInt8.ofNat n = b ↔ n = b.toNat := by
  constructor
  · rintro rfl; simp; omega
  · rintro rfl; simp
theorem put1 (a : UInt8) : put (a.toNat : Int) = [a] ↔ a.toNat < 128 := by
  have ha := a.toNat_lt
  unfold put
  constructor
  · intro h
    split at h
    · simp at h
    · split at h
      · omega
      · split at h
        · simp at h
        · omega
  · intro h
    rw [if_neg (by omega), if_pos (by omega)]
    simp
theorem put2 (a b : UInt8) : put (((a.toNat : Int) - 192) * 64 + (b.toNat : Int) - 128) = [a, b] ↔ ok2 a b := by
  have ha := a.toNat_lt
  have hb := b.toNat_lt
  generalize hn : ((a.toNat : Int) - 192) * 64 + (b.toNat : Int) - 128 = n
  unfold put ok2 cont
  constructor
  · intro h
    split at h
    · simp at h
    · split at h
      · simp at h
      · split at h
        · simp only [List.cons.injEq, and_true] at h
          rw [beq_ofNat _ _ (by omega), beq_ofNat _ _ (by omega)] at h
          omega
        · split at h <;> simp at h
  · intro h
    rw [if_neg (by omega), if_neg (by omega), if_pos (by omega)]
    simp only [List.cons.injEq, and_true]
    rw [beq_ofNat _ _ (by omega), beq_ofNat _ _ (by omega)]
    omega
theorem put3 (a b c : UInt8) : put ((((a.toNat : Int) - 224) * 64 + (b.toNat : Int) - 128) * 64 + (c.toNat : Int) - 128) = [a, b, c] ↔ ok3 a b c := by
  have ha := a.toNat_lt
  have hb := b.toNat_lt
  have hc := c.toNat_lt
  generalize hn : (((a.toNat : Int) - 224) * 64 + (b.toNat : Int) - 128) * 64 + (c.toNat : Int) - 128 = n
  unfold put ok3 cont
  constructor
  · intro h
    split at h
    · simp at h
    · split at h
      · simp at h
      · split at h
        · simp at h
        · split at h
          · simp only [List.cons.injEq, and_true] at h
            rw [beq_ofNat _ _ (by omega), beq_ofNat _ _ (by omega), beq_ofNat _ _ (by omega)] at h
            omega
          · simp at h
  · intro h
    rw [if_neg (by omega), if_neg (by omega), if_neg (by omega), if_pos (by omega)]
    simp only [List.cons.injEq, and_true]
    rw [beq_ofNat _ _ (by omega), beq_ofNat _ _ (by omega), beq_ofNat _ _ (by omega)]
    omega
theorem put4 (a b c d : UInt8) : put (((((a.toNat : Int) - 240) * 64 + (b.toNat : Int) - 128) * 64 + (c.toNat : Int) - 128) * 64 + (d.toNat : Int) - 128) = [a, b, c, d] ↔ ok4 a b c d := by
  have ha := a.toNat_lt
  have hb := b.toNat_lt
  have hc := c.toNat_lt
  have hd := d.toNat_lt
  generalize hn : ((((a.toNat : Int) - 240) * 64 + (b.toNat : Int) - 128) * 64 + (c.toNat : Int) - 128) * 64 + (d.toNat : Int) - 128 = n
  unfold put ok4 cont
  constructor
  · intro h
    split at h
    · simp at h
    · split at h
      · simp at h
      · split at h
        · simp at h
        · split at h
          · simp at h
          · simp only [List.cons.injEq, and_true] at h
            rw [beq_ofNat _ _ (by omega), beq_ofNat _ _ (by omega), beq_ofNat _ _ (by omega), beq_ofNat _ _ (by omega)] at h
            omega
  · intro h
    rw [if_neg (by omega), if_neg (by omega), if_neg (by omega), if_neg (by omega)]
    simp only [List.cons.injEq, and_true]
    rw [beq_ofNat _ _ (by omega), beq_ofNat _ _ (by omega), beq_ofNat _ _ (by omega), beq_ofNat _ _ (by omega)]
    omega

/-- the number that k bytes would tell, so far -/
def off (k : Nat) : Int := if k = 2 then 192 else if k = 3 then 224 else if k = 4 then 240 else 0
def pn (k : Nat) (B : List UInt8) : Nat → Int
  | 0 => ((B.getD 0 0).toNat : Int) - off k
  | i + 1 => pn k B i * 64 + ((B.getD (i + 1) 0).toNat : Int) - 128
theorem pn_bd (k : Nat) (B : List UInt8) (i : Nat) (hi : i ≤ 3) : -100000000 ≤ pn k B i ∧ pn k B i ≤ 100000000 := by
  have h0 := (B.getD 0 0).toNat_lt
  have h1 := (B.getD 1 0).toNat_lt
  have h2 := (B.getD 2 0).toNat_lt
  have h3 := (B.getD 3 0).toNat_lt
  have ho : 0 ≤ off k ∧ off k ≤ 240 := by unfold off; split; omega; split; omega; split <;> omega
  match i, hi with
  | 0, _ => simp only [pn]; omega
  | 1, _ => simp only [pn, Nat.zero_add]; omega
  | 2, _ => simp only [pn, Nat.zero_add, Nat.reduceAdd]; omega
  | 3, _ => simp only [pn, Nat.zero_add, Nat.reduceAdd]; omega
/-- is a character of k bytes here? -/
def hit (k : Nat) (B : List UInt8) : Prop := put (pn k B (k - 1)) = B.take k
instance (k : Nat) (B : List UInt8) : Decidable (hit k B) := by unfold hit; infer_instance
theorem hit1 (a : UInt8) (r : List UInt8) : hit 1 (a :: r) ↔ a.toNat < 128 := by
  rw [← put1]
  unfold hit
  simp [pn, off]
theorem hit2 (a b : UInt8) (r : List UInt8) : hit 2 (a :: b :: r) ↔ ok2 a b := by
  rw [← put2]
  unfold hit
  simp [pn, off]
theorem hit3 (a b c : UInt8) (r : List UInt8) : hit 3 (a :: b :: c :: r) ↔ ok3 a b c := by
  rw [← put3]
  unfold hit
  simp [pn, off]
theorem hit4 (a b c d : UInt8) (r : List UInt8) : hit 4 (a :: b :: c :: d :: r) ↔ ok4 a b c d := by
  rw [← put4]
  unfold hit
  simp [pn, off]
/-- the first k that hits -/
theorem nx_hits (B : List UInt8) (k : Nat) (h1 : 1 ≤ k) (h4 : k ≤ 4) (hl : k ≤ B.length) (hit_ : hit k B) (hno : ∀ j, 1 ≤ j → j < k → ¬ hit j B) : nx B = k := by
  match B with
  | [] => simp at hl; omega
  | [a] =>
    obtain rfl : k = 1 := by simp at hl; omega
    rw [hit1] at hit_
    simp [nx, hit_]
  | [a, b] =>
    rcases (show k = 1 ∨ k = 2 by simp at hl; omega) with rfl | rfl
    · rw [hit1] at hit_; simp [nx, hit_]
    · have n1 := hno 1 (by omega) (by omega)
      rw [hit1] at n1
      rw [hit2] at hit_
      simp [nx, n1, hit_]
  | [a, b, c] =>
    rcases (show k = 1 ∨ k = 2 ∨ k = 3 by simp at hl; omega) with rfl | rfl | rfl
    · rw [hit1] at hit_; simp [nx, hit_]
    · have n1 := hno 1 (by omega) (by omega)
      rw [hit1] at n1
      rw [hit2] at hit_
      simp [nx, n1, hit_]
    · have n1 := hno 1 (by omega) (by omega)
      have n2 := hno 2 (by omega) (by omega)
      rw [hit1] at n1
      rw [hit2] at n2
      rw [hit3] at hit_
      simp [nx, n1, n2, hit_]
  | a :: b :: c :: d :: r =>
    rcases (show k = 1 ∨ k = 2 ∨ k = 3 ∨ k = 4 by omega) with rfl | rfl | rfl | rfl
    · rw [hit1] at hit_; simp [nx, hit_]
    · have n1 := hno 1 (by omega) (by omega)
      rw [hit1] at n1
      rw [hit2] at hit_
      simp [nx, n1, hit_]
    · have n1 := hno 1 (by omega) (by omega)
      have n2 := hno 2 (by omega) (by omega)
      rw [hit1] at n1
      rw [hit2] at n2
      rw [hit3] at hit_
      simp [nx, n1, n2, hit_]
    · have n1 := hno 1 (by omega) (by omega)
      have n2 := hno 2 (by omega) (by omega)
      have n3 := hno 3 (by omega) (by omega)
      rw [hit1] at n1
      rw [hit2] at n2
      rw [hit3] at n3
      rw [hit4] at hit_
      simp [nx, n1, n2, n3, hit_]
theorem nx_none (B : List UInt8) (hno : ∀ j, 1 ≤ j → j ≤ 4 → j ≤ B.length → ¬ hit j B) : nx B = 0 := by
  match B with
  | [] => rfl
  | [a] =>
    have n1 := hno 1 (by omega) (by omega) (by simp)
    rw [hit1] at n1
    simp [nx]; omega
  | [a, b] =>
    have n1 := hno 1 (by omega) (by omega) (by simp)
    have n2 := hno 2 (by omega) (by omega) (by simp)
    rw [hit1] at n1
    rw [hit2] at n2
    simp [nx, n1, n2]
  | [a, b, c] =>
    have n1 := hno 1 (by omega) (by omega) (by simp)
    have n2 := hno 2 (by omega) (by omega) (by simp)
    have n3 := hno 3 (by omega) (by omega) (by simp)
    rw [hit1] at n1
    rw [hit2] at n2
    rw [hit3] at n3
    simp [nx, n1, n2, n3]
  | a :: b :: c :: d :: r =>
    have n1 := hno 1 (by omega) (by omega) (by simp)
    have n2 := hno 2 (by omega) (by omega) (by simp)
    have n3 := hno 3 (by omega) (by omega) (by simp)
    have n4 := hno 4 (by omega) (by omega) (by simp)
    rw [hit1] at n1
    rw [hit2] at n2
    rw [hit3] at n3
    rw [hit4] at n4
    simp [nx, n1, n2, n3, n4]

theorem nx_le (B : List UInt8) : nx B ≤ 4 ∧ nx B ≤ B.length := by
  unfold nx
  (repeat' split) <;> simp_all
/-- how many bytes the characters have that a text begins with -/
def wh (B : List UInt8) : Nat := if _h : 0 < nx B then nx B + wh (B.drop (nx B)) else 0
termination_by B.length
decreasing_by have := (nx_le B).2; simp; omega
theorem wh_pos {B : List UInt8} (h : 0 < nx B) : wh B = nx B + wh (B.drop (nx B)) := by rw [wh, dif_pos h]
theorem wh_zero {B : List UInt8} (h : nx B = 0) : wh B = 0 := by rw [wh, dif_neg (by omega)]
theorem wh_le (B : List UInt8) : wh B ≤ B.length := by
  induction B using wh.induct with
  | case1 B h ih => rw [wh_pos h]; have := (nx_le B).2; simp at ih; omega
  | case2 B h => rw [wh_zero (by omega)]; omega
theorem wh_nil : wh [] = 0 := wh_zero rfl
end Go.Proofs.YtedmnkcoflbciaaGreat.UtfM
namespace Go.Proofs.YtedmnkcoflbciaaGreat.VaM
open Go Go.RowKit LebM UtfM

/-- how values of a kind are told: 0 by nothing, 1 by U, 2 by N, 3 by S that is UTF-8, 4 by S, 5: there is no such kind -/
def cl (k : Int) : Nat := if k = 0 ∨ k = 1 ∨ k = 2 then 0 else if k = 3 then 1 else if k = 4 ∨ k = 7 ∨ k = 8 then 2 else if k = 5 then 3 else if k = 6 then 4 else 5
theorem cl_le (k : Int) : cl k ≤ 5 := by unfold cl; (repeat' split) <;> omega
theorem cl0 {k : Int} (h : cl k = 0) : k = 0 ∨ k = 1 ∨ k = 2 := by unfold cl at h; (repeat' split at h) <;> omega
theorem cl1 {k : Int} (h : cl k = 1) : k = 3 := by unfold cl at h; (repeat' split at h) <;> omega
theorem cl2 {k : Int} (h : cl k = 2) : k = 4 ∨ k = 7 ∨ k = 8 := by unfold cl at h; (repeat' split at h) <;> omega
theorem cl3 {k : Int} (h : cl k = 3) : k = 5 := by unfold cl at h; (repeat' split at h) <;> omega
theorem cl4 {k : Int} (h : cl k = 4) : k = 6 := by unfold cl at h; (repeat' split at h) <;> omega
theorem cl5 {k : Int} (h : cl k = 5) : k < 0 ∨ 8 < k := by unfold cl at h; (repeat' split at h) <;> omega

/-- a value -/
structure V where
  k : Int
  u : Nat
  n : Int
  s : List UInt8
def V.ok (v : V) : Prop := (-9223372036854775808 ≤ v.k ∧ v.k < 9223372036854775808) ∧ v.u < 18446744073709551616 ∧ (-9223372036854775808 ≤ v.n ∧ v.n < 9223372036854775808)
def zeroV : V := ⟨0, 0, 0, []⟩
theorem V.ext' {v w : V} (h1 : v.k = w.k) (h2 : v.u = w.u) (h3 : v.n = w.n) (h4 : v.s = w.s) : v = w := by
  cases v; cases w
  simp only at h1 h2 h3 h4
  rw [h1, h2, h3, h4]
/-- two values are the same -/
def eqV (v w : V) : Bool := decide (v.k = w.k) && (decide (v.u = w.u) && (decide (v.n = w.n) && decide (v.s = w.s)))
/-- may a value be? -/
def rightV (v : V) : Bool :=
  match cl v.k with
  | 0 => decide (v.u = 0) && decide (v.n = 0) && decide (v.s = [])
  | 1 => decide (v.n = 0) && decide (v.s = [])
  | 2 => decide (v.u = 0) && decide (v.s = [])
  | 3 => decide (v.u = 0) && decide (v.n = 0) && decide (v.s.length ≤ 4000) && decide (wh v.s = v.s.length)
  | 4 => decide (v.u = 0) && decide (v.n = 0) && decide (v.s.length ≤ 4000)
  | _ => false
/-- its bytes -/
def putV (v : V) : List UInt8 :=
  match cl v.k with
  | 1 => u v.u
  | 2 => s v.n
  | 3 => v.s
  | 4 => v.s
  | _ => []
theorem right_len {v : V} (h : rightV v = true) : v.s.length ≤ 4000 := by
  unfold rightV at h
  have hc := cl_le v.k
  rcases (show cl v.k = 0 ∨ cl v.k = 1 ∨ cl v.k = 2 ∨ cl v.k = 3 ∨ cl v.k = 4 ∨ cl v.k = 5 by omega) with e | e | e | e | e | e <;> rw [e] at h <;> simp at h
  · rw [h.2]; simp
  · rw [h.2]; simp
  · rw [h.2]; simp
  · exact h.1.2
  · exact h.2
theorem put_len {v : V} (hv : v.ok) (h : v.s.length ≤ 1000000) : (putV v).length ≤ 1000000 := by
  unfold putV
  have h1 := u_len10 hv.2.1
  have h2 := s_len10 hv.2.2.1 hv.2.2.2
  have hc := cl_le v.k
  rcases (show cl v.k = 0 ∨ cl v.k = 1 ∨ cl v.k = 2 ∨ cl v.k = 3 ∨ cl v.k = 4 ∨ cl v.k = 5 by omega) with e | e | e | e | e | e
  all_goals rw [e]
  all_goals simp only [List.length_nil]
  all_goals omega
end Go.Proofs.YtedmnkcoflbciaaGreat.VaM
namespace Go.Proofs.YtedmnkcoflbciaaGreat.OpM
open Go Go.RowKit LebM UtfM VaM

/-- an op's name -/
structure Nm where
  c : Int
  a : List UInt8
def Nm.ok (x : Nm) : Prop := -9223372036854775808 ≤ x.c ∧ x.c < 9223372036854775808
def zeroN : Nm := ⟨0, []⟩
theorem Nm.ext' {x y : Nm} (h1 : x.c = y.c) (h2 : x.a = y.a) : x = y := by
  cases x; cases y
  simp only at h1 h2
  rw [h1, h2]
/-- two names are the same -/
def eqN (x y : Nm) : Bool := decide (x.c = y.c) && decide (x.a = y.a)
theorem eqN_iff (x y : Nm) : eqN x y = true ↔ x = y := by
  unfold eqN
  simp only [Bool.and_eq_true, decide_eq_true_eq]
  exact ⟨fun ⟨h1, h2⟩ => Nm.ext' h1 h2, by rintro rfl; exact ⟨rfl, rfl⟩⟩
theorem eqN_self (x : Nm) : eqN x x = true := (eqN_iff x x).2 rfl
def zeroB (x : Nm) : Bool := eqN x zeroN
def actorB (s : List UInt8) : Bool := decide (0 < s.length) && decide (s.length ≤ 16)
def idB (x : Nm) : Bool := decide (1 ≤ x.c) && decide (x.c ≤ 9007199254740991) && actorB x.a
/-- is x the lesser one? -/
def lessN (x y : Nm) : Bool := decide (x.c < y.c) || (decide (x.c = y.c) && Op.bytesLess x.a y.a)
theorem bless_cons (a b : UInt8) (x y : List UInt8) : Op.bytesLess (a :: x) (b :: y) = true ↔ a.toNat < b.toNat ∨ (a = b ∧ Op.bytesLess x y = true) := by
  simp [Op.bytesLess, UInt8.lt_iff_toNat_lt]
theorem bless_irr : ∀ x : List UInt8, Op.bytesLess x x = false
  | [] => rfl
  | a :: x => by
    cases h : Op.bytesLess (a :: x) (a :: x) with
    | false => rfl
    | true =>
      rcases (bless_cons a a x x).1 h with h | ⟨_, h⟩
      · omega
      · rw [bless_irr x] at h; cases h
theorem bless_tri : ∀ x y : List UInt8, Op.bytesLess x y = true ∨ x = y ∨ Op.bytesLess y x = true
  | [], [] => Or.inr (Or.inl rfl)
  | [], _ :: _ => Or.inl rfl
  | _ :: _, [] => Or.inr (Or.inr rfl)
  | a :: x, b :: y => by
    rcases Nat.lt_trichotomy a.toNat b.toNat with h | h | h
    · exact Or.inl ((bless_cons a b x y).2 (Or.inl h))
    · obtain rfl : a = b := UInt8.toNat_inj.1 h
      rcases bless_tri x y with h2 | h2 | h2
      · exact Or.inl ((bless_cons a a x y).2 (Or.inr ⟨rfl, h2⟩))
      · exact Or.inr (Or.inl (by rw [h2]))
      · exact Or.inr (Or.inr ((bless_cons a a y x).2 (Or.inr ⟨rfl, h2⟩)))
    · exact Or.inr (Or.inr ((bless_cons b a y x).2 (Or.inl h)))
theorem bless_trans : ∀ {x y z : List UInt8}, Op.bytesLess x y = true → Op.bytesLess y z = true → Op.bytesLess x z = true
  | [], y, [], h1, h2 => by cases y <;> simp [Op.bytesLess] at h1 h2
  | [], _, _ :: _, _, _ => rfl
  | _ :: _, [], _, h1, _ => by simp [Op.bytesLess] at h1
  | _ :: _, _ :: _, [], _, h2 => by simp [Op.bytesLess] at h2
  | a :: x, b :: y, c :: z, h1, h2 => by
    rw [bless_cons] at *
    rcases h1 with h1 | ⟨h1, h1'⟩ <;> rcases h2 with h2 | ⟨h2, h2'⟩
    · exact Or.inl (by omega)
    · subst h2; exact Or.inl h1
    · subst h1; exact Or.inl h2
    · exact Or.inr ⟨h1.trans h2, bless_trans h1' h2'⟩
theorem less_iff (x y : Nm) : lessN x y = true ↔ x.c < y.c ∨ (x.c = y.c ∧ Op.bytesLess x.a y.a = true) := by
  unfold lessN
  simp [Bool.or_eq_true, Bool.and_eq_true]
/-- an op -/
structure O where
  obj : Nm
  key : List UInt8
  keyed : Bool
  elem : Nm
  ins : Bool
  act : Int
  val : V
  pr : List Nm
def zeroO : O := ⟨zeroN, [], false, zeroN, false, 0, zeroV, []⟩
/-- its texts are no longer than they are looked at -/
def O.ok (o : O) : Prop := o.obj.ok ∧ o.elem.ok ∧ (-9223372036854775808 ≤ o.act ∧ o.act < 9223372036854775808) ∧ o.val.ok ∧ ∀ x ∈ o.pr, x.ok
def ptB (x : Nm) : Bool := zeroB x || idB x
def keyB (o : O) : Bool := if o.keyed then decide (o.key.length ≤ 4000) && (wh o.key == o.key.length) && zeroB o.elem && !o.ins else decide (o.key = []) && ptB o.elem
/-- names that rise, each greater than the last one -/
def riseB : Nm → List Nm → Bool
  | _, [] => true
  | last, x :: l => idB x && lessN last x && riseB x l
def predsB (l : List Nm) : Bool := decide (l.length ≤ 16) && riseB zeroN l
def rightO (o : O) : Bool := ptB o.obj && keyB o && decide (0 ≤ o.act) && decide (o.act ≤ 1000) && rightV o.val && predsB o.pr

/-- the last one of a row's front -/
def lastN (l : List Nm) : Nm := l.getLast?.getD zeroN
theorem rise_app (a : Nm) : ∀ (l : List Nm) (x : Nm), riseB a (l ++ [x]) = (riseB a l && (idB x && lessN (l.getLast?.getD a) x))
  | [], x => by simp [riseB]
  | y :: l, x => by
    simp only [List.cons_append, riseB]
    rw [rise_app y l x, ← Bool.and_assoc]
    congr 2
    rw [List.getLast?_cons]
    rfl
theorem rise_snoc (l : List Nm) (x : Nm) : riseB zeroN (l ++ [x]) = (riseB zeroN l && (idB x && lessN (lastN l) x)) := rise_app zeroN l x
theorem rise_more {a : Nm} : ∀ {l m : List Nm}, riseB a l = false → riseB a (l ++ m) = false
  | [], m, h => by cases h
  | y :: l, m, h => by
    simp only [List.cons_append, riseB] at h ⊢
    cases h1 : (idB y && lessN a y) with
    | false => rfl
    | true =>
      rw [h1, Bool.true_and] at h
      rw [Bool.true_and]
      exact rise_more h
theorem zero_less {x : Nm} (h : idB x = true) : lessN zeroN x = true := by
  unfold idB at h
  simp only [Bool.and_eq_true, decide_eq_true_eq] at h
  exact (less_iff _ _).2 (Or.inl (by show (0 : Int) < _; omega))
/-- what an op speaks of -/
def namesO (o : O) : List Nm := (o.obj :: o.elem :: o.pr).filter fun x => !zeroB x
theorem O.ext' {x y : O} (h1 : x.obj = y.obj) (h2 : x.key = y.key) (h3 : x.keyed = y.keyed) (h4 : x.elem = y.elem) (h5 : x.ins = y.ins) (h6 : x.act = y.act) (h7 : x.val = y.val) (h8 : x.pr = y.pr) : x = y := by
  cases x; cases y
  simp only at h1 h2 h3 h4 h5 h6 h7 h8
  rw [h1, h2, h3, h4, h5, h6, h7, h8]
/-- ops are few, and their texts short -/
def fewO (o : O) : Bool := decide (o.pr.length ≤ 40) && decide (o.key.length ≤ 5000) && decide (o.val.s.length ≤ 5000) && decide (o.obj.a.length ≤ 100) && decide (o.elem.a.length ≤ 100) && o.pr.all fun x => decide (x.a.length ≤ 100)
end Go.Proofs.YtedmnkcoflbciaaGreat.OpM
namespace Go.Proofs.YtedmnkcoflbciaaGreat
open Go Go.RowKit Mem LebM OpM
namespace AcM

/-- texts, byte by byte -/
abbrev Tx := List UInt8
theorem bless_asym {x y : Tx} (h : Op.bytesLess x y = true) : Op.bytesLess y x = false := by
  cases h2 : Op.bytesLess y x with
  | false => rfl
  | true => have := bless_trans h h2; rw [bless_irr] at this; cases this
/-- a row that rises -/
def Rise (l : List Tx) : Prop := l.Pairwise (fun x y => Op.bytesLess x y = true)
/-- a text into a row that rises -/
def insT (x : Tx) : List Tx → List Tx
  | [] => [x]
  | y :: l => if Op.bytesLess x y = true then x :: y :: l else if x = y then y :: l else y :: insT x l
theorem ins_mem (x : Tx) : ∀ (l : List Tx) (z : Tx), z ∈ insT x l ↔ z = x ∨ z ∈ l
  | [], z => by simp [insT]
  | y :: l, z => by
    unfold insT
    split
    · simp
    · split
      · rename_i h; subst h; simp
      · simp only [List.mem_cons, ins_mem x l z]
        constructor
        · rintro (h | h | h) <;> simp [h]
        · rintro (h | h | h) <;> simp [h]
theorem ins_rise (x : Tx) : ∀ (l : List Tx), Rise l → Rise (insT x l)
  | [], _ => List.pairwise_singleton _ _
  | y :: l, h => by
    have h2 := List.pairwise_cons.1 h
    unfold insT
    split
    · rename_i hx
      refine List.pairwise_cons.2 ⟨fun z hz => ?_, h⟩
      rcases List.mem_cons.1 hz with rfl | hz
      · exact hx
      · exact bless_trans hx (h2.1 z hz)
    · rename_i hx
      split
      · exact h
      · rename_i hne
        refine List.pairwise_cons.2 ⟨fun z hz => ?_, ins_rise x l h2.2⟩
        rcases (ins_mem x l z).1 hz with rfl | hz
        · rcases bless_tri z y with h3 | h3 | h3
          · exact absurd h3 hx
          · exact absurd h3 hne
          · exact h3
        · exact h2.1 z hz
/-- all others, rising -/
def othersA (a : Tx) : List Nm → List Tx
  | [] => []
  | y :: N => if y.a = a then othersA a N else insT y.a (othersA a N)
theorem others_mem (a : Tx) : ∀ (N : List Nm) (z : Tx), z ∈ othersA a N ↔ z ≠ a ∧ ∃ y ∈ N, y.a = z
  | [], z => by simp [othersA]
  | y :: N, z => by
    unfold othersA
    split
    · rename_i h
      rw [others_mem a N z]
      constructor
      · rintro ⟨h1, y', h2, h3⟩; exact ⟨h1, y', List.mem_cons_of_mem _ h2, h3⟩
      · rintro ⟨h1, y', h2, h3⟩
        rcases List.mem_cons.1 h2 with rfl | h2
        · exact absurd (h3.symm.trans h) h1
        · exact ⟨h1, y', h2, h3⟩
    · rename_i h
      rw [ins_mem, others_mem a N z]
      constructor
      · rintro (h1 | ⟨h1, y', h2, h3⟩)
        · exact ⟨fun e => h (h1.symm.trans e), y, List.mem_cons_self .., h1.symm⟩
        · exact ⟨h1, y', List.mem_cons_of_mem _ h2, h3⟩
      · rintro ⟨h1, y', h2, h3⟩
        rcases List.mem_cons.1 h2 with rfl | h2
        · exact Or.inl h3.symm
        · exact Or.inr ⟨h1, y', h2, h3⟩
theorem others_rise (a : Tx) : ∀ N : List Nm, Rise (othersA a N)
  | [] => List.Pairwise.nil
  | y :: N => by
    unfold othersA
    split
    · exact others_rise a N
    · exact ins_rise _ _ (others_rise a N)
theorem ins_len (x : Tx) : ∀ l : List Tx, (insT x l).length ≤ l.length + 1
  | [] => by simp [insT]
  | y :: l => by
    unfold insT
    have := ins_len x l
    split
    · simp
    · split
      · simp
      · simp; omega
theorem others_len (a : Tx) : ∀ N : List Nm, (othersA a N).length ≤ N.length
  | [] => by simp [othersA]
  | y :: N => by
    unfold othersA
    have h1 := others_len a N
    have h2 := ins_len y.a (othersA a N)
    split
    · simp; omega
    · simp; omega
def tabA (a : Tx) (N : List Nm) : List Tx := a :: othersA a N
/-- the first place of a text -/
def idxA (a : Tx) : List Tx → Int
  | [] => -1
  | x :: l => if x = a then 0 else if idxA a l < 0 then -1 else idxA a l + 1
theorem idx_no {a : Tx} : ∀ {l : List Tx}, a ∉ l → idxA a l = -1
  | [], _ => rfl
  | x :: l, h => by
    unfold idxA
    rw [idx_no (l := l) (fun hm => h (List.mem_cons_of_mem _ hm)), if_neg (fun e => h (by rw [e]; exact List.mem_cons_self ..)), if_pos (by omega)]
theorem idx_yes {a : Tx} : ∀ {l : List Tx} {k : Nat}, l[k]? = some a → (∀ j, j < k → l[j]? ≠ some a) → idxA a l = (k : Int)
  | [], k, h, _ => by simp at h
  | x :: l, 0, h, _ => by
    simp at h
    unfold idxA
    rw [if_pos h]
    rfl
  | x :: l, k + 1, h, h2 => by
    unfold idxA
    rw [if_neg (fun e => h2 0 (by omega) (by simp [e])), idx_yes (l := l) (k := k) (by simpa using h) (fun j hj => by have := h2 (j + 1) (by omega); simpa using this), if_neg (by omega)]
    omega
theorem idx_mem {a : Tx} {l : List Tx} (h : a ∈ l) : 0 ≤ idxA a l := by
  induction l with
  | nil => cases h
  | cons x l ih =>
    unfold idxA
    split
    · omega
    · rename_i hne
      rcases List.mem_cons.1 h with e | h
      · exact absurd e.symm hne
      · have := ih h
        rw [if_neg (by omega)]
        omega
theorem idx_bd (a : Tx) : ∀ l : List Tx, -1 ≤ idxA a l ∧ idxA a l < (l.length : Int)
  | [] => by simp [idxA]
  | x :: l => by
    have := idx_bd a l
    unfold idxA
    simp only [List.length_cons]
    split
    · omega
    · split <;> omega

/-- the bytes of a table -/
def oneA (a : Tx) : List UInt8 := u a.length ++ a
end AcM
end Go.Proofs.YtedmnkcoflbciaaGreat
