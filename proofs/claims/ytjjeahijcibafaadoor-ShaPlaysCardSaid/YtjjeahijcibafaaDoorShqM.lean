/-
  Plain mathematics of layer 4's program: rotations by shifts, words out of bytes, the state as what was added, blocks as they fill. Nothing of any program here.
-/
import Derived.Test.YtjjeahijcibafaaDoorShaS
import Derived.Laws.CopyOwn
namespace Go.Proofs.YtjjeahijcibafaaDoor.ShaM
open Go

theorem two32 {n : Nat} (h : n ≤ 32) : (2 : Nat) ^ n * 2 ^ (32 - n) = 4294967296 := by
  rw [← Nat.pow_add, show n + (32 - n) = 32 from by omega]
/-- a word turned right, by a quotient and a rest -/
theorem tr_eq (n x : Nat) (hn : n ≤ 32) : tr n x = x / 2 ^ n + x % 2 ^ n * 2 ^ (32 - n) := by
  induction n with
  | zero => simp [tr, Nat.mod_one]
  | succ n ih =>
    have ih := ih (by omega)
    rw [tr, ih]
    have hM : (2 : Nat) ^ (32 - n) = 2 * 2 ^ (32 - (n + 1)) := by rw [show 32 - n = (32 - (n + 1)) + 1 from by omega, Nat.pow_succ, Nat.mul_comm]
    have hP : (2 : Nat) ^ n * 2 ^ (32 - (n + 1)) = 2147483648 := by rw [← Nat.pow_add, show n + (32 - (n + 1)) = 31 from by omega]
    have hq : x / 2 ^ (n + 1) = x / 2 ^ n / 2 := by rw [Nat.pow_succ, Nat.div_div_eq_div_mul]
    have hr : x % 2 ^ (n + 1) = x % 2 ^ n + 2 ^ n * (x / 2 ^ n % 2) := by rw [Nat.pow_succ, Nat.mod_mul]
    rw [hM, hq, hr, Nat.add_mul, Nat.mul_right_comm (2 ^ n) _ (2 ^ (32 - (n + 1))), hP]
    rw [show x % 2 ^ n * (2 * 2 ^ (32 - (n + 1))) = 2 * (x % 2 ^ n * 2 ^ (32 - (n + 1))) from by rw [Nat.mul_left_comm]]
    generalize x % 2 ^ n * 2 ^ (32 - (n + 1)) = y
    generalize x / 2 ^ n = q
    omega
theorem tr_or (n x : Nat) (h1 : 1 ≤ n) (hn : n ≤ 31) (hx : x < 4294967296) : (x * 2 ^ (32 - n) % 4294967296) ||| (x / 2 ^ n) = tr n x := by
  have e : x * 2 ^ (32 - n) % 4294967296 = 2 ^ (32 - n) * (x % 2 ^ n) := by
    rw [← two32 (show n ≤ 32 by omega), Nat.mul_comm x, Nat.mul_comm (2 ^ n), Nat.mul_mod_mul_left]
  have hlt : x / 2 ^ n < 2 ^ (32 - n) := by
    rw [Nat.div_lt_iff_lt_mul (Nat.two_pow_pos n), Nat.mul_comm, two32 (by omega)]
    exact hx
  rw [e, ← Nat.two_pow_add_eq_or_of_lt hlt, tr_eq n x (by omega), Nat.mul_comm (2 ^ (32 - n))]
  omega

/-- a word out of four bytes -/
theorem be4_or (a b c d : Nat) (hb : b < 256) (hc : c < 256) (hd : d < 256) : ((a * 16777216 ||| b * 65536) ||| c * 256) ||| d = be4 [a, b, c, d] := by
  have e1 : a * 16777216 ||| b * 65536 = (a * 256 + b) * 65536 := by
    have h := Nat.two_pow_add_eq_or_of_lt (i := 24) (b := b * 65536) (by omega) a
    rw [Nat.mul_comm a, ← show (2 : Nat) ^ 24 = 16777216 from rfl, ← h]
    omega
  have e2 : (a * 256 + b) * 65536 ||| c * 256 = ((a * 256 + b) * 256 + c) * 256 := by
    have h := Nat.two_pow_add_eq_or_of_lt (i := 16) (b := c * 256) (by omega) (a * 256 + b)
    rw [Nat.mul_comm _ 65536, ← show (2 : Nat) ^ 16 = 65536 from rfl, ← h]
    omega
  have e3 : ((a * 256 + b) * 256 + c) * 256 ||| d = ((a * 256 + b) * 256 + c) * 256 + d := by
    have h := Nat.two_pow_add_eq_or_of_lt (i := 8) (b := d) (by omega) ((a * 256 + b) * 256 + c)
    rw [Nat.mul_comm _ 256, ← show (2 : Nat) ^ 8 = 256 from rfl, ← h]
  rw [e1, e2, e3]
  simp [be4]

/-- the words: what was added to the first ones -/
def sumW (ad : List Nat) : List Nat := List.zipWith a32 ad first
def stL (s : St) : List Nat := [s.a, s.b, s.c, s.d, s.e, s.f, s.g, s.h]
def mixed (ad buf : List Nat) : List Nat := List.zipWith a32 ad (stL (rounds keys (sched buf 64) (ofL (sumW ad)) 64))
theorem eight_cases {l : List Nat} (h : l.length = 8) : ∃ a b c d e f g i : Nat, l = [a, b, c, d, e, f, g, i] := by
  match l, h with
  | [a, b, c, d, e, f, g, i], _ => exact ⟨a, b, c, d, e, f, g, i, rfl⟩
theorem sumW_len {ad : List Nat} (h : ad.length = 8) : (sumW ad).length = 8 := by simp [sumW, first, h]
theorem zipA_lt (l m : List Nat) : ∀ x ∈ List.zipWith a32 l m, x < 4294967296 := by
  induction l generalizing m with
  | nil => intro x hx; simp at hx
  | cons a l ih =>
    cases m with
    | nil => intro x hx; simp at hx
    | cons b m =>
      intro x hx
      rw [List.zipWith_cons_cons] at hx
      rcases List.mem_cons.1 hx with rfl | hx
      · exact a32_lt _ _
      · exact ih m x hx
theorem sumW_eight {ad : List Nat} (h : ad.length = 8) : Eight (sumW ad) := ⟨sumW_len h, zipA_lt _ _⟩
theorem mixed_len {ad buf : List Nat} (h : ad.length = 8) : (mixed ad buf).length = 8 := by simp [mixed, stL, h]
theorem mixed_lt (ad buf : List Nat) : ∀ x ∈ mixed ad buf, x < 4294967296 := zipA_lt _ _
theorem a32_swap (x f r : Nat) : a32 (a32 x r) f = a32 (a32 x f) r := by unfold a32; omega
theorem plus_zip {ad : List Nat} (h : ad.length = 8) (s : St) : sumW (List.zipWith a32 ad (stL s)) = plus (sumW ad) s := by
  obtain ⟨a, b, c, d, e, f, g, i, rfl⟩ := eight_cases h
  simp only [sumW, stL, first, plus, List.zipWith_cons_cons, List.zipWith_nil_left, List.getD_cons_zero, List.getD_cons_succ, a32_swap]
/-- the words behind a block are the document's -/
theorem sumW_mixed {ad : List Nat} (h : ad.length = 8) (buf : List Nat) : sumW (mixed ad buf) = block keys (sumW ad) buf := by
  unfold block mixed
  exact plus_zip h _

/-- what a Hasher that took D in keeps -/
structure Hs (D ad buf : List Nat) : Prop where
  al : ad.length = 8
  ax : ∀ x ∈ ad, x < 4294967296
  bl : buf.length = 64
  bx : ∀ b ∈ buf, b < 256
  dx : ∀ b ∈ D, b < 256
  sum : sumW ad = blocks keys first D (D.length / 64)
  rest : buf.take (D.length % 64) = D.drop (64 * (D.length / 64))
theorem Hs.zero : Hs [] (List.replicate 8 0) (List.replicate 64 0) where
  al := rfl
  ax := by decide
  bl := rfl
  bx := by decide
  dx := by intro b hb; cases hb
  sum := by decide
  rest := rfl
theorem blocks_ext (K l B C : List Nat) (i : Nat) (h : 64 * i ≤ B.length) : blocks K l (B ++ C) i = blocks K l B i := by
  induction i with
  | zero => rfl
  | succ i ih =>
    rw [blocks, blocks, ih (by omega), List.drop_append_of_le_length (by omega), List.take_append_of_le_length (by simp; omega)]
theorem splice_mem {P : Nat → Prop} {L C : List Nat} {r : Nat} (hL : ∀ b ∈ L, P b) (hC : ∀ b ∈ C, P b) : ∀ b ∈ splice L r C, P b := by
  intro b hb
  unfold splice at hb
  rcases List.mem_append.1 hb with hb | hb
  · exact hL b (List.mem_of_mem_take hb)
  · rcases List.mem_append.1 hb with hb | hb
    · exact hC b hb
    · exact hL b (List.mem_of_mem_drop hb)
theorem splice_take {L C : List Nat} {r : Nat} (hr : r + C.length ≤ L.length) : (splice L r C).take (r + C.length) = L.take r ++ C := by
  unfold splice
  rw [← List.append_assoc, List.take_append_of_le_length (by simp; omega), List.take_of_length_le (by simp; omega)]
/-- some bytes more, the block not whole yet -/
theorem Hs.more {D ad buf C : List Nat} (h : Hs D ad buf) (hC : ∀ b ∈ C, b < 256) (hr : D.length % 64 + C.length < 64) : Hs (D ++ C) ad (splice buf (D.length % 64) C) where
  al := h.al
  ax := h.ax
  bl := by rw [length_splice _ _ _ (by rw [h.bl]; omega), h.bl]
  bx := splice_mem h.bx hC
  dx := by
    intro b hb
    rcases List.mem_append.1 hb with hb | hb
    · exact h.dx b hb
    · exact hC b hb
  sum := by
    have e : (D ++ C).length / 64 = D.length / 64 := by rw [List.length_append]; omega
    rw [e, blocks_ext _ _ _ _ _ (by omega)]
    exact h.sum
  rest := by
    have e : (D ++ C).length / 64 = D.length / 64 := by rw [List.length_append]; omega
    have e2 : (D ++ C).length % 64 = D.length % 64 + C.length := by rw [List.length_append]; omega
    rw [e, e2, splice_take (by rw [h.bl]; omega), List.drop_append_of_le_length (by omega), h.rest]
/-- some bytes more, the block is whole -/
theorem Hs.full {D ad buf C : List Nat} (h : Hs D ad buf) (hC : ∀ b ∈ C, b < 256) (hr : D.length % 64 + C.length = 64) : Hs (D ++ C) (mixed ad (splice buf (D.length % 64) C)) (splice buf (D.length % 64) C) where
  al := mixed_len h.al
  ax := mixed_lt _ _
  bl := by rw [length_splice _ _ _ (by rw [h.bl]; omega), h.bl]
  bx := splice_mem h.bx hC
  dx := by
    intro b hb
    rcases List.mem_append.1 hb with hb | hb
    · exact h.dx b hb
    · exact hC b hb
  sum := by
    have e : (D ++ C).length / 64 = D.length / 64 + 1 := by rw [List.length_append]; omega
    have e3 : (splice buf (D.length % 64) C) = ((D ++ C).drop (64 * (D.length / 64))).take 64 := by
      have h1 := splice_take (L := buf) (C := C) (r := D.length % 64) (by rw [h.bl]; omega)
      rw [hr, List.take_of_length_le (by rw [length_splice _ _ _ (by rw [h.bl]; omega), h.bl]; omega)] at h1
      rw [h1, h.rest, List.drop_append_of_le_length (by omega), List.take_of_length_le (by simp; omega)]
    rw [sumW_mixed h.al, e, blocks, blocks_ext _ _ _ _ _ (by omega), ← h.sum, ← e3]
  rest := by
    have e2 : (D ++ C).length % 64 = 0 := by rw [List.length_append]; omega
    have e : 64 * ((D ++ C).length / 64) = (D ++ C).length := by omega
    rw [e2, e, List.drop_length]
    rfl
end Go.Proofs.YtjjeahijcibafaaDoor.ShaM
