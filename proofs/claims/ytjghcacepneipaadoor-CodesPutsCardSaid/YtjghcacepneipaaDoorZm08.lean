/-
  Plain mathematics of layer 1: lists of bits, the bytes that they make, the number that they tell. Nothing of any program here.
  Layer 8, plain: lengths without 0s at the end; the order of the items' lengths; the bits of two codes' lengths.
-/
import Derived.WalkKit
import Derived.Test.YtjghcacepneipaaDoorZm06
import Derived.Test.YtjghcacepneipaaDoorZm07
namespace Go.Proofs.YtjghcacepneipaaDoor.BitsM

/-- the lowest n bits of a number, the lowest first -/
def low (x n : Nat) : List Bool := (List.range n).map x.testBit
/-- the number of bits, the lowest first -/
def num : List Bool → Nat
  | [] => 0
  | b :: l => b.toNat + 2 * num l
def bitsOf (l : List UInt8) : List Bool := l.flatMap fun b => low b.toNat 8
/-- bits that lack till a whole number of bytes -/
def lack (n : Nat) : Nat := (8 - n % 8) % 8
def full (l : List Bool) : List Bool := l ++ List.replicate (lack l.length) false
def pack (l : List Bool) : List UInt8 := (List.range ((l.length + 7) / 8)).map fun i => UInt8.ofNat (num ((l.drop (8 * i)).take 8))

theorem low_length (x n : Nat) : (low x n).length = n := by simp [low]
theorem low_zero (x : Nat) : low x 0 = [] := rfl
theorem low_succ (x n : Nat) : low x (n + 1) = low x n ++ [x.testBit n] := by simp [low, List.range_succ]
theorem low_cons (x n : Nat) : low x (n + 1) = x.testBit 0 :: low (x / 2) n := by
  simp only [low, List.range_succ_eq_map, List.map_cons, List.map_map]
  congr 1
  apply List.map_congr_left
  intro i _
  simp [Nat.testBit_succ]
theorem num_lt (l : List Bool) : num l < 2 ^ l.length := by
  induction l with
  | nil => simp [num]
  | cons b l ih => have : b.toNat ≤ 1 := by cases b <;> simp
                   simp only [num, List.length_cons, Nat.pow_succ]; omega
theorem num_append (a b : List Bool) : num (a ++ b) = num a + 2 ^ a.length * num b := by
  induction a with
  | nil => simp [num]
  | cons x a ih => rw [List.cons_append, num, ih, num, List.length_cons, Nat.pow_succ, Nat.mul_comm (2 ^ a.length) 2, Nat.mul_assoc]; omega
theorem num_replicate (n : Nat) : num (List.replicate n false) = 0 := by
  induction n with
  | zero => rfl
  | succ n ih => simp [List.replicate_succ, num, ih]
theorem num_snoc (a : List Bool) (b : Bool) : num (a ++ [b]) = num a + 2 ^ a.length * b.toNat := by
  rw [num_append]; simp [num]
theorem num_low (x n : Nat) : num (low x n) = x % 2 ^ n := by
  induction n generalizing x with
  | zero => simp [low_zero, num]; omega
  | succ n ih =>
    rw [low_cons, num, ih, Nat.pow_succ, Nat.mul_comm (2 ^ n) 2, Nat.mod_mul]
    simp [Nat.testBit_zero]
    rcases Nat.mod_two_eq_zero_or_one x with h | h <;> simp [h]
theorem low_num (l : List Bool) : low (num l) l.length = l := by
  induction l with
  | nil => rfl
  | cons b l ih =>
    rw [List.length_cons, low_cons]
    have h0 : (num (b :: l)).testBit 0 = b := by
      simp only [Nat.testBit_zero, num]
      cases b <;> simp <;> omega
    have h1 : num (b :: l) / 2 = num l := by
      simp only [num]
      have : b.toNat ≤ 1 := by cases b <;> simp
      omega
    rw [h0, h1, ih]
theorem num_inj {a b : List Bool} (hl : a.length = b.length) (h : num a = num b) : a = b := by
  rw [← low_num a, ← low_num b, h, hl]
theorem testBit_num (l : List Bool) (i : Nat) : (num l).testBit i = l.getD i false := by
  induction l generalizing i with
  | nil => simp [num]
  | cons b l ih =>
    have h1 : num (b :: l) / 2 = num l := by
      simp only [num]
      have : b.toNat ≤ 1 := by cases b <;> simp
      omega
    cases i with
    | zero => simp only [Nat.testBit_zero, num, List.getD_cons_zero]; cases b <;> simp <;> omega
    | succ i => rw [Nat.testBit_succ, h1, ih]; simp

theorem bitsOf_nil : bitsOf [] = [] := rfl
theorem bitsOf_cons (b : UInt8) (l : List UInt8) : bitsOf (b :: l) = low b.toNat 8 ++ bitsOf l := rfl
theorem bitsOf_append (a b : List UInt8) : bitsOf (a ++ b) = bitsOf a ++ bitsOf b := by simp [bitsOf]
theorem bitsOf_length (l : List UInt8) : (bitsOf l).length = 8 * l.length := by
  induction l with
  | nil => rfl
  | cons b l ih => rw [bitsOf_cons, List.length_append, ih, low_length, List.length_cons]; omega

theorem lack_lt (n : Nat) : lack n < 8 := by unfold lack; omega
theorem lack_add (n : Nat) : (n + lack n) % 8 = 0 := by unfold lack; omega
theorem lack_zero {n : Nat} (h : n % 8 = 0) : lack n = 0 := by unfold lack; omega
theorem lack_pos {n : Nat} (h : n % 8 ≠ 0) : lack n = 8 - n % 8 := by unfold lack; omega
theorem lack_ceil (n : Nat) : n + lack n = 8 * ((n + 7) / 8) := by unfold lack; omega
theorem full_length (l : List Bool) : (full l).length = l.length + lack l.length := by simp [full]
theorem full_mod (l : List Bool) : (full l).length % 8 = 0 := by rw [full_length]; exact lack_add _
theorem full_of_aligned {l : List Bool} (h : l.length % 8 = 0) : full l = l := by simp [full, lack_zero h]

theorem pack_length (l : List Bool) : (pack l).length = (l.length + 7) / 8 := by simp [pack]
theorem pack_nil : pack [] = [] := rfl
theorem pack_get (l : List Bool) (i : Nat) (h : i < (l.length + 7) / 8) : (pack l)[i]? = some (UInt8.ofNat (num ((l.drop (8 * i)).take 8))) := by
  simp [pack, h]
theorem num_take8_lt (l : List Bool) : num (l.take 8) < 256 := by
  have h := num_lt (l.take 8)
  have h2 : (l.take 8).length ≤ 8 := by simp; omega
  have := Nat.pow_le_pow_right (show 0 < 2 by omega) h2
  omega
theorem pack_get_toNat (l : List Bool) (i : Nat) (b : UInt8) (h : (pack l)[i]? = some b) : b.toNat = num ((l.drop (8 * i)).take 8) := by
  have hi : i < (l.length + 7) / 8 := by rw [← pack_length]; exact (List.getElem?_eq_some_iff.1 h).1
  rw [pack_get l i hi] at h
  obtain rfl := Option.some.inj h
  simp
  exact num_take8_lt _
theorem pack_append {a : List Bool} (h : a.length % 8 = 0) (b : List Bool) : pack (a ++ b) = pack a ++ pack b := by
  apply List.ext_getElem?
  intro i
  have hla := pack_length a
  by_cases hi : i < (pack a).length
  · rw [List.getElem?_append_left hi, pack_get _ _ (by rw [List.length_append]; omega), pack_get _ _ (by omega)]
    rw [List.drop_append_of_le_length (by omega), List.take_append_of_le_length (by simp; omega)]
  · rw [List.getElem?_append_right (by omega)]
    by_cases hi2 : i < ((a ++ b).length + 7) / 8
    · have hb : i - (pack a).length < (b.length + 7) / 8 := by rw [List.length_append] at hi2; omega
      rw [pack_get _ _ hi2, pack_get _ _ hb]
      congr 3
      rw [show 8 * i = a.length + 8 * (i - (pack a).length) from by omega, List.drop_append]
      simp [List.drop_eq_nil_of_le (show a.length ≤ a.length + 8 * (i - (pack a).length) from by omega)]
    · rw [List.getElem?_eq_none (by rw [pack_length]; omega), List.getElem?_eq_none (by rw [pack_length]; rw [List.length_append] at hi2; omega)]
theorem pack_low8 (b : UInt8) : pack (low b.toNat 8) = [b] := by
  have h : pack (low b.toNat 8) = [UInt8.ofNat (num ((low b.toNat 8).take 8))] := by
    simp [pack, low_length, List.range_succ]
  rw [h, List.take_of_length_le (by rw [low_length]; omega), num_low]
  simp
theorem pack_bitsOf (l : List UInt8) : pack (bitsOf l) = l := by
  induction l with
  | nil => rfl
  | cons b l ih => rw [bitsOf_cons, pack_append (by rw [low_length]), pack_low8, ih]; rfl
/-- bits that are 0, at the end of the last byte, turn no byte -/
theorem pack_pad (l : List Bool) (k : Nat) (h : k ≤ lack l.length) : pack (l ++ List.replicate k false) = pack l := by
  have hc := lack_ceil l.length
  have hlk := lack_lt l.length
  apply List.ext_getElem?
  intro i
  have hlen : ((l ++ List.replicate k false).length + 7) / 8 = (l.length + 7) / 8 := by
    simp; omega
  by_cases hi : i < (l.length + 7) / 8
  · rw [pack_get _ _ (by rw [hlen]; exact hi), pack_get _ _ hi]
    congr 2
    rw [List.drop_append, List.take_append, num_append, List.drop_replicate, List.take_replicate, num_replicate]
    simp
  · rw [List.getElem?_eq_none (by rw [pack_length, hlen]; omega), List.getElem?_eq_none (by rw [pack_length]; omega)]
theorem pack_full (l : List Bool) : pack (full l) = pack l := pack_pad l _ (Nat.le_refl _)
theorem pack_snoc_new {l : List Bool} (h : l.length % 8 = 0) (b : Bool) : pack (l ++ [b]) = pack l ++ [UInt8.ofNat b.toNat] := by
  rw [pack_append h]
  congr 1
  simp [pack, num, List.range_succ]
/-- a bit behind others in the last byte: the byte turns, no other one -/
theorem pack_snoc_old {l : List Bool} (h : l.length % 8 ≠ 0) (b : Bool) (o : UInt8) (ho : (pack l)[l.length / 8]? = some o) :
    pack (l ++ [b]) = (pack l).set (l.length / 8) (UInt8.ofNat (o.toNat + 2 ^ (l.length % 8) * b.toNat)) ∧ o.toNat < 2 ^ (l.length % 8) := by
  have hon := pack_get_toNat _ _ _ ho
  have ht : ((l.drop (8 * (l.length / 8))).take 8) = l.drop (8 * (l.length / 8)) := List.take_of_length_le (by simp; omega)
  rw [ht] at hon
  have hdl : (l.drop (8 * (l.length / 8))).length = l.length % 8 := by simp; omega
  refine ⟨?_, by rw [hon, ← hdl]; exact num_lt _⟩
  apply List.ext_getElem?
  intro i
  by_cases hi : i < (l.length + 7) / 8
  · rw [pack_get _ _ (by simp; omega)]
    by_cases he : i = l.length / 8
    · subst he
      rw [List.getElem?_set_self (by rw [pack_length]; omega)]
      congr 2
      rw [List.drop_append_of_le_length (by omega), List.take_of_length_le (by simp; omega), num_snoc, hdl, hon]
    · rw [List.getElem?_set_ne (by omega), pack_get _ _ hi]
      congr 2
      rw [List.drop_append_of_le_length (by omega), List.take_append_of_le_length (by simp; omega)]
  · rw [List.getElem?_eq_none (by rw [pack_length]; simp; omega), List.getElem?_eq_none (by rw [List.length_set, pack_length]; omega)]
/-- the byte that holds a bit of bytes, and the bit in it -/
theorem bitsOf_get (l : List UInt8) (i : Nat) (o : UInt8) (ho : l[i / 8]? = some o) : (bitsOf l)[i]? = some (o.toNat.testBit (i % 8)) := by
  induction l generalizing i with
  | nil => simp at ho
  | cons b l ih =>
    rw [bitsOf_cons]
    by_cases hi : i < 8
    · rw [List.getElem?_append_left (by rw [low_length]; exact hi)]
      rw [show i / 8 = 0 from by omega] at ho
      simp at ho
      subst ho
      simp [low, hi, Nat.mod_eq_of_lt hi]
    · rw [List.getElem?_append_right (by rw [low_length]; omega), low_length]
      have := ih (i - 8) (by
        rw [show i / 8 = (i - 8) / 8 + 1 from by omega] at ho
        simpa using ho)
      rw [this, show (i - 8) % 8 = i % 8 from by omega]
end Go.Proofs.YtjghcacepneipaaDoor.BitsM
namespace Go.Proofs.YtjghcacepneipaaDoor.CoM
open HuffM BitsM

/-- how many are left without the 0s at the end of the first k behind m, but at least m -/
def trimN (L : List Nat) (m : Nat) : Nat → Nat
  | 0 => m
  | k + 1 => if L[m + k]! = 0 then trimN L m k else m + k + 1
theorem trimN_le (L : List Nat) (m : Nat) : ∀ k, m ≤ trimN L m k ∧ trimN L m k ≤ m + k
  | 0 => ⟨Nat.le_refl _, Nat.le_refl _⟩
  | k + 1 => by
    have := trimN_le L m k
    rw [trimN]
    split <;> omega
theorem trimN_zero (L : List Nat) (m : Nat) : ∀ k i, trimN L m k ≤ i → i < m + k → L[i]! = 0
  | 0, i, h1, h2 => by rw [trimN] at h1; omega
  | k + 1, i, h1, h2 => by
    rw [trimN] at h1
    split at h1
    · rename_i h0
      rcases Nat.lt_or_ge i (m + k) with h | h
      · exact trimN_zero L m k i h1 h
      · rw [show i = m + k by omega]; exact h0
    · omega
def trimL (L : List Nat) (m : Nat) : List Nat := L.take (trimN L m (L.length - m))
def ord : List Nat := [16, 17, 18, 0, 8, 7, 9, 6, 10, 5, 11, 4, 12, 3, 13, 2, 14, 1, 15]
/-- how often each of 0 to 18 is met -/
def bump8 (W : List Nat) (s : Nat) : List Nat := W.set s (W[s]! + 1)
def weigh8 (T : List It) (W : List Nat) : List Nat := T.foldl (fun W t => bump8 W t.s) W
def zeros19 : List Nat := List.replicate 19 0
/-- how many lengths are put, of the first 4 + k in the order -/
def manyN (len : List Nat) : Nat → Nat
  | 0 => 4
  | k + 1 => if 0 < len[ord[4 + k]!]! then 4 + k + 1 else manyN len k
theorem manyN_le (len : List Nat) : ∀ k, 4 ≤ manyN len k ∧ manyN len k ≤ 4 + k
  | 0 => ⟨Nat.le_refl _, Nat.le_refl _⟩
  | k + 1 => by
    have := manyN_le len k
    rw [manyN]
    split <;> omega
/-- the bits of one item -/
def itBits (cs len : List Nat) (t : It) : List Bool := (low cs[t.s]! (min len[t.s]! 64)).reverse ++ low t.x (min t.b 64)
/-- the bits of the lengths of two codes, as they are pressed -/
def putBits (A B : List Nat) : List Bool :=
  let T := items (A ++ B)
  let len := lens 7 (weigh8 T zeros19)
  let cs := codesL (len.map fun x : Nat => (x : Int))
  low (A.length - 257) 5 ++ low (B.length - 1) 5 ++ low (manyN len 15 - 4) 4 ++ (ord.take (manyN len 15)).flatMap (fun o => low len[o]! 3) ++ T.flatMap (itBits cs len)
theorem bump8_len (W : List Nat) (s : Nat) : (bump8 W s).length = W.length := by simp [bump8]
theorem weigh8_len : ∀ (T : List It) (W : List Nat), (weigh8 T W).length = W.length
  | [], W => rfl
  | t :: T, W => by
    show (weigh8 T (bump8 W t.s)).length = _
    rw [weigh8_len T _, bump8_len]
theorem bump8_le {W : List Nat} {N s : Nat} (h : ∀ x ∈ W, x ≤ N) : ∀ x ∈ bump8 W s, x ≤ N + 1 := by
  intro x hx
  rcases List.mem_or_eq_of_mem_set hx with h1 | h1
  · have := h x h1; omega
  · rcases Nat.lt_or_ge s W.length with hs | hs
    · rw [getElem!_pos W s hs] at h1
      have := h _ (List.getElem_mem hs)
      omega
    · rw [getElem!_neg W s (by omega)] at h1
      have : x ≤ 0 + 1 := by rw [h1]; exact Nat.le_refl _
      omega
theorem weigh8_le : ∀ (T : List It) (W : List Nat) (N : Nat), (∀ x ∈ W, x ≤ N) → ∀ x ∈ weigh8 T W, x ≤ N + T.length
  | [], W, N, h, x, hx => by have := h x hx; omega
  | t :: T, W, N, h, x, hx => by
    have := weigh8_le T (bump8 W t.s) (N + 1) (bump8_le h) x hx
    rw [List.length_cons]
    omega
theorem weigh8_take {T : List It} {k : Nat} {t : It} (h : T[k]? = some t) (W : List Nat) : weigh8 (T.take (k + 1)) W = bump8 (weigh8 (T.take k) W) t.s := by
  have hk := (List.getElem?_eq_some_iff.1 h).1
  have he := (List.getElem?_eq_some_iff.1 h).2
  rw [List.take_succ_eq_append_getElem hk, he]
  unfold weigh8
  rw [List.foldl_append]
  rfl
theorem pressI_mem {L : List Nat} (hL : ∀ x ∈ L, x ≤ 15) : ∀ f i, ∀ t ∈ pressI L f i, t.s ≤ 18 ∧ t.b ≤ 7 ∧ t.x ≤ 127
  | 0, i, t, h => by simp [pressI] at h
  | f + 1, i, t, h => by
    rw [pressI] at h
    split at h
    · rename_i hi
      rcases List.mem_cons.1 h with h | h
      · obtain ⟨n, v, _, _, _, _, hv, _, hc⟩ := item_cases L i hi hL
        rw [← h] at hc
        rcases hc with ⟨x, e, _, hx, _⟩ | ⟨x, e, _, hx, _⟩ | ⟨x, e, _, hx, _⟩ | ⟨e, _⟩
        · rw [e]; exact ⟨Nat.le_refl _, Nat.le_refl _, by show x ≤ 127; omega⟩
        · rw [e]; exact ⟨by show 17 ≤ 18; omega, by show 3 ≤ 7; omega, by show x ≤ 127; omega⟩
        · rw [e]; exact ⟨by show 16 ≤ 18; omega, by show 2 ≤ 7; omega, by show x ≤ 127; omega⟩
        · rw [e]; exact ⟨by show v ≤ 18; omega, by show 0 ≤ 7; omega, by show 0 ≤ 127; omega⟩
      · exact pressI_mem hL f _ t h
    · simp at h
theorem items_mem {L : List Nat} (hL : ∀ x ∈ L, x ≤ 15) : ∀ t ∈ items L, t.s ≤ 18 ∧ t.b ≤ 7 ∧ t.x ≤ 127 := pressI_mem hL _ _
end Go.Proofs.YtjghcacepneipaaDoor.CoM
