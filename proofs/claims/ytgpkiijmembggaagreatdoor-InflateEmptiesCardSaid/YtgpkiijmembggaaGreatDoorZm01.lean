/-
  Plain mathematics of layer 5's lengths by weights: groups that are joined two by two, as the reference does it; weights that are halved till the lengths fit; that they fit in the end. Nothing of any program here.
  Plain mathematics of layer 1: lists of bits, the bytes that they make, the number that they tell. Nothing of any program here.
  Layer 8, plain: lengths without 0s at the end; the order of the items' lengths; the bits of two codes' lengths.
  Plain mathematics of layer 5's lengths: where no weight is above 1 the lengths fit; so halving ends.
-/
import Derived.Test.YtgpkiijmembggaaGreatDoorZm00
import Derived.WalkKit
namespace Go.Proofs.YtgpkiijmembggaaGreatDoor.HuffM

structure Grp where
  w : Nat
  s : List Nat
def gat (l : List Grp) (i : Nat) : Grp := l.getD i ⟨0, []⟩
def wt (l : List Grp) (i : Nat) : Nat := (gat l i).w
/-- the first of the least ones among the first i -/
def aI (l : List Grp) : Nat → Nat
  | 0 => 0
  | i + 1 => if wt l i < wt l (aI l i) then i else aI l i
/-- the first of the least ones among the first i, but a -/
def bI (l : List Grp) (a : Nat) : Nat → Option Nat
  | 0 => none
  | i + 1 => match bI l a i with
    | none => if i ≠ a then some i else none
    | some b => if i ≠ a ∧ wt l i < wt l b then some i else some b
/-- the first i, but a and b -/
def rI (l : List Grp) (a b : Nat) : Nat → List Grp
  | 0 => []
  | i + 1 => if i ≠ a ∧ i ≠ b then rI l a b i ++ [gat l i] else rI l a b i
def inc (o : List Nat) (s : Nat) : List Nat := o.set s (o.getD s 0 + 1)
def incs (o : List Nat) (S : List Nat) : List Nat := S.foldl inc o
def pa (l : List Grp) : Nat := aI l l.length
def pb (l : List Grp) : Nat := (bI l (pa l) l.length).getD 0
def grp (l : List Grp) : Grp := ⟨wt l (pa l) + wt l (pb l), (gat l (pa l)).s ++ (gat l (pb l)).s⟩
def joinG (l : List Grp) : List Grp := rI l (pa l) (pb l) l.length ++ [grp l]
def mergeF : Nat → List Grp → List Nat → List Nat
  | 0, _, o => o
  | f + 1, l, o => if l.length ≤ 1 then o else mergeF f (joinG l) (incs o (grp l).s)
/-- the groups of the first i weights -/
def gI (W : List Nat) : Nat → List Grp
  | 0 => []
  | i + 1 => if 0 < W.getD i 0 then gI W i ++ [⟨W.getD i 0, [i]⟩] else gI W i
def once0 (W : List Nat) : List Nat := List.replicate W.length 0
def onceL (W : List Nat) : List Nat :=
  let l := gI W W.length
  mergeF l.length l (if l.length = 1 then (once0 W).set ((gat l 0).s.getD 0 0) 1 else once0 W)
def half (W : List Nat) : List Nat := W.map fun x => x / 2 + x % 2
def lensF (most : Nat) : Nat → List Nat → List Nat
  | 0, W => onceL W
  | f + 1, W => if (onceL W).all (fun x => decide (x ≤ most)) = true then onceL W else lensF most f (half W)
def lens (most : Nat) (W : List Nat) : List Nat := lensF most (W.sum + 1) W

theorem aI_lt (l : List Grp) (i : Nat) (hi : 0 < i) : aI l i < i := by
  induction i with
  | zero => omega
  | succ i ih =>
    rw [aI]
    split
    · omega
    · rcases Nat.eq_zero_or_pos i with rfl | h
      · simp [aI]
      · have := ih h; omega
theorem aI_le (l : List Grp) (i : Nat) : ∀ j, j < i → wt l (aI l i) ≤ wt l j := by
  induction i with
  | zero => intro j hj; omega
  | succ i ih =>
    intro j hj
    rw [aI]
    split
    · rename_i h
      rcases Nat.lt_succ_iff_lt_or_eq.1 hj with h1 | rfl
      · have := ih j h1; omega
      · omega
    · rename_i h
      rcases Nat.lt_succ_iff_lt_or_eq.1 hj with h1 | rfl
      · exact ih j h1
      · omega
theorem bI_none {l : List Grp} {a i : Nat} (h : bI l a i = none) : ∀ j, j < i → j = a := by
  induction i with
  | zero => intro j hj; omega
  | succ i ih =>
    rw [bI] at h
    cases hb : bI l a i with
    | none =>
      rw [hb] at h
      simp only at h
      intro j hj
      rcases Nat.lt_succ_iff_lt_or_eq.1 hj with h1 | rfl
      · exact ih hb j h1
      · by_cases e : j = a
        · exact e
        · rw [if_pos e] at h; cases h
    | some b =>
      rw [hb] at h
      simp only at h
      split at h <;> cases h
theorem bI_some {l : List Grp} {a i b : Nat} (h : bI l a i = some b) : b < i ∧ b ≠ a ∧ ∀ j, j < i → j ≠ a → wt l b ≤ wt l j := by
  induction i generalizing b with
  | zero => cases h
  | succ i ih =>
    rw [bI] at h
    cases hb : bI l a i with
    | none =>
      rw [hb] at h
      simp only at h
      split at h
      · rename_i hia
        injection h with h
        subst h
        refine ⟨by omega, hia, fun j hj hja => ?_⟩
        rcases Nat.lt_succ_iff_lt_or_eq.1 hj with h1 | rfl
        · exact absurd (bI_none hb j h1) hja
        · exact Nat.le_refl _
      · cases h
    | some b' =>
      rw [hb] at h
      simp only at h
      obtain ⟨h1, h2, h3⟩ := ih hb
      split at h
      · rename_i hc
        injection h with h
        subst h
        refine ⟨by omega, hc.1, fun j hj hja => ?_⟩
        rcases Nat.lt_succ_iff_lt_or_eq.1 hj with h4 | rfl
        · have := h3 j h4 hja; omega
        · exact Nat.le_refl _
      · rename_i hc
        injection h with h
        subst h
        refine ⟨by omega, h2, fun j hj hja => ?_⟩
        rcases Nat.lt_succ_iff_lt_or_eq.1 hj with h4 | rfl
        · exact h3 j h4 hja
        · rcases Nat.lt_or_ge (wt l j) (wt l b') with h5 | h5
          · exact absurd ⟨hja, h5⟩ hc
          · exact h5
theorem pick {l : List Grp} (h : 2 ≤ l.length) : pa l < l.length ∧ pb l < l.length ∧ pb l ≠ pa l ∧ wt l (pa l) ≤ wt l (pb l) ∧ ∀ j, j < l.length → j ≠ pa l → wt l (pb l) ≤ wt l j := by
  have ha := aI_lt l l.length (by omega)
  cases hb : bI l (pa l) l.length with
  | none =>
    have h0 := bI_none hb 0 (by omega)
    have h1 := bI_none hb 1 (by omega)
    omega
  | some b =>
    obtain ⟨h1, h2, h3⟩ := bI_some hb
    have e : pb l = b := by unfold pb; rw [hb]; rfl
    rw [e]
    exact ⟨ha, h1, h2, aI_le l l.length b h1, h3⟩
theorem gat_mem {l : List Grp} {i : Nat} (h : i < l.length) : gat l i ∈ l := by
  unfold gat
  rw [List.getD_eq_getElem?_getD, List.getElem?_eq_getElem h]
  exact List.getElem_mem h
theorem take_gat {l : List Grp} {i : Nat} (h : i < l.length) : l.take (i + 1) = l.take i ++ [gat l i] := by
  have e : l[i]? = some (gat l i) := by
    unfold gat
    rw [List.getD_eq_getElem?_getD, List.getElem?_eq_getElem h]
    rfl
  exact take_snoc e
theorem rI_perm (l : List Grp) (a b : Nat) (hab : b ≠ a) (i : Nat) (hi : i ≤ l.length) :
    (l.take i).Perm ((if a < i then [gat l a] else []) ++ ((if b < i then [gat l b] else []) ++ rI l a b i)) := by
  induction i with
  | zero => simp [rI]
  | succ i ih =>
    have ih := ih (by omega)
    rw [take_gat (by omega), rI]
    by_cases h1 : i = a
    · subst h1
      rw [if_pos (show i < i + 1 by omega), if_neg (show ¬ (i ≠ i ∧ i ≠ b) from fun h => h.1 rfl)]
      have e : (if b < i + 1 then [gat l b] else []) = (if b < i then [gat l b] else []) := by
        by_cases h : b < i
        · rw [if_pos h, if_pos (by omega)]
        · rw [if_neg h, if_neg (by omega)]
      rw [e]
      rw [if_neg (show ¬ i < i by omega), List.nil_append] at ih
      exact (List.perm_append_comm).trans ((List.Perm.refl _).append ih)
    · by_cases h2 : i = b
      · subst h2
        rw [if_neg (show ¬ (i ≠ a ∧ i ≠ i) from fun h => h.2 rfl)]
        have e : (if a < i + 1 then [gat l a] else []) = (if a < i then [gat l a] else []) := by
          by_cases h : a < i
          · rw [if_pos h, if_pos (by omega)]
          · rw [if_neg h, if_neg (by omega)]
        rw [e, if_pos (show i < i + 1 by omega)]
        rw [if_neg (show ¬ i < i by omega), List.nil_append] at ih
        refine (List.perm_append_comm).trans ?_
        refine ((List.Perm.refl [gat l i]).append ih).trans ?_
        rw [← List.append_assoc, ← List.append_assoc]
        exact List.Perm.append_right _ List.perm_append_comm
      · rw [if_pos (show i ≠ a ∧ i ≠ b from ⟨h1, h2⟩)]
        have e1 : (if a < i + 1 then [gat l a] else []) = (if a < i then [gat l a] else []) := by
          by_cases h : a < i
          · rw [if_pos h, if_pos (by omega)]
          · rw [if_neg h, if_neg (by omega)]
        have e2 : (if b < i + 1 then [gat l b] else []) = (if b < i then [gat l b] else []) := by
          by_cases h : b < i
          · rw [if_pos h, if_pos (by omega)]
          · rw [if_neg h, if_neg (by omega)]
        rw [e1, e2]
        have := ih.append_right [gat l i]
        simpa [List.append_assoc] using this
/-- what a join takes, and what it leaves -/
theorem join_spec {l : List Grp} (h : 2 ≤ l.length) : ∃ x y R, l.Perm (x :: y :: R) ∧ joinG l = R ++ [⟨x.w + y.w, x.s ++ y.s⟩] ∧ grp l = ⟨x.w + y.w, x.s ++ y.s⟩ ∧ x.w ≤ y.w ∧ ∀ z ∈ R, y.w ≤ z.w := by
  obtain ⟨h1, h2, h3, h4, h5⟩ := pick h
  refine ⟨gat l (pa l), gat l (pb l), rI l (pa l) (pb l) l.length, ?_, rfl, rfl, h4, ?_⟩
  · have := rI_perm l (pa l) (pb l) h3 l.length (Nat.le_refl _)
    rw [List.take_length, if_pos h1, if_pos h2] at this
    exact this
  · have key : ∀ i, i ≤ l.length → ∀ z ∈ rI l (pa l) (pb l) i, wt l (pb l) ≤ z.w := by
      intro i
      induction i with
      | zero => intro _ z hz; simp [rI] at hz
      | succ i ih =>
        intro hi z hz
        rw [rI] at hz
        split at hz
        · rename_i hc
          rcases List.mem_append.1 hz with hz | hz
          · exact ih (by omega) z hz
          · simp at hz
            subst hz
            exact h5 i (by omega) hc.1
        · exact ih (by omega) z hz
    exact key l.length (Nat.le_refl _)
theorem join_len {l : List Grp} (h : 2 ≤ l.length) : (joinG l).length = l.length - 1 := by
  obtain ⟨x, y, R, hp, hj, _⟩ := join_spec h
  rw [hj]
  have := hp.length_eq
  simp at this ⊢
  omega
end Go.Proofs.YtgpkiijmembggaaGreatDoor.HuffM
namespace Go.Proofs.YtgpkiijmembggaaGreatDoor.BitsM

/-- the lowest n bits of a number, the lowest first -/
def low (x n : Nat) : List Bool := (List.range n).map x.testBit
/-- the number of bits, the lowest first -/
def num : List Bool → Nat
  | [] => 0
  | b :: l => b.toNat + 2 * num l
def bitsOf (l : List UInt8) : List Bool := l.flatMap fun b => low b.toNat 8
/-- bits that lack till a whole number of bytes -/
def lack (n : Nat) : Nat := (8 - n % 8) % 8
def full (l : List Bool) : List Bool := l ++ List.replicate (lack l.length) false
def pack (l : List Bool) : List UInt8 := (List.range ((l.length + 7) / 8)).map fun i => UInt8.ofNat (num ((l.drop (8 * i)).take 8))

theorem low_length (x n : Nat) : (low x n).length = n := by simp [low]
theorem low_zero (x : Nat) : low x 0 = [] := rfl
theorem low_succ (x n : Nat) : low x (n + 1) = low x n ++ [x.testBit n] := by simp [low, List.range_succ]
theorem low_cons (x n : Nat) : low x (n + 1) = x.testBit 0 :: low (x / 2) n := by
  simp only [low, List.range_succ_eq_map, List.map_cons, List.map_map]
  congr 1
  apply List.map_congr_left
  intro i _
  simp [Nat.testBit_succ]
theorem num_lt (l : List Bool) : num l < 2 ^ l.length := by
  induction l with
  | nil => simp [num]
  | cons b l ih => have : b.toNat ≤ 1 := by cases b <;> simp
                   simp only [num, List.length_cons, Nat.pow_succ]; omega
theorem num_append (a b : List Bool) : num (a ++ b) = num a + 2 ^ a.length * num b := by
  induction a with
  | nil => simp [num]
  | cons x a ih => rw [List.cons_append, num, ih, num, List.length_cons, Nat.pow_succ, Nat.mul_comm (2 ^ a.length) 2, Nat.mul_assoc]; omega
theorem num_replicate (n : Nat) : num (List.replicate n false) = 0 := by
  induction n with
  | zero => rfl
  | succ n ih => simp [List.replicate_succ, num, ih]
theorem num_snoc (a : List Bool) (b : Bool) : num (a ++ [b]) = num a + 2 ^ a.length * b.toNat := by
  rw [num_append]; simp [num]
theorem num_low (x n : Nat) : num (low x n) = x % 2 ^ n := by
  induction n generalizing x with
  | zero => simp [low_zero, num]; omega
  | succ n ih =>
    rw [low_cons, num, ih, Nat.pow_succ, Nat.mul_comm (2 ^ n) 2, Nat.mod_mul]
    simp [Nat.testBit_zero]
    rcases Nat.mod_two_eq_zero_or_one x with h | h <;> simp [h]
theorem low_num (l : List Bool) : low (num l) l.length = l := by
  induction l with
  | nil => rfl
  | cons b l ih =>
    rw [List.length_cons, low_cons]
    have h0 : (num (b :: l)).testBit 0 = b := by
      simp only [Nat.testBit_zero, num]
      cases b <;> simp <;> omega
    have h1 : num (b :: l) / 2 = num l := by
      simp only [num]
      have : b.toNat ≤ 1 := by cases b <;> simp
      omega
    rw [h0, h1, ih]
theorem num_inj {a b : List Bool} (hl : a.length = b.length) (h : num a = num b) : a = b := by
  rw [← low_num a, ← low_num b, h, hl]
theorem testBit_num (l : List Bool) (i : Nat) : (num l).testBit i = l.getD i false := by
  induction l generalizing i with
  | nil => simp [num]
  | cons b l ih =>
    have h1 : num (b :: l) / 2 = num l := by
      simp only [num]
      have : b.toNat ≤ 1 := by cases b <;> simp
      omega
    cases i with
    | zero => simp only [Nat.testBit_zero, num, List.getD_cons_zero]; cases b <;> simp <;> omega
    | succ i => rw [Nat.testBit_succ, h1, ih]; simp

theorem bitsOf_nil : bitsOf [] = [] := rfl
theorem bitsOf_cons (b : UInt8) (l : List UInt8) : bitsOf (b :: l) = low b.toNat 8 ++ bitsOf l := rfl
theorem bitsOf_append (a b : List UInt8) : bitsOf (a ++ b) = bitsOf a ++ bitsOf b := by simp [bitsOf]
theorem bitsOf_length (l : List UInt8) : (bitsOf l).length = 8 * l.length := by
  induction l with
  | nil => rfl
  | cons b l ih => rw [bitsOf_cons, List.length_append, ih, low_length, List.length_cons]; omega

theorem lack_lt (n : Nat) : lack n < 8 := by unfold lack; omega
theorem lack_add (n : Nat) : (n + lack n) % 8 = 0 := by unfold lack; omega
theorem lack_zero {n : Nat} (h : n % 8 = 0) : lack n = 0 := by unfold lack; omega
theorem lack_pos {n : Nat} (h : n % 8 ≠ 0) : lack n = 8 - n % 8 := by unfold lack; omega
theorem lack_ceil (n : Nat) : n + lack n = 8 * ((n + 7) / 8) := by unfold lack; omega
theorem full_length (l : List Bool) : (full l).length = l.length + lack l.length := by simp [full]
theorem full_mod (l : List Bool) : (full l).length % 8 = 0 := by rw [full_length]; exact lack_add _
theorem full_of_aligned {l : List Bool} (h : l.length % 8 = 0) : full l = l := by simp [full, lack_zero h]

theorem pack_length (l : List Bool) : (pack l).length = (l.length + 7) / 8 := by simp [pack]
theorem pack_nil : pack [] = [] := rfl
theorem pack_get (l : List Bool) (i : Nat) (h : i < (l.length + 7) / 8) : (pack l)[i]? = some (UInt8.ofNat (num ((l.drop (8 * i)).take 8))) := by
  simp [pack, h]
theorem num_take8_lt (l : List Bool) : num (l.take 8) < 256 := by
  have h := num_lt (l.take 8)
  have h2 : (l.take 8).length ≤ 8 := by simp; omega
  have := Nat.pow_le_pow_right (show 0 < 2 by omega) h2
  omega
theorem pack_get_toNat (l : List Bool) (i : Nat) (b : UInt8) (h : (pack l)[i]? = some b) : b.toNat = num ((l.drop (8 * i)).take 8) := by
  have hi : i < (l.length + 7) / 8 := by rw [← pack_length]; exact (List.getElem?_eq_some_iff.1 h).1
  rw [pack_get l i hi] at h
  obtain rfl := Option.some.inj h
  simp
  exact num_take8_lt _
theorem pack_append {a : List Bool} (h : a.length % 8 = 0) (b : List Bool) : pack (a ++ b) = pack a ++ pack b := by
  apply List.ext_getElem?
  intro i
  have hla := pack_length a
  by_cases hi : i < (pack a).length
  · rw [List.getElem?_append_left hi, pack_get _ _ (by rw [List.length_append]; omega), pack_get _ _ (by omega)]
    rw [List.drop_append_of_le_length (by omega), List.take_append_of_le_length (by simp; omega)]
  · rw [List.getElem?_append_right (by omega)]
    by_cases hi2 : i < ((a ++ b).length + 7) / 8
    · have hb : i - (pack a).length < (b.length + 7) / 8 := by rw [List.length_append] at hi2; omega
      rw [pack_get _ _ hi2, pack_get _ _ hb]
      congr 3
      rw [show 8 * i = a.length + 8 * (i - (pack a).length) from by omega, List.drop_append]
      simp [List.drop_eq_nil_of_le (show a.length ≤ a.length + 8 * (i - (pack a).length) from by omega)]
    · rw [List.getElem?_eq_none (by rw [pack_length]; omega), List.getElem?_eq_none (by rw [pack_length]; rw [List.length_append] at hi2; omega)]
theorem pack_low8 (b : UInt8) : pack (low b.toNat 8) = [b] := by
  have h : pack (low b.toNat 8) = [UInt8.ofNat (num ((low b.toNat 8).take 8))] := by
    simp [pack, low_length, List.range_succ]
  rw [h, List.take_of_length_le (by rw [low_length]; omega), num_low]
  simp
theorem pack_bitsOf (l : List UInt8) : pack (bitsOf l) = l := by
  induction l with
  | nil => rfl
  | cons b l ih => rw [bitsOf_cons, pack_append (by rw [low_length]), pack_low8, ih]; rfl
/-- bits that are 0, at the end of the last byte, turn no byte -/
theorem pack_pad (l : List Bool) (k : Nat) (h : k ≤ lack l.length) : pack (l ++ List.replicate k false) = pack l := by
  have hc := lack_ceil l.length
  have hlk := lack_lt l.length
  apply List.ext_getElem?
  intro i
  have hlen : ((l ++ List.replicate k false).length + 7) / 8 = (l.length + 7) / 8 := by
    simp; omega
  by_cases hi : i < (l.length + 7) / 8
  · rw [pack_get _ _ (by rw [hlen]; exact hi), pack_get _ _ hi]
    congr 2
    rw [List.drop_append, List.take_append, num_append, List.drop_replicate, List.take_replicate, num_replicate]
    simp
  · rw [List.getElem?_eq_none (by rw [pack_length, hlen]; omega), List.getElem?_eq_none (by rw [pack_length]; omega)]
theorem pack_full (l : List Bool) : pack (full l) = pack l := pack_pad l _ (Nat.le_refl _)
theorem pack_snoc_new {l : List Bool} (h : l.length % 8 = 0) (b : Bool) : pack (l ++ [b]) = pack l ++ [UInt8.ofNat b.toNat] := by
  rw [pack_append h]
  congr 1
  simp [pack, num, List.range_succ]
/-- a bit behind others in the last byte: the byte turns, no other one -/
theorem pack_snoc_old {l : List Bool} (h : l.length % 8 ≠ 0) (b : Bool) (o : UInt8) (ho : (pack l)[l.length / 8]? = some o) :
    pack (l ++ [b]) = (pack l).set (l.length / 8) (UInt8.ofNat (o.toNat + 2 ^ (l.length % 8) * b.toNat)) ∧ o.toNat < 2 ^ (l.length % 8) := by
  have hon := pack_get_toNat _ _ _ ho
  have ht : ((l.drop (8 * (l.length / 8))).take 8) = l.drop (8 * (l.length / 8)) := List.take_of_length_le (by simp; omega)
  rw [ht] at hon
  have hdl : (l.drop (8 * (l.length / 8))).length = l.length % 8 := by simp; omega
  refine ⟨?_, by rw [hon, ← hdl]; exact num_lt _⟩
  apply List.ext_getElem?
  intro i
  by_cases hi : i < (l.length + 7) / 8
  · rw [pack_get _ _ (by simp; omega)]
    by_cases he : i = l.length / 8
    · subst he
      rw [List.getElem?_set_self (by rw [pack_length]; omega)]
      congr 2
      rw [List.drop_append_of_le_length (by omega), List.take_of_length_le (by simp; omega), num_snoc, hdl, hon]
    · rw [List.getElem?_set_ne (by omega), pack_get _ _ hi]
      congr 2
      rw [List.drop_append_of_le_length (by omega), List.take_append_of_le_length (by simp; omega)]
  · rw [List.getElem?_eq_none (by rw [pack_length]; simp; omega), List.getElem?_eq_none (by rw [List.length_set, pack_length]; omega)]
/-- the byte that holds a bit of bytes, and the bit in it -/
theorem bitsOf_get (l : List UInt8) (i : Nat) (o : UInt8) (ho : l[i / 8]? = some o) : (bitsOf l)[i]? = some (o.toNat.testBit (i % 8)) := by
  induction l generalizing i with
  | nil => simp at ho
  | cons b l ih =>
    rw [bitsOf_cons]
    by_cases hi : i < 8
    · rw [List.getElem?_append_left (by rw [low_length]; exact hi)]
      rw [show i / 8 = 0 from by omega] at ho
      simp at ho
      subst ho
      simp [low, hi, Nat.mod_eq_of_lt hi]
    · rw [List.getElem?_append_right (by rw [low_length]; omega), low_length]
      have := ih (i - 8) (by
        rw [show i / 8 = (i - 8) / 8 + 1 from by omega] at ho
        simpa using ho)
      rw [this, show (i - 8) % 8 = i % 8 from by omega]
end Go.Proofs.YtgpkiijmembggaaGreatDoor.BitsM
namespace Go.Proofs.YtgpkiijmembggaaGreatDoor.CoM
open HuffM BitsM

/-- how many are left without the 0s at the end of the first k behind m, but at least m -/
def trimN (L : List Nat) (m : Nat) : Nat → Nat
  | 0 => m
  | k + 1 => if L[m + k]! = 0 then trimN L m k else m + k + 1
theorem trimN_le (L : List Nat) (m : Nat) : ∀ k, m ≤ trimN L m k ∧ trimN L m k ≤ m + k
  | 0 => ⟨Nat.le_refl _, Nat.le_refl _⟩
  | k + 1 => by
    have := trimN_le L m k
    rw [trimN]
    split <;> omega
theorem trimN_zero (L : List Nat) (m : Nat) : ∀ k i, trimN L m k ≤ i → i < m + k → L[i]! = 0
  | 0, i, h1, h2 => by rw [trimN] at h1; omega
  | k + 1, i, h1, h2 => by
    rw [trimN] at h1
    split at h1
    · rename_i h0
      rcases Nat.lt_or_ge i (m + k) with h | h
      · exact trimN_zero L m k i h1 h
      · rw [show i = m + k by omega]; exact h0
    · omega
def trimL (L : List Nat) (m : Nat) : List Nat := L.take (trimN L m (L.length - m))
def ord : List Nat := [16, 17, 18, 0, 8, 7, 9, 6, 10, 5, 11, 4, 12, 3, 13, 2, 14, 1, 15]
/-- how often each of 0 to 18 is met -/
def bump8 (W : List Nat) (s : Nat) : List Nat := W.set s (W[s]! + 1)
def weigh8 (T : List It) (W : List Nat) : List Nat := T.foldl (fun W t => bump8 W t.s) W
def zeros19 : List Nat := List.replicate 19 0
/-- how many lengths are put, of the first 4 + k in the order -/
def manyN (len : List Nat) : Nat → Nat
  | 0 => 4
  | k + 1 => if 0 < len[ord[4 + k]!]! then 4 + k + 1 else manyN len k
theorem manyN_le (len : List Nat) : ∀ k, 4 ≤ manyN len k ∧ manyN len k ≤ 4 + k
  | 0 => ⟨Nat.le_refl _, Nat.le_refl _⟩
  | k + 1 => by
    have := manyN_le len k
    rw [manyN]
    split <;> omega
/-- the bits of one item -/
def itBits (cs len : List Nat) (t : It) : List Bool := (low cs[t.s]! (min len[t.s]! 64)).reverse ++ low t.x (min t.b 64)
/-- the bits of the lengths of two codes, as they are pressed -/
def putBits (A B : List Nat) : List Bool :=
  let T := items (A ++ B)
  let len := lens 7 (weigh8 T zeros19)
  let cs := codesL (len.map fun x : Nat => (x : Int))
  low (A.length - 257) 5 ++ low (B.length - 1) 5 ++ low (manyN len 15 - 4) 4 ++ (ord.take (manyN len 15)).flatMap (fun o => low len[o]! 3) ++ T.flatMap (itBits cs len)
theorem bump8_len (W : List Nat) (s : Nat) : (bump8 W s).length = W.length := by simp [bump8]
theorem weigh8_len : ∀ (T : List It) (W : List Nat), (weigh8 T W).length = W.length
  | [], W => rfl
  | t :: T, W => by
    show (weigh8 T (bump8 W t.s)).length = _
    rw [weigh8_len T _, bump8_len]
theorem bump8_le {W : List Nat} {N s : Nat} (h : ∀ x ∈ W, x ≤ N) : ∀ x ∈ bump8 W s, x ≤ N + 1 := by
  intro x hx
  rcases List.mem_or_eq_of_mem_set hx with h1 | h1
  · have := h x h1; omega
  · rcases Nat.lt_or_ge s W.length with hs | hs
    · rw [getElem!_pos W s hs] at h1
      have := h _ (List.getElem_mem hs)
      omega
    · rw [getElem!_neg W s (by omega)] at h1
      have : x ≤ 0 + 1 := by rw [h1]; exact Nat.le_refl _
      omega
theorem weigh8_le : ∀ (T : List It) (W : List Nat) (N : Nat), (∀ x ∈ W, x ≤ N) → ∀ x ∈ weigh8 T W, x ≤ N + T.length
  | [], W, N, h, x, hx => by have := h x hx; omega
  | t :: T, W, N, h, x, hx => by
    have := weigh8_le T (bump8 W t.s) (N + 1) (bump8_le h) x hx
    rw [List.length_cons]
    omega
theorem weigh8_take {T : List It} {k : Nat} {t : It} (h : T[k]? = some t) (W : List Nat) : weigh8 (T.take (k + 1)) W = bump8 (weigh8 (T.take k) W) t.s := by
  have hk := (List.getElem?_eq_some_iff.1 h).1
  have he := (List.getElem?_eq_some_iff.1 h).2
  rw [List.take_succ_eq_append_getElem hk, he]
  unfold weigh8
  rw [List.foldl_append]
  rfl
theorem pressI_mem {L : List Nat} (hL : ∀ x ∈ L, x ≤ 15) : ∀ f i, ∀ t ∈ pressI L f i, t.s ≤ 18 ∧ t.b ≤ 7 ∧ t.x ≤ 127
  | 0, i, t, h => by simp [pressI] at h
  | f + 1, i, t, h => by
    rw [pressI] at h
    split at h
    · rename_i hi
      rcases List.mem_cons.1 h with h | h
      · obtain ⟨n, v, _, _, _, _, hv, _, hc⟩ := item_cases L i hi hL
        rw [← h] at hc
        rcases hc with ⟨x, e, _, hx, _⟩ | ⟨x, e, _, hx, _⟩ | ⟨x, e, _, hx, _⟩ | ⟨e, _⟩
        · rw [e]; exact ⟨Nat.le_refl _, Nat.le_refl _, by show x ≤ 127; omega⟩
        · rw [e]; exact ⟨by show 17 ≤ 18; omega, by show 3 ≤ 7; omega, by show x ≤ 127; omega⟩
        · rw [e]; exact ⟨by show 16 ≤ 18; omega, by show 2 ≤ 7; omega, by show x ≤ 127; omega⟩
        · rw [e]; exact ⟨by show v ≤ 18; omega, by show 0 ≤ 7; omega, by show 0 ≤ 127; omega⟩
      · exact pressI_mem hL f _ t h
    · simp at h
theorem items_mem {L : List Nat} (hL : ∀ x ∈ L, x ≤ 15) : ∀ t ∈ items L, t.s ≤ 18 ∧ t.b ≤ 7 ∧ t.x ≤ 127 := pressI_mem hL _ _
end Go.Proofs.YtgpkiijmembggaaGreatDoor.CoM
namespace Go.Proofs.YtgpkiijmembggaaGreatDoor.HuffM

def oat (o : List Nat) (s : Nat) : Nat := o.getD s 0
def sy (l : List Grp) : List Nat := l.flatMap (·.s)
theorem inc_len (o : List Nat) (s : Nat) : (inc o s).length = o.length := by simp [inc]
theorem incs_len (o S : List Nat) : (incs o S).length = o.length := by
  unfold incs
  induction S generalizing o with
  | nil => rfl
  | cons s S ih => rw [List.foldl_cons, ih, inc_len]
theorem inc_at (o : List Nat) (s t : Nat) (hs : s < o.length) : oat (inc o s) t = if s = t then oat o t + 1 else oat o t := by
  unfold oat inc
  rw [List.getD_eq_getElem?_getD, List.getElem?_set]
  by_cases h : s = t
  · subst h; simp [hs]
  · rw [if_neg h, if_neg h, ← List.getD_eq_getElem?_getD]
theorem incs_at (o S : List Nat) (hS : ∀ s ∈ S, s < o.length) (hn : S.Nodup) (t : Nat) : oat (incs o S) t = if t ∈ S then oat o t + 1 else oat o t := by
  induction S generalizing o with
  | nil => simp [incs]
  | cons s S ih =>
    have hn' := List.nodup_cons.1 hn
    have h := ih (inc o s) (by intro x hx; rw [inc_len]; exact hS x (List.mem_cons_of_mem _ hx)) hn'.2
    have e : incs o (s :: S) = incs (inc o s) S := rfl
    rw [e, h, inc_at o s t (hS s (List.mem_cons_self ..))]
    by_cases h1 : s = t
    · subst h1
      rw [if_neg hn'.1]
      simp
    · by_cases h2 : t ∈ S
      · rw [if_pos h2, if_neg h1, if_pos (List.mem_cons_of_mem _ h2)]
      · rw [if_neg h2, if_neg h1, if_neg (by intro h; rcases List.mem_cons.1 h with h | h; exact h1 h.symm; exact h2 h)]
theorem sy_perm {l l' : List Grp} (h : l.Perm l') : (sy l).Perm (sy l') := h.flatMap_right _
theorem sy_join {l : List Grp} (h : 2 ≤ l.length) : (sy (joinG l)).Perm (sy l) := by
  obtain ⟨x, y, R, hp, hj, _⟩ := join_spec h
  rw [hj]
  refine List.Perm.trans ?_ (sy_perm hp).symm
  unfold sy
  rw [List.flatMap_append]
  simp only [List.flatMap_cons, List.flatMap_nil, List.append_nil]
  exact List.perm_append_comm.trans (List.Perm.of_eq (List.append_assoc ..))
def sumW (l : List Grp) : Nat := (l.map (·.w)).sum
theorem sum_join {l : List Grp} (h : 2 ≤ l.length) : sumW (joinG l) = sumW l := by
  obtain ⟨x, y, R, hp, hj, _⟩ := join_spec h
  rw [hj]
  unfold sumW
  rw [(hp.map (·.w)).sum_nat]
  simp
  omega
/-- symbols stand in one group, who stands in none has no length yet -/
structure Good (l : List Grp) (o : List Nat) : Prop where
  nd : (sy l).Nodup
  lt : ∀ s ∈ sy l, s < o.length
  out : ∀ s, s ∉ sy l → oat o s = 0
theorem mem_sy {l : List Grp} {g : Grp} {s : Nat} (hg : g ∈ l) (hs : s ∈ g.s) : s ∈ sy l := List.mem_flatMap.2 ⟨g, hg, hs⟩
theorem Good.join {l : List Grp} {o : List Nat} (hg : Good l o) (h : 2 ≤ l.length) :
    Good (joinG l) (incs o (grp l).s) ∧ (∀ s ∈ (grp l).s, oat (incs o (grp l).s) s = oat o s + 1) ∧ (∀ s, s ∉ (grp l).s → oat (incs o (grp l).s) s = oat o s) := by
  obtain ⟨x, y, R, hp, hj, hgr, _⟩ := join_spec h
  have hs : ∀ s ∈ (grp l).s, s ∈ sy l := by
    intro s hs
    rw [hgr] at hs
    rcases List.mem_append.1 hs with h1 | h1
    · exact mem_sy (hp.symm.subset (List.mem_cons_self ..)) h1
    · exact mem_sy (hp.symm.subset (List.mem_cons_of_mem _ (List.mem_cons_self ..))) h1
  have hn : (grp l).s.Nodup := by
    have h1 := (sy_perm hp).nodup_iff.1 hg.nd
    unfold sy at h1
    simp only [List.flatMap_cons] at h1
    rw [← List.append_assoc] at h1
    rw [hgr]
    exact (List.nodup_append.1 h1).1
  have hat := incs_at o (grp l).s (fun s h => hg.lt s (hs s h)) hn
  refine ⟨⟨(sy_join h).nodup_iff.2 hg.nd, fun s h1 => ?_, fun s h1 => ?_⟩, fun s h1 => by rw [hat, if_pos h1], fun s h1 => by rw [hat, if_neg h1]⟩
  · rw [incs_len]; exact hg.lt s ((sy_join h).subset h1)
  · have h2 : s ∉ sy l := fun h3 => h1 ((sy_join h).symm.subset h3)
    rw [hat, if_neg (fun h3 => h2 (hs s h3))]
    exact hg.out s h2
def irr (k : Nat) (g : Grp) : Bool := decide (2 ^ k < g.w) && decide (g.w < 2 ^ (k + 1))
/-- weights between 2^k and twice as much, at most one of them strictly between; lengths as high as weights say -/
structure Inv (k : Nat) (l : List Grp) (o : List Nat) : Prop where
  reg : ∀ g ∈ l, (g.w = 2 ^ k ∧ ∀ s ∈ g.s, oat o s ≤ k) ∨ (2 ^ k < g.w ∧ g.w ≤ 2 ^ (k + 1) ∧ ∀ s ∈ g.s, oat o s ≤ k + 1)
  one : l.countP (irr k) ≤ 1
theorem disj {x y : Grp} {R : List Grp} (h : (sy (x :: y :: R)).Nodup) {z : Grp} (hz : z ∈ R) {s : Nat} (hs : s ∈ z.s) : s ∉ x.s ++ y.s := by
  unfold sy at h
  simp only [List.flatMap_cons] at h
  rw [← List.append_assoc] at h
  intro h1
  exact (List.nodup_append.1 h).2.2 s h1 s (List.mem_flatMap.2 ⟨z, hz, hs⟩) rfl
theorem Inv.join {k : Nat} {l : List Grp} {o : List Nat} (hi : Inv k l o) (hg : Good l o) (h : 2 ≤ l.length) : ∃ k', Inv k' (joinG l) (incs o (grp l).s) := by
  obtain ⟨_, hin, hout⟩ := hg.join h
  obtain ⟨x, y, R, hp, hj, hgr, hxy, hR⟩ := join_spec h
  have hnd := (sy_perm hp).nodup_iff.1 hg.nd
  have hx := hi.reg x (hp.symm.subset (List.mem_cons_self ..))
  have hy := hi.reg y (hp.symm.subset (List.mem_cons_of_mem _ (List.mem_cons_self ..)))
  have hz : ∀ z ∈ R, (z.w = 2 ^ k ∧ ∀ s ∈ z.s, oat o s ≤ k) ∨ (2 ^ k < z.w ∧ z.w ≤ 2 ^ (k + 1) ∧ ∀ s ∈ z.s, oat o s ≤ k + 1) :=
    fun z hz => hi.reg z (hp.symm.subset (List.mem_cons_of_mem _ (List.mem_cons_of_mem _ hz)))
  have hzo : ∀ z ∈ R, ∀ s ∈ z.s, oat (incs o (grp l).s) s = oat o s := fun z hz s hs => hout s (by rw [hgr]; exact disj hnd hz hs)
  have hone := hi.one
  rw [hp.countP_eq, List.countP_cons, List.countP_cons] at hone
  have hsx : ∀ s ∈ x.s, oat (incs o (grp l).s) s = oat o s + 1 := fun s hs => hin s (by rw [hgr]; exact List.mem_append_left _ hs)
  have hsy : ∀ s ∈ y.s, oat (incs o (grp l).s) s = oat o s + 1 := fun s hs => hin s (by rw [hgr]; exact List.mem_append_right _ hs)
  obtain ⟨O, hO⟩ : ∃ O, O = incs o (grp l).s := ⟨_, rfl⟩
  rw [← hO] at hzo hsx hsy ⊢
  rw [hj]
  have e1 : (2 : Nat) ^ (k + 1) = 2 ^ k * 2 := Nat.pow_succ ..
  have e2 : (2 : Nat) ^ (k + 2) = 2 ^ k * 2 * 2 := by rw [Nat.pow_succ, e1]
  have hP : 0 < (2 : Nat) ^ k := Nat.two_pow_pos k
  by_cases hyk : y.w = 2 ^ k
  · have hxk : x.w = 2 ^ k := by rcases hx with hx | hx <;> omega
    refine ⟨k, ⟨fun g hg => ?_, ?_⟩⟩
    · rcases List.mem_append.1 hg with hg | hg
      · rcases hz g hg with ⟨h1, h2⟩ | ⟨h1, h2, h3⟩
        · exact .inl ⟨h1, fun s hs => by rw [hzo g hg s hs]; exact h2 s hs⟩
        · exact .inr ⟨h1, h2, fun s hs => by rw [hzo g hg s hs]; exact h3 s hs⟩
      · simp at hg
        subst hg
        refine .inr ⟨by show 2 ^ k < x.w + y.w; omega, by show x.w + y.w ≤ _; omega, fun s hs => ?_⟩
        have hx2 : ∀ s ∈ x.s, oat o s ≤ k := by rcases hx with hx | hx; exact hx.2; omega
        have hy2 : ∀ s ∈ y.s, oat o s ≤ k := by rcases hy with hy | hy; exact hy.2; omega
        rcases List.mem_append.1 hs with hs | hs
        · rw [hsx s hs]; have := hx2 s hs; omega
        · rw [hsy s hs]; have := hy2 s hs; omega
    · rw [List.countP_append]
      have : irr k ⟨x.w + y.w, x.s ++ y.s⟩ = false := by simp [irr]; omega
      simp [this]
      omega
  · have hyk2 : 2 ^ k < y.w := by rcases hy with hy | hy <;> omega
    have hz2 : ∀ z ∈ R, z.w = 2 ^ (k + 1) := by
      intro z hzR
      have h1 := hR z hzR
      rcases hz z hzR with h2 | ⟨h2, h3, _⟩
      · omega
      · rcases Nat.lt_or_ge z.w (2 ^ (k + 1)) with h4 | h4
        · exfalso
          have hy3 : irr k y = true := by simp [irr]; omega
          have hz3 : irr k z = true := by simp [irr]; omega
          have : 0 < R.countP (irr k) := List.countP_pos_iff.2 ⟨z, hzR, hz3⟩
          rw [hy3] at hone
          simp at hone
          omega
        · omega
    refine ⟨k + 1, ⟨fun g hg => ?_, ?_⟩⟩
    · rcases List.mem_append.1 hg with hg | hg
      · refine .inl ⟨hz2 g hg, fun s hs => ?_⟩
        rw [hzo g hg s hs]
        rcases hz g hg with ⟨h1, h2⟩ | ⟨h1, h2, h3⟩
        · have := h2 s hs; omega
        · exact h3 s hs
      · simp at hg
        subst hg
        have hx2 : ∀ s ∈ x.s, oat o s ≤ k + 1 := by
          intro s hs
          rcases hx with hx | hx
          · have := hx.2 s hs; omega
          · exact hx.2.2 s hs
        have hy2 : ∀ s ∈ y.s, oat o s ≤ k + 1 := by
          intro s hs
          rcases hy with hy | hy
          · have := hy.2 s hs; omega
          · exact hy.2.2 s hs
        refine .inr ⟨?_, ?_, fun s hs => ?_⟩
        · show 2 ^ (k + 1) < x.w + y.w; rcases hx with hx | hx <;> omega
        · show x.w + y.w ≤ 2 ^ (k + 2)
          rcases hx with hx | hx <;> rcases hy with hy | hy <;> omega
        · rcases List.mem_append.1 hs with hs | hs
          · rw [hsx s hs]; have := hx2 s hs; omega
          · rw [hsy s hs]; have := hy2 s hs; omega
    · rw [List.countP_append]
      have h0 : R.countP (irr (k + 1)) = 0 := by
        rw [List.countP_eq_zero]
        intro z hzR
        have := hz2 z hzR
        simp [irr]
        omega
      rw [h0]
      have := List.countP_le_length (p := irr (k + 1)) (l := [(⟨x.w + y.w, x.s ++ y.s⟩ : Grp)])
      simp only [List.length_singleton] at this
      omega
theorem merge_fits (most f : Nat) : ∀ (k : Nat) (l : List Grp) (o : List Nat), l.length ≤ f → Inv k l o → Good l o → sumW l ≤ 2 ^ most → ∀ s, oat (mergeF f l o) s ≤ most := by
  have one : ∀ (k : Nat) (l : List Grp) (o : List Nat), l.length ≤ 1 → Inv k l o → Good l o → sumW l ≤ 2 ^ most → ∀ s, oat o s ≤ most := by
    intro k l o hl hi hg hs s
    by_cases hm : s ∈ sy l
    · obtain ⟨g, hgl, hsg⟩ := List.mem_flatMap.1 hm
      match l, hl, hgl with
      | [g'], _, hgl =>
        simp at hgl
        subst hgl
        have hw : sumW [g] = g.w := by simp [sumW]
        rw [hw] at hs
        rcases hi.reg g (List.mem_singleton.2 rfl) with ⟨h1, h2⟩ | ⟨h1, _, h3⟩
        · have := h2 s hsg
          have h4 : k ≤ most := (Nat.pow_le_pow_iff_right (by omega)).1 (show 2 ^ k ≤ 2 ^ most by omega)
          omega
        · have := h3 s hsg
          have h4 : k < most := (Nat.pow_lt_pow_iff_right (by omega)).1 (show 2 ^ k < 2 ^ most by omega)
          omega
    · rw [hg.out s hm]; omega
  induction f with
  | zero => intro k l o hl hi hg hs s; exact one k l o (by omega) hi hg hs s
  | succ f ih =>
    intro k l o hl hi hg hs s
    rw [mergeF]
    split
    · rename_i h; exact one k l o h hi hg hs s
    · rename_i h
      obtain ⟨k', hi'⟩ := hi.join hg (by omega)
      exact ih k' (joinG l) (incs o (grp l).s) (by rw [join_len (by omega)]; omega) hi' (hg.join (by omega)).1 (by rw [sum_join (by omega)]; exact hs) s
end Go.Proofs.YtgpkiijmembggaaGreatDoor.HuffM
