/-
  Layer 8, plain: lengths that give a code for the items; how many bits are put at most.
  Layer 6, plain: tokens, whether one may stand, what tokens tell, how long bytes are the same, the best distance, pressing.
  Layer 7, plain: the tables of lengths and distances, the symbol of a number, how often symbols are met.
  Layer 7, plain: symbols and what follows them: bounds, back, and rising.
-/
import Derived.Test.YtgpkiijmembggaaGreatDoorZm01
import Derived.Test.YtgpkiijmembggaaGreatDoorZm02
import Derived.WalkKit
namespace Go.Proofs.YtgpkiijmembggaaGreatDoor.CoM
open HuffM BitsM

/-- lengths as numbers of any sign -/
def ints (l : List Nat) : List Int := l.map fun x : Nat => (x : Int)
theorem flat3_len (len : List Nat) (O : List Nat) : (O.flatMap fun o => low len[o]! 3).length = 3 * O.length := by
  induction O with
  | nil => rfl
  | cons o O ih =>
    rw [List.flatMap_cons, List.length_append, ih, low_length, List.length_cons]
    omega
theorem bump8_pos (W : List Nat) (i s : Nat) (hs : s < W.length) (h : 0 < W.getD s 0 ∨ i = s) : 0 < (bump8 W i).getD s 0 := by
  unfold bump8
  rw [List.getD_eq_getElem?_getD, List.getElem?_set]
  by_cases e : i = s
  · subst e
    rw [if_pos rfl, if_pos hs]
    simp
  · rw [if_neg e, ← List.getD_eq_getElem?_getD]
    rcases h with h | h
    · exact h
    · exact absurd h e
theorem weigh8_pos : ∀ (T : List It) (W : List Nat) (s : Nat), s < W.length → (0 < W.getD s 0 ∨ ∃ t ∈ T, t.s = s) → 0 < (weigh8 T W).getD s 0
  | [], W, s, hs, h => by
    rcases h with h | ⟨t, ht, _⟩
    · exact h
    · simp at ht
  | t :: T, W, s, hs, h => by
    show 0 < (weigh8 T (bump8 W t.s)).getD s 0
    refine weigh8_pos T _ s (by rw [bump8_len]; exact hs) ?_
    rcases h with h | ⟨u, hu, e⟩
    · exact .inl (bump8_pos W t.s s hs (.inl h))
    · rcases List.mem_cons.1 hu with h2 | h2
      · subst h2
        exact .inl (bump8_pos W u.s s hs (.inr e))
      · exact .inr ⟨u, h2, e⟩
/-- the lengths of the items' code are fit to read all of them -/
structure Code8 (T : List It) (len : List Nat) : Prop where
  len19 : len.length = 19
  le7 : ∀ x ∈ len, x ≤ 7
  right : rightB (ints len) = true
  met : ∀ t ∈ T, t.s ≤ 18 → 0 < len[t.s]! ∧ len[t.s]! ≤ 7
theorem getD_bang (l : List Nat) (i : Nat) : l[i]! = l.getD i 0 := by
  rcases Nat.lt_or_ge i l.length with h | h
  · rw [getElem!_pos l i h, List.getD_eq_getElem?_getD, List.getElem?_eq_getElem h]; rfl
  · rw [getElem!_neg l i (by omega), List.getD_eq_getElem?_getD, List.getElem?_eq_none h]; rfl
theorem code8 (T : List It) (hT : ∃ t ∈ T, t.s ≤ 18) : Code8 T (lens 7 (weigh8 T zeros19)) := by
  obtain ⟨W, hW⟩ : ∃ W, W = weigh8 T zeros19 := ⟨_, rfl⟩
  have hl : W.length = 19 := by rw [hW, weigh8_len]; rfl
  have hc : cnt W ≤ 2 ^ 7 := by
    have : cnt W ≤ W.length := List.countP_le_length
    omega
  obtain ⟨h1, h2, h3, h4⟩ := lens_short (most := 7) (W := W) (by omega) (by omega) hc
  have hpos : ∀ t ∈ T, t.s ≤ 18 → 0 < W.getD t.s 0 := fun t ht hs => by
    rw [hW]
    exact weigh8_pos T zeros19 t.s (by show t.s < 19; omega) (.inr ⟨t, ht, rfl⟩)
  rw [← hW]
  refine ⟨by rw [h1, hl], fun x hx => ?_, ?_, fun t ht hs => ?_⟩
  · obtain ⟨i, hi, rfl⟩ := List.getElem_of_mem hx
    have := h2 i
    unfold oat at this
    rwa [List.getD_eq_getElem?_getD, List.getElem?_eq_getElem hi] at this
  · obtain ⟨t, ht, hs⟩ := hT
    exact h4 ⟨t.s, hpos t ht hs⟩
  · rw [getD_bang]
    have := hpos t ht hs
    have h5 := h3 t.s
    have h6 := h2 t.s
    unfold oat at h5 h6
    exact ⟨by omega, h6⟩
theorem ints_len (l : List Nat) : (ints l).length = l.length := by simp [ints]
theorem ints_getD (l : List Nat) (i : Nat) : (ints l).getD i 0 = ((l.getD i 0 : Nat) : Int) := by
  unfold ints
  rw [List.getD_eq_getElem?_getD, List.getD_eq_getElem?_getD, List.getElem?_map]
  cases l[i]? <;> rfl
theorem itBits_len {T : List It} {len : List Nat} (C : Code8 T len) {t : It} (ht : t ∈ T) (hs : t.s ≤ 18) (hb : t.b ≤ 7) : (itBits (HuffM.codesL (ints len)) len t).length ≤ 14 := by
  have := (C.met t ht hs).2
  unfold itBits
  rw [List.length_append, List.length_reverse, low_length, low_length]
  omega
theorem flat_len_le {α β : Type} (f : α → List β) (N : Nat) : ∀ (l : List α), (∀ x ∈ l, (f x).length ≤ N) → (l.flatMap f).length ≤ N * l.length
  | [], _ => by simp
  | x :: l, h => by
    have h1 := h x (List.mem_cons_self ..)
    have h2 := flat_len_le f N l (fun y hy => h y (List.mem_cons_of_mem _ hy))
    rw [List.flatMap_cons, List.length_append, List.length_cons, Nat.mul_succ]
    omega
/-- how many bits are put at most -/
theorem putBits_len {A B : List Nat} (hA2 : A.length ≤ 286) (hB2 : B.length ≤ 30) (hA0 : 1 ≤ A.length) (hA : ∀ x ∈ A, x ≤ 15) (hB : ∀ x ∈ B, x ≤ 15) : (putBits A B).length ≤ 5000 := by
  have hL : ∀ x ∈ A ++ B, x ≤ 15 := fun x hx => by
    rcases List.mem_append.1 hx with h | h
    · exact hA x h
    · exact hB x h
  have hT0 : ∃ t ∈ items (A ++ B), t.s ≤ 18 := by
    cases hh : items (A ++ B) with
    | nil =>
      exfalso
      unfold items at hh
      obtain ⟨k, hk⟩ : ∃ k, (A ++ B).length = k + 1 := ⟨(A ++ B).length - 1, by rw [List.length_append]; omega⟩
      rw [hk, pressI, if_pos (by omega)] at hh
      cases hh
    | cons t T' => exact ⟨t, List.mem_cons_self .., (items_mem hL t (by rw [hh]; exact List.mem_cons_self ..)).1⟩
  have C := code8 _ hT0
  have hl := items_len (A ++ B)
  rw [List.length_append] at hl
  have hm := manyN_le (HuffM.lens 7 (weigh8 (items (A ++ B)) zeros19)) 15
  have hf := flat_len_le (itBits (HuffM.codesL (ints (HuffM.lens 7 (weigh8 (items (A ++ B)) zeros19)))) (HuffM.lens 7 (weigh8 (items (A ++ B)) zeros19))) 14 (items (A ++ B)) (fun t ht => itBits_len C ht (items_mem hL t ht).1 (items_mem hL t ht).2.1)
  show (low _ 5 ++ low _ 5 ++ low _ 4 ++ (ord.take (manyN (HuffM.lens 7 (weigh8 (items (A ++ B)) zeros19)) 15)).flatMap (fun o => low (HuffM.lens 7 (weigh8 (items (A ++ B)) zeros19))[o]! 3) ++ (items (A ++ B)).flatMap (itBits (HuffM.codesL (ints (HuffM.lens 7 (weigh8 (items (A ++ B)) zeros19)))) (HuffM.lens 7 (weigh8 (items (A ++ B)) zeros19)))).length ≤ 5000
  simp only [List.length_append, low_length, flat3_len, List.length_take]
  omega
theorem trim_len {L : List Nat} {m : Nat} (h : m ≤ L.length) : m ≤ (trimL L m).length ∧ (trimL L m).length ≤ L.length := by
  have h1 := trimN_le L m (L.length - m)
  unfold trimL
  rw [List.length_take]
  omega
theorem trim_mem {L : List Nat} {m : Nat} (hL : ∀ x ∈ L, x ≤ 15) : ∀ x ∈ trimL L m, x ≤ 15 := fun x hx => hL x (List.mem_of_mem_take hx)
theorem trim_getD (L : List Nat) (m : Nat) (h : m ≤ L.length) (i : Nat) : L.getD i 0 = (trimL L m).getD i 0 := by
  have h1 := trimN_le L m (L.length - m)
  unfold trimL
  rw [List.getD_eq_getElem?_getD, List.getD_eq_getElem?_getD, List.getElem?_take]
  by_cases hi : i < trimN L m (L.length - m)
  · rw [if_pos hi]
  · rw [if_neg hi]
    by_cases hl : i < L.length
    · have := trimN_zero L m (L.length - m) i (by omega) (by omega)
      rw [getElem!_pos L i hl] at this
      rw [List.getElem?_eq_getElem hl, this]
      rfl
    · rw [List.getElem?_eq_none (by omega)]
theorem lens_most {m : Nat} (hm : 1 ≤ m) : ∀ (s : Nat) (W : List Nat), W.sum ≤ s → cnt W ≤ 2 ^ m → ∀ x ∈ lens m W, x ≤ m := by
  intro s
  induction s with
  | zero =>
    intro W hs hc
    by_cases h : fits m (onceL W) = true
    · rw [lens_yes h]
      intro x hx
      have := List.all_eq_true.1 h x hx
      simpa using this
    · obtain ⟨_, hlt⟩ := lens_no hm hc (by simpa using h)
      omega
  | succ s ih =>
    intro W hs hc
    by_cases h : fits m (onceL W) = true
    · rw [lens_yes h]
      intro x hx
      have := List.all_eq_true.1 h x hx
      simpa using this
    · obtain ⟨e, hlt⟩ := lens_no hm hc (by simpa using h)
      rw [e]
      exact ih (half W) (by omega) (by rw [cnt_half]; exact hc)
end Go.Proofs.YtgpkiijmembggaaGreatDoor.CoM
namespace Go.Proofs.YtgpkiijmembggaaGreatDoor.LzM

structure Tok where
  b : UInt8
  l : Int
  d : Int
deriving DecidableEq, Inhabited

/-- may it stand behind n bytes? -/
def rightT (t : Tok) (n : Int) : Bool := if t.l = 0 ∧ t.d = 0 then true else decide (t.b = 0 ∧ 3 ≤ t.l ∧ t.l ≤ 258 ∧ 1 ≤ t.d ∧ t.d ≤ 32768 ∧ t.d ≤ n)

/-- a literal, a match -/
def lit (b : UInt8) : Tok := ⟨b, 0, 0⟩
def mat (l d : Nat) : Tok := ⟨0, l, d⟩

/-- n more bytes, each the one d ahead -/
def copy (d : Nat) : Nat → List UInt8 → List UInt8
  | 0, B => B
  | n + 1, B => copy d n (B ++ [B[B.length - d]!])

/-- what a token tells behind bytes -/
def addT (B : List UInt8) (t : Tok) : List UInt8 := if t.l = 0 then B ++ [t.b] else copy t.d.toNat t.l.toNat B

/-- how many a token tells -/
def wide (t : Tok) : Nat := if t.l = 0 then 1 else t.l.toNat

/-- what tokens tell behind bytes, at most so many; or the error -/
def openT (most : Int) : List UInt8 → List Tok → Except Nat (List UInt8)
  | B, [] => .ok B
  | B, t :: l => if rightT t B.length = false then .error 3 else if ((B.length + wide t : Nat) : Int) > most then .error 4 else openT most (addT B t) l

/-- how many bytes from i are the same as those d ahead: at most f more behind n, within B -/
def same (B : List UInt8) (i d : Nat) : Nat → Nat → Nat
  | 0, n => n
  | f + 1, n => if i + n < B.length ∧ B[i + n]! = B[i + n - d]! then same B i d f (n + 1) else n

def len (B : List UInt8) (i d : Nat) : Nat := same B i d 258 0

/-- the best of the distances below k: its length, itself (0, 0: none) -/
def best (B : List UInt8) (i : Nat) : Nat → Nat × Nat
  | 0 => (0, 0)
  | k + 1 => if (best B i k).1 < len B i (k + 1) then (len B i (k + 1), k + 1) else best B i k

/-- the best at i -/
def find (B : List UInt8) (i : Nat) : Nat × Nat := best B i (min i 32768)

/-- pressing from i on -/
def pressF (B : List UInt8) : Nat → Nat → List Tok
  | 0, _ => []
  | f + 1, i => if i < B.length then (if (find B i).1 < 3 then lit B[i]! :: pressF B f (i + 1) else mat (find B i).1 (find B i).2 :: pressF B f (i + (find B i).1)) else []

def press (B : List UInt8) : List Tok := pressF B B.length 0

theorem copy_length (d : Nat) : ∀ (n : Nat) (B : List UInt8), (copy d n B).length = B.length + n
  | 0, B => rfl
  | n + 1, B => by rw [copy, copy_length d n]; simp; omega

theorem copy_succ (d : Nat) : ∀ (n : Nat) (B : List UInt8), copy d (n + 1) B = copy d n B ++ [(copy d n B)[(copy d n B).length - d]!]
  | 0, B => rfl
  | n + 1, B => by rw [copy, copy_succ d n, copy]

theorem right_cases {t : Tok} {n : Nat} (h : rightT t (n : Nat) = true) : (∃ b, t = ⟨b, 0, 0⟩) ∨ ∃ L D : Nat, t = ⟨0, (L : Int), (D : Int)⟩ ∧ 3 ≤ L ∧ L ≤ 258 ∧ 1 ≤ D ∧ D ≤ 32768 ∧ D ≤ n := by
  obtain ⟨b, l, d⟩ := t
  unfold rightT at h
  split at h
  · rename_i hc
    obtain ⟨rfl, rfl⟩ : l = 0 ∧ d = 0 := hc
    exact .inl ⟨b, rfl⟩
  · simp only [decide_eq_true_eq] at h
    obtain ⟨rfl, h1, h2, h3, h4, h5⟩ := h
    refine .inr ⟨l.toNat, d.toNat, ?_, by omega, by omega, by omega, by omega, by omega⟩
    rw [Int.toNat_of_nonneg (by omega), Int.toNat_of_nonneg (by omega)]

theorem same_ge (B : List UInt8) (i d : Nat) : ∀ f n, n ≤ same B i d f n
  | 0, n => Nat.le_refl _
  | f + 1, n => by
    unfold same
    split
    · exact Nat.le_trans (Nat.le_succ n) (same_ge B i d f (n + 1))
    · exact Nat.le_refl _

theorem same_le (B : List UInt8) (i d : Nat) : ∀ f n, same B i d f n ≤ n + f
  | 0, n => Nat.le_refl _
  | f + 1, n => by
    unfold same
    split
    · have := same_le B i d f (n + 1); omega
    · omega

theorem same_in (B : List UInt8) (i d : Nat) : ∀ f n, i + n ≤ B.length → i + same B i d f n ≤ B.length
  | 0, n, h => h
  | f + 1, n, h => by
    unfold same
    split
    · exact same_in B i d f (n + 1) (by omega)
    · exact h

theorem same_eq (B : List UInt8) (i d : Nat) : ∀ f n k, n ≤ k → k < same B i d f n → B[i + k]! = B[i + k - d]!
  | 0, n, k, h, h' => by unfold same at h'; omega
  | f + 1, n, k, h, h' => by
    unfold same at h'
    split at h'
    · rename_i hc
      by_cases e : k = n
      · rw [e]; exact hc.2
      · exact same_eq B i d f (n + 1) k (by omega) h'
    · omega

theorem len_le (B : List UInt8) (i d : Nat) : len B i d ≤ 258 := by have := same_le B i d 258 0; unfold len; omega
theorem len_in (B : List UInt8) (i d : Nat) (h : i ≤ B.length) : i + len B i d ≤ B.length := same_in B i d 258 0 h

/-- no fuel changes it once it has stopped: n more of the 258 -/
theorem same_step (B : List UInt8) (i d f n : Nat) (h : i + n < B.length) (e : B[i + n]! = B[i + n - d]!) : same B i d (f + 1) n = same B i d f (n + 1) := by
  rw [same, if_pos ⟨h, e⟩]
theorem same_stop (B : List UInt8) (i d f n : Nat) (h : ¬ (i + n < B.length ∧ B[i + n]! = B[i + n - d]!)) : same B i d (f + 1) n = n := by
  rw [same, if_neg h]

theorem best_le (B : List UInt8) (i : Nat) : ∀ k, (best B i k).1 ≤ 258 ∧ (best B i k).2 ≤ k
  | 0 => by simp [best]
  | k + 1 => by
    unfold best
    have := best_le B i k
    split
    · exact ⟨len_le B i _, Nat.le_refl _⟩
    · omega

theorem best_in (B : List UInt8) (i : Nat) (h : i ≤ B.length) : ∀ k, i + (best B i k).1 ≤ B.length
  | 0 => by simpa [best] using h
  | k + 1 => by
    unfold best
    have := best_in B i h k
    split
    · exact len_in B i _ h
    · exact this

theorem best_is (B : List UInt8) (i : Nat) : ∀ k, 0 < (best B i k).1 → 1 ≤ (best B i k).2 ∧ (best B i k).1 = len B i (best B i k).2
  | 0, h => by simp [best] at h
  | k + 1, h => by
    unfold best at h ⊢
    split
    · exact ⟨by omega, rfl⟩
    · rename_i hc
      rw [if_neg hc] at h
      exact best_is B i k h

theorem pressF_more (B : List UInt8) : ∀ f i, B.length ≤ i + f → ∀ g, pressF B (f + g) i = pressF B f i
  | 0, i, h, 0 => rfl
  | 0, i, h, g + 1 => by
    have h0 : pressF B (g + 1) i = [] := by rw [pressF, if_neg (by omega)]
    rw [Nat.zero_add, h0]
    rfl
  | f + 1, i, h, g => by
    rw [show f + 1 + g = (f + g) + 1 by omega, pressF, pressF]
    split
    · split
      · rw [pressF_more B f (i + 1) (by omega) g]
      · rw [pressF_more B f _ (by omega) g]
    · rfl

/-- what is copied is what stands in B, where it is the same -/
theorem copy_take (B : List UInt8) (i d : Nat) (hd : 1 ≤ d) (hdi : d ≤ i) : ∀ (n k : Nat), i + k + n ≤ B.length → (∀ j, k ≤ j → j < k + n → B[i + j]! = B[i + j - d]!) →
    copy d n (B.take (i + k)) = B.take (i + k + n)
  | 0, k, h, he => rfl
  | n + 1, k, h, he => by
    have h1 : (B.take (i + k)).length = i + k := by rw [List.length_take]; omega
    have h2 : (B.take (i + k))[(B.take (i + k)).length - d]! = B[i + k]! := by
      rw [h1, he k (Nat.le_refl _) (by omega), getElem!_pos _ _ (by rw [h1]; omega), getElem!_pos _ _ (by omega), List.getElem_take]
    have h3 : B.take (i + k) ++ [B[i + k]!] = B.take (i + (k + 1)) := by
      rw [getElem!_pos _ _ (by omega), List.take_append_getElem, ← Nat.add_assoc]
    rw [copy, h2, h3, copy_take B i d hd hdi n (k + 1) (by omega) (fun j hj hj' => he j (by omega) (by omega))]
    congr 1
    omega

/-- what is pressed opens as it was -/
theorem open_pressF (B : List UInt8) (most : Int) (hm : (B.length : Int) ≤ most) : ∀ f i, B.length ≤ i + f → i ≤ B.length → openT most (B.take i) (pressF B f i) = .ok B
  | 0, i, h, hi => by
    obtain rfl : i = B.length := by omega
    simp [pressF, openT]
  | f + 1, i, h, hi => by
    rw [pressF]
    split
    · rename_i hlt
      have h1 : (B.take i).length = i := by rw [List.length_take]; omega
      split
      · have h3 : B.take i ++ [B[i]!] = B.take (i + 1) := by
          rw [getElem!_pos B i hlt, List.take_append_getElem]
        rw [openT, if_neg (by simp [rightT, lit]), if_neg (by have hw : wide (lit B[i]!) = 1 := rfl; rw [hw, h1]; omega)]
        have ha : addT (B.take i) (lit B[i]!) = B.take (i + 1) := by rw [addT, if_pos (show (lit B[i]!).l = 0 from rfl)]; exact h3
        rw [ha]
        exact open_pressF B most hm f (i + 1) (by omega) (by omega)
      · rename_i hc
        obtain ⟨p, hp⟩ : ∃ p, p = find B i := ⟨_, rfl⟩
        rw [← hp] at hc ⊢
        have e1 : 1 ≤ p.2 ∧ p.1 = len B i p.2 := by rw [hp]; exact best_is B i _ (by rw [hp] at hc; unfold find at hc; omega)
        have e2 : p.1 ≤ 258 ∧ p.2 ≤ min i 32768 := by rw [hp]; exact best_le B i _
        have e3 : i + p.1 ≤ B.length := by rw [hp]; exact best_in B i hi _
        have hl : (mat p.1 p.2).l ≠ 0 := by simp [mat]; omega
        have hr : rightT (mat p.1 p.2) ((B.take i).length : Nat) = true := by
          rw [h1, rightT, if_neg (by simp [mat]; omega)]
          simp [mat]
          omega
        have hw : wide (mat p.1 p.2) = p.1 := by rw [wide, if_neg hl]; simp [mat]
        have ha : addT (B.take i) (mat p.1 p.2) = B.take (i + p.1) := by
          rw [addT, if_neg hl]
          have := copy_take B i p.2 e1.1 (by omega) p.1 0 (by omega) (fun j _ hj => same_eq B i p.2 258 0 j (by omega) (by rw [e1.2] at hj; unfold len at hj; omega))
          simpa [mat] using this
        rw [openT, if_neg (by rw [hr]; simp), if_neg (by rw [hw, h1]; omega), ha]
        exact open_pressF B most hm f (i + p.1) (by omega) e3
    · obtain rfl : i = B.length := by omega
      simp [openT]

theorem open_press (B : List UInt8) (most : Int) (hm : (B.length : Int) ≤ most) : openT most [] (press B) = .ok B := by
  have := open_pressF B most hm B.length 0 (by omega) (by omega)
  simpa [press] using this

end Go.Proofs.YtgpkiijmembggaaGreatDoor.LzM
namespace Go.Proofs.YtgpkiijmembggaaGreatDoor.SyM
open LzM

def lens : List (Nat × Nat) := [(3, 0), (4, 0), (5, 0), (6, 0), (7, 0), (8, 0), (9, 0), (10, 0), (11, 1), (13, 1), (15, 1), (17, 1), (19, 2), (23, 2), (27, 2), (31, 2), (35, 3), (43, 3), (51, 3), (59, 3), (67, 4), (83, 4), (99, 4), (115, 4), (131, 5), (163, 5), (195, 5), (227, 5), (258, 0)]
def dists : List (Nat × Nat) := [(1, 0), (2, 0), (3, 0), (4, 0), (5, 1), (7, 1), (9, 2), (13, 2), (17, 3), (25, 3), (33, 4), (49, 4), (65, 5), (97, 5), (129, 6), (193, 6), (257, 7), (385, 7), (513, 8), (769, 8), (1025, 9), (1537, 9), (2049, 10), (3073, 10), (4097, 11), (6145, 11), (8193, 12), (12289, 12), (16385, 13), (24577, 13)]

/-- the last place, of the first k, whose least number isn't above n -/
def lastLe (n : Int) (R : List (Nat × Nat)) : Nat → Nat
  | 0 => 0
  | k + 1 => if (((R[k]!).1 : Nat) : Int) ≤ n then k else lastLe n R k
/-- the symbol of a number: its place -/
def sym (n : Int) (R : List (Nat × Nat)) : Nat := lastLe n R R.length
/-- the least number of a place, its bits -/
def least (R : List (Nat × Nat)) (i : Nat) : Nat := (R[i]!).1
def wid (R : List (Nat × Nat)) (i : Nat) : Nat := (R[i]!).2

theorem lastLe_lt (n : Int) (R : List (Nat × Nat)) : ∀ k, lastLe n R k ≤ k - 1
  | 0 => by simp [lastLe]
  | k + 1 => by
    have := lastLe_lt n R k
    unfold lastLe
    split <;> omega
theorem sym_lt (n : Int) (R : List (Nat × Nat)) (h : 0 < R.length) : sym n R < R.length := by
  have := lastLe_lt n R R.length
  unfold sym
  omega
/-- the rows rise -/
def Rise (R : List (Nat × Nat)) : Prop := ∀ i, i + 1 < R.length → least R i < least R (i + 1) ∧ least R (i + 1) ≤ least R i + 2 ^ wid R i
theorem rise_lens : Rise lens := by
  intro i hi
  have h : ∀ i : Fin 28, least lens i < least lens (i + 1) ∧ least lens (i + 1) ≤ least lens i + 2 ^ wid lens i := by decide +kernel
  exact h ⟨i, by simp [lens] at hi; omega⟩
theorem rise_dists : Rise dists := by
  intro i hi
  have h : ∀ i : Fin 29, least dists i < least dists (i + 1) ∧ least dists (i + 1) ≤ least dists i + 2 ^ wid dists i := by decide +kernel
  exact h ⟨i, by simp [dists] at hi; omega⟩
theorem rise_le {R : List (Nat × Nat)} (h : Rise R) : ∀ d i, i + d < R.length → least R i ≤ least R (i + d)
  | 0, i, hi => Nat.le_refl _
  | d + 1, i, hi => by
    have h1 := rise_le h d i (by omega)
    have h2 := (h (i + d) (by omega)).1
    rw [← Nat.add_assoc]
    omega
/-- the symbol tells no more than the number, and the next one more -/
theorem lastLe_is {R : List (Nat × Nat)} (n : Int) (h0 : (least R 0 : Int) ≤ n) : ∀ k, 0 < k → (least R (lastLe n R k) : Int) ≤ n ∧ ∀ j, lastLe n R k < j → j < k → n < (least R j : Int)
  | 0, hk => by omega
  | k + 1, _ => by
    unfold lastLe
    split
    · rename_i hc
      exact ⟨hc, fun j h1 h2 => by omega⟩
    · rename_i hc
      rcases Nat.eq_zero_or_pos k with h | h
      · subst h
        exact absurd h0 hc
      · obtain ⟨h1, h2⟩ := lastLe_is n h0 k h
        refine ⟨h1, fun j hj1 hj2 => ?_⟩
        by_cases e : j = k
        · rw [e]; exact Int.not_le.1 hc
        · exact h2 j hj1 (by omega)
theorem sym_is {R : List (Nat × Nat)} (n : Int) (hR : 0 < R.length) (h0 : (least R 0 : Int) ≤ n) : (least R (sym n R) : Int) ≤ n ∧ ∀ j, sym n R < j → j < R.length → n < (least R j : Int) := lastLe_is n h0 R.length hR
/-- what follows is within its bits -/
theorem sym_wid {R : List (Nat × Nat)} (n : Int) (hR : 0 < R.length) (hr : Rise R) (h0 : (least R 0 : Int) ≤ n) (hend : n < (least R (R.length - 1) + 2 ^ wid R (R.length - 1) : Nat)) : n < (least R (sym n R) + 2 ^ wid R (sym n R) : Nat) := by
  obtain ⟨h1, h2⟩ := sym_is n hR h0
  have hlt := sym_lt n R hR
  by_cases e : sym n R + 1 < R.length
  · have h3 := h2 (sym n R + 1) (by omega) e
    have h4 := (hr (sym n R) e).2
    omega
  · have e2 : sym n R = R.length - 1 := by omega
    rw [e2]
    exact hend
theorem sym_mono {R : List (Nat × Nat)} (x y : Int) (hR : 0 < R.length) (hx : (least R 0 : Int) ≤ x) (hxy : x ≤ y) : sym x R ≤ sym y R := by
  obtain ⟨h1, _⟩ := sym_is x hR hx
  obtain ⟨_, h2⟩ := sym_is y hR (by omega)
  rcases Nat.lt_or_ge (sym y R) (sym x R) with h | h
  · have := h2 (sym x R) h (sym_lt x R hR)
    omega
  · exact h

/-- a number that counts as one between two -/
def clampI (n lo hi : Int) : Int := min (max n lo) hi
def lenS (n : Int) : Nat := sym (clampI n 3 258) lens
def distS (n : Int) : Nat := sym (clampI n 1 32768) dists
def lenX (n : Int) : Nat := (clampI n 3 258 - least lens (lenS n)).toNat
def distX (n : Int) : Nat := (clampI n 1 32768 - least dists (distS n)).toNat

/-- one more at a place -/
def bump (L : List Nat) (i : Nat) : List Nat := L.set i (L[i]! + 1)
/-- how often symbols are met -/
def weigh : List Tok → List Nat × List Nat → List Nat × List Nat
  | [], p => p
  | t :: T, p => if t.l = 0 then weigh T (bump p.1 t.b.toNat, p.2) else weigh T (bump p.1 (257 + sym t.l lens), bump p.2 (sym t.d dists))
def start : List Nat × List Nat := ((List.replicate 286 0).set 256 1, List.replicate 30 0)
theorem bump_length (L : List Nat) (i : Nat) : (bump L i).length = L.length := by simp [bump]
theorem weigh_length : ∀ (T : List Tok) (p : List Nat × List Nat), (weigh T p).1.length = p.1.length ∧ (weigh T p).2.length = p.2.length
  | [], p => ⟨rfl, rfl⟩
  | t :: T, p => by
    unfold weigh
    split
    · have := weigh_length T (bump p.1 t.b.toNat, p.2)
      simp only [bump_length] at this
      exact this
    · have := weigh_length T (bump p.1 (257 + sym t.l lens), bump p.2 (sym t.d dists))
      simp only [bump_length] at this
      exact this
/-- what is agreed upon -/
def fixA : List Nat := List.replicate 144 8 ++ List.replicate 112 9 ++ List.replicate 24 7 ++ List.replicate 8 8
def fixB : List Nat := List.replicate 32 5
end Go.Proofs.YtgpkiijmembggaaGreatDoor.SyM
namespace Go.Proofs.YtgpkiijmembggaaGreatDoor.SyM

theorem clampI_in (n lo hi : Int) (h : lo ≤ hi) : lo ≤ clampI n lo hi ∧ clampI n lo hi ≤ hi := by unfold clampI; omega
theorem clampI_id (n lo hi : Int) (h1 : lo ≤ n) (h2 : n ≤ hi) : clampI n lo hi = n := by unfold clampI; omega
theorem clampI_mono (x y lo hi : Int) (h : x ≤ y) : clampI x lo hi ≤ clampI y lo hi := by unfold clampI; omega
theorem lens_len : lens.length = 29 := rfl
theorem dists_len : dists.length = 30 := rfl
theorem len_0 : least lens 0 = 3 := rfl
theorem dist_0 : least dists 0 = 1 := rfl

theorem lenS_lt (n : Int) : lenS n < 29 := sym_lt _ lens (by decide)
theorem distS_lt (n : Int) : distS n < 30 := sym_lt _ dists (by decide)
theorem lenX_is (n : Int) : (least lens (lenS n) : Int) + (lenX n : Int) = clampI n 3 258 ∧ lenX n < 2 ^ wid lens (lenS n) := by
  have hc := clampI_in n 3 258 (by omega)
  have h1 := (sym_is (R := lens) (clampI n 3 258) (by decide) (by rw [len_0]; omega)).1
  have h2 := sym_wid (R := lens) (clampI n 3 258) (by decide) rise_lens (by rw [len_0]; omega) (by
    have e : least lens (lens.length - 1) + 2 ^ wid lens (lens.length - 1) = 259 := by decide +kernel
    rw [e]; omega)
  have h1' : (least lens (lenS n) : Int) ≤ clampI n 3 258 := h1
  have h2' : clampI n 3 258 < (least lens (lenS n) + 2 ^ wid lens (lenS n) : Nat) := h2
  unfold lenX
  generalize 2 ^ wid lens (lenS n) = p at h2' ⊢
  omega
theorem distX_is (n : Int) : (least dists (distS n) : Int) + (distX n : Int) = clampI n 1 32768 ∧ distX n < 2 ^ wid dists (distS n) := by
  have hc := clampI_in n 1 32768 (by omega)
  have h1 := (sym_is (R := dists) (clampI n 1 32768) (by decide) (by rw [dist_0]; omega)).1
  have h2 := sym_wid (R := dists) (clampI n 1 32768) (by decide) rise_dists (by rw [dist_0]; omega) (by
    have e : least dists (dists.length - 1) + 2 ^ wid dists (dists.length - 1) = 32769 := by decide +kernel
    rw [e]; omega)
  have h1' : (least dists (distS n) : Int) ≤ clampI n 1 32768 := h1
  have h2' : clampI n 1 32768 < (least dists (distS n) + 2 ^ wid dists (distS n) : Nat) := h2
  unfold distX
  generalize 2 ^ wid dists (distS n) = p at h2' ⊢
  omega
theorem lenX_le (n : Int) : lenX n ≤ 258 ∧ least lens (lenS n) ≤ 258 := by
  have h := (lenX_is n).1
  have hc := clampI_in n 3 258 (by omega)
  omega
theorem distX_le (n : Int) : distX n ≤ 32768 ∧ least dists (distS n) ≤ 32768 := by
  have h := (distX_is n).1
  have hc := clampI_in n 1 32768 (by omega)
  omega
theorem lens_wid (i : Nat) : wid lens i ≤ 13 := by
  rcases Nat.lt_or_ge i 29 with h | h
  · have := (by decide +kernel : ∀ i : Fin 29, wid lens (i : Nat) ≤ 13) ⟨i, h⟩
    exact this
  · unfold wid; rw [getElem!_neg lens i (by simp [lens_len]; omega)]; exact Nat.zero_le _
theorem dists_wid (i : Nat) : wid dists i ≤ 13 := by
  rcases Nat.lt_or_ge i 30 with h | h
  · have := (by decide +kernel : ∀ i : Fin 30, wid dists (i : Nat) ≤ 13) ⟨i, h⟩
    exact this
  · unfold wid; rw [getElem!_neg dists i (by simp [dists_len]; omega)]; exact Nat.zero_le _
theorem lenS_mono (x y : Int) (h : x ≤ y) : lenS x ≤ lenS y ∧ (lenS x = lenS y → lenX x ≤ lenX y) := by
  have hc := clampI_in x 3 258 (by omega)
  have hm := clampI_mono x y 3 258 h
  refine ⟨sym_mono (R := lens) _ _ (by decide) (by rw [len_0]; omega) hm, fun e => ?_⟩
  have h1 := (lenX_is x).1
  have h2 := (lenX_is y).1
  rw [e] at h1
  omega
theorem distS_mono (x y : Int) (h : x ≤ y) : distS x ≤ distS y ∧ (distS x = distS y → distX x ≤ distX y) := by
  have hc := clampI_in x 1 32768 (by omega)
  have hm := clampI_mono x y 1 32768 h
  refine ⟨sym_mono (R := dists) _ _ (by decide) (by rw [dist_0]; omega) hm, fun e => ?_⟩
  have h1 := (distX_is x).1
  have h2 := (distX_is y).1
  rw [e] at h1
  omega
theorem fix_len : fixA.length = 288 ∧ fixB.length = 32 := by decide +kernel
theorem fix_at (k : Nat) (h : k < 288) : fixA[k]! = (if 143 < k ∧ k < 256 then 9 else if 255 < k ∧ k < 280 then 7 else 8) ∧ fixB[k % 32]! = 5 := by
  have := (by decide +kernel : ∀ k : Fin 288, fixA[(k : Nat)]! = (if 143 < (k : Nat) ∧ (k : Nat) < 256 then 9 else if 255 < (k : Nat) ∧ (k : Nat) < 280 then 7 else 8) ∧ fixB[(k : Nat) % 32]! = 5) ⟨k, h⟩
  exact this
end Go.Proofs.YtgpkiijmembggaaGreatDoor.SyM
