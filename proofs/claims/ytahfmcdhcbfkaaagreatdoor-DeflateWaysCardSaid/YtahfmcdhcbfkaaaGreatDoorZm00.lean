/-
  Layer 8, plain: how lengths are pressed to items.
  Layer 8, plain: lengths that are all the same are told by few items.
  Layer 8, plain: items tell the lengths that were pressed.
  Plain mathematics of layer 5: whether there is a code of lengths, its codes, what bits tell. Nothing of any program here.
  Plain mathematics of layer 5's lengths by weights: groups that are joined two by two, as the reference does it; weights that are halved till the lengths fit; that they fit in the end. Nothing of any program here.
  Plain mathematics of layer 1: lists of bits, the bytes that they make, the number that they tell. Nothing of any program here.
  Layer 8, plain: lengths without 0s at the end; the order of the items' lengths; the bits of two codes' lengths.
  Plain mathematics of layer 5's lengths: where no weight is above 1 the lengths fit; so halving ends.
  Plain mathematics of layer 5's lengths: the loop of halving ends; symbols of no weight behind change nothing.
  Plain mathematics of layer 5's lengths: the depths of groups that are joined two by two, the least first: who weighs more is no deeper, the depths' parts make one whole, and a deep one wants much weight.
-/
import Derived.WalkKit
namespace Go.Proofs.YtahfmcdhcbfkaaaGreatDoor.CoM

structure It where
  s : Nat
  b : Nat
  x : Nat
deriving DecidableEq, Inhabited

/-- how many from i on are as the one at i -/
def rn (L : List Nat) (i : Nat) : Nat := ((L.drop i).takeWhile (· == L[i]!)).length
/-- the item at i, and how many lengths it tells -/
def itemAt (L : List Nat) (i : Nat) : It × Nat :=
  if L[i]! = 0 ∧ 10 < rn L i then (⟨18, 7, min (rn L i) 138 - 11⟩, min (rn L i) 138)
  else if L[i]! = 0 ∧ 2 < rn L i then (⟨17, 3, rn L i - 3⟩, rn L i)
  else if 0 < L[i]! ∧ 0 < i ∧ L[i]! = L[i - 1]! ∧ 2 < rn L i then (⟨16, 2, min (rn L i) 6 - 3⟩, min (rn L i) 6)
  else (⟨L[i]!, 0, 0⟩, 1)
def pressI (L : List Nat) : Nat → Nat → List It
  | 0, _ => []
  | f + 1, i => if i < L.length then (itemAt L i).1 :: pressI L f (i + (itemAt L i).2) else []
def items (L : List Nat) : List It := pressI L L.length 0

theorem take_while_of (v : Nat) : ∀ (M : List Nat) (m : Nat), m ≤ M.length → (∀ j, j < m → M[j]! = v) → (m = M.length ∨ M[m]! ≠ v) → (M.takeWhile (· == v)).length = m
  | [], m, h, _, _ => by simp at h; simp [h]
  | x :: M, 0, _, _, h => by
    have hx : x ≠ v := by
      rcases h with h | h
      · simp at h
      · exact h
    rw [List.takeWhile_cons, if_neg (by simpa using hx)]
    rfl
  | x :: M, m + 1, h, h1, h2 => by
    have hx : x = v := h1 0 (by omega)
    rw [List.takeWhile_cons, if_pos (by simpa using hx), List.length_cons]
    rw [take_while_of v M m (by simpa using h) (fun j hj => h1 (j + 1) (by omega)) (by
      rcases h2 with h2 | h2
      · exact .inl (by simpa using h2)
      · exact .inr h2)]
theorem rn_of (L : List Nat) (i m : Nat) (h1 : i + m ≤ L.length) (h2 : ∀ j, j < m → L[i + j]! = L[i]!) (h3 : i + m = L.length ∨ L[i + m]! ≠ L[i]!) : rn L i = m := by
  have hd : ∀ j, (L.drop i)[j]! = L[i + j]! := fun j => by
    rcases Nat.lt_or_ge (i + j) L.length with h | h
    · rw [getElem!_pos _ j (by simp; omega), getElem!_pos L (i + j) h, List.getElem_drop]
    · rw [getElem!_neg _ j (by simp; omega), getElem!_neg L (i + j) (by omega)]
  refine take_while_of _ _ m (by simp; omega) (fun j hj => by rw [hd]; exact h2 j hj) ?_
  rcases h3 with h3 | h3
  · exact .inl (by simp; omega)
  · exact .inr (by rw [hd]; exact h3)
theorem rn_le (L : List Nat) (i : Nat) (h : i ≤ L.length) : i + rn L i ≤ L.length := by
  have := (List.takeWhile_prefix (fun x => x == L[i]!) (l := L.drop i)).length_le
  rw [List.length_drop] at this
  unfold rn
  omega
theorem rn_pos (L : List Nat) (i : Nat) (h : i < L.length) : 1 ≤ rn L i := by
  unfold rn
  rw [List.drop_eq_getElem_cons h, List.takeWhile_cons, if_pos (by rw [getElem!_pos L i h]; simp)]
  simp
/-- what a run holds -/
theorem rn_at (L : List Nat) (i j : Nat) (hj : j < rn L i) : L[i + j]! = L[i]! := by
  have hm : ((L.drop i).takeWhile (· == L[i]!))[j]? = some (((L.drop i).takeWhile (· == L[i]!))[j]'hj) := List.getElem?_eq_getElem hj
  have hmem := List.getElem_mem hj
  have hp := List.all_takeWhile (p := fun x => x == L[i]!) (l := L.drop i)
  rw [List.all_eq_true] at hp
  have h1 := hp _ hmem
  obtain ⟨r, hr⟩ := List.takeWhile_prefix (fun x => x == L[i]!) (l := L.drop i)
  have h2 : (L.drop i)[j]? = some (((L.drop i).takeWhile (· == L[i]!))[j]'hj) := by
    rw [← hm]
    conv => lhs; rw [← hr]
    rw [List.getElem?_append_left hj]
  rw [List.getElem?_drop] at h2
  obtain ⟨hl, he⟩ := List.getElem?_eq_some_iff.1 h2
  rw [getElem!_pos L (i + j) hl, he]
  simpa using h1
theorem item_pos (L : List Nat) (i : Nat) (h : i < L.length) : 1 ≤ (itemAt L i).2 ∧ i + (itemAt L i).2 ≤ L.length ∧ (itemAt L i).2 ≤ rn L i := by
  have h1 := rn_pos L i h
  have h2 := rn_le L i (Nat.le_of_lt h)
  unfold itemAt
  split
  · simp only; omega
  · split
    · simp only; omega
    · split
      · simp only; omega
      · simp only; omega
theorem pressI_more (L : List Nat) : ∀ f i, L.length ≤ i + f → ∀ g, pressI L (f + g) i = pressI L f i
  | 0, i, h, 0 => rfl
  | 0, i, h, g + 1 => by
    have h0 : pressI L (g + 1) i = [] := by rw [pressI, if_neg (by omega)]
    rw [Nat.zero_add, h0]
    rfl
  | f + 1, i, h, g => by
    rw [show f + 1 + g = (f + g) + 1 by omega, pressI, pressI]
    split
    · rename_i hi
      have := (item_pos L i hi).1
      rw [pressI_more L f _ (by omega) g]
    · rfl
theorem pressI_len (L : List Nat) : ∀ f i, i ≤ L.length → (pressI L f i).length ≤ L.length - i
  | 0, i, h => by simp [pressI]
  | f + 1, i, h => by
    rw [pressI]
    split
    · rename_i hi
      have h1 := item_pos L i hi
      have := pressI_len L f (i + (itemAt L i).2) h1.2.1
      rw [List.length_cons]
      omega
    · simp
theorem items_len (L : List Nat) : (items L).length ≤ L.length := pressI_len L L.length 0 (Nat.zero_le _)
end Go.Proofs.YtahfmcdhcbfkaaaGreatDoor.CoM
namespace Go.Proofs.YtahfmcdhcbfkaaaGreatDoor.CoM

theorem rep_at {k v j : Nat} (h : j < k) : (List.replicate k v)[j]! = v := by
  rw [getElem!_pos _ j (by simpa using h)]
  simp
theorem rn_rep {k v i : Nat} (h : i < k) : rn (List.replicate k v) i = k - i := by
  refine rn_of _ i (k - i) (by simp; omega) (fun j hj => ?_) (.inl (by simp; omega))
  rw [rep_at (by omega), rep_at h]
theorem item_rep {k v i : Nat} (h : i < k) : 1 ≤ (itemAt (List.replicate k v) i).2 ∧ i + (itemAt (List.replicate k v) i).2 ≤ k ∧ (1 ≤ i → 2 < k - i → 6 ≤ (itemAt (List.replicate k v) i).2 ∨ i + (itemAt (List.replicate k v) i).2 = k) := by
  have hp := item_pos (List.replicate k v) i (by simpa using h)
  rw [List.length_replicate] at hp
  refine ⟨hp.1, hp.2.1, fun h1 h2 => ?_⟩
  unfold itemAt
  rw [rn_rep h, rep_at h, rep_at (by omega : i - 1 < k)]
  by_cases hv : v = 0
  · by_cases h10 : 10 < k - i
    · rw [if_pos ⟨hv, h10⟩]
      simp only
      omega
    · rw [if_neg (fun e => h10 e.2), if_pos ⟨hv, h2⟩]
      simp only
      omega
  · rw [if_neg (fun e => hv e.1), if_neg (fun e => hv e.1), if_pos ⟨by omega, by omega, rfl, h2⟩]
    simp only
    omega
theorem press_rep {k v : Nat} : ∀ f i, 1 ≤ i → i ≤ k → (pressI (List.replicate k v) f i).length ≤ 2 + (k - i) / 6
  | 0, i, _, _ => by simp [pressI]
  | f + 1, i, h1, h2 => by
    rw [pressI, List.length_replicate]
    split
    · rename_i hi
      obtain ⟨p1, p2, p3⟩ := item_rep (v := v) hi
      by_cases h3 : 2 < k - i
      · have ih := press_rep (v := v) f (i + (itemAt (List.replicate k v) i).2) (by omega) p2
        rw [List.length_cons]
        rcases p3 h1 h3 with h | h
        · omega
        · have h0 : (pressI (List.replicate k v) f (i + (itemAt (List.replicate k v) i).2)).length = 0 := by
            rw [h]
            cases f with
            | zero => rfl
            | succ f => rw [pressI, List.length_replicate, if_neg (by omega)]; rfl
          omega
      · have hl := pressI_len (List.replicate k v) (f + 1) i (by simp; omega)
        rw [pressI, List.length_replicate, if_pos hi] at hl
        omega
    · simp
theorem items_rep (k v : Nat) : (items (List.replicate k v)).length ≤ 4 + k / 6 := by
  unfold items
  rw [List.length_replicate]
  cases k with
  | zero => simp [pressI]
  | succ f =>
    rw [pressI, List.length_replicate, if_pos (by omega), List.length_cons]
    obtain ⟨p1, p2, _⟩ := item_rep (k := f + 1) (v := v) (i := 0) (by omega)
    have := press_rep (k := f + 1) (v := v) f (0 + (itemAt (List.replicate (f + 1) v) 0).2) (by omega) p2
    omega
end Go.Proofs.YtahfmcdhcbfkaaaGreatDoor.CoM
namespace Go.Proofs.YtahfmcdhcbfkaaaGreatDoor.CoM

theorem run_take (L : List Nat) (i n : Nat) (h1 : i + n ≤ L.length) (h2 : n ≤ rn L i) : L.take (i + n) = L.take i ++ List.replicate n L[i]! := by
  apply List.ext_getElem?
  intro j
  rcases Nat.lt_or_ge j i with hj | hj
  · rw [List.getElem?_append_left (by simp; omega), List.getElem?_take, List.getElem?_take, if_pos (by omega), if_pos hj]
  · rw [List.getElem?_append_right (by simp; omega), List.getElem?_take, List.length_take, Nat.min_eq_left (by omega), List.getElem?_replicate]
    by_cases hn : j < i + n
    · rw [if_pos hn, if_pos (by omega)]
      have := rn_at L i (j - i) (by omega)
      rw [show i + (j - i) = j by omega, getElem!_pos L j (by omega)] at this
      rw [List.getElem?_eq_getElem (by omega), this]
    · rw [if_neg hn, if_neg (by omega)]
/-- what an item tells -/
theorem item_cases (L : List Nat) (i : Nat) (h : i < L.length) (hL : ∀ x ∈ L, x ≤ 15) :
    ∃ n v, (itemAt L i).2 = n ∧ 1 ≤ n ∧ i + n ≤ L.length ∧ n ≤ 138 ∧ v ≤ 15 ∧ L.take (i + n) = L.take i ++ List.replicate n v ∧
      ((∃ x, (itemAt L i).1 = ⟨18, 7, x⟩ ∧ n = 11 + x ∧ x < 128 ∧ v = 0) ∨ (∃ x, (itemAt L i).1 = ⟨17, 3, x⟩ ∧ n = 3 + x ∧ x < 8 ∧ v = 0) ∨
       (∃ x, (itemAt L i).1 = ⟨16, 2, x⟩ ∧ n = 3 + x ∧ x < 4 ∧ 0 < i ∧ L[i - 1]! = v) ∨ ((itemAt L i).1 = ⟨v, 0, 0⟩ ∧ n = 1)) := by
  have hp := item_pos L i h
  have hv : L[i]! ≤ 15 := by rw [getElem!_pos L i h]; exact hL _ (List.getElem_mem h)
  have ht := run_take L i _ hp.2.1 hp.2.2
  have hp1 := hp.1
  have hp2 := hp.2.1
  clear hp
  unfold itemAt at *
  split
  · rename_i hc
    rw [if_pos hc] at ht hp1 hp2
    simp only at ht hp1 hp2
    exact ⟨_, _, rfl, hp1, hp2, by simp only; omega, hv, ht, .inl ⟨_, rfl, by simp only; omega, by omega, hc.1⟩⟩
  · rename_i hc
    rw [if_neg hc] at ht hp1 hp2
    split
    · rename_i hc2
      rw [if_pos hc2] at ht hp1 hp2
      simp only at ht hp1 hp2
      exact ⟨_, _, rfl, hp1, hp2, by simp only; omega, hv, ht, .inr (.inl ⟨_, rfl, by simp only; omega, by omega, hc2.1⟩)⟩
    · rename_i hc2
      rw [if_neg hc2] at ht hp1 hp2
      split
      · rename_i hc3
        rw [if_pos hc3] at ht hp1 hp2
        simp only at ht hp1 hp2
        exact ⟨_, _, rfl, hp1, hp2, by simp only; omega, hv, ht, .inr (.inr (.inl ⟨_, rfl, by simp only; omega, by omega, hc3.2.1, hc3.2.2.1.symm⟩))⟩
      · rename_i hc3
        rw [if_neg hc3] at ht hp1 hp2
        simp only at ht hp1 hp2
        exact ⟨_, _, rfl, hp1, hp2, by simp only; omega, hv, ht, .inr (.inr (.inr ⟨rfl, rfl⟩))⟩
end Go.Proofs.YtahfmcdhcbfkaaaGreatDoor.CoM
namespace Go.Proofs.YtahfmcdhcbfkaaaGreatDoor.HuffM

def inR (x : Int) : Bool := decide (0 ≤ x) && decide (x ≤ 15)
/-- what a length takes of 2^15 -/
def kr (x : Int) : Nat := if 0 < x then 32768 / 2 ^ x.toNat else 0
def rsum (L : List Int) : Nat := (L.map kr).sum
def many (L : List Int) : Nat := L.countP fun x => decide (0 < x)
def ones (L : List Int) : Nat := L.countP fun x => decide (x = 1)
def rightB (L : List Int) : Bool := L.all inR && (rsum L == 32768 || (many L == 1 && ones L == 1))
theorem kr_le (x : Int) : kr x ≤ 32768 := by
  unfold kr
  split
  · exact Nat.div_le_self _ _
  · omega
theorem kr_zero : kr 0 = 0 := rfl
theorem rsum_snoc (L : List Int) (x : Int) : rsum (L ++ [x]) = rsum L + kr x := by simp [rsum]
theorem many_snoc (L : List Int) (x : Int) : many (L ++ [x]) = many L + if 0 < x then 1 else 0 := by unfold many; rw [List.countP_append]; simp [List.countP_cons]
theorem ones_snoc (L : List Int) (x : Int) : ones (L ++ [x]) = ones L + if x = 1 then 1 else 0 := by unfold ones; rw [List.countP_append]; simp [List.countP_cons]
theorem rsum_le (L : List Int) : rsum L ≤ 32768 * L.length := by
  induction L with
  | nil => simp [rsum]
  | cons x L ih =>
    have := kr_le x
    simp only [rsum, List.map_cons, List.sum_cons, List.length_cons] at ih ⊢
    omega
theorem many_le (L : List Int) : many L ≤ L.length := List.countP_le_length
theorem ones_le (L : List Int) : ones L ≤ L.length := List.countP_le_length
theorem all_snoc (L : List Int) (x : Int) : (L ++ [x]).all inR = (L.all inR && inR x) := by simp [List.all_append]
theorem not_right {L : List Int} {k : Nat} {x : Int} (hx : L[k]? = some x) (h : inR x = false) : rightB L = false := by
  have : L.all inR = false := by
    rw [List.all_eq_false]
    exact ⟨x, List.mem_of_getElem? hx, by rw [h]; simp⟩
  unfold rightB
  rw [this]
  rfl
theorem take_snoc {α : Type} {L : List α} {k : Nat} {x : α} (hx : L[k]? = some x) : L.take (k + 1) = L.take k ++ [x] := by rw [List.take_add_one, hx]; rfl

/-- the state of the codes that are counted up -/
structure CS where
  code : Nat
  last : Nat
  out : List Nat
def nextCode (k : Nat) (c : CS) : Nat := if 0 < c.last then (c.code + 1) % 18446744073709551616 * 2 ^ (k - c.last) % 18446744073709551616 else c.code
def cstep (L : List Int) (k s : Nat) (c : CS) : CS := if L.getD s 0 = (k : Int) then ⟨nextCode k c, k, c.out.set s (nextCode k c)⟩ else c
/-- the first s symbols at length k -/
def crow (L : List Int) (k : Nat) (c : CS) : Nat → CS
  | 0 => c
  | s + 1 => cstep L k s (crow L k c s)
/-- the lengths 1 to k -/
def call (L : List Int) : Nat → CS
  | 0 => ⟨0, 0, List.replicate L.length 0⟩
  | k + 1 => crow L (k + 1) (call L k) L.length
def codesL (L : List Int) : List Nat := (call L 15).out
theorem code_cast (a e : Nat) : ((a : Int) + 1) % 18446744073709551616 * 2 ^ e % 18446744073709551616 = (((a + 1) % 18446744073709551616 * 2 ^ e % 18446744073709551616 : Nat) : Int) := by
  rw [Int.natCast_emod, Int.natCast_mul, Int.natCast_emod, Int.natCast_add, Int.natCast_pow]
  rfl
theorem nextCode_lt {k : Nat} {c : CS} (h : c.code < 18446744073709551616) : nextCode k c < 18446744073709551616 := by
  unfold nextCode
  split
  · exact Nat.mod_lt _ (by omega)
  · exact h
/-- lengths, numbers within a word -/
def CS.ok (n k : Nat) (c : CS) : Prop := c.code < 18446744073709551616 ∧ c.last ≤ k ∧ c.out.length = n ∧ ∀ x ∈ c.out, x < 18446744073709551616
theorem cstep_ok {L : List Int} {n k s : Nat} {c : CS} (h : c.ok n k) : (cstep L k s c).ok n k := by
  unfold cstep
  split
  · refine ⟨nextCode_lt h.1, Nat.le_refl _, by simp [h.2.2.1], ?_⟩
    intro x hx
    rcases List.mem_or_eq_of_mem_set hx with hx | rfl
    · exact h.2.2.2 x hx
    · exact nextCode_lt h.1
  · exact h
theorem crow_ok {L : List Int} {n k : Nat} {c : CS} (h : c.ok n k) (s : Nat) : (crow L k c s).ok n k := by
  induction s with
  | zero => exact h
  | succ s ih => exact cstep_ok ih
theorem CS.ok.mono {n k k' : Nat} {c : CS} (h : c.ok n k) (hk : k ≤ k') : c.ok n k' := ⟨h.1, Nat.le_trans h.2.1 hk, h.2.2⟩
theorem call_ok (L : List Int) (k : Nat) : (call L k).ok L.length k := by
  induction k with
  | zero =>
    refine ⟨by show 0 < _; omega, Nat.le_refl _, by simp [call], ?_⟩
    intro x hx
    have := List.eq_of_mem_replicate hx
    omega
  | succ k ih => exact crow_ok (ih.mono (by omega)) _
theorem codes_len (L : List Int) : (codesL L).length = L.length := (call_ok L 15).2.2.1
theorem codes_lt (L : List Int) : ∀ x ∈ codesL L, x < 18446744073709551616 := (call_ok L 15).2.2.2

/-- the number that the first k bits tell -/
def bcode (B : List UInt8) (k : Nat) : Nat := (B.take k).foldl (fun c b => 2 * c + b.toNat) 0
theorem bcode_succ {B : List UInt8} {k : Nat} {b : UInt8} (h : B[k]? = some b) : bcode B (k + 1) = 2 * bcode B k + b.toNat := by
  unfold bcode
  rw [take_snoc h, List.foldl_append]
  rfl
theorem bcode_lt (B : List UInt8) (k : Nat) : bcode B k ≤ 255 * (2 ^ k - 1) := by
  induction k with
  | zero => simp [bcode]
  | succ k ih =>
    cases h : B[k]? with
    | none =>
      have hl : B.length ≤ k := by simpa using h
      have e : bcode B (k + 1) = bcode B k := by unfold bcode; rw [List.take_of_length_le (by omega), List.take_of_length_le hl]
      rw [e, Nat.pow_succ]
      omega
    | some b =>
      have := b.toNat_lt
      rw [bcode_succ h, Nat.pow_succ]
      have : 1 ≤ 2 ^ k := Nat.one_le_two_pow
      omega
/-- does symbol s begin here? -/
def hits (L : List Int) (B : List UInt8) (s : Nat) : Bool :=
  let k := L.getD s 0
  k != 0 && decide (k ≤ (B.length : Int)) && bcode B k.toNat == (codesL L).getD s 0
/-- the first symbol of n whose code bits begin with -/
def firstHit (L : List Int) (B : List UInt8) (n : Nat) : Option Nat := (List.range n).find? (hits L B)
def nextS (L : List Int) (B : List UInt8) : Int × Int := match firstHit L B L.length with
  | some s => ((s : Int), L.getD s 0)
  | none => (-1, 0)
theorem first_none (L : List Int) (B : List UInt8) : firstHit L B 0 = none := rfl
theorem first_step {L : List Int} {B : List UInt8} {s : Nat} (h : firstHit L B s = none) : firstHit L B (s + 1) = if hits L B s = true then some s else none := by
  unfold firstHit at h ⊢
  rw [List.range_succ, List.find?_append, h]
  simp only [Option.none_or, List.find?_cons, List.find?_nil]
  cases hits L B s <;> rfl
theorem first_of {L : List Int} {B : List UInt8} {s n : Nat} (h : firstHit L B s = none) (hs : hits L B s = true) (hn : s < n) : firstHit L B n = some s := by
  have h1 := first_step h
  rw [if_pos hs] at h1
  obtain ⟨d, rfl⟩ : ∃ d, n = (s + 1) + d := ⟨n - (s + 1), by omega⟩
  unfold firstHit at h1 ⊢
  rw [List.range_add, List.find?_append, h1]
  rfl
end Go.Proofs.YtahfmcdhcbfkaaaGreatDoor.HuffM
namespace Go.Proofs.YtahfmcdhcbfkaaaGreatDoor.HuffM

structure Grp where
  w : Nat
  s : List Nat
def gat (l : List Grp) (i : Nat) : Grp := l.getD i ⟨0, []⟩
def wt (l : List Grp) (i : Nat) : Nat := (gat l i).w
/-- the first of the least ones among the first i -/
def aI (l : List Grp) : Nat → Nat
  | 0 => 0
  | i + 1 => if wt l i < wt l (aI l i) then i else aI l i
/-- the first of the least ones among the first i, but a -/
def bI (l : List Grp) (a : Nat) : Nat → Option Nat
  | 0 => none
  | i + 1 => match bI l a i with
    | none => if i ≠ a then some i else none
    | some b => if i ≠ a ∧ wt l i < wt l b then some i else some b
/-- the first i, but a and b -/
def rI (l : List Grp) (a b : Nat) : Nat → List Grp
  | 0 => []
  | i + 1 => if i ≠ a ∧ i ≠ b then rI l a b i ++ [gat l i] else rI l a b i
def inc (o : List Nat) (s : Nat) : List Nat := o.set s (o.getD s 0 + 1)
def incs (o : List Nat) (S : List Nat) : List Nat := S.foldl inc o
def pa (l : List Grp) : Nat := aI l l.length
def pb (l : List Grp) : Nat := (bI l (pa l) l.length).getD 0
def grp (l : List Grp) : Grp := ⟨wt l (pa l) + wt l (pb l), (gat l (pa l)).s ++ (gat l (pb l)).s⟩
def joinG (l : List Grp) : List Grp := rI l (pa l) (pb l) l.length ++ [grp l]
def mergeF : Nat → List Grp → List Nat → List Nat
  | 0, _, o => o
  | f + 1, l, o => if l.length ≤ 1 then o else mergeF f (joinG l) (incs o (grp l).s)
/-- the groups of the first i weights -/
def gI (W : List Nat) : Nat → List Grp
  | 0 => []
  | i + 1 => if 0 < W.getD i 0 then gI W i ++ [⟨W.getD i 0, [i]⟩] else gI W i
def once0 (W : List Nat) : List Nat := List.replicate W.length 0
def onceL (W : List Nat) : List Nat :=
  let l := gI W W.length
  mergeF l.length l (if l.length = 1 then (once0 W).set ((gat l 0).s.getD 0 0) 1 else once0 W)
def half (W : List Nat) : List Nat := W.map fun x => x / 2 + x % 2
def lensF (most : Nat) : Nat → List Nat → List Nat
  | 0, W => onceL W
  | f + 1, W => if (onceL W).all (fun x => decide (x ≤ most)) = true then onceL W else lensF most f (half W)
def lens (most : Nat) (W : List Nat) : List Nat := lensF most (W.sum + 1) W

theorem aI_lt (l : List Grp) (i : Nat) (hi : 0 < i) : aI l i < i := by
  induction i with
  | zero => omega
  | succ i ih =>
    rw [aI]
    split
    · omega
    · rcases Nat.eq_zero_or_pos i with rfl | h
      · simp [aI]
      · have := ih h; omega
theorem aI_le (l : List Grp) (i : Nat) : ∀ j, j < i → wt l (aI l i) ≤ wt l j := by
  induction i with
  | zero => intro j hj; omega
  | succ i ih =>
    intro j hj
    rw [aI]
    split
    · rename_i h
      rcases Nat.lt_succ_iff_lt_or_eq.1 hj with h1 | rfl
      · have := ih j h1; omega
      · omega
    · rename_i h
      rcases Nat.lt_succ_iff_lt_or_eq.1 hj with h1 | rfl
      · exact ih j h1
      · omega
theorem bI_none {l : List Grp} {a i : Nat} (h : bI l a i = none) : ∀ j, j < i → j = a := by
  induction i with
  | zero => intro j hj; omega
  | succ i ih =>
    rw [bI] at h
    cases hb : bI l a i with
    | none =>
      rw [hb] at h
      simp only at h
      intro j hj
      rcases Nat.lt_succ_iff_lt_or_eq.1 hj with h1 | rfl
      · exact ih hb j h1
      · by_cases e : j = a
        · exact e
        · rw [if_pos e] at h; cases h
    | some b =>
      rw [hb] at h
      simp only at h
      split at h <;> cases h
theorem bI_some {l : List Grp} {a i b : Nat} (h : bI l a i = some b) : b < i ∧ b ≠ a ∧ ∀ j, j < i → j ≠ a → wt l b ≤ wt l j := by
  induction i generalizing b with
  | zero => cases h
  | succ i ih =>
    rw [bI] at h
    cases hb : bI l a i with
    | none =>
      rw [hb] at h
      simp only at h
      split at h
      · rename_i hia
        injection h with h
        subst h
        refine ⟨by omega, hia, fun j hj hja => ?_⟩
        rcases Nat.lt_succ_iff_lt_or_eq.1 hj with h1 | rfl
        · exact absurd (bI_none hb j h1) hja
        · exact Nat.le_refl _
      · cases h
    | some b' =>
      rw [hb] at h
      simp only at h
      obtain ⟨h1, h2, h3⟩ := ih hb
      split at h
      · rename_i hc
        injection h with h
        subst h
        refine ⟨by omega, hc.1, fun j hj hja => ?_⟩
        rcases Nat.lt_succ_iff_lt_or_eq.1 hj with h4 | rfl
        · have := h3 j h4 hja; omega
        · exact Nat.le_refl _
      · rename_i hc
        injection h with h
        subst h
        refine ⟨by omega, h2, fun j hj hja => ?_⟩
        rcases Nat.lt_succ_iff_lt_or_eq.1 hj with h4 | rfl
        · exact h3 j h4 hja
        · rcases Nat.lt_or_ge (wt l j) (wt l b') with h5 | h5
          · exact absurd ⟨hja, h5⟩ hc
          · exact h5
theorem pick {l : List Grp} (h : 2 ≤ l.length) : pa l < l.length ∧ pb l < l.length ∧ pb l ≠ pa l ∧ wt l (pa l) ≤ wt l (pb l) ∧ ∀ j, j < l.length → j ≠ pa l → wt l (pb l) ≤ wt l j := by
  have ha := aI_lt l l.length (by omega)
  cases hb : bI l (pa l) l.length with
  | none =>
    have h0 := bI_none hb 0 (by omega)
    have h1 := bI_none hb 1 (by omega)
    omega
  | some b =>
    obtain ⟨h1, h2, h3⟩ := bI_some hb
    have e : pb l = b := by unfold pb; rw [hb]; rfl
    rw [e]
    exact ⟨ha, h1, h2, aI_le l l.length b h1, h3⟩
theorem gat_mem {l : List Grp} {i : Nat} (h : i < l.length) : gat l i ∈ l := by
  unfold gat
  rw [List.getD_eq_getElem?_getD, List.getElem?_eq_getElem h]
  exact List.getElem_mem h
theorem take_gat {l : List Grp} {i : Nat} (h : i < l.length) : l.take (i + 1) = l.take i ++ [gat l i] := by
  have e : l[i]? = some (gat l i) := by
    unfold gat
    rw [List.getD_eq_getElem?_getD, List.getElem?_eq_getElem h]
    rfl
  exact take_snoc e
theorem rI_perm (l : List Grp) (a b : Nat) (hab : b ≠ a) (i : Nat) (hi : i ≤ l.length) :
    (l.take i).Perm ((if a < i then [gat l a] else []) ++ ((if b < i then [gat l b] else []) ++ rI l a b i)) := by
  induction i with
  | zero => simp [rI]
  | succ i ih =>
    have ih := ih (by omega)
    rw [take_gat (by omega), rI]
    by_cases h1 : i = a
    · subst h1
      rw [if_pos (show i < i + 1 by omega), if_neg (show ¬ (i ≠ i ∧ i ≠ b) from fun h => h.1 rfl)]
      have e : (if b < i + 1 then [gat l b] else []) = (if b < i then [gat l b] else []) := by
        by_cases h : b < i
        · rw [if_pos h, if_pos (by omega)]
        · rw [if_neg h, if_neg (by omega)]
      rw [e]
      rw [if_neg (show ¬ i < i by omega), List.nil_append] at ih
      exact (List.perm_append_comm).trans ((List.Perm.refl _).append ih)
    · by_cases h2 : i = b
      · subst h2
        rw [if_neg (show ¬ (i ≠ a ∧ i ≠ i) from fun h => h.2 rfl)]
        have e : (if a < i + 1 then [gat l a] else []) = (if a < i then [gat l a] else []) := by
          by_cases h : a < i
          · rw [if_pos h, if_pos (by omega)]
          · rw [if_neg h, if_neg (by omega)]
        rw [e, if_pos (show i < i + 1 by omega)]
        rw [if_neg (show ¬ i < i by omega), List.nil_append] at ih
        refine (List.perm_append_comm).trans ?_
        refine ((List.Perm.refl [gat l i]).append ih).trans ?_
        rw [← List.append_assoc, ← List.append_assoc]
        exact List.Perm.append_right _ List.perm_append_comm
      · rw [if_pos (show i ≠ a ∧ i ≠ b from ⟨h1, h2⟩)]
        have e1 : (if a < i + 1 then [gat l a] else []) = (if a < i then [gat l a] else []) := by
          by_cases h : a < i
          · rw [if_pos h, if_pos (by omega)]
          · rw [if_neg h, if_neg (by omega)]
        have e2 : (if b < i + 1 then [gat l b] else []) = (if b < i then [gat l b] else []) := by
          by_cases h : b < i
          · rw [if_pos h, if_pos (by omega)]
          · rw [if_neg h, if_neg (by omega)]
        rw [e1, e2]
        have := ih.append_right [gat l i]
        simpa [List.append_assoc] using this
/-- what a join takes, and what it leaves -/
theorem join_spec {l : List Grp} (h : 2 ≤ l.length) : ∃ x y R, l.Perm (x :: y :: R) ∧ joinG l = R ++ [⟨x.w + y.w, x.s ++ y.s⟩] ∧ grp l = ⟨x.w + y.w, x.s ++ y.s⟩ ∧ x.w ≤ y.w ∧ ∀ z ∈ R, y.w ≤ z.w := by
  obtain ⟨h1, h2, h3, h4, h5⟩ := pick h
  refine ⟨gat l (pa l), gat l (pb l), rI l (pa l) (pb l) l.length, ?_, rfl, rfl, h4, ?_⟩
  · have := rI_perm l (pa l) (pb l) h3 l.length (Nat.le_refl _)
    rw [List.take_length, if_pos h1, if_pos h2] at this
    exact this
  · have key : ∀ i, i ≤ l.length → ∀ z ∈ rI l (pa l) (pb l) i, wt l (pb l) ≤ z.w := by
      intro i
      induction i with
      | zero => intro _ z hz; simp [rI] at hz
      | succ i ih =>
        intro hi z hz
        rw [rI] at hz
        split at hz
        · rename_i hc
          rcases List.mem_append.1 hz with hz | hz
          · exact ih (by omega) z hz
          · simp at hz
            subst hz
            exact h5 i (by omega) hc.1
        · exact ih (by omega) z hz
    exact key l.length (Nat.le_refl _)
theorem join_len {l : List Grp} (h : 2 ≤ l.length) : (joinG l).length = l.length - 1 := by
  obtain ⟨x, y, R, hp, hj, _⟩ := join_spec h
  rw [hj]
  have := hp.length_eq
  simp at this ⊢
  omega
end Go.Proofs.YtahfmcdhcbfkaaaGreatDoor.HuffM
namespace Go.Proofs.YtahfmcdhcbfkaaaGreatDoor.BitsM

/-- the lowest n bits of a number, the lowest first -/
def low (x n : Nat) : List Bool := (List.range n).map x.testBit
/-- the number of bits, the lowest first -/
def num : List Bool → Nat
  | [] => 0
  | b :: l => b.toNat + 2 * num l
def bitsOf (l : List UInt8) : List Bool := l.flatMap fun b => low b.toNat 8
/-- bits that lack till a whole number of bytes -/
def lack (n : Nat) : Nat := (8 - n % 8) % 8
def full (l : List Bool) : List Bool := l ++ List.replicate (lack l.length) false
def pack (l : List Bool) : List UInt8 := (List.range ((l.length + 7) / 8)).map fun i => UInt8.ofNat (num ((l.drop (8 * i)).take 8))

theorem low_length (x n : Nat) : (low x n).length = n := by simp [low]
theorem low_zero (x : Nat) : low x 0 = [] := rfl
theorem low_succ (x n : Nat) : low x (n + 1) = low x n ++ [x.testBit n] := by simp [low, List.range_succ]
theorem low_cons (x n : Nat) : low x (n + 1) = x.testBit 0 :: low (x / 2) n := by
  simp only [low, List.range_succ_eq_map, List.map_cons, List.map_map]
  congr 1
  apply List.map_congr_left
  intro i _
  simp [Nat.testBit_succ]
theorem num_lt (l : List Bool) : num l < 2 ^ l.length := by
  induction l with
  | nil => simp [num]
  | cons b l ih => have : b.toNat ≤ 1 := by cases b <;> simp
                   simp only [num, List.length_cons, Nat.pow_succ]; omega
theorem num_append (a b : List Bool) : num (a ++ b) = num a + 2 ^ a.length * num b := by
  induction a with
  | nil => simp [num]
  | cons x a ih => rw [List.cons_append, num, ih, num, List.length_cons, Nat.pow_succ, Nat.mul_comm (2 ^ a.length) 2, Nat.mul_assoc]; omega
theorem num_replicate (n : Nat) : num (List.replicate n false) = 0 := by
  induction n with
  | zero => rfl
  | succ n ih => simp [List.replicate_succ, num, ih]
theorem num_snoc (a : List Bool) (b : Bool) : num (a ++ [b]) = num a + 2 ^ a.length * b.toNat := by
  rw [num_append]; simp [num]
theorem num_low (x n : Nat) : num (low x n) = x % 2 ^ n := by
  induction n generalizing x with
  | zero => simp [low_zero, num]; omega
  | succ n ih =>
    rw [low_cons, num, ih, Nat.pow_succ, Nat.mul_comm (2 ^ n) 2, Nat.mod_mul]
    simp [Nat.testBit_zero]
    rcases Nat.mod_two_eq_zero_or_one x with h | h <;> simp [h]
theorem low_num (l : List Bool) : low (num l) l.length = l := by
  induction l with
  | nil => rfl
  | cons b l ih =>
    rw [List.length_cons, low_cons]
    have h0 : (num (b :: l)).testBit 0 = b := by
      simp only [Nat.testBit_zero, num]
      cases b <;> simp <;> omega
    have h1 : num (b :: l) / 2 = num l := by
      simp only [num]
      have : b.toNat ≤ 1 := by cases b <;> simp
      omega
    rw [h0, h1, ih]
theorem num_inj {a b : List Bool} (hl : a.length = b.length) (h : num a = num b) : a = b := by
  rw [← low_num a, ← low_num b, h, hl]
theorem testBit_num (l : List Bool) (i : Nat) : (num l).testBit i = l.getD i false := by
  induction l generalizing i with
  | nil => simp [num]
  | cons b l ih =>
    have h1 : num (b :: l) / 2 = num l := by
      simp only [num]
      have : b.toNat ≤ 1 := by cases b <;> simp
      omega
    cases i with
    | zero => simp only [Nat.testBit_zero, num, List.getD_cons_zero]; cases b <;> simp <;> omega
    | succ i => rw [Nat.testBit_succ, h1, ih]; simp

theorem bitsOf_nil : bitsOf [] = [] := rfl
theorem bitsOf_cons (b : UInt8) (l : List UInt8) : bitsOf (b :: l) = low b.toNat 8 ++ bitsOf l := rfl
theorem bitsOf_append (a b : List UInt8) : bitsOf (a ++ b) = bitsOf a ++ bitsOf b := by simp [bitsOf]
theorem bitsOf_length (l : List UInt8) : (bitsOf l).length = 8 * l.length := by
  induction l with
  | nil => rfl
  | cons b l ih => rw [bitsOf_cons, List.length_append, ih, low_length, List.length_cons]; omega

theorem lack_lt (n : Nat) : lack n < 8 := by unfold lack; omega
theorem lack_add (n : Nat) : (n + lack n) % 8 = 0 := by unfold lack; omega
theorem lack_zero {n : Nat} (h : n % 8 = 0) : lack n = 0 := by unfold lack; omega
theorem lack_pos {n : Nat} (h : n % 8 ≠ 0) : lack n = 8 - n % 8 := by unfold lack; omega
theorem lack_ceil (n : Nat) : n + lack n = 8 * ((n + 7) / 8) := by unfold lack; omega
theorem full_length (l : List Bool) : (full l).length = l.length + lack l.length := by simp [full]
theorem full_mod (l : List Bool) : (full l).length % 8 = 0 := by rw [full_length]; exact lack_add _
theorem full_of_aligned {l : List Bool} (h : l.length % 8 = 0) : full l = l := by simp [full, lack_zero h]

theorem pack_length (l : List Bool) : (pack l).length = (l.length + 7) / 8 := by simp [pack]
theorem pack_nil : pack [] = [] := rfl
theorem pack_get (l : List Bool) (i : Nat) (h : i < (l.length + 7) / 8) : (pack l)[i]? = some (UInt8.ofNat (num ((l.drop (8 * i)).take 8))) := by
  simp [pack, h]
theorem num_take8_lt (l : List Bool) : num (l.take 8) < 256 := by
  have h := num_lt (l.take 8)
  have h2 : (l.take 8).length ≤ 8 := by simp; omega
  have := Nat.pow_le_pow_right (show 0 < 2 by omega) h2
  omega
theorem pack_get_toNat (l : List Bool) (i : Nat) (b : UInt8) (h : (pack l)[i]? = some b) : b.toNat = num ((l.drop (8 * i)).take 8) := by
  have hi : i < (l.length + 7) / 8 := by rw [← pack_length]; exact (List.getElem?_eq_some_iff.1 h).1
  rw [pack_get l i hi] at h
  obtain rfl := Option.some.inj h
  simp
  exact num_take8_lt _
theorem pack_append {a : List Bool} (h : a.length % 8 = 0) (b : List Bool) : pack (a ++ b) = pack a ++ pack b := by
  apply List.ext_getElem?
  intro i
  have hla := pack_length a
  by_cases hi : i < (pack a).length
  · rw [List.getElem?_append_left hi, pack_get _ _ (by rw [List.length_append]; omega), pack_get _ _ (by omega)]
    rw [List.drop_append_of_le_length (by omega), List.take_append_of_le_length (by simp; omega)]
  · rw [List.getElem?_append_right (by omega)]
    by_cases hi2 : i < ((a ++ b).length + 7) / 8
    · have hb : i - (pack a).length < (b.length + 7) / 8 := by rw [List.length_append] at hi2; omega
      rw [pack_get _ _ hi2, pack_get _ _ hb]
      congr 3
      rw [show 8 * i = a.length + 8 * (i - (pack a).length) from by omega, List.drop_append]
      simp [List.drop_eq_nil_of_le (show a.length ≤ a.length + 8 * (i - (pack a).length) from by omega)]
    · rw [List.getElem?_eq_none (by rw [pack_length]; omega), List.getElem?_eq_none (by rw [pack_length]; rw [List.length_append] at hi2; omega)]
theorem pack_low8 (b : UInt8) : pack (low b.toNat 8) = [b] := by
  have h : pack (low b.toNat 8) = [UInt8.ofNat (num ((low b.toNat 8).take 8))] := by
    simp [pack, low_length, List.range_succ]
  rw [h, List.take_of_length_le (by rw [low_length]; omega), num_low]
  simp
theorem pack_bitsOf (l : List UInt8) : pack (bitsOf l) = l := by
  induction l with
  | nil => rfl
  | cons b l ih => rw [bitsOf_cons, pack_append (by rw [low_length]), pack_low8, ih]; rfl
/-- bits that are 0, at the end of the last byte, turn no byte -/
theorem pack_pad (l : List Bool) (k : Nat) (h : k ≤ lack l.length) : pack (l ++ List.replicate k false) = pack l := by
  have hc := lack_ceil l.length
  have hlk := lack_lt l.length
  apply List.ext_getElem?
  intro i
  have hlen : ((l ++ List.replicate k false).length + 7) / 8 = (l.length + 7) / 8 := by
    simp; omega
  by_cases hi : i < (l.length + 7) / 8
  · rw [pack_get _ _ (by rw [hlen]; exact hi), pack_get _ _ hi]
    congr 2
    rw [List.drop_append, List.take_append, num_append, List.drop_replicate, List.take_replicate, num_replicate]
    simp
  · rw [List.getElem?_eq_none (by rw [pack_length, hlen]; omega), List.getElem?_eq_none (by rw [pack_length]; omega)]
theorem pack_full (l : List Bool) : pack (full l) = pack l := pack_pad l _ (Nat.le_refl _)
theorem pack_snoc_new {l : List Bool} (h : l.length % 8 = 0) (b : Bool) : pack (l ++ [b]) = pack l ++ [UInt8.ofNat b.toNat] := by
  rw [pack_append h]
  congr 1
  simp [pack, num, List.range_succ]
/-- a bit behind others in the last byte: the byte turns, no other one -/
theorem pack_snoc_old {l : List Bool} (h : l.length % 8 ≠ 0) (b : Bool) (o : UInt8) (ho : (pack l)[l.length / 8]? = some o) :
    pack (l ++ [b]) = (pack l).set (l.length / 8) (UInt8.ofNat (o.toNat + 2 ^ (l.length % 8) * b.toNat)) ∧ o.toNat < 2 ^ (l.length % 8) := by
  have hon := pack_get_toNat _ _ _ ho
  have ht : ((l.drop (8 * (l.length / 8))).take 8) = l.drop (8 * (l.length / 8)) := List.take_of_length_le (by simp; omega)
  rw [ht] at hon
  have hdl : (l.drop (8 * (l.length / 8))).length = l.length % 8 := by simp; omega
  refine ⟨?_, by rw [hon, ← hdl]; exact num_lt _⟩
  apply List.ext_getElem?
  intro i
  by_cases hi : i < (l.length + 7) / 8
  · rw [pack_get _ _ (by simp; omega)]
    by_cases he : i = l.length / 8
    · subst he
      rw [List.getElem?_set_self (by rw [pack_length]; omega)]
      congr 2
      rw [List.drop_append_of_le_length (by omega), List.take_of_length_le (by simp; omega), num_snoc, hdl, hon]
    · rw [List.getElem?_set_ne (by omega), pack_get _ _ hi]
      congr 2
      rw [List.drop_append_of_le_length (by omega), List.take_append_of_le_length (by simp; omega)]
  · rw [List.getElem?_eq_none (by rw [pack_length]; simp; omega), List.getElem?_eq_none (by rw [List.length_set, pack_length]; omega)]
/-- the byte that holds a bit of bytes, and the bit in it -/
theorem bitsOf_get (l : List UInt8) (i : Nat) (o : UInt8) (ho : l[i / 8]? = some o) : (bitsOf l)[i]? = some (o.toNat.testBit (i % 8)) := by
  induction l generalizing i with
  | nil => simp at ho
  | cons b l ih =>
    rw [bitsOf_cons]
    by_cases hi : i < 8
    · rw [List.getElem?_append_left (by rw [low_length]; exact hi)]
      rw [show i / 8 = 0 from by omega] at ho
      simp at ho
      subst ho
      simp [low, hi, Nat.mod_eq_of_lt hi]
    · rw [List.getElem?_append_right (by rw [low_length]; omega), low_length]
      have := ih (i - 8) (by
        rw [show i / 8 = (i - 8) / 8 + 1 from by omega] at ho
        simpa using ho)
      rw [this, show (i - 8) % 8 = i % 8 from by omega]
end Go.Proofs.YtahfmcdhcbfkaaaGreatDoor.BitsM
namespace Go.Proofs.YtahfmcdhcbfkaaaGreatDoor.CoM
open HuffM BitsM

/-- how many are left without the 0s at the end of the first k behind m, but at least m -/
def trimN (L : List Nat) (m : Nat) : Nat → Nat
  | 0 => m
  | k + 1 => if L[m + k]! = 0 then trimN L m k else m + k + 1
theorem trimN_le (L : List Nat) (m : Nat) : ∀ k, m ≤ trimN L m k ∧ trimN L m k ≤ m + k
  | 0 => ⟨Nat.le_refl _, Nat.le_refl _⟩
  | k + 1 => by
    have := trimN_le L m k
    rw [trimN]
    split <;> omega
theorem trimN_zero (L : List Nat) (m : Nat) : ∀ k i, trimN L m k ≤ i → i < m + k → L[i]! = 0
  | 0, i, h1, h2 => by rw [trimN] at h1; omega
  | k + 1, i, h1, h2 => by
    rw [trimN] at h1
    split at h1
    · rename_i h0
      rcases Nat.lt_or_ge i (m + k) with h | h
      · exact trimN_zero L m k i h1 h
      · rw [show i = m + k by omega]; exact h0
    · omega
def trimL (L : List Nat) (m : Nat) : List Nat := L.take (trimN L m (L.length - m))
def ord : List Nat := [16, 17, 18, 0, 8, 7, 9, 6, 10, 5, 11, 4, 12, 3, 13, 2, 14, 1, 15]
/-- how often each of 0 to 18 is met -/
def bump8 (W : List Nat) (s : Nat) : List Nat := W.set s (W[s]! + 1)
def weigh8 (T : List It) (W : List Nat) : List Nat := T.foldl (fun W t => bump8 W t.s) W
def zeros19 : List Nat := List.replicate 19 0
/-- how many lengths are put, of the first 4 + k in the order -/
def manyN (len : List Nat) : Nat → Nat
  | 0 => 4
  | k + 1 => if 0 < len[ord[4 + k]!]! then 4 + k + 1 else manyN len k
theorem manyN_le (len : List Nat) : ∀ k, 4 ≤ manyN len k ∧ manyN len k ≤ 4 + k
  | 0 => ⟨Nat.le_refl _, Nat.le_refl _⟩
  | k + 1 => by
    have := manyN_le len k
    rw [manyN]
    split <;> omega
/-- the bits of one item -/
def itBits (cs len : List Nat) (t : It) : List Bool := (low cs[t.s]! (min len[t.s]! 64)).reverse ++ low t.x (min t.b 64)
/-- the bits of the lengths of two codes, as they are pressed -/
def putBits (A B : List Nat) : List Bool :=
  let T := items (A ++ B)
  let len := lens 7 (weigh8 T zeros19)
  let cs := codesL (len.map fun x : Nat => (x : Int))
  low (A.length - 257) 5 ++ low (B.length - 1) 5 ++ low (manyN len 15 - 4) 4 ++ (ord.take (manyN len 15)).flatMap (fun o => low len[o]! 3) ++ T.flatMap (itBits cs len)
theorem bump8_len (W : List Nat) (s : Nat) : (bump8 W s).length = W.length := by simp [bump8]
theorem weigh8_len : ∀ (T : List It) (W : List Nat), (weigh8 T W).length = W.length
  | [], W => rfl
  | t :: T, W => by
    show (weigh8 T (bump8 W t.s)).length = _
    rw [weigh8_len T _, bump8_len]
theorem bump8_le {W : List Nat} {N s : Nat} (h : ∀ x ∈ W, x ≤ N) : ∀ x ∈ bump8 W s, x ≤ N + 1 := by
  intro x hx
  rcases List.mem_or_eq_of_mem_set hx with h1 | h1
  · have := h x h1; omega
  · rcases Nat.lt_or_ge s W.length with hs | hs
    · rw [getElem!_pos W s hs] at h1
      have := h _ (List.getElem_mem hs)
      omega
    · rw [getElem!_neg W s (by omega)] at h1
      have : x ≤ 0 + 1 := by rw [h1]; exact Nat.le_refl _
      omega
theorem weigh8_le : ∀ (T : List It) (W : List Nat) (N : Nat), (∀ x ∈ W, x ≤ N) → ∀ x ∈ weigh8 T W, x ≤ N + T.length
  | [], W, N, h, x, hx => by have := h x hx; omega
  | t :: T, W, N, h, x, hx => by
    have := weigh8_le T (bump8 W t.s) (N + 1) (bump8_le h) x hx
    rw [List.length_cons]
    omega
theorem weigh8_take {T : List It} {k : Nat} {t : It} (h : T[k]? = some t) (W : List Nat) : weigh8 (T.take (k + 1)) W = bump8 (weigh8 (T.take k) W) t.s := by
  have hk := (List.getElem?_eq_some_iff.1 h).1
  have he := (List.getElem?_eq_some_iff.1 h).2
  rw [List.take_succ_eq_append_getElem hk, he]
  unfold weigh8
  rw [List.foldl_append]
  rfl
theorem pressI_mem {L : List Nat} (hL : ∀ x ∈ L, x ≤ 15) : ∀ f i, ∀ t ∈ pressI L f i, t.s ≤ 18 ∧ t.b ≤ 7 ∧ t.x ≤ 127
  | 0, i, t, h => by simp [pressI] at h
  | f + 1, i, t, h => by
    rw [pressI] at h
    split at h
    · rename_i hi
      rcases List.mem_cons.1 h with h | h
      · obtain ⟨n, v, _, _, _, _, hv, _, hc⟩ := item_cases L i hi hL
        rw [← h] at hc
        rcases hc with ⟨x, e, _, hx, _⟩ | ⟨x, e, _, hx, _⟩ | ⟨x, e, _, hx, _⟩ | ⟨e, _⟩
        · rw [e]; exact ⟨Nat.le_refl _, Nat.le_refl _, by show x ≤ 127; omega⟩
        · rw [e]; exact ⟨by show 17 ≤ 18; omega, by show 3 ≤ 7; omega, by show x ≤ 127; omega⟩
        · rw [e]; exact ⟨by show 16 ≤ 18; omega, by show 2 ≤ 7; omega, by show x ≤ 127; omega⟩
        · rw [e]; exact ⟨by show v ≤ 18; omega, by show 0 ≤ 7; omega, by show 0 ≤ 127; omega⟩
      · exact pressI_mem hL f _ t h
    · simp at h
theorem items_mem {L : List Nat} (hL : ∀ x ∈ L, x ≤ 15) : ∀ t ∈ items L, t.s ≤ 18 ∧ t.b ≤ 7 ∧ t.x ≤ 127 := pressI_mem hL _ _
end Go.Proofs.YtahfmcdhcbfkaaaGreatDoor.CoM
namespace Go.Proofs.YtahfmcdhcbfkaaaGreatDoor.HuffM

def oat (o : List Nat) (s : Nat) : Nat := o.getD s 0
def sy (l : List Grp) : List Nat := l.flatMap (·.s)
theorem inc_len (o : List Nat) (s : Nat) : (inc o s).length = o.length := by simp [inc]
theorem incs_len (o S : List Nat) : (incs o S).length = o.length := by
  unfold incs
  induction S generalizing o with
  | nil => rfl
  | cons s S ih => rw [List.foldl_cons, ih, inc_len]
theorem inc_at (o : List Nat) (s t : Nat) (hs : s < o.length) : oat (inc o s) t = if s = t then oat o t + 1 else oat o t := by
  unfold oat inc
  rw [List.getD_eq_getElem?_getD, List.getElem?_set]
  by_cases h : s = t
  · subst h; simp [hs]
  · rw [if_neg h, if_neg h, ← List.getD_eq_getElem?_getD]
theorem incs_at (o S : List Nat) (hS : ∀ s ∈ S, s < o.length) (hn : S.Nodup) (t : Nat) : oat (incs o S) t = if t ∈ S then oat o t + 1 else oat o t := by
  induction S generalizing o with
  | nil => simp [incs]
  | cons s S ih =>
    have hn' := List.nodup_cons.1 hn
    have h := ih (inc o s) (by intro x hx; rw [inc_len]; exact hS x (List.mem_cons_of_mem _ hx)) hn'.2
    have e : incs o (s :: S) = incs (inc o s) S := rfl
    rw [e, h, inc_at o s t (hS s (List.mem_cons_self ..))]
    by_cases h1 : s = t
    · subst h1
      rw [if_neg hn'.1]
      simp
    · by_cases h2 : t ∈ S
      · rw [if_pos h2, if_neg h1, if_pos (List.mem_cons_of_mem _ h2)]
      · rw [if_neg h2, if_neg h1, if_neg (by intro h; rcases List.mem_cons.1 h with h | h; exact h1 h.symm; exact h2 h)]
theorem sy_perm {l l' : List Grp} (h : l.Perm l') : (sy l).Perm (sy l') := h.flatMap_right _
theorem sy_join {l : List Grp} (h : 2 ≤ l.length) : (sy (joinG l)).Perm (sy l) := by
  obtain ⟨x, y, R, hp, hj, _⟩ := join_spec h
  rw [hj]
  refine List.Perm.trans ?_ (sy_perm hp).symm
  unfold sy
  rw [List.flatMap_append]
  simp only [List.flatMap_cons, List.flatMap_nil, List.append_nil]
  exact List.perm_append_comm.trans (List.Perm.of_eq (List.append_assoc ..))
def sumW (l : List Grp) : Nat := (l.map (·.w)).sum
theorem sum_join {l : List Grp} (h : 2 ≤ l.length) : sumW (joinG l) = sumW l := by
  obtain ⟨x, y, R, hp, hj, _⟩ := join_spec h
  rw [hj]
  unfold sumW
  rw [(hp.map (·.w)).sum_nat]
  simp
  omega
/-- symbols stand in one group, who stands in none has no length yet -/
structure Good (l : List Grp) (o : List Nat) : Prop where
  nd : (sy l).Nodup
  lt : ∀ s ∈ sy l, s < o.length
  out : ∀ s, s ∉ sy l → oat o s = 0
theorem mem_sy {l : List Grp} {g : Grp} {s : Nat} (hg : g ∈ l) (hs : s ∈ g.s) : s ∈ sy l := List.mem_flatMap.2 ⟨g, hg, hs⟩
theorem Good.join {l : List Grp} {o : List Nat} (hg : Good l o) (h : 2 ≤ l.length) :
    Good (joinG l) (incs o (grp l).s) ∧ (∀ s ∈ (grp l).s, oat (incs o (grp l).s) s = oat o s + 1) ∧ (∀ s, s ∉ (grp l).s → oat (incs o (grp l).s) s = oat o s) := by
  obtain ⟨x, y, R, hp, hj, hgr, _⟩ := join_spec h
  have hs : ∀ s ∈ (grp l).s, s ∈ sy l := by
    intro s hs
    rw [hgr] at hs
    rcases List.mem_append.1 hs with h1 | h1
    · exact mem_sy (hp.symm.subset (List.mem_cons_self ..)) h1
    · exact mem_sy (hp.symm.subset (List.mem_cons_of_mem _ (List.mem_cons_self ..))) h1
  have hn : (grp l).s.Nodup := by
    have h1 := (sy_perm hp).nodup_iff.1 hg.nd
    unfold sy at h1
    simp only [List.flatMap_cons] at h1
    rw [← List.append_assoc] at h1
    rw [hgr]
    exact (List.nodup_append.1 h1).1
  have hat := incs_at o (grp l).s (fun s h => hg.lt s (hs s h)) hn
  refine ⟨⟨(sy_join h).nodup_iff.2 hg.nd, fun s h1 => ?_, fun s h1 => ?_⟩, fun s h1 => by rw [hat, if_pos h1], fun s h1 => by rw [hat, if_neg h1]⟩
  · rw [incs_len]; exact hg.lt s ((sy_join h).subset h1)
  · have h2 : s ∉ sy l := fun h3 => h1 ((sy_join h).symm.subset h3)
    rw [hat, if_neg (fun h3 => h2 (hs s h3))]
    exact hg.out s h2
def irr (k : Nat) (g : Grp) : Bool := decide (2 ^ k < g.w) && decide (g.w < 2 ^ (k + 1))
/-- weights between 2^k and twice as much, at most one of them strictly between; lengths as high as weights say -/
structure Inv (k : Nat) (l : List Grp) (o : List Nat) : Prop where
  reg : ∀ g ∈ l, (g.w = 2 ^ k ∧ ∀ s ∈ g.s, oat o s ≤ k) ∨ (2 ^ k < g.w ∧ g.w ≤ 2 ^ (k + 1) ∧ ∀ s ∈ g.s, oat o s ≤ k + 1)
  one : l.countP (irr k) ≤ 1
theorem disj {x y : Grp} {R : List Grp} (h : (sy (x :: y :: R)).Nodup) {z : Grp} (hz : z ∈ R) {s : Nat} (hs : s ∈ z.s) : s ∉ x.s ++ y.s := by
  unfold sy at h
  simp only [List.flatMap_cons] at h
  rw [← List.append_assoc] at h
  intro h1
  exact (List.nodup_append.1 h).2.2 s h1 s (List.mem_flatMap.2 ⟨z, hz, hs⟩) rfl
theorem Inv.join {k : Nat} {l : List Grp} {o : List Nat} (hi : Inv k l o) (hg : Good l o) (h : 2 ≤ l.length) : ∃ k', Inv k' (joinG l) (incs o (grp l).s) := by
  obtain ⟨_, hin, hout⟩ := hg.join h
  obtain ⟨x, y, R, hp, hj, hgr, hxy, hR⟩ := join_spec h
  have hnd := (sy_perm hp).nodup_iff.1 hg.nd
  have hx := hi.reg x (hp.symm.subset (List.mem_cons_self ..))
  have hy := hi.reg y (hp.symm.subset (List.mem_cons_of_mem _ (List.mem_cons_self ..)))
  have hz : ∀ z ∈ R, (z.w = 2 ^ k ∧ ∀ s ∈ z.s, oat o s ≤ k) ∨ (2 ^ k < z.w ∧ z.w ≤ 2 ^ (k + 1) ∧ ∀ s ∈ z.s, oat o s ≤ k + 1) :=
    fun z hz => hi.reg z (hp.symm.subset (List.mem_cons_of_mem _ (List.mem_cons_of_mem _ hz)))
  have hzo : ∀ z ∈ R, ∀ s ∈ z.s, oat (incs o (grp l).s) s = oat o s := fun z hz s hs => hout s (by rw [hgr]; exact disj hnd hz hs)
  have hone := hi.one
  rw [hp.countP_eq, List.countP_cons, List.countP_cons] at hone
  have hsx : ∀ s ∈ x.s, oat (incs o (grp l).s) s = oat o s + 1 := fun s hs => hin s (by rw [hgr]; exact List.mem_append_left _ hs)
  have hsy : ∀ s ∈ y.s, oat (incs o (grp l).s) s = oat o s + 1 := fun s hs => hin s (by rw [hgr]; exact List.mem_append_right _ hs)
  obtain ⟨O, hO⟩ : ∃ O, O = incs o (grp l).s := ⟨_, rfl⟩
  rw [← hO] at hzo hsx hsy ⊢
  rw [hj]
  have e1 : (2 : Nat) ^ (k + 1) = 2 ^ k * 2 := Nat.pow_succ ..
  have e2 : (2 : Nat) ^ (k + 2) = 2 ^ k * 2 * 2 := by rw [Nat.pow_succ, e1]
  have hP : 0 < (2 : Nat) ^ k := Nat.two_pow_pos k
  by_cases hyk : y.w = 2 ^ k
  · have hxk : x.w = 2 ^ k := by rcases hx with hx | hx <;> omega
    refine ⟨k, ⟨fun g hg => ?_, ?_⟩⟩
    · rcases List.mem_append.1 hg with hg | hg
      · rcases hz g hg with ⟨h1, h2⟩ | ⟨h1, h2, h3⟩
        · exact .inl ⟨h1, fun s hs => by rw [hzo g hg s hs]; exact h2 s hs⟩
        · exact .inr ⟨h1, h2, fun s hs => by rw [hzo g hg s hs]; exact h3 s hs⟩
      · simp at hg
        subst hg
        refine .inr ⟨by show 2 ^ k < x.w + y.w; omega, by show x.w + y.w ≤ _; omega, fun s hs => ?_⟩
        have hx2 : ∀ s ∈ x.s, oat o s ≤ k := by rcases hx with hx | hx; exact hx.2; omega
        have hy2 : ∀ s ∈ y.s, oat o s ≤ k := by rcases hy with hy | hy; exact hy.2; omega
        rcases List.mem_append.1 hs with hs | hs
        · rw [hsx s hs]; have := hx2 s hs; omega
        · rw [hsy s hs]; have := hy2 s hs; omega
    · rw [List.countP_append]
      have : irr k ⟨x.w + y.w, x.s ++ y.s⟩ = false := by simp [irr]; omega
      simp [this]
      omega
  · have hyk2 : 2 ^ k < y.w := by rcases hy with hy | hy <;> omega
    have hz2 : ∀ z ∈ R, z.w = 2 ^ (k + 1) := by
      intro z hzR
      have h1 := hR z hzR
      rcases hz z hzR with h2 | ⟨h2, h3, _⟩
      · omega
      · rcases Nat.lt_or_ge z.w (2 ^ (k + 1)) with h4 | h4
        · exfalso
          have hy3 : irr k y = true := by simp [irr]; omega
          have hz3 : irr k z = true := by simp [irr]; omega
          have : 0 < R.countP (irr k) := List.countP_pos_iff.2 ⟨z, hzR, hz3⟩
          rw [hy3] at hone
          simp at hone
          omega
        · omega
    refine ⟨k + 1, ⟨fun g hg => ?_, ?_⟩⟩
    · rcases List.mem_append.1 hg with hg | hg
      · refine .inl ⟨hz2 g hg, fun s hs => ?_⟩
        rw [hzo g hg s hs]
        rcases hz g hg with ⟨h1, h2⟩ | ⟨h1, h2, h3⟩
        · have := h2 s hs; omega
        · exact h3 s hs
      · simp at hg
        subst hg
        have hx2 : ∀ s ∈ x.s, oat o s ≤ k + 1 := by
          intro s hs
          rcases hx with hx | hx
          · have := hx.2 s hs; omega
          · exact hx.2.2 s hs
        have hy2 : ∀ s ∈ y.s, oat o s ≤ k + 1 := by
          intro s hs
          rcases hy with hy | hy
          · have := hy.2 s hs; omega
          · exact hy.2.2 s hs
        refine .inr ⟨?_, ?_, fun s hs => ?_⟩
        · show 2 ^ (k + 1) < x.w + y.w; rcases hx with hx | hx <;> omega
        · show x.w + y.w ≤ 2 ^ (k + 2)
          rcases hx with hx | hx <;> rcases hy with hy | hy <;> omega
        · rcases List.mem_append.1 hs with hs | hs
          · rw [hsx s hs]; have := hx2 s hs; omega
          · rw [hsy s hs]; have := hy2 s hs; omega
    · rw [List.countP_append]
      have h0 : R.countP (irr (k + 1)) = 0 := by
        rw [List.countP_eq_zero]
        intro z hzR
        have := hz2 z hzR
        simp [irr]
        omega
      rw [h0]
      have := List.countP_le_length (p := irr (k + 1)) (l := [(⟨x.w + y.w, x.s ++ y.s⟩ : Grp)])
      simp only [List.length_singleton] at this
      omega
theorem merge_fits (most f : Nat) : ∀ (k : Nat) (l : List Grp) (o : List Nat), l.length ≤ f → Inv k l o → Good l o → sumW l ≤ 2 ^ most → ∀ s, oat (mergeF f l o) s ≤ most := by
  have one : ∀ (k : Nat) (l : List Grp) (o : List Nat), l.length ≤ 1 → Inv k l o → Good l o → sumW l ≤ 2 ^ most → ∀ s, oat o s ≤ most := by
    intro k l o hl hi hg hs s
    by_cases hm : s ∈ sy l
    · obtain ⟨g, hgl, hsg⟩ := List.mem_flatMap.1 hm
      match l, hl, hgl with
      | [g'], _, hgl =>
        simp at hgl
        subst hgl
        have hw : sumW [g] = g.w := by simp [sumW]
        rw [hw] at hs
        rcases hi.reg g (List.mem_singleton.2 rfl) with ⟨h1, h2⟩ | ⟨h1, _, h3⟩
        · have := h2 s hsg
          have h4 : k ≤ most := (Nat.pow_le_pow_iff_right (by omega)).1 (show 2 ^ k ≤ 2 ^ most by omega)
          omega
        · have := h3 s hsg
          have h4 : k < most := (Nat.pow_lt_pow_iff_right (by omega)).1 (show 2 ^ k < 2 ^ most by omega)
          omega
    · rw [hg.out s hm]; omega
  induction f with
  | zero => intro k l o hl hi hg hs s; exact one k l o (by omega) hi hg hs s
  | succ f ih =>
    intro k l o hl hi hg hs s
    rw [mergeF]
    split
    · rename_i h; exact one k l o h hi hg hs s
    · rename_i h
      obtain ⟨k', hi'⟩ := hi.join hg (by omega)
      exact ih k' (joinG l) (incs o (grp l).s) (by rw [join_len (by omega)]; omega) hi' (hg.join (by omega)).1 (by rw [sum_join (by omega)]; exact hs) s
end Go.Proofs.YtahfmcdhcbfkaaaGreatDoor.HuffM
namespace Go.Proofs.YtahfmcdhcbfkaaaGreatDoor.HuffM

def cnt (W : List Nat) : Nat := W.countP fun x => decide (0 < x)
def fits (most : Nat) (o : List Nat) : Bool := o.all fun x => decide (x ≤ most)
theorem half_len (W : List Nat) : (half W).length = W.length := by simp [half]
theorem cnt_half (W : List Nat) : cnt (half W) = cnt W := by
  unfold cnt half
  rw [List.countP_map]
  congr 1
  funext x
  simp only [Function.comp_def]
  rw [Bool.eq_iff_iff]
  simp
  omega
theorem sum_half_le (W : List Nat) : (half W).sum ≤ W.sum := by
  induction W with
  | nil => simp [half]
  | cons x W ih => simp only [half, List.map_cons, List.sum_cons] at ih ⊢; omega
theorem sum_half_lt (W : List Nat) (h : ∃ x ∈ W, 1 < x) : (half W).sum < W.sum := by
  induction W with
  | nil => obtain ⟨x, hx, _⟩ := h; simp at hx
  | cons y W ih =>
    obtain ⟨x, hx, h1⟩ := h
    have := sum_half_le W
    rcases List.mem_cons.1 hx with rfl | hx
    · simp only [half, List.map_cons, List.sum_cons] at this ⊢; omega
    · have := ih ⟨x, hx, h1⟩
      simp only [half, List.map_cons, List.sum_cons] at this ⊢; omega
theorem gI_step (W : List Nat) (i : Nat) : gI W (i + 1) = if 0 < W.getD i 0 then gI W i ++ [⟨W.getD i 0, [i]⟩] else gI W i := rfl
theorem sy_snoc (l : List Grp) (g : Grp) : sy (l ++ [g]) = sy l ++ g.s := by simp [sy]
theorem gI_sy (W : List Nat) (i : Nat) : (∀ s ∈ sy (gI W i), s < i) ∧ (sy (gI W i)).Nodup := by
  induction i with
  | zero => simp [gI, sy]
  | succ i ih =>
    rw [gI_step]
    split
    · rw [sy_snoc]
      refine ⟨fun s hs => ?_, ?_⟩
      · rcases List.mem_append.1 hs with hs | hs
        · have := ih.1 s hs; omega
        · simp at hs; omega
      · rw [List.nodup_append]
        refine ⟨ih.2, by simp, fun a ha b hb => ?_⟩
        simp at hb
        have := ih.1 a ha
        omega
    · exact ⟨fun s hs => by have := ih.1 s hs; omega, ih.2⟩
theorem gI_w (W : List Nat) (i : Nat) : ∀ g ∈ gI W i, 0 < g.w ∧ ∃ j, j < i ∧ g.w = W.getD j 0 ∧ g.s = [j] := by
  induction i with
  | zero => intro g hg; simp [gI] at hg
  | succ i ih =>
    intro g hg
    rw [gI_step] at hg
    split at hg
    · rename_i h
      rcases List.mem_append.1 hg with hg | hg
      · obtain ⟨h1, j, h2, h3⟩ := ih g hg; exact ⟨h1, j, by omega, h3⟩
      · simp at hg; subst hg; exact ⟨h, i, by omega, rfl, rfl⟩
    · obtain ⟨h1, j, h2, h3⟩ := ih g hg; exact ⟨h1, j, by omega, h3⟩
theorem gI_sum (W : List Nat) (i : Nat) (hi : i ≤ W.length) : sumW (gI W i) = (W.take i).sum := by
  induction i with
  | zero => simp [gI, sumW]
  | succ i ih =>
    have ih := ih (by omega)
    have e : W[i]? = some (W.getD i 0) := by rw [List.getD_eq_getElem?_getD, List.getElem?_eq_getElem (by omega)]; rfl
    rw [gI_step, take_snoc e, List.sum_append]
    split
    · unfold sumW at ih ⊢
      rw [List.map_append, List.sum_append, ih]
      simp
    · rename_i h
      rw [List.getD_eq_getElem?_getD] at h
      rw [ih]
      simp
      omega
theorem zero_at (n s : Nat) : oat (List.replicate n 0) s = 0 := by
  unfold oat
  rw [List.getD_eq_getElem?_getD, List.getElem?_replicate]
  split <;> rfl
theorem good0 (W : List Nat) : Good (gI W W.length) (once0 W) := by
  obtain ⟨h1, h2⟩ := gI_sy W W.length
  exact ⟨h2, fun s hs => by unfold once0; rw [List.length_replicate]; exact h1 s hs, fun s _ => zero_at _ _⟩
theorem mem_getD {W : List Nat} {j : Nat} (h : 0 < W.getD j 0) : W.getD j 0 ∈ W := by
  rw [List.getD_eq_getElem?_getD] at h ⊢
  cases hj : W[j]? with
  | none => rw [hj] at h; simp at h
  | some x => simpa using List.mem_of_getElem? hj
theorem sum_ones {W : List Nat} (h : ∀ x ∈ W, x ≤ 1) : W.sum = cnt W := by
  induction W with
  | nil => rfl
  | cons x W ih =>
    have h1 := ih (fun y hy => h y (List.mem_cons_of_mem _ hy))
    have h2 := h x (List.mem_cons_self ..)
    unfold cnt at h1 ⊢
    rw [List.sum_cons, List.countP_cons, h1]
    rcases (show x = 0 ∨ x = 1 by omega) with rfl | rfl <;> simp; omega
theorem merge_one (f : Nat) (l : List Grp) (o : List Nat) (h : l.length ≤ 1) : mergeF f l o = o := by
  cases f with
  | zero => rfl
  | succ f => rw [mergeF, if_pos h]
theorem mergeF_len (f : Nat) (l : List Grp) (o : List Nat) : (mergeF f l o).length = o.length := by
  induction f generalizing l o with
  | zero => rfl
  | succ f ih =>
    rw [mergeF]
    split
    · rfl
    · rw [ih, incs_len]
theorem onceL_len (W : List Nat) : (onceL W).length = W.length := by
  unfold onceL
  simp only [mergeF_len]
  split <;> simp [once0]
theorem fits_ones {W : List Nat} {most : Nat} (h : ∀ x ∈ W, x ≤ 1) (hc : cnt W ≤ 2 ^ most) (hm : 1 ≤ most) : fits most (onceL W) = true := by
  have key : ∀ s, oat (onceL W) s ≤ most := by
    intro s
    unfold onceL
    by_cases h1 : (gI W W.length).length = 1
    · simp only [h1, if_true]
      rw [merge_one _ _ _ (by omega)]
      unfold oat
      rw [List.getD_eq_getElem?_getD, List.getElem?_set]
      split
      · split <;> simp <;> omega
      · rw [← List.getD_eq_getElem?_getD]
        have := zero_at W.length s
        unfold oat at this
        unfold once0
        omega
    · simp only [if_neg h1]
      refine merge_fits most _ 0 _ _ (Nat.le_refl _) ⟨fun g hg => ?_, ?_⟩ (good0 W) ?_ s
      · obtain ⟨h2, j, h3, h4, h5⟩ := gI_w W W.length g hg
        have h6 := h (W.getD j 0) (mem_getD (by omega))
        exact .inl ⟨by rw [Nat.pow_zero]; omega, fun s _ => by have := zero_at W.length s; unfold once0; omega⟩
      · have : (gI W W.length).countP (irr 0) = 0 := by
          rw [List.countP_eq_zero]
          intro g _
          simp [irr]
          omega
        omega
      · rw [gI_sum W W.length (Nat.le_refl _), List.take_length, sum_ones h]
        exact hc
  unfold fits
  rw [List.all_eq_true]
  intro x hx
  obtain ⟨i, hi, e⟩ := List.mem_iff_getElem.1 hx
  have := key i
  unfold oat at this
  rw [List.getD_eq_getElem?_getD, List.getElem?_eq_getElem hi] at this
  simp at this ⊢
  omega
/-- what does not fit has a weight above 1 -/
theorem not_fits {W : List Nat} {most : Nat} (hc : cnt W ≤ 2 ^ most) (hm : 1 ≤ most) (h : fits most (onceL W) = false) : ∃ x ∈ W, 1 < x := by
  apply Classical.byContradiction
  intro h1
  have : ∀ x ∈ W, x ≤ 1 := fun x hx => by
    rcases Nat.lt_or_ge 1 x with h2 | h2
    · exact absurd ⟨x, hx, h2⟩ h1
    · exact h2
  rw [fits_ones this hc hm] at h
  cases h
theorem lensF_succ (most f : Nat) (W : List Nat) : lensF most (f + 1) W = if fits most (onceL W) = true then onceL W else lensF most f (half W) := rfl
theorem lensF_same {most : Nat} (hm : 1 ≤ most) : ∀ (f f' : Nat) (W : List Nat), cnt W ≤ 2 ^ most → W.sum < f → W.sum < f' → lensF most f W = lensF most f' W := by
  intro f
  induction f with
  | zero => intro f' W _ h; omega
  | succ f ih =>
    intro f' W hc h h'
    obtain ⟨g, rfl⟩ : ∃ g, f' = g + 1 := ⟨f' - 1, by omega⟩
    rw [lensF_succ, lensF_succ]
    cases hf : fits most (onceL W) with
    | true => rfl
    | false =>
      have h1 := sum_half_lt W (not_fits hc hm hf)
      simp only [Bool.false_eq_true, if_false]
      exact ih g (half W) (by rw [cnt_half]; exact hc) (by omega) (by omega)
theorem lens_yes {most : Nat} {W : List Nat} (h : fits most (onceL W) = true) : lens most W = onceL W := by
  unfold lens
  rw [lensF_succ, if_pos h]
theorem lens_no {most : Nat} {W : List Nat} (hm : 1 ≤ most) (hc : cnt W ≤ 2 ^ most) (h : fits most (onceL W) = false) : lens most W = lens most (half W) ∧ (half W).sum < W.sum := by
  have h1 := sum_half_lt W (not_fits hc hm h)
  refine ⟨?_, h1⟩
  unfold lens
  rw [lensF_succ, if_neg (by rw [h]; simp)]
  exact lensF_same hm _ _ _ (by rw [cnt_half]; exact hc) (by omega) (by omega)
theorem lens_len (most : Nat) (W : List Nat) : (lens most W).length = W.length := by
  have key : ∀ (f : Nat) (W : List Nat), (lensF most f W).length = W.length := by
    intro f
    induction f with
    | zero => intro W; exact onceL_len W
    | succ f ih =>
      intro W
      rw [lensF_succ]
      split
      · exact onceL_len W
      · rw [ih, half_len]
  exact key _ W

/-! ### no weight behind -/
theorem getD_zeros (W : List Nat) (m i : Nat) : (W ++ List.replicate m 0).getD i 0 = W.getD i 0 := by
  rw [List.getD_eq_getElem?_getD, List.getD_eq_getElem?_getD]
  rcases Nat.lt_or_ge i W.length with h | h
  · rw [List.getElem?_append_left h]
  · rw [List.getElem?_append_right h, List.getElem?_eq_none h, List.getElem?_replicate]
    split <;> rfl
theorem gI_zeros (W : List Nat) (m i : Nat) : gI (W ++ List.replicate m 0) i = gI W i := by
  induction i with
  | zero => rfl
  | succ i ih => rw [gI_step, gI_step, getD_zeros, ih]
theorem gI_more (W : List Nat) (d : Nat) : gI W (W.length + d) = gI W W.length := by
  induction d with
  | zero => rfl
  | succ d ih =>
    rw [← Nat.add_assoc, gI_step, ih, if_neg]
    rw [List.getD_eq_getElem?_getD, List.getElem?_eq_none (by omega)]
    simp
theorem inc_zeros (o Z : List Nat) (s : Nat) (hs : s < o.length) : inc (o ++ Z) s = inc o s ++ Z := by
  unfold inc
  rw [List.set_append_left _ _ hs]
  congr 2
  rw [List.getD_eq_getElem?_getD, List.getD_eq_getElem?_getD, List.getElem?_append_left hs]
theorem incs_zeros (o Z S : List Nat) (hS : ∀ s ∈ S, s < o.length) : incs (o ++ Z) S = incs o S ++ Z := by
  induction S generalizing o with
  | nil => rfl
  | cons s S ih =>
    show incs (inc (o ++ Z) s) S = incs (inc o s) S ++ Z
    rw [inc_zeros _ _ _ (hS s (List.mem_cons_self ..))]
    exact ih (inc o s) (fun x hx => by rw [inc_len]; exact hS x (List.mem_cons_of_mem _ hx))
theorem merge_zeros (Z : List Nat) (f : Nat) : ∀ (l : List Grp) (o : List Nat), Good l o → mergeF f l (o ++ Z) = mergeF f l o ++ Z := by
  induction f with
  | zero => intro l o _; rfl
  | succ f ih =>
    intro l o hg
    rw [mergeF, mergeF]
    split
    · rfl
    · rename_i h
      obtain ⟨x, y, R, hp, hj, hgr, _⟩ := join_spec (l := l) (by omega)
      rw [incs_zeros o Z _ (fun s hs => hg.lt s (by
        rw [hgr] at hs
        rcases List.mem_append.1 hs with h1 | h1
        · exact mem_sy (hp.symm.subset (List.mem_cons_self ..)) h1
        · exact mem_sy (hp.symm.subset (List.mem_cons_of_mem _ (List.mem_cons_self ..))) h1))]
      exact ih _ _ (hg.join (by omega)).1
theorem once_zeros (W : List Nat) (m : Nat) : onceL (W ++ List.replicate m 0) = onceL W ++ List.replicate m 0 := by
  unfold onceL
  have e : gI (W ++ List.replicate m 0) (W ++ List.replicate m 0).length = gI W W.length := by
    rw [gI_zeros, List.length_append, gI_more]
  have e0 : once0 (W ++ List.replicate m 0) = once0 W ++ List.replicate m 0 := by
    unfold once0
    rw [List.length_append, List.length_replicate, List.replicate_append_replicate]
  simp only [e, e0]
  by_cases h : (gI W W.length).length = 1
  · simp only [h, if_true]
    rw [merge_one _ _ _ (by omega), merge_one _ _ _ (by omega), List.set_append_left]
    match hg : gI W W.length, h with
    | [g], _ =>
      obtain ⟨_, j, hj, _, hs⟩ := gI_w W W.length g (by rw [hg]; simp)
      have : (gat [g] 0).s = [j] := by rw [show gat [g] 0 = g from rfl, hs]
      rw [this]
      simpa [once0] using hj
  · simp only [if_neg h]
    exact merge_zeros _ _ _ _ (good0 W)
theorem half_zeros (W : List Nat) (m : Nat) : half (W ++ List.replicate m 0) = half W ++ List.replicate m 0 := by
  unfold half
  rw [List.map_append]
  simp
theorem fits_zeros (most : Nat) (o : List Nat) (m : Nat) : fits most (o ++ List.replicate m 0) = fits most o := by
  unfold fits
  rw [List.all_append]
  have : (List.replicate m 0).all (fun x => decide (x ≤ most)) = true := by
    rw [List.all_eq_true]
    intro x hx
    have := List.eq_of_mem_replicate hx
    simp
    omega
  rw [this, Bool.and_true]
theorem lens_zeros (most : Nat) (W : List Nat) (m : Nat) : lens most (W ++ List.replicate m 0) = lens most W ++ List.replicate m 0 := by
  have key : ∀ (f : Nat) (W : List Nat), lensF most f (W ++ List.replicate m 0) = lensF most f W ++ List.replicate m 0 := by
    intro f
    induction f with
    | zero => intro W; exact once_zeros W m
    | succ f ih =>
      intro W
      rw [lensF_succ, lensF_succ, once_zeros, fits_zeros, half_zeros, ih]
      split <;> rfl
  unfold lens
  have : (W ++ List.replicate m 0).sum = W.sum := by simp
  rw [this]
  exact key _ W
end Go.Proofs.YtahfmcdhcbfkaaaGreatDoor.HuffM
namespace Go.Proofs.YtahfmcdhcbfkaaaGreatDoor.HuffM

/-- groups in their row, each with its depth in the end -/
inductive Dep : List (Grp × Nat) → Prop
  | nil : Dep []
  | one (g : Grp) : Dep [(g, 0)]
  | step (A B C E : List (Grp × Nat)) (x y : Grp) (d : Nat) (l : List (Grp × Nat)) (hl : l = A ++ (x, d + 1) :: B) (he : A ++ B = C ++ (y, d + 1) :: E)
      (hA : ∀ z ∈ A, x.w < z.1.w) (hB : ∀ z ∈ B, x.w ≤ z.1.w) (hC : ∀ z ∈ C, y.w < z.1.w) (hE : ∀ z ∈ E, y.w ≤ z.1.w)
      (hn : Dep (C ++ E ++ [(⟨x.w + y.w, x.s ++ y.s⟩, d)])) : Dep l
def DRel (p q : Grp × Nat) : Prop := (p.1.w ≤ q.1.w → q.2 ≤ p.2) ∧ (q.1.w < p.1.w → p.2 ≤ q.2)
def Deep1 (l : List (Grp × Nat)) : Prop := ∀ c T, l.Perm (c :: T) → T.Pairwise (fun x y => c.1.w ≤ x.1.w + y.1.w) → ∀ z ∈ T, z.2 ≤ c.2 + 1
section
variable {A B C E : List (Grp × Nat)} {x y : Grp} {d : Nat} {l : List (Grp × Nat)}
theorem step_perm (hl : l = A ++ (x, d + 1) :: B) (he : A ++ B = C ++ (y, d + 1) :: E) : l.Perm ((x, d + 1) :: (y, d + 1) :: (C ++ E)) := by
  subst hl
  refine List.perm_middle.trans (List.Perm.cons _ ?_)
  rw [he]
  exact List.perm_middle
theorem step_le (he : A ++ B = C ++ (y, d + 1) :: E) (hA : ∀ z ∈ A, x.w < z.1.w) (hB : ∀ z ∈ B, x.w ≤ z.1.w) : x.w ≤ y.w := by
  have h : (y, d + 1) ∈ A ++ B := by rw [he]; simp
  rcases List.mem_append.1 h with h | h
  · exact Nat.le_of_lt (hA _ h)
  · exact hB _ h
theorem step_rest (hC : ∀ z ∈ C, y.w < z.1.w) (hE : ∀ z ∈ E, y.w ≤ z.1.w) : ∀ z ∈ C ++ E, y.w ≤ z.1.w := by
  intro z hz
  rcases List.mem_append.1 hz with h | h
  · exact Nat.le_of_lt (hC _ h)
  · exact hE _ h
end
theorem pair_of {c : Nat} {R : List (Grp × Nat)} (h : ∀ z ∈ R, ∀ z' ∈ R, c ≤ z.1.w + z'.1.w) : R.Pairwise (fun x y => c ≤ x.1.w + y.1.w) := by
  induction R with
  | nil => exact List.Pairwise.nil
  | cons a R ih =>
    refine List.Pairwise.cons (fun z hz => h a (by simp) z (by simp [hz])) (ih fun z hz z' hz' => h z (by simp [hz]) z' (by simp [hz']))
theorem pair_perm {c : Nat} {R R' : List (Grp × Nat)} (hp : R.Perm R') (h : R.Pairwise (fun x y => c ≤ x.1.w + y.1.w)) : R'.Pairwise (fun x y => c ≤ x.1.w + y.1.w) :=
  (hp.pairwise_iff (fun {a b} h => by omega)).1 h
theorem Dep.both {l : List (Grp × Nat)} (h : Dep l) : l.Pairwise DRel ∧ Deep1 l := by
  induction h with
  | nil => exact ⟨List.Pairwise.nil, fun c T h => by have := h.length_eq; simp at this⟩
  | one g =>
    refine ⟨List.pairwise_singleton .., fun c T h _ z hz => ?_⟩
    have := h.length_eq
    cases T with
    | nil => simp at hz
    | cons _ _ => simp at this
  | step A B C E x y d l hl he hA hB hC hE hn ih =>
    obtain ⟨hm, hd⟩ := ih
    have hxy := step_le he hA hB
    have hR := step_rest hC hE
    have hp := step_perm hl he
    have hab : ((C ++ E) ++ [((⟨x.w + y.w, x.s ++ y.s⟩ : Grp), d)]).Perm ((⟨x.w + y.w, x.s ++ y.s⟩, d) :: (C ++ E)) := List.perm_append_singleton _ _
    -- whoever is left is at most one deeper than the new one
    have hr : ∀ z ∈ C ++ E, z.2 ≤ d + 1 := by
      refine hd _ _ hab (pair_of fun z hz z' hz' => ?_)
      have h1 := hR z hz
      have h2 := hR z' hz'
      show x.w + y.w ≤ _
      omega
    rw [List.pairwise_append] at hm
    obtain ⟨hm1, _, hm2⟩ := hm
    rw [List.pairwise_append] at hm1
    obtain ⟨hmC, hmE, hmCE⟩ := hm1
    have hAB : (A ++ B).Pairwise DRel := by
      rw [he, List.pairwise_append]
      refine ⟨hmC, List.Pairwise.cons (fun q hq => ?_) hmE, fun p hp q hq => ?_⟩
      · have h1 := hE q hq
        have h2 := hr q (by simp [hq])
        exact ⟨fun _ => h2, fun h => by simp only at h; omega⟩
      · rcases List.mem_cons.1 hq with rfl | hq
        · have h1 := hC p hp
          have h2 := hr p (by simp [hp])
          exact ⟨fun h => by simp only at h; omega, fun _ => h2⟩
        · exact hmCE p hp q hq
    have hAB2 : ∀ z ∈ A ++ B, z.2 ≤ d + 1 := by
      intro z hz
      rw [he] at hz
      rcases List.mem_append.1 hz with h | h
      · exact hr z (by simp [h])
      · rcases List.mem_cons.1 h with rfl | h
        · exact Nat.le_refl _
        · exact hr z (by simp [h])
    constructor
    · rw [hl, List.pairwise_append]
      rw [List.pairwise_append] at hAB
      obtain ⟨h1, h2, h3⟩ := hAB
      refine ⟨h1, List.Pairwise.cons (fun q hq => ?_) h2, fun p hp q hq => ?_⟩
      · have h1 := hB q hq
        exact ⟨fun _ => hAB2 q (by simp [hq]), fun h => by simp only at h; omega⟩
      · rcases List.mem_cons.1 hq with rfl | hq
        · have h1 := hA p hp
          exact ⟨fun h => by simp only at h; omega, fun _ => hAB2 p (by simp [hp])⟩
        · exact h3 p hp q hq
    · intro c T hcT hpair z hz
      have hq := hcT.symm.trans hp
      have hc : c ∈ (x, d + 1) :: (y, d + 1) :: (C ++ E) := hq.subset (by simp)
      have hz' : z ∈ (x, d + 1) :: (y, d + 1) :: (C ++ E) := hq.subset (by simp [hz])
      rcases List.mem_cons.1 hc with rfl | hc
      · rcases List.mem_cons.1 hz' with rfl | hz'
        · omega
        · rcases List.mem_cons.1 hz' with rfl | hz'
          · omega
          · have := hr z hz'; show z.2 ≤ d + 1 + 1; omega
      · rcases List.mem_cons.1 hc with rfl | hc
        · rcases List.mem_cons.1 hz' with rfl | hz'
          · show d + 1 ≤ d + 1 + 1; omega
          · rcases List.mem_cons.1 hz' with rfl | hz'
            · omega
            · have := hr z hz'; show z.2 ≤ d + 1 + 1; omega
        · obtain ⟨R1, R2, hcr⟩ := List.append_of_mem hc
          have hpR : (C ++ E).Perm (c :: (R1 ++ R2)) := by rw [hcr]; exact List.perm_middle
          have hT : T.Perm ((x, d + 1) :: (y, d + 1) :: (R1 ++ R2)) := by
            have h1 : (c :: T).Perm (c :: (x, d + 1) :: (y, d + 1) :: (R1 ++ R2)) := by
              refine hq.trans ?_
              refine ((hpR.cons _).cons _).trans ?_
              refine ((List.Perm.swap c (y, d + 1) _).cons _).trans ?_
              exact List.Perm.swap c (x, d + 1) _
            exact h1.cons_inv
          have hpt := pair_perm hT hpair
          rw [List.pairwise_cons, List.pairwise_cons] at hpt
          have hcxy := hpt.1 (y, d + 1) (by simp)
          simp only at hcxy
          have hN : ((C ++ E) ++ [((⟨x.w + y.w, x.s ++ y.s⟩ : Grp), d)]).Perm (c :: (⟨x.w + y.w, x.s ++ y.s⟩, d) :: (R1 ++ R2)) :=
            hab.trans ((hpR.cons _).trans (List.Perm.swap ..))
          have hall := hd c _ hN (List.Pairwise.cons (fun z hz => by simp only; omega) hpt.2.2)
          have hdc : d ≤ c.2 := (hm2 c hc (⟨x.w + y.w, x.s ++ y.s⟩, d) (by simp)).1 hcxy
          rcases List.mem_cons.1 (hT.subset hz) with rfl | hz
          · show d + 1 ≤ c.2 + 1; omega
          · rcases List.mem_cons.1 hz with rfl | hz
            · show d + 1 ≤ c.2 + 1; omega
            · exact hall z (by simp only [List.mem_cons]; exact Or.inr hz)
/-- who weighs more is no deeper -/
theorem Dep.mono {l : List (Grp × Nat)} (h : Dep l) {p q : Grp × Nat} (hp : p ∈ l) (hq : q ∈ l) (hw : q.1.w < p.1.w) : p.2 ≤ q.2 := by
  have h1 := h.both.1
  clear h
  induction l with
  | nil => simp at hp
  | cons a l ih =>
    rw [List.pairwise_cons] at h1
    rcases List.mem_cons.1 hp with rfl | hp'
    · rcases List.mem_cons.1 hq with rfl | hq'
      · omega
      · exact (h1.1 q hq').2 hw
    · rcases List.mem_cons.1 hq with rfl | hq'
      · exact (h1.1 p hp').1 (by omega)
      · exact ih hp' hq' h1.2
def fib : Nat → Nat
  | 0 => 0
  | 1 => 1
  | n + 2 => fib n + fib (n + 1)
def wsum (l : List (Grp × Nat)) : Nat := (l.map (·.1.w)).sum
theorem wsum_perm {l l' : List (Grp × Nat)} (h : l.Perm l') : wsum l = wsum l' := (h.map _).sum_nat
theorem Dep.fibs {l : List (Grp × Nat)} (h : Dep l) : ∀ c T m, l.Perm (c :: T) → (∀ z ∈ T, m ≤ z.1.w) → fib c.2 * m + fib (c.2 + 1) * c.1.w ≤ wsum l := by
  induction h with
  | nil => intro c T m h; have := h.length_eq; simp at this
  | one g =>
    intro c T m h _
    have hc : c ∈ [(g, 0)] := h.symm.subset (by simp)
    simp at hc
    subst hc
    simp [fib, wsum]
  | step A B C E x y d l hl he hA hB hC hE hn ih =>
    intro c T m hcT hm
    have hxy := step_le he hA hB
    have hR := step_rest hC hE
    have hp := step_perm hl he
    have hab : ((C ++ E) ++ [((⟨x.w + y.w, x.s ++ y.s⟩ : Grp), d)]).Perm ((⟨x.w + y.w, x.s ++ y.s⟩, d) :: (C ++ E)) := List.perm_append_singleton _ _
    have hs : wsum (C ++ E ++ [((⟨x.w + y.w, x.s ++ y.s⟩ : Grp), d)]) = wsum l := by
      rw [wsum_perm hp, wsum_perm hab]
      simp [wsum]
      omega
    rw [hs] at ih
    have hq := hcT.symm.trans hp
    have hc : c ∈ (x, d + 1) :: (y, d + 1) :: (C ++ E) := hq.subset (by simp)
    have f2 : fib (d + 1 + 1) = fib d + fib (d + 1) := rfl
    rcases List.mem_cons.1 hc with rfl | hc
    · have hT := hq.cons_inv
      have hmy := hm (y, d + 1) (hT.symm.subset (by simp))
      have h1 := ih _ _ x.w hab (fun z hz => by have := hR z hz; omega)
      simp only at h1 hmy ⊢
      have h2 := Nat.mul_le_mul_left (fib (d + 1)) hmy
      rw [f2, Nat.add_mul]
      rw [Nat.mul_add] at h1
      omega
    · rcases List.mem_cons.1 hc with rfl | hc
      · have hT := (hq.trans (List.Perm.swap ..)).cons_inv
        have hmx := hm (x, d + 1) (hT.symm.subset (by simp))
        have h1 := ih _ _ y.w hab (fun z hz => hR z hz)
        simp only at h1 hmx ⊢
        have h2 := Nat.mul_le_mul_left (fib (d + 1)) hmx
        rw [f2, Nat.add_mul]
        rw [Nat.mul_add] at h1
        omega
      · obtain ⟨R1, R2, hcr⟩ := List.append_of_mem hc
        have hpR : (C ++ E).Perm (c :: (R1 ++ R2)) := by rw [hcr]; exact List.perm_middle
        have hT : T.Perm ((x, d + 1) :: (y, d + 1) :: (R1 ++ R2)) := by
          have h1 : (c :: T).Perm (c :: (x, d + 1) :: (y, d + 1) :: (R1 ++ R2)) := by
            refine hq.trans ?_
            refine ((hpR.cons _).cons _).trans ?_
            refine ((List.Perm.swap c (y, d + 1) _).cons _).trans ?_
            exact List.Perm.swap c (x, d + 1) _
          exact h1.cons_inv
        have hN : ((C ++ E) ++ [((⟨x.w + y.w, x.s ++ y.s⟩ : Grp), d)]).Perm (c :: (⟨x.w + y.w, x.s ++ y.s⟩, d) :: (R1 ++ R2)) :=
          hab.trans ((hpR.cons _).trans (List.Perm.swap ..))
        refine ih c _ m hN (fun z hz => ?_)
        rcases List.mem_cons.1 hz with rfl | hz
        · have := hm (x, d + 1) (hT.symm.subset (by simp))
          simp only at this ⊢
          omega
        · exact hm z (hT.symm.subset (by simp only [List.mem_cons]; exact Or.inr (Or.inr hz)))
theorem fib_mono (n k : Nat) : fib (n + 1) ≤ fib (n + 1 + k) := by
  induction k with
  | zero => exact Nat.le_refl _
  | succ k ih =>
    have e : fib (n + 1 + (k + 1)) = fib (n + k) + fib (n + 1 + k) := by
      rw [show n + 1 + (k + 1) = (n + k) + 2 by omega, fib, show n + k + 1 = n + 1 + k by omega]
    omega
/-- with little weight none is deeper than 15 -/
theorem Dep.small {l : List (Grp × Nat)} (h : Dep l) (hw : ∀ p ∈ l, 0 < p.1.w) (hs : wsum l < 2584) : ∀ p ∈ l, p.2 ≤ 15 := by
  intro p hp
  rcases Nat.lt_or_ge 15 p.2 with h1 | h1
  · exfalso
    obtain ⟨P, S, hl⟩ := List.append_of_mem hp
    have hpm : l.Perm (p :: (P ++ S)) := by rw [hl]; exact List.perm_middle
    have h2 := h.fibs p _ 1 hpm (fun z hz => hw z (hpm.symm.subset (List.mem_cons_of_mem _ hz)))
    have h3 := hw p hp
    obtain ⟨k, hk⟩ : ∃ k, p.2 = 15 + 1 + k := ⟨p.2 - 16, by omega⟩
    have h4 := fib_mono 15 k
    have h5 := fib_mono 16 k
    have e1 : fib (15 + 1) = 987 := by decide
    have e2 : fib (16 + 1) = 1597 := by decide
    rw [hk, show 15 + 1 + k + 1 = 16 + 1 + k by omega] at h2
    rw [e1] at h4
    rw [e2] at h5
    have h6 := Nat.mul_le_mul_left (fib (16 + 1 + k)) h3
    omega
  · exact h1
def ksum (N : Nat) (l : List (Grp × Nat)) : Nat := (l.map fun p => 2 ^ (N - p.2)).sum
theorem ksum_perm {N : Nat} {l l' : List (Grp × Nat)} (h : l.Perm l') : ksum N l = ksum N l' := (h.map _).sum_nat
theorem Dep.kraft {l : List (Grp × Nat)} (h : Dep l) (N : Nat) : l ≠ [] → (∀ p ∈ l, p.2 ≤ N) → ksum N l = 2 ^ N := by
  induction h with
  | nil => intro h; exact absurd rfl h
  | one g => intro _ _; simp [ksum]
  | step A B C E x y d l hl he hA hB hC hE hn ih =>
    intro _ hN
    have hp := step_perm hl he
    have hab : ((C ++ E) ++ [((⟨x.w + y.w, x.s ++ y.s⟩ : Grp), d)]).Perm ((⟨x.w + y.w, x.s ++ y.s⟩, d) :: (C ++ E)) := List.perm_append_singleton _ _
    have hd : d + 1 ≤ N := hN (x, d + 1) (hp.symm.subset (by simp))
    have h1 := ih (by simp) (fun p hpm => by
      rcases List.mem_append.1 hpm with h | h
      · exact hN p (hp.symm.subset (by simp only [List.mem_cons]; exact Or.inr (Or.inr h)))
      · simp at h; subst h; show d ≤ N; omega)
    rw [ksum_perm hab] at h1
    rw [ksum_perm hp]
    unfold ksum at h1 ⊢
    simp only [List.map_cons, List.sum_cons] at h1 ⊢
    have e : 2 ^ (N - d) = 2 ^ (N - (d + 1)) + 2 ^ (N - (d + 1)) := by
      rw [show N - d = N - (d + 1) + 1 by omega, Nat.pow_succ]; omega
    omega
theorem Dep.deep {l : List (Grp × Nat)} (h : Dep l) (hn : 2 ≤ l.length) : ∀ p ∈ l, 0 < p.2 := by
  induction h with
  | nil => simp at hn
  | one g => simp at hn
  | step A B C E x y d l hl he hA hB hC hE hn' ih =>
    have hp := step_perm hl he
    intro p hpm
    rcases List.mem_cons.1 (hp.subset hpm) with rfl | h
    · show 0 < d + 1; omega
    · rcases List.mem_cons.1 h with rfl | h
      · show 0 < d + 1; omega
      · refine ih ?_ p (by simp only [List.mem_append] at h ⊢; exact Or.inl h)
        have := List.length_pos_of_mem h
        rw [List.length_append]
        simp
        simp at this
        omega
end Go.Proofs.YtahfmcdhcbfkaaaGreatDoor.HuffM
