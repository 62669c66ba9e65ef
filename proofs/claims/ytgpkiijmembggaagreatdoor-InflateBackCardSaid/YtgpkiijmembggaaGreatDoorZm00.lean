/-
  Layer 8, plain: how lengths are pressed to items.
  Layer 8, plain: lengths that are all the same are told by few items.
  Layer 8, plain: items tell the lengths that were pressed.
  Plain mathematics of layer 5: whether there is a code of lengths, its codes, what bits tell. Nothing of any program here.
-/
import Derived.WalkKit
namespace Go.Proofs.YtgpkiijmembggaaGreatDoor.CoM

structure It where
  s : Nat
  b : Nat
  x : Nat
deriving DecidableEq, Inhabited

/-- how many from i on are as the one at i -/
def rn (L : List Nat) (i : Nat) : Nat := ((L.drop i).takeWhile (· == L[i]!)).length
/-- the item at i, and how many lengths it tells -/
def itemAt (L : List Nat) (i : Nat) : It × Nat :=
  if L[i]! = 0 ∧ 10 < rn L i then (⟨18, 7, min (rn L i) 138 - 11⟩, min (rn L i) 138)
  else if L[i]! = 0 ∧ 2 < rn L i then (⟨17, 3, rn L i - 3⟩, rn L i)
  else if 0 < L[i]! ∧ 0 < i ∧ L[i]! = L[i - 1]! ∧ 2 < rn L i then (⟨16, 2, min (rn L i) 6 - 3⟩, min (rn L i) 6)
  else (⟨L[i]!, 0, 0⟩, 1)
def pressI (L : List Nat) : Nat → Nat → List It
  | 0, _ => []
  | f + 1, i => if i < L.length then (itemAt L i).1 :: pressI L f (i + (itemAt L i).2) else []
def items (L : List Nat) : List It := pressI L L.length 0

theorem take_while_of (v : Nat) : ∀ (M : List Nat) (m : Nat), m ≤ M.length → (∀ j, j < m → M[j]! = v) → (m = M.length ∨ M[m]! ≠ v) → (M.takeWhile (· == v)).length = m
  | [], m, h, _, _ => by simp at h; simp [h]
  | x :: M, 0, _, _, h => by
    have hx : x ≠ v := by
      rcases h with h | h
      · simp at h
      · exact h
    rw [List.takeWhile_cons, if_neg (by simpa using hx)]
    rfl
  | x :: M, m + 1, h, h1, h2 => by
    have hx : x = v := h1 0 (by omega)
    rw [List.takeWhile_cons, if_pos (by simpa using hx), List.length_cons]
    rw [take_while_of v M m (by simpa using h) (fun j hj => h1 (j + 1) (by omega)) (by
      rcases h2 with h2 | h2
      · exact .inl (by simpa using h2)
      · exact .inr h2)]
theorem rn_of (L : List Nat) (i m : Nat) (h1 : i + m ≤ L.length) (h2 : ∀ j, j < m → L[i + j]! = L[i]!) (h3 : i + m = L.length ∨ L[i + m]! ≠ L[i]!) : rn L i = m := by
  have hd : ∀ j, (L.drop i)[j]! = L[i + j]! := fun j => by
    rcases Nat.lt_or_ge (i + j) L.length with h | h
    · rw [getElem!_pos _ j (by simp; omega), getElem!_pos L (i + j) h, List.getElem_drop]
    · rw [getElem!_neg _ j (by simp; omega), getElem!_neg L (i + j) (by omega)]
  refine take_while_of _ _ m (by simp; omega) (fun j hj => by rw [hd]; exact h2 j hj) ?_
  rcases h3 with h3 | h3
  · exact .inl (by simp; omega)
  · exact .inr (by rw [hd]; exact h3)
theorem rn_le (L : List Nat) (i : Nat) (h : i ≤ L.length) : i + rn L i ≤ L.length := by
  have := (List.takeWhile_prefix (fun x => x == L[i]!) (l := L.drop i)).length_le
  rw [List.length_drop] at this
  unfold rn
  omega
theorem rn_pos (L : List Nat) (i : Nat) (h : i < L.length) : 1 ≤ rn L i := by
  unfold rn
  rw [List.drop_eq_getElem_cons h, List.takeWhile_cons, if_pos (by rw [getElem!_pos L i h]; simp)]
  simp
/-- what a run holds -/
theorem rn_at (L : List Nat) (i j : Nat) (hj : j < rn L i) : L[i + j]! = L[i]! := by
  have hm : ((L.drop i).takeWhile (· == L[i]!))[j]? = some (((L.drop i).takeWhile (· == L[i]!))[j]'hj) := List.getElem?_eq_getElem hj
  have hmem := List.getElem_mem hj
  have hp := List.all_takeWhile (p := fun x => x == L[i]!) (l := L.drop i)
  rw [List.all_eq_true] at hp
  have h1 := hp _ hmem
  obtain ⟨r, hr⟩ := List.takeWhile_prefix (fun x => x == L[i]!) (l := L.drop i)
  have h2 : (L.drop i)[j]? = some (((L.drop i).takeWhile (· == L[i]!))[j]'hj) := by
    rw [← hm]
    conv => lhs; rw [← hr]
    rw [List.getElem?_append_left hj]
  rw [List.getElem?_drop] at h2
  obtain ⟨hl, he⟩ := List.getElem?_eq_some_iff.1 h2
  rw [getElem!_pos L (i + j) hl, he]
  simpa using h1
theorem item_pos (L : List Nat) (i : Nat) (h : i < L.length) : 1 ≤ (itemAt L i).2 ∧ i + (itemAt L i).2 ≤ L.length ∧ (itemAt L i).2 ≤ rn L i := by
  have h1 := rn_pos L i h
  have h2 := rn_le L i (Nat.le_of_lt h)
  unfold itemAt
  split
  · simp only; omega
  · split
    · simp only; omega
    · split
      · simp only; omega
      · simp only; omega
theorem pressI_more (L : List Nat) : ∀ f i, L.length ≤ i + f → ∀ g, pressI L (f + g) i = pressI L f i
  | 0, i, h, 0 => rfl
  | 0, i, h, g + 1 => by
    have h0 : pressI L (g + 1) i = [] := by rw [pressI, if_neg (by omega)]
    rw [Nat.zero_add, h0]
    rfl
  | f + 1, i, h, g => by
    rw [show f + 1 + g = (f + g) + 1 by omega, pressI, pressI]
    split
    · rename_i hi
      have := (item_pos L i hi).1
      rw [pressI_more L f _ (by omega) g]
    · rfl
theorem pressI_len (L : List Nat) : ∀ f i, i ≤ L.length → (pressI L f i).length ≤ L.length - i
  | 0, i, h => by simp [pressI]
  | f + 1, i, h => by
    rw [pressI]
    split
    · rename_i hi
      have h1 := item_pos L i hi
      have := pressI_len L f (i + (itemAt L i).2) h1.2.1
      rw [List.length_cons]
      omega
    · simp
theorem items_len (L : List Nat) : (items L).length ≤ L.length := pressI_len L L.length 0 (Nat.zero_le _)
end Go.Proofs.YtgpkiijmembggaaGreatDoor.CoM
namespace Go.Proofs.YtgpkiijmembggaaGreatDoor.CoM

theorem rep_at {k v j : Nat} (h : j < k) : (List.replicate k v)[j]! = v := by
  rw [getElem!_pos _ j (by simpa using h)]
  simp
theorem rn_rep {k v i : Nat} (h : i < k) : rn (List.replicate k v) i = k - i := by
  refine rn_of _ i (k - i) (by simp; omega) (fun j hj => ?_) (.inl (by simp; omega))
  rw [rep_at (by omega), rep_at h]
theorem item_rep {k v i : Nat} (h : i < k) : 1 ≤ (itemAt (List.replicate k v) i).2 ∧ i + (itemAt (List.replicate k v) i).2 ≤ k ∧ (1 ≤ i → 2 < k - i → 6 ≤ (itemAt (List.replicate k v) i).2 ∨ i + (itemAt (List.replicate k v) i).2 = k) := by
  have hp := item_pos (List.replicate k v) i (by simpa using h)
  rw [List.length_replicate] at hp
  refine ⟨hp.1, hp.2.1, fun h1 h2 => ?_⟩
  unfold itemAt
  rw [rn_rep h, rep_at h, rep_at (by omega : i - 1 < k)]
  by_cases hv : v = 0
  · by_cases h10 : 10 < k - i
    · rw [if_pos ⟨hv, h10⟩]
      simp only
      omega
    · rw [if_neg (fun e => h10 e.2), if_pos ⟨hv, h2⟩]
      simp only
      omega
  · rw [if_neg (fun e => hv e.1), if_neg (fun e => hv e.1), if_pos ⟨by omega, by omega, rfl, h2⟩]
    simp only
    omega
theorem press_rep {k v : Nat} : ∀ f i, 1 ≤ i → i ≤ k → (pressI (List.replicate k v) f i).length ≤ 2 + (k - i) / 6
  | 0, i, _, _ => by simp [pressI]
  | f + 1, i, h1, h2 => by
    rw [pressI, List.length_replicate]
    split
    · rename_i hi
      obtain ⟨p1, p2, p3⟩ := item_rep (v := v) hi
      by_cases h3 : 2 < k - i
      · have ih := press_rep (v := v) f (i + (itemAt (List.replicate k v) i).2) (by omega) p2
        rw [List.length_cons]
        rcases p3 h1 h3 with h | h
        · omega
        · have h0 : (pressI (List.replicate k v) f (i + (itemAt (List.replicate k v) i).2)).length = 0 := by
            rw [h]
            cases f with
            | zero => rfl
            | succ f => rw [pressI, List.length_replicate, if_neg (by omega)]; rfl
          omega
      · have hl := pressI_len (List.replicate k v) (f + 1) i (by simp; omega)
        rw [pressI, List.length_replicate, if_pos hi] at hl
        omega
    · simp
theorem items_rep (k v : Nat) : (items (List.replicate k v)).length ≤ 4 + k / 6 := by
  unfold items
  rw [List.length_replicate]
  cases k with
  | zero => simp [pressI]
  | succ f =>
    rw [pressI, List.length_replicate, if_pos (by omega), List.length_cons]
    obtain ⟨p1, p2, _⟩ := item_rep (k := f + 1) (v := v) (i := 0) (by omega)
    have := press_rep (k := f + 1) (v := v) f (0 + (itemAt (List.replicate (f + 1) v) 0).2) (by omega) p2
    omega
end Go.Proofs.YtgpkiijmembggaaGreatDoor.CoM
namespace Go.Proofs.YtgpkiijmembggaaGreatDoor.CoM

theorem run_take (L : List Nat) (i n : Nat) (h1 : i + n ≤ L.length) (h2 : n ≤ rn L i) : L.take (i + n) = L.take i ++ List.replicate n L[i]! := by
  apply List.ext_getElem?
  intro j
  rcases Nat.lt_or_ge j i with hj | hj
  · rw [List.getElem?_append_left (by simp; omega), List.getElem?_take, List.getElem?_take, if_pos (by omega), if_pos hj]
  · rw [List.getElem?_append_right (by simp; omega), List.getElem?_take, List.length_take, Nat.min_eq_left (by omega), List.getElem?_replicate]
    by_cases hn : j < i + n
    · rw [if_pos hn, if_pos (by omega)]
      have := rn_at L i (j - i) (by omega)
      rw [show i + (j - i) = j by omega, getElem!_pos L j (by omega)] at this
      rw [List.getElem?_eq_getElem (by omega), this]
    · rw [if_neg hn, if_neg (by omega)]
/-- what an item tells -/
theorem item_cases (L : List Nat) (i : Nat) (h : i < L.length) (hL : ∀ x ∈ L, x ≤ 15) :
    ∃ n v, (itemAt L i).2 = n ∧ 1 ≤ n ∧ i + n ≤ L.length ∧ n ≤ 138 ∧ v ≤ 15 ∧ L.take (i + n) = L.take i ++ List.replicate n v ∧
      ((∃ x, (itemAt L i).1 = ⟨18, 7, x⟩ ∧ n = 11 + x ∧ x < 128 ∧ v = 0) ∨ (∃ x, (itemAt L i).1 = ⟨17, 3, x⟩ ∧ n = 3 + x ∧ x < 8 ∧ v = 0) ∨
       (∃ x, (itemAt L i).1 = ⟨16, 2, x⟩ ∧ n = 3 + x ∧ x < 4 ∧ 0 < i ∧ L[i - 1]! = v) ∨ ((itemAt L i).1 = ⟨v, 0, 0⟩ ∧ n = 1)) := by
  have hp := item_pos L i h
  have hv : L[i]! ≤ 15 := by rw [getElem!_pos L i h]; exact hL _ (List.getElem_mem h)
  have ht := run_take L i _ hp.2.1 hp.2.2
  have hp1 := hp.1
  have hp2 := hp.2.1
  clear hp
  unfold itemAt at *
  split
  · rename_i hc
    rw [if_pos hc] at ht hp1 hp2
    simp only at ht hp1 hp2
    exact ⟨_, _, rfl, hp1, hp2, by simp only; omega, hv, ht, .inl ⟨_, rfl, by simp only; omega, by omega, hc.1⟩⟩
  · rename_i hc
    rw [if_neg hc] at ht hp1 hp2
    split
    · rename_i hc2
      rw [if_pos hc2] at ht hp1 hp2
      simp only at ht hp1 hp2
      exact ⟨_, _, rfl, hp1, hp2, by simp only; omega, hv, ht, .inr (.inl ⟨_, rfl, by simp only; omega, by omega, hc2.1⟩)⟩
    · rename_i hc2
      rw [if_neg hc2] at ht hp1 hp2
      split
      · rename_i hc3
        rw [if_pos hc3] at ht hp1 hp2
        simp only at ht hp1 hp2
        exact ⟨_, _, rfl, hp1, hp2, by simp only; omega, hv, ht, .inr (.inr (.inl ⟨_, rfl, by simp only; omega, by omega, hc3.2.1, hc3.2.2.1.symm⟩))⟩
      · rename_i hc3
        rw [if_neg hc3] at ht hp1 hp2
        simp only at ht hp1 hp2
        exact ⟨_, _, rfl, hp1, hp2, by simp only; omega, hv, ht, .inr (.inr (.inr ⟨rfl, rfl⟩))⟩
end Go.Proofs.YtgpkiijmembggaaGreatDoor.CoM
namespace Go.Proofs.YtgpkiijmembggaaGreatDoor.HuffM

def inR (x : Int) : Bool := decide (0 ≤ x) && decide (x ≤ 15)
/-- what a length takes of 2^15 -/
def kr (x : Int) : Nat := if 0 < x then 32768 / 2 ^ x.toNat else 0
def rsum (L : List Int) : Nat := (L.map kr).sum
def many (L : List Int) : Nat := L.countP fun x => decide (0 < x)
def ones (L : List Int) : Nat := L.countP fun x => decide (x = 1)
def rightB (L : List Int) : Bool := L.all inR && (rsum L == 32768 || (many L == 1 && ones L == 1))
theorem kr_le (x : Int) : kr x ≤ 32768 := by
  unfold kr
  split
  · exact Nat.div_le_self _ _
  · omega
theorem kr_zero : kr 0 = 0 := rfl
theorem rsum_snoc (L : List Int) (x : Int) : rsum (L ++ [x]) = rsum L + kr x := by simp [rsum]
theorem many_snoc (L : List Int) (x : Int) : many (L ++ [x]) = many L + if 0 < x then 1 else 0 := by unfold many; rw [List.countP_append]; simp [List.countP_cons]
theorem ones_snoc (L : List Int) (x : Int) : ones (L ++ [x]) = ones L + if x = 1 then 1 else 0 := by unfold ones; rw [List.countP_append]; simp [List.countP_cons]
theorem rsum_le (L : List Int) : rsum L ≤ 32768 * L.length := by
  induction L with
  | nil => simp [rsum]
  | cons x L ih =>
    have := kr_le x
    simp only [rsum, List.map_cons, List.sum_cons, List.length_cons] at ih ⊢
    omega
theorem many_le (L : List Int) : many L ≤ L.length := List.countP_le_length
theorem ones_le (L : List Int) : ones L ≤ L.length := List.countP_le_length
theorem all_snoc (L : List Int) (x : Int) : (L ++ [x]).all inR = (L.all inR && inR x) := by simp [List.all_append]
theorem not_right {L : List Int} {k : Nat} {x : Int} (hx : L[k]? = some x) (h : inR x = false) : rightB L = false := by
  have : L.all inR = false := by
    rw [List.all_eq_false]
    exact ⟨x, List.mem_of_getElem? hx, by rw [h]; simp⟩
  unfold rightB
  rw [this]
  rfl
theorem take_snoc {α : Type} {L : List α} {k : Nat} {x : α} (hx : L[k]? = some x) : L.take (k + 1) = L.take k ++ [x] := by rw [List.take_add_one, hx]; rfl

/-- the state of the codes that are counted up -/
structure CS where
  code : Nat
  last : Nat
  out : List Nat
def nextCode (k : Nat) (c : CS) : Nat := if 0 < c.last then (c.code + 1) % 18446744073709551616 * 2 ^ (k - c.last) % 18446744073709551616 else c.code
def cstep (L : List Int) (k s : Nat) (c : CS) : CS := if L.getD s 0 = (k : Int) then ⟨nextCode k c, k, c.out.set s (nextCode k c)⟩ else c
/-- the first s symbols at length k -/
def crow (L : List Int) (k : Nat) (c : CS) : Nat → CS
  | 0 => c
  | s + 1 => cstep L k s (crow L k c s)
/-- the lengths 1 to k -/
def call (L : List Int) : Nat → CS
  | 0 => ⟨0, 0, List.replicate L.length 0⟩
  | k + 1 => crow L (k + 1) (call L k) L.length
def codesL (L : List Int) : List Nat := (call L 15).out
theorem code_cast (a e : Nat) : ((a : Int) + 1) % 18446744073709551616 * 2 ^ e % 18446744073709551616 = (((a + 1) % 18446744073709551616 * 2 ^ e % 18446744073709551616 : Nat) : Int) := by
  rw [Int.natCast_emod, Int.natCast_mul, Int.natCast_emod, Int.natCast_add, Int.natCast_pow]
  rfl
theorem nextCode_lt {k : Nat} {c : CS} (h : c.code < 18446744073709551616) : nextCode k c < 18446744073709551616 := by
  unfold nextCode
  split
  · exact Nat.mod_lt _ (by omega)
  · exact h
/-- lengths, numbers within a word -/
def CS.ok (n k : Nat) (c : CS) : Prop := c.code < 18446744073709551616 ∧ c.last ≤ k ∧ c.out.length = n ∧ ∀ x ∈ c.out, x < 18446744073709551616
theorem cstep_ok {L : List Int} {n k s : Nat} {c : CS} (h : c.ok n k) : (cstep L k s c).ok n k := by
  unfold cstep
  split
  · refine ⟨nextCode_lt h.1, Nat.le_refl _, by simp [h.2.2.1], ?_⟩
    intro x hx
    rcases List.mem_or_eq_of_mem_set hx with hx | rfl
    · exact h.2.2.2 x hx
    · exact nextCode_lt h.1
  · exact h
theorem crow_ok {L : List Int} {n k : Nat} {c : CS} (h : c.ok n k) (s : Nat) : (crow L k c s).ok n k := by
  induction s with
  | zero => exact h
  | succ s ih => exact cstep_ok ih
theorem CS.ok.mono {n k k' : Nat} {c : CS} (h : c.ok n k) (hk : k ≤ k') : c.ok n k' := ⟨h.1, Nat.le_trans h.2.1 hk, h.2.2⟩
theorem call_ok (L : List Int) (k : Nat) : (call L k).ok L.length k := by
  induction k with
  | zero =>
    refine ⟨by show 0 < _; omega, Nat.le_refl _, by simp [call], ?_⟩
    intro x hx
    have := List.eq_of_mem_replicate hx
    omega
  | succ k ih => exact crow_ok (ih.mono (by omega)) _
theorem codes_len (L : List Int) : (codesL L).length = L.length := (call_ok L 15).2.2.1
theorem codes_lt (L : List Int) : ∀ x ∈ codesL L, x < 18446744073709551616 := (call_ok L 15).2.2.2

/-- the number that the first k bits tell -/
def bcode (B : List UInt8) (k : Nat) : Nat := (B.take k).foldl (fun c b => 2 * c + b.toNat) 0
theorem bcode_succ {B : List UInt8} {k : Nat} {b : UInt8} (h : B[k]? = some b) : bcode B (k + 1) = 2 * bcode B k + b.toNat := by
  unfold bcode
  rw [take_snoc h, List.foldl_append]
  rfl
theorem bcode_lt (B : List UInt8) (k : Nat) : bcode B k ≤ 255 * (2 ^ k - 1) := by
  induction k with
  | zero => simp [bcode]
  | succ k ih =>
    cases h : B[k]? with
    | none =>
      have hl : B.length ≤ k := by simpa using h
      have e : bcode B (k + 1) = bcode B k := by unfold bcode; rw [List.take_of_length_le (by omega), List.take_of_length_le hl]
      rw [e, Nat.pow_succ]
      omega
    | some b =>
      have := b.toNat_lt
      rw [bcode_succ h, Nat.pow_succ]
      have : 1 ≤ 2 ^ k := Nat.one_le_two_pow
      omega
/-- does symbol s begin here? -/
def hits (L : List Int) (B : List UInt8) (s : Nat) : Bool :=
  let k := L.getD s 0
  k != 0 && decide (k ≤ (B.length : Int)) && bcode B k.toNat == (codesL L).getD s 0
/-- the first symbol of n whose code bits begin with -/
def firstHit (L : List Int) (B : List UInt8) (n : Nat) : Option Nat := (List.range n).find? (hits L B)
def nextS (L : List Int) (B : List UInt8) : Int × Int := match firstHit L B L.length with
  | some s => ((s : Int), L.getD s 0)
  | none => (-1, 0)
theorem first_none (L : List Int) (B : List UInt8) : firstHit L B 0 = none := rfl
theorem first_step {L : List Int} {B : List UInt8} {s : Nat} (h : firstHit L B s = none) : firstHit L B (s + 1) = if hits L B s = true then some s else none := by
  unfold firstHit at h ⊢
  rw [List.range_succ, List.find?_append, h]
  simp only [Option.none_or, List.find?_cons, List.find?_nil]
  cases hits L B s <;> rfl
theorem first_of {L : List Int} {B : List UInt8} {s n : Nat} (h : firstHit L B s = none) (hs : hits L B s = true) (hn : s < n) : firstHit L B n = some s := by
  have h1 := first_step h
  rw [if_pos hs] at h1
  obtain ⟨d, rfl⟩ : ∃ d, n = (s + 1) + d := ⟨n - (s + 1), by omega⟩
  unfold firstHit at h1 ⊢
  rw [List.range_add, List.find?_append, h1]
  rfl
end Go.Proofs.YtgpkiijmembggaaGreatDoor.HuffM
