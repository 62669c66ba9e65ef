/-
  Plain mathematics of layer 5: whether there is a code of lengths, its codes, what bits tell. Nothing of any program here.
-/
import Derived.WalkKit
namespace Go.Proofs.YtjghcacepneipaaDoor.HuffM

def inR (x : Int) : Bool := decide (0 ≤ x) && decide (x ≤ 15)
/-- what a length takes of 2^15 -/
def kr (x : Int) : Nat := if 0 < x then 32768 / 2 ^ x.toNat else 0
def rsum (L : List Int) : Nat := (L.map kr).sum
def many (L : List Int) : Nat := L.countP fun x => decide (0 < x)
def ones (L : List Int) : Nat := L.countP fun x => decide (x = 1)
def rightB (L : List Int) : Bool := L.all inR && (rsum L == 32768 || (many L == 1 && ones L == 1))
theorem kr_le (x : Int) : kr x ≤ 32768 := by
  unfold kr
  split
  · exact Nat.div_le_self _ _
  · omega
theorem kr_zero : kr 0 = 0 := rfl
theorem rsum_snoc (L : List Int) (x : Int) : rsum (L ++ [x]) = rsum L + kr x := by simp [rsum]
theorem many_snoc (L : List Int) (x : Int) : many (L ++ [x]) = many L + if 0 < x then 1 else 0 := by unfold many; rw [List.countP_append]; simp [List.countP_cons]
theorem ones_snoc (L : List Int) (x : Int) : ones (L ++ [x]) = ones L + if x = 1 then 1 else 0 := by unfold ones; rw [List.countP_append]; simp [List.countP_cons]
theorem rsum_le (L : List Int) : rsum L ≤ 32768 * L.length := by
  induction L with
  | nil => simp [rsum]
  | cons x L ih =>
    have := kr_le x
    simp only [rsum, List.map_cons, List.sum_cons, List.length_cons] at ih ⊢
    omega
theorem many_le (L : List Int) : many L ≤ L.length := List.countP_le_length
theorem ones_le (L : List Int) : ones L ≤ L.length := List.countP_le_length
theorem all_snoc (L : List Int) (x : Int) : (L ++ [x]).all inR = (L.all inR && inR x) := by simp [List.all_append]
theorem not_right {L : List Int} {k : Nat} {x : Int} (hx : L[k]? = some x) (h : inR x = false) : rightB L = false := by
  have : L.all inR = false := by
    rw [List.all_eq_false]
    exact ⟨x, List.mem_of_getElem? hx, by rw [h]; simp⟩
  unfold rightB
  rw [this]
  rfl
theorem take_snoc {α : Type} {L : List α} {k : Nat} {x : α} (hx : L[k]? = some x) : L.take (k + 1) = L.take k ++ [x] := by rw [List.take_add_one, hx]; rfl

/-- the state of the codes that are counted up -/
structure CS where
  code : Nat
  last : Nat
  out : List Nat
def nextCode (k : Nat) (c : CS) : Nat := if 0 < c.last then (c.code + 1) % 18446744073709551616 * 2 ^ (k - c.last) % 18446744073709551616 else c.code
def cstep (L : List Int) (k s : Nat) (c : CS) : CS := if L.getD s 0 = (k : Int) then ⟨nextCode k c, k, c.out.set s (nextCode k c)⟩ else c
/-- the first s symbols at length k -/
def crow (L : List Int) (k : Nat) (c : CS) : Nat → CS
  | 0 => c
  | s + 1 => cstep L k s (crow L k c s)
/-- the lengths 1 to k -/
def call (L : List Int) : Nat → CS
  | 0 => ⟨0, 0, List.replicate L.length 0⟩
  | k + 1 => crow L (k + 1) (call L k) L.length
def codesL (L : List Int) : List Nat := (call L 15).out
theorem code_cast (a e : Nat) : ((a : Int) + 1) % 18446744073709551616 * 2 ^ e % 18446744073709551616 = (((a + 1) % 18446744073709551616 * 2 ^ e % 18446744073709551616 : Nat) : Int) := by
  rw [Int.natCast_emod, Int.natCast_mul, Int.natCast_emod, Int.natCast_add, Int.natCast_pow]
  rfl
theorem nextCode_lt {k : Nat} {c : CS} (h : c.code < 18446744073709551616) : nextCode k c < 18446744073709551616 := by
  unfold nextCode
  split
  · exact Nat.mod_lt _ (by omega)
  · exact h
/-- lengths, numbers within a word -/
def CS.ok (n k : Nat) (c : CS) : Prop := c.code < 18446744073709551616 ∧ c.last ≤ k ∧ c.out.length = n ∧ ∀ x ∈ c.out, x < 18446744073709551616
theorem cstep_ok {L : List Int} {n k s : Nat} {c : CS} (h : c.ok n k) : (cstep L k s c).ok n k := by
  unfold cstep
  split
  · refine ⟨nextCode_lt h.1, Nat.le_refl _, by simp [h.2.2.1], ?_⟩
    intro x hx
    rcases List.mem_or_eq_of_mem_set hx with hx | rfl
    · exact h.2.2.2 x hx
    · exact nextCode_lt h.1
  · exact h
theorem crow_ok {L : List Int} {n k : Nat} {c : CS} (h : c.ok n k) (s : Nat) : (crow L k c s).ok n k := by
  induction s with
  | zero => exact h
  | succ s ih => exact cstep_ok ih
theorem CS.ok.mono {n k k' : Nat} {c : CS} (h : c.ok n k) (hk : k ≤ k') : c.ok n k' := ⟨h.1, Nat.le_trans h.2.1 hk, h.2.2⟩
theorem call_ok (L : List Int) (k : Nat) : (call L k).ok L.length k := by
  induction k with
  | zero =>
    refine ⟨by show 0 < _; omega, Nat.le_refl _, by simp [call], ?_⟩
    intro x hx
    have := List.eq_of_mem_replicate hx
    omega
  | succ k ih => exact crow_ok (ih.mono (by omega)) _
theorem codes_len (L : List Int) : (codesL L).length = L.length := (call_ok L 15).2.2.1
theorem codes_lt (L : List Int) : ∀ x ∈ codesL L, x < 18446744073709551616 := (call_ok L 15).2.2.2

/-- the number that the first k bits tell -/
def bcode (B : List UInt8) (k : Nat) : Nat := (B.take k).foldl (fun c b => 2 * c + b.toNat) 0
theorem bcode_succ {B : List UInt8} {k : Nat} {b : UInt8} (h : B[k]? = some b) : bcode B (k + 1) = 2 * bcode B k + b.toNat := by
  unfold bcode
  rw [take_snoc h, List.foldl_append]
  rfl
theorem bcode_lt (B : List UInt8) (k : Nat) : bcode B k ≤ 255 * (2 ^ k - 1) := by
  induction k with
  | zero => simp [bcode]
  | succ k ih =>
    cases h : B[k]? with
    | none =>
      have hl : B.length ≤ k := by simpa using h
      have e : bcode B (k + 1) = bcode B k := by unfold bcode; rw [List.take_of_length_le (by omega), List.take_of_length_le hl]
      rw [e, Nat.pow_succ]
      omega
    | some b =>
      have := b.toNat_lt
      rw [bcode_succ h, Nat.pow_succ]
      have : 1 ≤ 2 ^ k := Nat.one_le_two_pow
      omega
/-- does symbol s begin here? -/
def hits (L : List Int) (B : List UInt8) (s : Nat) : Bool :=
  let k := L.getD s 0
  k != 0 && decide (k ≤ (B.length : Int)) && bcode B k.toNat == (codesL L).getD s 0
/-- the first symbol of n whose code bits begin with -/
def firstHit (L : List Int) (B : List UInt8) (n : Nat) : Option Nat := (List.range n).find? (hits L B)
def nextS (L : List Int) (B : List UInt8) : Int × Int := match firstHit L B L.length with
  | some s => ((s : Int), L.getD s 0)
  | none => (-1, 0)
theorem first_none (L : List Int) (B : List UInt8) : firstHit L B 0 = none := rfl
theorem first_step {L : List Int} {B : List UInt8} {s : Nat} (h : firstHit L B s = none) : firstHit L B (s + 1) = if hits L B s = true then some s else none := by
  unfold firstHit at h ⊢
  rw [List.range_succ, List.find?_append, h]
  simp only [Option.none_or, List.find?_cons, List.find?_nil]
  cases hits L B s <;> rfl
theorem first_of {L : List Int} {B : List UInt8} {s n : Nat} (h : firstHit L B s = none) (hs : hits L B s = true) (hn : s < n) : firstHit L B n = some s := by
  have h1 := first_step h
  rw [if_pos hs] at h1
  obtain ⟨d, rfl⟩ : ∃ d, n = (s + 1) + d := ⟨n - (s + 1), by omega⟩
  unfold firstHit at h1 ⊢
  rw [List.range_add, List.find?_append, h1]
  rfl
end Go.Proofs.YtjghcacepneipaaDoor.HuffM
