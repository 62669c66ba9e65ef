/-
  Taking a loop's body out of a function's code, by a region that it holds; what the program is does not matter here.
  Layer 8, plain: how lengths are pressed to items.
-/
import Derived.WalkKit
namespace Go.Proofs.YtjghcacepneipaaDoor
open Go

def hasRegion (r : Nat) : Code → Bool
  | .region id _ _ => id == r
  | .seq a b => hasRegion r a || hasRegion r b
  | .cond _ a b => hasRegion r a || hasRegion r b
  | .block _ c => hasRegion r c
  | .loop c => hasRegion r c
  | .scope c => hasRegion r c
  | _ => false
/-- the body of the innermost loop that holds region r -/
def loopAt (r : Nat) : Code → Option Code
  | .seq a b => match loopAt r a with
    | some c => some c
    | none => loopAt r b
  | .cond _ a b => match loopAt r a with
    | some c => some c
    | none => loopAt r b
  | .block _ c => loopAt r c
  | .scope c => loopAt r c
  | .loop c => match loopAt r c with
    | some d => some d
    | none => bif hasRegion r c then some c else none
  | _ => none
/-- region r -/
def regionAt (r : Nat) : Code → Option Code
  | .region id ops d => bif id == r then some (.region id ops d) else none
  | .seq a b => match regionAt r a with
    | some c => some c
    | none => regionAt r b
  | .cond _ a b => match regionAt r a with
    | some c => some c
    | none => regionAt r b
  | .block _ c => regionAt r c
  | .loop c => regionAt r c
  | .scope c => regionAt r c
  | _ => none
/-- a post that is asked of one exit alone: blind at a panic (go_region's short way wants that) -/
def onExit (n : Nat) (Q1 : Act → World → Prop) : Exit → Act → World → Prop
  | .exit m, a, w => m = n ∧ Q1 a w
  | _, _, _ => False
theorem onExit_imp {n : Nat} {Q0 : Exit → Act → World → Prop} : ∀ e a w, onExit n (Q0 (.exit n)) e a w → Q0 e a w := by
  intro e a w h
  cases e with
  | exit m => obtain ⟨rfl, h⟩ := h; exact h
  | _ => exact h.elim
end Go.Proofs.YtjghcacepneipaaDoor
namespace Go.Proofs.YtjghcacepneipaaDoor.CoM

structure It where
  s : Nat
  b : Nat
  x : Nat
deriving DecidableEq, Inhabited

/-- how many from i on are as the one at i -/
def rn (L : List Nat) (i : Nat) : Nat := ((L.drop i).takeWhile (· == L[i]!)).length
/-- the item at i, and how many lengths it tells -/
def itemAt (L : List Nat) (i : Nat) : It × Nat :=
  if L[i]! = 0 ∧ 10 < rn L i then (⟨18, 7, min (rn L i) 138 - 11⟩, min (rn L i) 138)
  else if L[i]! = 0 ∧ 2 < rn L i then (⟨17, 3, rn L i - 3⟩, rn L i)
  else if 0 < L[i]! ∧ 0 < i ∧ L[i]! = L[i - 1]! ∧ 2 < rn L i then (⟨16, 2, min (rn L i) 6 - 3⟩, min (rn L i) 6)
  else (⟨L[i]!, 0, 0⟩, 1)
def pressI (L : List Nat) : Nat → Nat → List It
  | 0, _ => []
  | f + 1, i => if i < L.length then (itemAt L i).1 :: pressI L f (i + (itemAt L i).2) else []
def items (L : List Nat) : List It := pressI L L.length 0

theorem take_while_of (v : Nat) : ∀ (M : List Nat) (m : Nat), m ≤ M.length → (∀ j, j < m → M[j]! = v) → (m = M.length ∨ M[m]! ≠ v) → (M.takeWhile (· == v)).length = m
  | [], m, h, _, _ => by simp at h; simp [h]
  | x :: M, 0, _, _, h => by
    have hx : x ≠ v := by
      rcases h with h | h
      · simp at h
      · exact h
    rw [List.takeWhile_cons, if_neg (by simpa using hx)]
    rfl
  | x :: M, m + 1, h, h1, h2 => by
    have hx : x = v := h1 0 (by omega)
    rw [List.takeWhile_cons, if_pos (by simpa using hx), List.length_cons]
    rw [take_while_of v M m (by simpa using h) (fun j hj => h1 (j + 1) (by omega)) (by
      rcases h2 with h2 | h2
      · exact .inl (by simpa using h2)
      · exact .inr h2)]
theorem rn_of (L : List Nat) (i m : Nat) (h1 : i + m ≤ L.length) (h2 : ∀ j, j < m → L[i + j]! = L[i]!) (h3 : i + m = L.length ∨ L[i + m]! ≠ L[i]!) : rn L i = m := by
  have hd : ∀ j, (L.drop i)[j]! = L[i + j]! := fun j => by
    rcases Nat.lt_or_ge (i + j) L.length with h | h
    · rw [getElem!_pos _ j (by simp; omega), getElem!_pos L (i + j) h, List.getElem_drop]
    · rw [getElem!_neg _ j (by simp; omega), getElem!_neg L (i + j) (by omega)]
  refine take_while_of _ _ m (by simp; omega) (fun j hj => by rw [hd]; exact h2 j hj) ?_
  rcases h3 with h3 | h3
  · exact .inl (by simp; omega)
  · exact .inr (by rw [hd]; exact h3)
theorem rn_le (L : List Nat) (i : Nat) (h : i ≤ L.length) : i + rn L i ≤ L.length := by
  have := (List.takeWhile_prefix (fun x => x == L[i]!) (l := L.drop i)).length_le
  rw [List.length_drop] at this
  unfold rn
  omega
theorem rn_pos (L : List Nat) (i : Nat) (h : i < L.length) : 1 ≤ rn L i := by
  unfold rn
  rw [List.drop_eq_getElem_cons h, List.takeWhile_cons, if_pos (by rw [getElem!_pos L i h]; simp)]
  simp
/-- what a run holds -/
theorem rn_at (L : List Nat) (i j : Nat) (hj : j < rn L i) : L[i + j]! = L[i]! := by
  have hm : ((L.drop i).takeWhile (· == L[i]!))[j]? = some (((L.drop i).takeWhile (· == L[i]!))[j]'hj) := List.getElem?_eq_getElem hj
  have hmem := List.getElem_mem hj
  have hp := List.all_takeWhile (p := fun x => x == L[i]!) (l := L.drop i)
  rw [List.all_eq_true] at hp
  have h1 := hp _ hmem
  obtain ⟨r, hr⟩ := List.takeWhile_prefix (fun x => x == L[i]!) (l := L.drop i)
  have h2 : (L.drop i)[j]? = some (((L.drop i).takeWhile (· == L[i]!))[j]'hj) := by
    rw [← hm]
    conv => lhs; rw [← hr]
    rw [List.getElem?_append_left hj]
  rw [List.getElem?_drop] at h2
  obtain ⟨hl, he⟩ := List.getElem?_eq_some_iff.1 h2
  rw [getElem!_pos L (i + j) hl, he]
  simpa using h1
theorem item_pos (L : List Nat) (i : Nat) (h : i < L.length) : 1 ≤ (itemAt L i).2 ∧ i + (itemAt L i).2 ≤ L.length ∧ (itemAt L i).2 ≤ rn L i := by
  have h1 := rn_pos L i h
  have h2 := rn_le L i (Nat.le_of_lt h)
  unfold itemAt
  split
  · simp only; omega
  · split
    · simp only; omega
    · split
      · simp only; omega
      · simp only; omega
theorem pressI_more (L : List Nat) : ∀ f i, L.length ≤ i + f → ∀ g, pressI L (f + g) i = pressI L f i
  | 0, i, h, 0 => rfl
  | 0, i, h, g + 1 => by
    have h0 : pressI L (g + 1) i = [] := by rw [pressI, if_neg (by omega)]
    rw [Nat.zero_add, h0]
    rfl
  | f + 1, i, h, g => by
    rw [show f + 1 + g = (f + g) + 1 by omega, pressI, pressI]
    split
    · rename_i hi
      have := (item_pos L i hi).1
      rw [pressI_more L f _ (by omega) g]
    · rfl
theorem pressI_len (L : List Nat) : ∀ f i, i ≤ L.length → (pressI L f i).length ≤ L.length - i
  | 0, i, h => by simp [pressI]
  | f + 1, i, h => by
    rw [pressI]
    split
    · rename_i hi
      have h1 := item_pos L i hi
      have := pressI_len L f (i + (itemAt L i).2) h1.2.1
      rw [List.length_cons]
      omega
    · simp
theorem items_len (L : List Nat) : (items L).length ≤ L.length := pressI_len L L.length 0 (Nat.zero_le _)
end Go.Proofs.YtjghcacepneipaaDoor.CoM
