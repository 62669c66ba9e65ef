/-
  Layer 8, plain: lengths without 0s at the end; the order of the items' lengths; the bits of two codes' lengths.
-/
import Derived.Test.YtjghcacepneipaaDoorCoO
import Derived.Test.YtjghcacepneipaaDoorHuffL
import Derived.Test.YtjghcacepneipaaDoorHuffM
import Derived.Test.YtjghcacepneipaaDoorBitsM
namespace Go.Proofs.YtjghcacepneipaaDoor.CoM
open HuffM BitsM

/-- how many are left without the 0s at the end of the first k behind m, but at least m -/
def trimN (L : List Nat) (m : Nat) : Nat → Nat
  | 0 => m
  | k + 1 => if L[m + k]! = 0 then trimN L m k else m + k + 1
theorem trimN_le (L : List Nat) (m : Nat) : ∀ k, m ≤ trimN L m k ∧ trimN L m k ≤ m + k
  | 0 => ⟨Nat.le_refl _, Nat.le_refl _⟩
  | k + 1 => by
    have := trimN_le L m k
    rw [trimN]
    split <;> omega
theorem trimN_zero (L : List Nat) (m : Nat) : ∀ k i, trimN L m k ≤ i → i < m + k → L[i]! = 0
  | 0, i, h1, h2 => by rw [trimN] at h1; omega
  | k + 1, i, h1, h2 => by
    rw [trimN] at h1
    split at h1
    · rename_i h0
      rcases Nat.lt_or_ge i (m + k) with h | h
      · exact trimN_zero L m k i h1 h
      · rw [show i = m + k by omega]; exact h0
    · omega
def trimL (L : List Nat) (m : Nat) : List Nat := L.take (trimN L m (L.length - m))
def ord : List Nat := [16, 17, 18, 0, 8, 7, 9, 6, 10, 5, 11, 4, 12, 3, 13, 2, 14, 1, 15]
/-- how often each of 0 to 18 is met -/
def bump8 (W : List Nat) (s : Nat) : List Nat := W.set s (W[s]! + 1)
def weigh8 (T : List It) (W : List Nat) : List Nat := T.foldl (fun W t => bump8 W t.s) W
def zeros19 : List Nat := List.replicate 19 0
/-- how many lengths are put, of the first 4 + k in the order -/
def manyN (len : List Nat) : Nat → Nat
  | 0 => 4
  | k + 1 => if 0 < len[ord[4 + k]!]! then 4 + k + 1 else manyN len k
theorem manyN_le (len : List Nat) : ∀ k, 4 ≤ manyN len k ∧ manyN len k ≤ 4 + k
  | 0 => ⟨Nat.le_refl _, Nat.le_refl _⟩
  | k + 1 => by
    have := manyN_le len k
    rw [manyN]
    split <;> omega
/-- the bits of one item -/
def itBits (cs len : List Nat) (t : It) : List Bool := (low cs[t.s]! (min len[t.s]! 64)).reverse ++ low t.x (min t.b 64)
/-- the bits of the lengths of two codes, as they are pressed -/
def putBits (A B : List Nat) : List Bool :=
  let T := items (A ++ B)
  let len := lens 7 (weigh8 T zeros19)
  let cs := codesL (len.map fun x : Nat => (x : Int))
  low (A.length - 257) 5 ++ low (B.length - 1) 5 ++ low (manyN len 15 - 4) 4 ++ (ord.take (manyN len 15)).flatMap (fun o => low len[o]! 3) ++ T.flatMap (itBits cs len)
theorem bump8_len (W : List Nat) (s : Nat) : (bump8 W s).length = W.length := by simp [bump8]
theorem weigh8_len : ∀ (T : List It) (W : List Nat), (weigh8 T W).length = W.length
  | [], W => rfl
  | t :: T, W => by
    show (weigh8 T (bump8 W t.s)).length = _
    rw [weigh8_len T _, bump8_len]
theorem bump8_le {W : List Nat} {N s : Nat} (h : ∀ x ∈ W, x ≤ N) : ∀ x ∈ bump8 W s, x ≤ N + 1 := by
  intro x hx
  rcases List.mem_or_eq_of_mem_set hx with h1 | h1
  · have := h x h1; omega
  · rcases Nat.lt_or_ge s W.length with hs | hs
    · rw [getElem!_pos W s hs] at h1
      have := h _ (List.getElem_mem hs)
      omega
    · rw [getElem!_neg W s (by omega)] at h1
      have : x ≤ 0 + 1 := by rw [h1]; exact Nat.le_refl _
      omega
theorem weigh8_le : ∀ (T : List It) (W : List Nat) (N : Nat), (∀ x ∈ W, x ≤ N) → ∀ x ∈ weigh8 T W, x ≤ N + T.length
  | [], W, N, h, x, hx => by have := h x hx; omega
  | t :: T, W, N, h, x, hx => by
    have := weigh8_le T (bump8 W t.s) (N + 1) (bump8_le h) x hx
    rw [List.length_cons]
    omega
theorem weigh8_take {T : List It} {k : Nat} {t : It} (h : T[k]? = some t) (W : List Nat) : weigh8 (T.take (k + 1)) W = bump8 (weigh8 (T.take k) W) t.s := by
  have hk := (List.getElem?_eq_some_iff.1 h).1
  have he := (List.getElem?_eq_some_iff.1 h).2
  rw [List.take_succ_eq_append_getElem hk, he]
  unfold weigh8
  rw [List.foldl_append]
  rfl
theorem pressI_mem {L : List Nat} (hL : ∀ x ∈ L, x ≤ 15) : ∀ f i, ∀ t ∈ pressI L f i, t.s ≤ 18 ∧ t.b ≤ 7 ∧ t.x ≤ 127
  | 0, i, t, h => by simp [pressI] at h
  | f + 1, i, t, h => by
    rw [pressI] at h
    split at h
    · rename_i hi
      rcases List.mem_cons.1 h with h | h
      · obtain ⟨n, v, _, _, _, _, hv, _, hc⟩ := item_cases L i hi hL
        rw [← h] at hc
        rcases hc with ⟨x, e, _, hx, _⟩ | ⟨x, e, _, hx, _⟩ | ⟨x, e, _, hx, _⟩ | ⟨e, _⟩
        · rw [e]; exact ⟨Nat.le_refl _, Nat.le_refl _, by show x ≤ 127; omega⟩
        · rw [e]; exact ⟨by show 17 ≤ 18; omega, by show 3 ≤ 7; omega, by show x ≤ 127; omega⟩
        · rw [e]; exact ⟨by show 16 ≤ 18; omega, by show 2 ≤ 7; omega, by show x ≤ 127; omega⟩
        · rw [e]; exact ⟨by show v ≤ 18; omega, by show 0 ≤ 7; omega, by show 0 ≤ 127; omega⟩
      · exact pressI_mem hL f _ t h
    · simp at h
theorem items_mem {L : List Nat} (hL : ∀ x ∈ L, x ≤ 15) : ∀ t ∈ items L, t.s ≤ 18 ∧ t.b ≤ 7 ∧ t.x ≤ 127 := pressI_mem hL _ _
end Go.Proofs.YtjghcacepneipaaDoor.CoM
