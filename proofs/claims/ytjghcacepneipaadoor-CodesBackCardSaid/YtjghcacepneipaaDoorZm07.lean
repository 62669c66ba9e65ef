/-
  Plain mathematics of layer 5: whether there is a code of lengths, its codes, what bits tell. Nothing of any program here.
  Plain mathematics of layer 5's lengths by weights: groups that are joined two by two, as the reference does it; weights that are halved till the lengths fit; that they fit in the end. Nothing of any program here.
-/
import Derived.WalkKit
namespace Go.Proofs.YtjghcacepneipaaDoor.HuffM

def inR (x : Int) : Bool := decide (0 ≤ x) && decide (x ≤ 15)
/-- what a length takes of 2^15 -/
def kr (x : Int) : Nat := if 0 < x then 32768 / 2 ^ x.toNat else 0
def rsum (L : List Int) : Nat := (L.map kr).sum
def many (L : List Int) : Nat := L.countP fun x => decide (0 < x)
def ones (L : List Int) : Nat := L.countP fun x => decide (x = 1)
def rightB (L : List Int) : Bool := L.all inR && (rsum L == 32768 || (many L == 1 && ones L == 1))
theorem kr_le (x : Int) : kr x ≤ 32768 := by
  unfold kr
  split
  · exact Nat.div_le_self _ _
  · omega
theorem kr_zero : kr 0 = 0 := rfl
theorem rsum_snoc (L : List Int) (x : Int) : rsum (L ++ [x]) = rsum L + kr x := by simp [rsum]
theorem many_snoc (L : List Int) (x : Int) : many (L ++ [x]) = many L + if 0 < x then 1 else 0 := by unfold many; rw [List.countP_append]; simp [List.countP_cons]
theorem ones_snoc (L : List Int) (x : Int) : ones (L ++ [x]) = ones L + if x = 1 then 1 else 0 := by unfold ones; rw [List.countP_append]; simp [List.countP_cons]
theorem rsum_le (L : List Int) : rsum L ≤ 32768 * L.length := by
  induction L with
  | nil => simp [rsum]
  | cons x L ih =>
    have := kr_le x
    simp only [rsum, List.map_cons, List.sum_cons, List.length_cons] at ih ⊢
    omega
theorem many_le (L : List Int) : many L ≤ L.length := List.countP_le_length
theorem ones_le (L : List Int) : ones L ≤ L.length := List.countP_le_length
theorem all_snoc (L : List Int) (x : Int) : (L ++ [x]).all inR = (L.all inR && inR x) := by simp [List.all_append]
theorem not_right {L : List Int} {k : Nat} {x : Int} (hx : L[k]? = some x) (h : inR x = false) : rightB L = false := by
  have : L.all inR = false := by
    rw [List.all_eq_false]
    exact ⟨x, List.mem_of_getElem? hx, by rw [h]; simp⟩
  unfold rightB
  rw [this]
  rfl
theorem take_snoc {α : Type} {L : List α} {k : Nat} {x : α} (hx : L[k]? = some x) : L.take (k + 1) = L.take k ++ [x] := by rw [List.take_add_one, hx]; rfl

/-- the state of the codes that are counted up -/
structure CS where
  code : Nat
  last : Nat
  out : List Nat
def nextCode (k : Nat) (c : CS) : Nat := if 0 < c.last then (c.code + 1) % 18446744073709551616 * 2 ^ (k - c.last) % 18446744073709551616 else c.code
def cstep (L : List Int) (k s : Nat) (c : CS) : CS := if L.getD s 0 = (k : Int) then ⟨nextCode k c, k, c.out.set s (nextCode k c)⟩ else c
/-- the first s symbols at length k -/
def crow (L : List Int) (k : Nat) (c : CS) : Nat → CS
  | 0 => c
  | s + 1 => cstep L k s (crow L k c s)
/-- the lengths 1 to k -/
def call (L : List Int) : Nat → CS
  | 0 => ⟨0, 0, List.replicate L.length 0⟩
  | k + 1 => crow L (k + 1) (call L k) L.length
def codesL (L : List Int) : List Nat := (call L 15).out
theorem code_cast (a e : Nat) : ((a : Int) + 1) % 18446744073709551616 * 2 ^ e % 18446744073709551616 = (((a + 1) % 18446744073709551616 * 2 ^ e % 18446744073709551616 : Nat) : Int) := by
  rw [Int.natCast_emod, Int.natCast_mul, Int.natCast_emod, Int.natCast_add, Int.natCast_pow]
  rfl
theorem nextCode_lt {k : Nat} {c : CS} (h : c.code < 18446744073709551616) : nextCode k c < 18446744073709551616 := by
  unfold nextCode
  split
  · exact Nat.mod_lt _ (by omega)
  · exact h
/-- lengths, numbers within a word -/
def CS.ok (n k : Nat) (c : CS) : Prop := c.code < 18446744073709551616 ∧ c.last ≤ k ∧ c.out.length = n ∧ ∀ x ∈ c.out, x < 18446744073709551616
theorem cstep_ok {L : List Int} {n k s : Nat} {c : CS} (h : c.ok n k) : (cstep L k s c).ok n k := by
  unfold cstep
  split
  · refine ⟨nextCode_lt h.1, Nat.le_refl _, by simp [h.2.2.1], ?_⟩
    intro x hx
    rcases List.mem_or_eq_of_mem_set hx with hx | rfl
    · exact h.2.2.2 x hx
    · exact nextCode_lt h.1
  · exact h
theorem crow_ok {L : List Int} {n k : Nat} {c : CS} (h : c.ok n k) (s : Nat) : (crow L k c s).ok n k := by
  induction s with
  | zero => exact h
  | succ s ih => exact cstep_ok ih
theorem CS.ok.mono {n k k' : Nat} {c : CS} (h : c.ok n k) (hk : k ≤ k') : c.ok n k' := ⟨h.1, Nat.le_trans h.2.1 hk, h.2.2⟩
theorem call_ok (L : List Int) (k : Nat) : (call L k).ok L.length k := by
  induction k with
  | zero =>
    refine ⟨by show 0 < _; omega, Nat.le_refl _, by simp [call], ?_⟩
    intro x hx
    have := List.eq_of_mem_replicate hx
    omega
  | succ k ih => exact crow_ok (ih.mono (by omega)) _
theorem codes_len (L : List Int) : (codesL L).length = L.length := (call_ok L 15).2.2.1
theorem codes_lt (L : List Int) : ∀ x ∈ codesL L, x < 18446744073709551616 := (call_ok L 15).2.2.2

/-- the number that the first k bits tell -/
def bcode (B : List UInt8) (k : Nat) : Nat := (B.take k).foldl (fun c b => 2 * c + b.toNat) 0
theorem bcode_succ {B : List UInt8} {k : Nat} {b : UInt8} (h : B[k]? = some b) : bcode B (k + 1) = 2 * bcode B k + b.toNat := by
  unfold bcode
  rw [take_snoc h, List.foldl_append]
  rfl
theorem bcode_lt (B : List UInt8) (k : Nat) : bcode B k ≤ 255 * (2 ^ k - 1) := by
  induction k with
  | zero => simp [bcode]
  | succ k ih =>
    cases h : B[k]? with
    | none =>
      have hl : B.length ≤ k := by simpa using h
      have e : bcode B (k + 1) = bcode B k := by unfold bcode; rw [List.take_of_length_le (by omega), List.take_of_length_le hl]
      rw [e, Nat.pow_succ]
      omega
    | some b =>
      have := b.toNat_lt
      rw [bcode_succ h, Nat.pow_succ]
      have : 1 ≤ 2 ^ k := Nat.one_le_two_pow
      omega
/-- does symbol s begin here? -/
def hits (L : List Int) (B : List UInt8) (s : Nat) : Bool :=
  let k := L.getD s 0
  k != 0 && decide (k ≤ (B.length : Int)) && bcode B k.toNat == (codesL L).getD s 0
/-- the first symbol of n whose code bits begin with -/
def firstHit (L : List Int) (B : List UInt8) (n : Nat) : Option Nat := (List.range n).find? (hits L B)
def nextS (L : List Int) (B : List UInt8) : Int × Int := match firstHit L B L.length with
  | some s => ((s : Int), L.getD s 0)
  | none => (-1, 0)
theorem first_none (L : List Int) (B : List UInt8) : firstHit L B 0 = none := rfl
theorem first_step {L : List Int} {B : List UInt8} {s : Nat} (h : firstHit L B s = none) : firstHit L B (s + 1) = if hits L B s = true then some s else none := by
  unfold firstHit at h ⊢
  rw [List.range_succ, List.find?_append, h]
  simp only [Option.none_or, List.find?_cons, List.find?_nil]
  cases hits L B s <;> rfl
theorem first_of {L : List Int} {B : List UInt8} {s n : Nat} (h : firstHit L B s = none) (hs : hits L B s = true) (hn : s < n) : firstHit L B n = some s := by
  have h1 := first_step h
  rw [if_pos hs] at h1
  obtain ⟨d, rfl⟩ : ∃ d, n = (s + 1) + d := ⟨n - (s + 1), by omega⟩
  unfold firstHit at h1 ⊢
  rw [List.range_add, List.find?_append, h1]
  rfl
end Go.Proofs.YtjghcacepneipaaDoor.HuffM
namespace Go.Proofs.YtjghcacepneipaaDoor.HuffM

structure Grp where
  w : Nat
  s : List Nat
def gat (l : List Grp) (i : Nat) : Grp := l.getD i ⟨0, []⟩
def wt (l : List Grp) (i : Nat) : Nat := (gat l i).w
/-- the first of the least ones among the first i -/
def aI (l : List Grp) : Nat → Nat
  | 0 => 0
  | i + 1 => if wt l i < wt l (aI l i) then i else aI l i
/-- the first of the least ones among the first i, but a -/
def bI (l : List Grp) (a : Nat) : Nat → Option Nat
  | 0 => none
  | i + 1 => match bI l a i with
    | none => if i ≠ a then some i else none
    | some b => if i ≠ a ∧ wt l i < wt l b then some i else some b
/-- the first i, but a and b -/
def rI (l : List Grp) (a b : Nat) : Nat → List Grp
  | 0 => []
  | i + 1 => if i ≠ a ∧ i ≠ b then rI l a b i ++ [gat l i] else rI l a b i
def inc (o : List Nat) (s : Nat) : List Nat := o.set s (o.getD s 0 + 1)
def incs (o : List Nat) (S : List Nat) : List Nat := S.foldl inc o
def pa (l : List Grp) : Nat := aI l l.length
def pb (l : List Grp) : Nat := (bI l (pa l) l.length).getD 0
def grp (l : List Grp) : Grp := ⟨wt l (pa l) + wt l (pb l), (gat l (pa l)).s ++ (gat l (pb l)).s⟩
def joinG (l : List Grp) : List Grp := rI l (pa l) (pb l) l.length ++ [grp l]
def mergeF : Nat → List Grp → List Nat → List Nat
  | 0, _, o => o
  | f + 1, l, o => if l.length ≤ 1 then o else mergeF f (joinG l) (incs o (grp l).s)
/-- the groups of the first i weights -/
def gI (W : List Nat) : Nat → List Grp
  | 0 => []
  | i + 1 => if 0 < W.getD i 0 then gI W i ++ [⟨W.getD i 0, [i]⟩] else gI W i
def once0 (W : List Nat) : List Nat := List.replicate W.length 0
def onceL (W : List Nat) : List Nat :=
  let l := gI W W.length
  mergeF l.length l (if l.length = 1 then (once0 W).set ((gat l 0).s.getD 0 0) 1 else once0 W)
def half (W : List Nat) : List Nat := W.map fun x => x / 2 + x % 2
def lensF (most : Nat) : Nat → List Nat → List Nat
  | 0, W => onceL W
  | f + 1, W => if (onceL W).all (fun x => decide (x ≤ most)) = true then onceL W else lensF most f (half W)
def lens (most : Nat) (W : List Nat) : List Nat := lensF most (W.sum + 1) W

theorem aI_lt (l : List Grp) (i : Nat) (hi : 0 < i) : aI l i < i := by
  induction i with
  | zero => omega
  | succ i ih =>
    rw [aI]
    split
    · omega
    · rcases Nat.eq_zero_or_pos i with rfl | h
      · simp [aI]
      · have := ih h; omega
theorem aI_le (l : List Grp) (i : Nat) : ∀ j, j < i → wt l (aI l i) ≤ wt l j := by
  induction i with
  | zero => intro j hj; omega
  | succ i ih =>
    intro j hj
    rw [aI]
    split
    · rename_i h
      rcases Nat.lt_succ_iff_lt_or_eq.1 hj with h1 | rfl
      · have := ih j h1; omega
      · omega
    · rename_i h
      rcases Nat.lt_succ_iff_lt_or_eq.1 hj with h1 | rfl
      · exact ih j h1
      · omega
theorem bI_none {l : List Grp} {a i : Nat} (h : bI l a i = none) : ∀ j, j < i → j = a := by
  induction i with
  | zero => intro j hj; omega
  | succ i ih =>
    rw [bI] at h
    cases hb : bI l a i with
    | none =>
      rw [hb] at h
      simp only at h
      intro j hj
      rcases Nat.lt_succ_iff_lt_or_eq.1 hj with h1 | rfl
      · exact ih hb j h1
      · by_cases e : j = a
        · exact e
        · rw [if_pos e] at h; cases h
    | some b =>
      rw [hb] at h
      simp only at h
      split at h <;> cases h
theorem bI_some {l : List Grp} {a i b : Nat} (h : bI l a i = some b) : b < i ∧ b ≠ a ∧ ∀ j, j < i → j ≠ a → wt l b ≤ wt l j := by
  induction i generalizing b with
  | zero => cases h
  | succ i ih =>
    rw [bI] at h
    cases hb : bI l a i with
    | none =>
      rw [hb] at h
      simp only at h
      split at h
      · rename_i hia
        injection h with h
        subst h
        refine ⟨by omega, hia, fun j hj hja => ?_⟩
        rcases Nat.lt_succ_iff_lt_or_eq.1 hj with h1 | rfl
        · exact absurd (bI_none hb j h1) hja
        · exact Nat.le_refl _
      · cases h
    | some b' =>
      rw [hb] at h
      simp only at h
      obtain ⟨h1, h2, h3⟩ := ih hb
      split at h
      · rename_i hc
        injection h with h
        subst h
        refine ⟨by omega, hc.1, fun j hj hja => ?_⟩
        rcases Nat.lt_succ_iff_lt_or_eq.1 hj with h4 | rfl
        · have := h3 j h4 hja; omega
        · exact Nat.le_refl _
      · rename_i hc
        injection h with h
        subst h
        refine ⟨by omega, h2, fun j hj hja => ?_⟩
        rcases Nat.lt_succ_iff_lt_or_eq.1 hj with h4 | rfl
        · exact h3 j h4 hja
        · rcases Nat.lt_or_ge (wt l j) (wt l b') with h5 | h5
          · exact absurd ⟨hja, h5⟩ hc
          · exact h5
theorem pick {l : List Grp} (h : 2 ≤ l.length) : pa l < l.length ∧ pb l < l.length ∧ pb l ≠ pa l ∧ wt l (pa l) ≤ wt l (pb l) ∧ ∀ j, j < l.length → j ≠ pa l → wt l (pb l) ≤ wt l j := by
  have ha := aI_lt l l.length (by omega)
  cases hb : bI l (pa l) l.length with
  | none =>
    have h0 := bI_none hb 0 (by omega)
    have h1 := bI_none hb 1 (by omega)
    omega
  | some b =>
    obtain ⟨h1, h2, h3⟩ := bI_some hb
    have e : pb l = b := by unfold pb; rw [hb]; rfl
    rw [e]
    exact ⟨ha, h1, h2, aI_le l l.length b h1, h3⟩
theorem gat_mem {l : List Grp} {i : Nat} (h : i < l.length) : gat l i ∈ l := by
  unfold gat
  rw [List.getD_eq_getElem?_getD, List.getElem?_eq_getElem h]
  exact List.getElem_mem h
theorem take_gat {l : List Grp} {i : Nat} (h : i < l.length) : l.take (i + 1) = l.take i ++ [gat l i] := by
  have e : l[i]? = some (gat l i) := by
    unfold gat
    rw [List.getD_eq_getElem?_getD, List.getElem?_eq_getElem h]
    rfl
  exact take_snoc e
theorem rI_perm (l : List Grp) (a b : Nat) (hab : b ≠ a) (i : Nat) (hi : i ≤ l.length) :
    (l.take i).Perm ((if a < i then [gat l a] else []) ++ ((if b < i then [gat l b] else []) ++ rI l a b i)) := by
  induction i with
  | zero => simp [rI]
  | succ i ih =>
    have ih := ih (by omega)
    rw [take_gat (by omega), rI]
    by_cases h1 : i = a
    · subst h1
      rw [if_pos (show i < i + 1 by omega), if_neg (show ¬ (i ≠ i ∧ i ≠ b) from fun h => h.1 rfl)]
      have e : (if b < i + 1 then [gat l b] else []) = (if b < i then [gat l b] else []) := by
        by_cases h : b < i
        · rw [if_pos h, if_pos (by omega)]
        · rw [if_neg h, if_neg (by omega)]
      rw [e]
      rw [if_neg (show ¬ i < i by omega), List.nil_append] at ih
      exact (List.perm_append_comm).trans ((List.Perm.refl _).append ih)
    · by_cases h2 : i = b
      · subst h2
        rw [if_neg (show ¬ (i ≠ a ∧ i ≠ i) from fun h => h.2 rfl)]
        have e : (if a < i + 1 then [gat l a] else []) = (if a < i then [gat l a] else []) := by
          by_cases h : a < i
          · rw [if_pos h, if_pos (by omega)]
          · rw [if_neg h, if_neg (by omega)]
        rw [e, if_pos (show i < i + 1 by omega)]
        rw [if_neg (show ¬ i < i by omega), List.nil_append] at ih
        refine (List.perm_append_comm).trans ?_
        refine ((List.Perm.refl [gat l i]).append ih).trans ?_
        rw [← List.append_assoc, ← List.append_assoc]
        exact List.Perm.append_right _ List.perm_append_comm
      · rw [if_pos (show i ≠ a ∧ i ≠ b from ⟨h1, h2⟩)]
        have e1 : (if a < i + 1 then [gat l a] else []) = (if a < i then [gat l a] else []) := by
          by_cases h : a < i
          · rw [if_pos h, if_pos (by omega)]
          · rw [if_neg h, if_neg (by omega)]
        have e2 : (if b < i + 1 then [gat l b] else []) = (if b < i then [gat l b] else []) := by
          by_cases h : b < i
          · rw [if_pos h, if_pos (by omega)]
          · rw [if_neg h, if_neg (by omega)]
        rw [e1, e2]
        have := ih.append_right [gat l i]
        simpa [List.append_assoc] using this
/-- what a join takes, and what it leaves -/
theorem join_spec {l : List Grp} (h : 2 ≤ l.length) : ∃ x y R, l.Perm (x :: y :: R) ∧ joinG l = R ++ [⟨x.w + y.w, x.s ++ y.s⟩] ∧ grp l = ⟨x.w + y.w, x.s ++ y.s⟩ ∧ x.w ≤ y.w ∧ ∀ z ∈ R, y.w ≤ z.w := by
  obtain ⟨h1, h2, h3, h4, h5⟩ := pick h
  refine ⟨gat l (pa l), gat l (pb l), rI l (pa l) (pb l) l.length, ?_, rfl, rfl, h4, ?_⟩
  · have := rI_perm l (pa l) (pb l) h3 l.length (Nat.le_refl _)
    rw [List.take_length, if_pos h1, if_pos h2] at this
    exact this
  · have key : ∀ i, i ≤ l.length → ∀ z ∈ rI l (pa l) (pb l) i, wt l (pb l) ≤ z.w := by
      intro i
      induction i with
      | zero => intro _ z hz; simp [rI] at hz
      | succ i ih =>
        intro hi z hz
        rw [rI] at hz
        split at hz
        · rename_i hc
          rcases List.mem_append.1 hz with hz | hz
          · exact ih (by omega) z hz
          · simp at hz
            subst hz
            exact h5 i (by omega) hc.1
        · exact ih (by omega) z hz
    exact key l.length (Nat.le_refl _)
theorem join_len {l : List Grp} (h : 2 ≤ l.length) : (joinG l).length = l.length - 1 := by
  obtain ⟨x, y, R, hp, hj, _⟩ := join_spec h
  rw [hj]
  have := hp.length_eq
  simp at this ⊢
  omega
end Go.Proofs.YtjghcacepneipaaDoor.HuffM
