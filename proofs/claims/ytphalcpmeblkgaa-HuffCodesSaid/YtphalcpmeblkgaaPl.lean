/-
  Plain mathematics of layer 5: whether there is a code of lengths, its codes, what bits tell. Nothing of any program here.
  Plain mathematics of layer 5's lengths by weights: groups that are joined two by two, as the reference does it; weights that are halved till the lengths fit; that they fit in the end. Nothing of any program here.
  Plain mathematics of layer 5's lengths: where no weight is above 1 the lengths fit; so halving ends.
  Plain mathematics of layer 5's lengths: the loop of halving ends; symbols of no weight behind change nothing.
  Plain mathematics of layer 5's lengths: the depths of groups that are joined two by two, the least first: who weighs more is no deeper, the depths' parts make one whole, and a deep one wants much weight.
  Plain mathematics of layer 5's lengths: the reference's joins make depths (XHuffP), in the groups' own row.
  Plain mathematics of layer 5: the lengths by weights: a code there is (Kraft's sum is whole), 0 just of who has no weight, who weighs more has no longer one, and with little weight nothing is halved.
  Plain mathematics of a stable sort by swaps: what a swap does to a list in pieces; the order by keys, then by numbers. Nothing of any program here.
  Plain mathematics of layer 5's codes: the symbols that have codes, by their lengths, then by their numbers; codes are counted up in that order. Nothing of any program here.
  Plain mathematics of layer 5's codes: where each symbol's code lies, and what a coder reads by counting alone. Nothing of any program here.
  Plain mathematics of a heap of nodes (weights, numbers): what sifting down, sifting up keep. Nothing of any program here.
  Plain mathematics of layer 5's lengths: the program's joins, told by numbers, are the reference's; depths, from the last join on, are how often a symbol was joined. Nothing of any program here.
  Plain mathematics of layer 1: lists of bits, the bytes that they make, the number that they tell. Nothing of any program here.
-/
import Derived.WalkKit
namespace Go.Proofs.Ytphalcpmeblkgaa.HuffM

def inR (x : Int) : Bool := decide (0 ≤ x) && decide (x ≤ 15)
/-- what a length takes of 2^15 -/
def kr (x : Int) : Nat := if 0 < x then 32768 / 2 ^ x.toNat else 0
def rsum (L : List Int) : Nat := (L.map kr).sum
def many (L : List Int) : Nat := L.countP fun x => decide (0 < x)
def ones (L : List Int) : Nat := L.countP fun x => decide (x = 1)
def rightB (L : List Int) : Bool := L.all inR && (rsum L == 32768 || (many L == 1 && ones L == 1))
theorem kr_le (x : Int) : kr x ≤ 32768 := by
  unfold kr
  split
  · exact Nat.div_le_self _ _
  · omega
theorem kr_zero : kr 0 = 0 := rfl
theorem rsum_snoc (L : List Int) (x : Int) : rsum (L ++ [x]) = rsum L + kr x := by simp [rsum]
theorem many_snoc (L : List Int) (x : Int) : many (L ++ [x]) = many L + if 0 < x then 1 else 0 := by unfold many; rw [List.countP_append]; simp [List.countP_cons]
theorem ones_snoc (L : List Int) (x : Int) : ones (L ++ [x]) = ones L + if x = 1 then 1 else 0 := by unfold ones; rw [List.countP_append]; simp [List.countP_cons]
theorem rsum_le (L : List Int) : rsum L ≤ 32768 * L.length := by
  induction L with
  | nil => simp [rsum]
  | cons x L ih =>
    have := kr_le x
    simp only [rsum, List.map_cons, List.sum_cons, List.length_cons] at ih ⊢
    omega
theorem many_le (L : List Int) : many L ≤ L.length := List.countP_le_length
theorem ones_le (L : List Int) : ones L ≤ L.length := List.countP_le_length
theorem all_snoc (L : List Int) (x : Int) : (L ++ [x]).all inR = (L.all inR && inR x) := by simp [List.all_append]
theorem not_right {L : List Int} {k : Nat} {x : Int} (hx : L[k]? = some x) (h : inR x = false) : rightB L = false := by
  have : L.all inR = false := by
    rw [List.all_eq_false]
    exact ⟨x, List.mem_of_getElem? hx, by rw [h]; simp⟩
  unfold rightB
  rw [this]
  rfl
theorem take_snoc {α : Type} {L : List α} {k : Nat} {x : α} (hx : L[k]? = some x) : L.take (k + 1) = L.take k ++ [x] := by rw [List.take_add_one, hx]; rfl

/-- the state of the codes that are counted up -/
structure CS where
  code : Nat
  last : Nat
  out : List Nat
def nextCode (k : Nat) (c : CS) : Nat := if 0 < c.last then (c.code + 1) % 18446744073709551616 * 2 ^ (k - c.last) % 18446744073709551616 else c.code
def cstep (L : List Int) (k s : Nat) (c : CS) : CS := if L.getD s 0 = (k : Int) then ⟨nextCode k c, k, c.out.set s (nextCode k c)⟩ else c
/-- the first s symbols at length k -/
def crow (L : List Int) (k : Nat) (c : CS) : Nat → CS
  | 0 => c
  | s + 1 => cstep L k s (crow L k c s)
/-- the lengths 1 to k -/
def call (L : List Int) : Nat → CS
  | 0 => ⟨0, 0, List.replicate L.length 0⟩
  | k + 1 => crow L (k + 1) (call L k) L.length
def codesL (L : List Int) : List Nat := (call L 15).out
theorem code_cast (a e : Nat) : ((a : Int) + 1) % 18446744073709551616 * 2 ^ e % 18446744073709551616 = (((a + 1) % 18446744073709551616 * 2 ^ e % 18446744073709551616 : Nat) : Int) := by
  rw [Int.natCast_emod, Int.natCast_mul, Int.natCast_emod, Int.natCast_add, Int.natCast_pow]
  rfl
theorem nextCode_lt {k : Nat} {c : CS} (h : c.code < 18446744073709551616) : nextCode k c < 18446744073709551616 := by
  unfold nextCode
  split
  · exact Nat.mod_lt _ (by omega)
  · exact h
/-- lengths, numbers within a word -/
def CS.ok (n k : Nat) (c : CS) : Prop := c.code < 18446744073709551616 ∧ c.last ≤ k ∧ c.out.length = n ∧ ∀ x ∈ c.out, x < 18446744073709551616
theorem cstep_ok {L : List Int} {n k s : Nat} {c : CS} (h : c.ok n k) : (cstep L k s c).ok n k := by
  unfold cstep
  split
  · refine ⟨nextCode_lt h.1, Nat.le_refl _, by simp [h.2.2.1], ?_⟩
    intro x hx
    rcases List.mem_or_eq_of_mem_set hx with hx | rfl
    · exact h.2.2.2 x hx
    · exact nextCode_lt h.1
  · exact h
theorem crow_ok {L : List Int} {n k : Nat} {c : CS} (h : c.ok n k) (s : Nat) : (crow L k c s).ok n k := by
  induction s with
  | zero => exact h
  | succ s ih => exact cstep_ok ih
theorem CS.ok.mono {n k k' : Nat} {c : CS} (h : c.ok n k) (hk : k ≤ k') : c.ok n k' := ⟨h.1, Nat.le_trans h.2.1 hk, h.2.2⟩
theorem call_ok (L : List Int) (k : Nat) : (call L k).ok L.length k := by
  induction k with
  | zero =>
    refine ⟨by show 0 < _; omega, Nat.le_refl _, by simp [call], ?_⟩
    intro x hx
    have := List.eq_of_mem_replicate hx
    omega
  | succ k ih => exact crow_ok (ih.mono (by omega)) _
theorem codes_len (L : List Int) : (codesL L).length = L.length := (call_ok L 15).2.2.1
theorem codes_lt (L : List Int) : ∀ x ∈ codesL L, x < 18446744073709551616 := (call_ok L 15).2.2.2

/-- the number that the first k bits tell -/
def bcode (B : List UInt8) (k : Nat) : Nat := (B.take k).foldl (fun c b => 2 * c + b.toNat) 0
theorem bcode_succ {B : List UInt8} {k : Nat} {b : UInt8} (h : B[k]? = some b) : bcode B (k + 1) = 2 * bcode B k + b.toNat := by
  unfold bcode
  rw [take_snoc h, List.foldl_append]
  rfl
theorem bcode_lt (B : List UInt8) (k : Nat) : bcode B k ≤ 255 * (2 ^ k - 1) := by
  induction k with
  | zero => simp [bcode]
  | succ k ih =>
    cases h : B[k]? with
    | none =>
      have hl : B.length ≤ k := by simpa using h
      have e : bcode B (k + 1) = bcode B k := by unfold bcode; rw [List.take_of_length_le (by omega), List.take_of_length_le hl]
      rw [e, Nat.pow_succ]
      omega
    | some b =>
      have := b.toNat_lt
      rw [bcode_succ h, Nat.pow_succ]
      have : 1 ≤ 2 ^ k := Nat.one_le_two_pow
      omega
/-- does symbol s begin here? -/
def hits (L : List Int) (B : List UInt8) (s : Nat) : Bool :=
  let k := L.getD s 0
  k != 0 && decide (k ≤ (B.length : Int)) && bcode B k.toNat == (codesL L).getD s 0
/-- the first symbol of n whose code bits begin with -/
def firstHit (L : List Int) (B : List UInt8) (n : Nat) : Option Nat := (List.range n).find? (hits L B)
def nextS (L : List Int) (B : List UInt8) : Int × Int := match firstHit L B L.length with
  | some s => ((s : Int), L.getD s 0)
  | none => (-1, 0)
theorem first_none (L : List Int) (B : List UInt8) : firstHit L B 0 = none := rfl
theorem first_step {L : List Int} {B : List UInt8} {s : Nat} (h : firstHit L B s = none) : firstHit L B (s + 1) = if hits L B s = true then some s else none := by
  unfold firstHit at h ⊢
  rw [List.range_succ, List.find?_append, h]
  simp only [Option.none_or, List.find?_cons, List.find?_nil]
  cases hits L B s <;> rfl
theorem first_of {L : List Int} {B : List UInt8} {s n : Nat} (h : firstHit L B s = none) (hs : hits L B s = true) (hn : s < n) : firstHit L B n = some s := by
  have h1 := first_step h
  rw [if_pos hs] at h1
  obtain ⟨d, rfl⟩ : ∃ d, n = (s + 1) + d := ⟨n - (s + 1), by omega⟩
  unfold firstHit at h1 ⊢
  rw [List.range_add, List.find?_append, h1]
  rfl
end Go.Proofs.Ytphalcpmeblkgaa.HuffM
namespace Go.Proofs.Ytphalcpmeblkgaa.HuffM

structure Grp where
  w : Nat
  s : List Nat
def gat (l : List Grp) (i : Nat) : Grp := l.getD i ⟨0, []⟩
def wt (l : List Grp) (i : Nat) : Nat := (gat l i).w
/-- the first of the least ones among the first i -/
def aI (l : List Grp) : Nat → Nat
  | 0 => 0
  | i + 1 => if wt l i < wt l (aI l i) then i else aI l i
/-- the first of the least ones among the first i, but a -/
def bI (l : List Grp) (a : Nat) : Nat → Option Nat
  | 0 => none
  | i + 1 => match bI l a i with
    | none => if i ≠ a then some i else none
    | some b => if i ≠ a ∧ wt l i < wt l b then some i else some b
/-- the first i, but a and b -/
def rI (l : List Grp) (a b : Nat) : Nat → List Grp
  | 0 => []
  | i + 1 => if i ≠ a ∧ i ≠ b then rI l a b i ++ [gat l i] else rI l a b i
def inc (o : List Nat) (s : Nat) : List Nat := o.set s (o.getD s 0 + 1)
def incs (o : List Nat) (S : List Nat) : List Nat := S.foldl inc o
def pa (l : List Grp) : Nat := aI l l.length
def pb (l : List Grp) : Nat := (bI l (pa l) l.length).getD 0
def grp (l : List Grp) : Grp := ⟨wt l (pa l) + wt l (pb l), (gat l (pa l)).s ++ (gat l (pb l)).s⟩
def joinG (l : List Grp) : List Grp := rI l (pa l) (pb l) l.length ++ [grp l]
def mergeF : Nat → List Grp → List Nat → List Nat
  | 0, _, o => o
  | f + 1, l, o => if l.length ≤ 1 then o else mergeF f (joinG l) (incs o (grp l).s)
/-- the groups of the first i weights -/
def gI (W : List Nat) : Nat → List Grp
  | 0 => []
  | i + 1 => if 0 < W.getD i 0 then gI W i ++ [⟨W.getD i 0, [i]⟩] else gI W i
def once0 (W : List Nat) : List Nat := List.replicate W.length 0
def onceL (W : List Nat) : List Nat :=
  let l := gI W W.length
  mergeF l.length l (if l.length = 1 then (once0 W).set ((gat l 0).s.getD 0 0) 1 else once0 W)
def half (W : List Nat) : List Nat := W.map fun x => x / 2 + x % 2
def lensF (most : Nat) : Nat → List Nat → List Nat
  | 0, W => onceL W
  | f + 1, W => if (onceL W).all (fun x => decide (x ≤ most)) = true then onceL W else lensF most f (half W)
def lens (most : Nat) (W : List Nat) : List Nat := lensF most (W.sum + 1) W

theorem aI_lt (l : List Grp) (i : Nat) (hi : 0 < i) : aI l i < i := by
  induction i with
  | zero => omega
  | succ i ih =>
    rw [aI]
    split
    · omega
    · rcases Nat.eq_zero_or_pos i with rfl | h
      · simp [aI]
      · have := ih h; omega
theorem aI_le (l : List Grp) (i : Nat) : ∀ j, j < i → wt l (aI l i) ≤ wt l j := by
  induction i with
  | zero => intro j hj; omega
  | succ i ih =>
    intro j hj
    rw [aI]
    split
    · rename_i h
      rcases Nat.lt_succ_iff_lt_or_eq.1 hj with h1 | rfl
      · have := ih j h1; omega
      · omega
    · rename_i h
      rcases Nat.lt_succ_iff_lt_or_eq.1 hj with h1 | rfl
      · exact ih j h1
      · omega
theorem bI_none {l : List Grp} {a i : Nat} (h : bI l a i = none) : ∀ j, j < i → j = a := by
  induction i with
  | zero => intro j hj; omega
  | succ i ih =>
    rw [bI] at h
    cases hb : bI l a i with
    | none =>
      rw [hb] at h
      simp only at h
      intro j hj
      rcases Nat.lt_succ_iff_lt_or_eq.1 hj with h1 | rfl
      · exact ih hb j h1
      · by_cases e : j = a
        · exact e
        · rw [if_pos e] at h; cases h
    | some b =>
      rw [hb] at h
      simp only at h
      split at h <;> cases h
theorem bI_some {l : List Grp} {a i b : Nat} (h : bI l a i = some b) : b < i ∧ b ≠ a ∧ ∀ j, j < i → j ≠ a → wt l b ≤ wt l j := by
  induction i generalizing b with
  | zero => cases h
  | succ i ih =>
    rw [bI] at h
    cases hb : bI l a i with
    | none =>
      rw [hb] at h
      simp only at h
      split at h
      · rename_i hia
        injection h with h
        subst h
        refine ⟨by omega, hia, fun j hj hja => ?_⟩
        rcases Nat.lt_succ_iff_lt_or_eq.1 hj with h1 | rfl
        · exact absurd (bI_none hb j h1) hja
        · exact Nat.le_refl _
      · cases h
    | some b' =>
      rw [hb] at h
      simp only at h
      obtain ⟨h1, h2, h3⟩ := ih hb
      split at h
      · rename_i hc
        injection h with h
        subst h
        refine ⟨by omega, hc.1, fun j hj hja => ?_⟩
        rcases Nat.lt_succ_iff_lt_or_eq.1 hj with h4 | rfl
        · have := h3 j h4 hja; omega
        · exact Nat.le_refl _
      · rename_i hc
        injection h with h
        subst h
        refine ⟨by omega, h2, fun j hj hja => ?_⟩
        rcases Nat.lt_succ_iff_lt_or_eq.1 hj with h4 | rfl
        · exact h3 j h4 hja
        · rcases Nat.lt_or_ge (wt l j) (wt l b') with h5 | h5
          · exact absurd ⟨hja, h5⟩ hc
          · exact h5
theorem pick {l : List Grp} (h : 2 ≤ l.length) : pa l < l.length ∧ pb l < l.length ∧ pb l ≠ pa l ∧ wt l (pa l) ≤ wt l (pb l) ∧ ∀ j, j < l.length → j ≠ pa l → wt l (pb l) ≤ wt l j := by
  have ha := aI_lt l l.length (by omega)
  cases hb : bI l (pa l) l.length with
  | none =>
    have h0 := bI_none hb 0 (by omega)
    have h1 := bI_none hb 1 (by omega)
    omega
  | some b =>
    obtain ⟨h1, h2, h3⟩ := bI_some hb
    have e : pb l = b := by unfold pb; rw [hb]; rfl
    rw [e]
    exact ⟨ha, h1, h2, aI_le l l.length b h1, h3⟩
theorem gat_mem {l : List Grp} {i : Nat} (h : i < l.length) : gat l i ∈ l := by
  unfold gat
  rw [List.getD_eq_getElem?_getD, List.getElem?_eq_getElem h]
  exact List.getElem_mem h
theorem take_gat {l : List Grp} {i : Nat} (h : i < l.length) : l.take (i + 1) = l.take i ++ [gat l i] := by
  have e : l[i]? = some (gat l i) := by
    unfold gat
    rw [List.getD_eq_getElem?_getD, List.getElem?_eq_getElem h]
    rfl
  exact take_snoc e
theorem rI_perm (l : List Grp) (a b : Nat) (hab : b ≠ a) (i : Nat) (hi : i ≤ l.length) :
    (l.take i).Perm ((if a < i then [gat l a] else []) ++ ((if b < i then [gat l b] else []) ++ rI l a b i)) := by
  induction i with
  | zero => simp [rI]
  | succ i ih =>
    have ih := ih (by omega)
    rw [take_gat (by omega), rI]
    by_cases h1 : i = a
    · subst h1
      rw [if_pos (show i < i + 1 by omega), if_neg (show ¬ (i ≠ i ∧ i ≠ b) from fun h => h.1 rfl)]
      have e : (if b < i + 1 then [gat l b] else []) = (if b < i then [gat l b] else []) := by
        by_cases h : b < i
        · rw [if_pos h, if_pos (by omega)]
        · rw [if_neg h, if_neg (by omega)]
      rw [e]
      rw [if_neg (show ¬ i < i by omega), List.nil_append] at ih
      exact (List.perm_append_comm).trans ((List.Perm.refl _).append ih)
    · by_cases h2 : i = b
      · subst h2
        rw [if_neg (show ¬ (i ≠ a ∧ i ≠ i) from fun h => h.2 rfl)]
        have e : (if a < i + 1 then [gat l a] else []) = (if a < i then [gat l a] else []) := by
          by_cases h : a < i
          · rw [if_pos h, if_pos (by omega)]
          · rw [if_neg h, if_neg (by omega)]
        rw [e, if_pos (show i < i + 1 by omega)]
        rw [if_neg (show ¬ i < i by omega), List.nil_append] at ih
        refine (List.perm_append_comm).trans ?_
        refine ((List.Perm.refl [gat l i]).append ih).trans ?_
        rw [← List.append_assoc, ← List.append_assoc]
        exact List.Perm.append_right _ List.perm_append_comm
      · rw [if_pos (show i ≠ a ∧ i ≠ b from ⟨h1, h2⟩)]
        have e1 : (if a < i + 1 then [gat l a] else []) = (if a < i then [gat l a] else []) := by
          by_cases h : a < i
          · rw [if_pos h, if_pos (by omega)]
          · rw [if_neg h, if_neg (by omega)]
        have e2 : (if b < i + 1 then [gat l b] else []) = (if b < i then [gat l b] else []) := by
          by_cases h : b < i
          · rw [if_pos h, if_pos (by omega)]
          · rw [if_neg h, if_neg (by omega)]
        rw [e1, e2]
        have := ih.append_right [gat l i]
        simpa [List.append_assoc] using this
/-- what a join takes, and what it leaves -/
theorem join_spec {l : List Grp} (h : 2 ≤ l.length) : ∃ x y R, l.Perm (x :: y :: R) ∧ joinG l = R ++ [⟨x.w + y.w, x.s ++ y.s⟩] ∧ grp l = ⟨x.w + y.w, x.s ++ y.s⟩ ∧ x.w ≤ y.w ∧ ∀ z ∈ R, y.w ≤ z.w := by
  obtain ⟨h1, h2, h3, h4, h5⟩ := pick h
  refine ⟨gat l (pa l), gat l (pb l), rI l (pa l) (pb l) l.length, ?_, rfl, rfl, h4, ?_⟩
  · have := rI_perm l (pa l) (pb l) h3 l.length (Nat.le_refl _)
    rw [List.take_length, if_pos h1, if_pos h2] at this
    exact this
  · have key : ∀ i, i ≤ l.length → ∀ z ∈ rI l (pa l) (pb l) i, wt l (pb l) ≤ z.w := by
      intro i
      induction i with
      | zero => intro _ z hz; simp [rI] at hz
      | succ i ih =>
        intro hi z hz
        rw [rI] at hz
        split at hz
        · rename_i hc
          rcases List.mem_append.1 hz with hz | hz
          · exact ih (by omega) z hz
          · simp at hz
            subst hz
            exact h5 i (by omega) hc.1
        · exact ih (by omega) z hz
    exact key l.length (Nat.le_refl _)
theorem join_len {l : List Grp} (h : 2 ≤ l.length) : (joinG l).length = l.length - 1 := by
  obtain ⟨x, y, R, hp, hj, _⟩ := join_spec h
  rw [hj]
  have := hp.length_eq
  simp at this ⊢
  omega
end Go.Proofs.Ytphalcpmeblkgaa.HuffM
namespace Go.Proofs.Ytphalcpmeblkgaa.HuffM

def oat (o : List Nat) (s : Nat) : Nat := o.getD s 0
def sy (l : List Grp) : List Nat := l.flatMap (·.s)
theorem inc_len (o : List Nat) (s : Nat) : (inc o s).length = o.length := by simp [inc]
theorem incs_len (o S : List Nat) : (incs o S).length = o.length := by
  unfold incs
  induction S generalizing o with
  | nil => rfl
  | cons s S ih => rw [List.foldl_cons, ih, inc_len]
theorem inc_at (o : List Nat) (s t : Nat) (hs : s < o.length) : oat (inc o s) t = if s = t then oat o t + 1 else oat o t := by
  unfold oat inc
  rw [List.getD_eq_getElem?_getD, List.getElem?_set]
  by_cases h : s = t
  · subst h; simp [hs]
  · rw [if_neg h, if_neg h, ← List.getD_eq_getElem?_getD]
theorem incs_at (o S : List Nat) (hS : ∀ s ∈ S, s < o.length) (hn : S.Nodup) (t : Nat) : oat (incs o S) t = if t ∈ S then oat o t + 1 else oat o t := by
  induction S generalizing o with
  | nil => simp [incs]
  | cons s S ih =>
    have hn' := List.nodup_cons.1 hn
    have h := ih (inc o s) (by intro x hx; rw [inc_len]; exact hS x (List.mem_cons_of_mem _ hx)) hn'.2
    have e : incs o (s :: S) = incs (inc o s) S := rfl
    rw [e, h, inc_at o s t (hS s (List.mem_cons_self ..))]
    by_cases h1 : s = t
    · subst h1
      rw [if_neg hn'.1]
      simp
    · by_cases h2 : t ∈ S
      · rw [if_pos h2, if_neg h1, if_pos (List.mem_cons_of_mem _ h2)]
      · rw [if_neg h2, if_neg h1, if_neg (by intro h; rcases List.mem_cons.1 h with h | h; exact h1 h.symm; exact h2 h)]
theorem sy_perm {l l' : List Grp} (h : l.Perm l') : (sy l).Perm (sy l') := h.flatMap_right _
theorem sy_join {l : List Grp} (h : 2 ≤ l.length) : (sy (joinG l)).Perm (sy l) := by
  obtain ⟨x, y, R, hp, hj, _⟩ := join_spec h
  rw [hj]
  refine List.Perm.trans ?_ (sy_perm hp).symm
  unfold sy
  rw [List.flatMap_append]
  simp only [List.flatMap_cons, List.flatMap_nil, List.append_nil]
  exact List.perm_append_comm.trans (List.Perm.of_eq (List.append_assoc ..))
def sumW (l : List Grp) : Nat := (l.map (·.w)).sum
theorem sum_join {l : List Grp} (h : 2 ≤ l.length) : sumW (joinG l) = sumW l := by
  obtain ⟨x, y, R, hp, hj, _⟩ := join_spec h
  rw [hj]
  unfold sumW
  rw [(hp.map (·.w)).sum_nat]
  simp
  omega
/-- symbols stand in one group, who stands in none has no length yet -/
structure Good (l : List Grp) (o : List Nat) : Prop where
  nd : (sy l).Nodup
  lt : ∀ s ∈ sy l, s < o.length
  out : ∀ s, s ∉ sy l → oat o s = 0
theorem mem_sy {l : List Grp} {g : Grp} {s : Nat} (hg : g ∈ l) (hs : s ∈ g.s) : s ∈ sy l := List.mem_flatMap.2 ⟨g, hg, hs⟩
theorem Good.join {l : List Grp} {o : List Nat} (hg : Good l o) (h : 2 ≤ l.length) :
    Good (joinG l) (incs o (grp l).s) ∧ (∀ s ∈ (grp l).s, oat (incs o (grp l).s) s = oat o s + 1) ∧ (∀ s, s ∉ (grp l).s → oat (incs o (grp l).s) s = oat o s) := by
  obtain ⟨x, y, R, hp, hj, hgr, _⟩ := join_spec h
  have hs : ∀ s ∈ (grp l).s, s ∈ sy l := by
    intro s hs
    rw [hgr] at hs
    rcases List.mem_append.1 hs with h1 | h1
    · exact mem_sy (hp.symm.subset (List.mem_cons_self ..)) h1
    · exact mem_sy (hp.symm.subset (List.mem_cons_of_mem _ (List.mem_cons_self ..))) h1
  have hn : (grp l).s.Nodup := by
    have h1 := (sy_perm hp).nodup_iff.1 hg.nd
    unfold sy at h1
    simp only [List.flatMap_cons] at h1
    rw [← List.append_assoc] at h1
    rw [hgr]
    exact (List.nodup_append.1 h1).1
  have hat := incs_at o (grp l).s (fun s h => hg.lt s (hs s h)) hn
  refine ⟨⟨(sy_join h).nodup_iff.2 hg.nd, fun s h1 => ?_, fun s h1 => ?_⟩, fun s h1 => by rw [hat, if_pos h1], fun s h1 => by rw [hat, if_neg h1]⟩
  · rw [incs_len]; exact hg.lt s ((sy_join h).subset h1)
  · have h2 : s ∉ sy l := fun h3 => h1 ((sy_join h).symm.subset h3)
    rw [hat, if_neg (fun h3 => h2 (hs s h3))]
    exact hg.out s h2
def irr (k : Nat) (g : Grp) : Bool := decide (2 ^ k < g.w) && decide (g.w < 2 ^ (k + 1))
/-- weights between 2^k and twice as much, at most one of them strictly between; lengths as high as weights say -/
structure Inv (k : Nat) (l : List Grp) (o : List Nat) : Prop where
  reg : ∀ g ∈ l, (g.w = 2 ^ k ∧ ∀ s ∈ g.s, oat o s ≤ k) ∨ (2 ^ k < g.w ∧ g.w ≤ 2 ^ (k + 1) ∧ ∀ s ∈ g.s, oat o s ≤ k + 1)
  one : l.countP (irr k) ≤ 1
theorem disj {x y : Grp} {R : List Grp} (h : (sy (x :: y :: R)).Nodup) {z : Grp} (hz : z ∈ R) {s : Nat} (hs : s ∈ z.s) : s ∉ x.s ++ y.s := by
  unfold sy at h
  simp only [List.flatMap_cons] at h
  rw [← List.append_assoc] at h
  intro h1
  exact (List.nodup_append.1 h).2.2 s h1 s (List.mem_flatMap.2 ⟨z, hz, hs⟩) rfl
theorem Inv.join {k : Nat} {l : List Grp} {o : List Nat} (hi : Inv k l o) (hg : Good l o) (h : 2 ≤ l.length) : ∃ k', Inv k' (joinG l) (incs o (grp l).s) := by
  obtain ⟨_, hin, hout⟩ := hg.join h
  obtain ⟨x, y, R, hp, hj, hgr, hxy, hR⟩ := join_spec h
  have hnd := (sy_perm hp).nodup_iff.1 hg.nd
  have hx := hi.reg x (hp.symm.subset (List.mem_cons_self ..))
  have hy := hi.reg y (hp.symm.subset (List.mem_cons_of_mem _ (List.mem_cons_self ..)))
  have hz : ∀ z ∈ R, (z.w = 2 ^ k ∧ ∀ s ∈ z.s, oat o s ≤ k) ∨ (2 ^ k < z.w ∧ z.w ≤ 2 ^ (k + 1) ∧ ∀ s ∈ z.s, oat o s ≤ k + 1) :=
    fun z hz => hi.reg z (hp.symm.subset (List.mem_cons_of_mem _ (List.mem_cons_of_mem _ hz)))
  have hzo : ∀ z ∈ R, ∀ s ∈ z.s, oat (incs o (grp l).s) s = oat o s := fun z hz s hs => hout s (by rw [hgr]; exact disj hnd hz hs)
  have hone := hi.one
  rw [hp.countP_eq, List.countP_cons, List.countP_cons] at hone
  have hsx : ∀ s ∈ x.s, oat (incs o (grp l).s) s = oat o s + 1 := fun s hs => hin s (by rw [hgr]; exact List.mem_append_left _ hs)
  have hsy : ∀ s ∈ y.s, oat (incs o (grp l).s) s = oat o s + 1 := fun s hs => hin s (by rw [hgr]; exact List.mem_append_right _ hs)
  obtain ⟨O, hO⟩ : ∃ O, O = incs o (grp l).s := ⟨_, rfl⟩
  rw [← hO] at hzo hsx hsy ⊢
  rw [hj]
  have e1 : (2 : Nat) ^ (k + 1) = 2 ^ k * 2 := Nat.pow_succ ..
  have e2 : (2 : Nat) ^ (k + 2) = 2 ^ k * 2 * 2 := by rw [Nat.pow_succ, e1]
  have hP : 0 < (2 : Nat) ^ k := Nat.two_pow_pos k
  by_cases hyk : y.w = 2 ^ k
  · have hxk : x.w = 2 ^ k := by rcases hx with hx | hx <;> omega
    refine ⟨k, ⟨fun g hg => ?_, ?_⟩⟩
    · rcases List.mem_append.1 hg with hg | hg
      · rcases hz g hg with ⟨h1, h2⟩ | ⟨h1, h2, h3⟩
        · exact .inl ⟨h1, fun s hs => by rw [hzo g hg s hs]; exact h2 s hs⟩
        · exact .inr ⟨h1, h2, fun s hs => by rw [hzo g hg s hs]; exact h3 s hs⟩
      · simp at hg
        subst hg
        refine .inr ⟨by show 2 ^ k < x.w + y.w; omega, by show x.w + y.w ≤ _; omega, fun s hs => ?_⟩
        have hx2 : ∀ s ∈ x.s, oat o s ≤ k := by rcases hx with hx | hx; exact hx.2; omega
        have hy2 : ∀ s ∈ y.s, oat o s ≤ k := by rcases hy with hy | hy; exact hy.2; omega
        rcases List.mem_append.1 hs with hs | hs
        · rw [hsx s hs]; have := hx2 s hs; omega
        · rw [hsy s hs]; have := hy2 s hs; omega
    · rw [List.countP_append]
      have : irr k ⟨x.w + y.w, x.s ++ y.s⟩ = false := by simp [irr]; omega
      simp [this]
      omega
  · have hyk2 : 2 ^ k < y.w := by rcases hy with hy | hy <;> omega
    have hz2 : ∀ z ∈ R, z.w = 2 ^ (k + 1) := by
      intro z hzR
      have h1 := hR z hzR
      rcases hz z hzR with h2 | ⟨h2, h3, _⟩
      · omega
      · rcases Nat.lt_or_ge z.w (2 ^ (k + 1)) with h4 | h4
        · exfalso
          have hy3 : irr k y = true := by simp [irr]; omega
          have hz3 : irr k z = true := by simp [irr]; omega
          have : 0 < R.countP (irr k) := List.countP_pos_iff.2 ⟨z, hzR, hz3⟩
          rw [hy3] at hone
          simp at hone
          omega
        · omega
    refine ⟨k + 1, ⟨fun g hg => ?_, ?_⟩⟩
    · rcases List.mem_append.1 hg with hg | hg
      · refine .inl ⟨hz2 g hg, fun s hs => ?_⟩
        rw [hzo g hg s hs]
        rcases hz g hg with ⟨h1, h2⟩ | ⟨h1, h2, h3⟩
        · have := h2 s hs; omega
        · exact h3 s hs
      · simp at hg
        subst hg
        have hx2 : ∀ s ∈ x.s, oat o s ≤ k + 1 := by
          intro s hs
          rcases hx with hx | hx
          · have := hx.2 s hs; omega
          · exact hx.2.2 s hs
        have hy2 : ∀ s ∈ y.s, oat o s ≤ k + 1 := by
          intro s hs
          rcases hy with hy | hy
          · have := hy.2 s hs; omega
          · exact hy.2.2 s hs
        refine .inr ⟨?_, ?_, fun s hs => ?_⟩
        · show 2 ^ (k + 1) < x.w + y.w; rcases hx with hx | hx <;> omega
        · show x.w + y.w ≤ 2 ^ (k + 2)
          rcases hx with hx | hx <;> rcases hy with hy | hy <;> omega
        · rcases List.mem_append.1 hs with hs | hs
          · rw [hsx s hs]; have := hx2 s hs; omega
          · rw [hsy s hs]; have := hy2 s hs; omega
    · rw [List.countP_append]
      have h0 : R.countP (irr (k + 1)) = 0 := by
        rw [List.countP_eq_zero]
        intro z hzR
        have := hz2 z hzR
        simp [irr]
        omega
      rw [h0]
      have := List.countP_le_length (p := irr (k + 1)) (l := [(⟨x.w + y.w, x.s ++ y.s⟩ : Grp)])
      simp only [List.length_singleton] at this
      omega
theorem merge_fits (most f : Nat) : ∀ (k : Nat) (l : List Grp) (o : List Nat), l.length ≤ f → Inv k l o → Good l o → sumW l ≤ 2 ^ most → ∀ s, oat (mergeF f l o) s ≤ most := by
  have one : ∀ (k : Nat) (l : List Grp) (o : List Nat), l.length ≤ 1 → Inv k l o → Good l o → sumW l ≤ 2 ^ most → ∀ s, oat o s ≤ most := by
    intro k l o hl hi hg hs s
    by_cases hm : s ∈ sy l
    · obtain ⟨g, hgl, hsg⟩ := List.mem_flatMap.1 hm
      match l, hl, hgl with
      | [g'], _, hgl =>
        simp at hgl
        subst hgl
        have hw : sumW [g] = g.w := by simp [sumW]
        rw [hw] at hs
        rcases hi.reg g (List.mem_singleton.2 rfl) with ⟨h1, h2⟩ | ⟨h1, _, h3⟩
        · have := h2 s hsg
          have h4 : k ≤ most := (Nat.pow_le_pow_iff_right (by omega)).1 (show 2 ^ k ≤ 2 ^ most by omega)
          omega
        · have := h3 s hsg
          have h4 : k < most := (Nat.pow_lt_pow_iff_right (by omega)).1 (show 2 ^ k < 2 ^ most by omega)
          omega
    · rw [hg.out s hm]; omega
  induction f with
  | zero => intro k l o hl hi hg hs s; exact one k l o (by omega) hi hg hs s
  | succ f ih =>
    intro k l o hl hi hg hs s
    rw [mergeF]
    split
    · rename_i h; exact one k l o h hi hg hs s
    · rename_i h
      obtain ⟨k', hi'⟩ := hi.join hg (by omega)
      exact ih k' (joinG l) (incs o (grp l).s) (by rw [join_len (by omega)]; omega) hi' (hg.join (by omega)).1 (by rw [sum_join (by omega)]; exact hs) s
end Go.Proofs.Ytphalcpmeblkgaa.HuffM
namespace Go.Proofs.Ytphalcpmeblkgaa.HuffM

def cnt (W : List Nat) : Nat := W.countP fun x => decide (0 < x)
def fits (most : Nat) (o : List Nat) : Bool := o.all fun x => decide (x ≤ most)
theorem half_len (W : List Nat) : (half W).length = W.length := by simp [half]
theorem cnt_half (W : List Nat) : cnt (half W) = cnt W := by
  unfold cnt half
  rw [List.countP_map]
  congr 1
  funext x
  simp only [Function.comp_def]
  rw [Bool.eq_iff_iff]
  simp
  omega
theorem sum_half_le (W : List Nat) : (half W).sum ≤ W.sum := by
  induction W with
  | nil => simp [half]
  | cons x W ih => simp only [half, List.map_cons, List.sum_cons] at ih ⊢; omega
theorem sum_half_lt (W : List Nat) (h : ∃ x ∈ W, 1 < x) : (half W).sum < W.sum := by
  induction W with
  | nil => obtain ⟨x, hx, _⟩ := h; simp at hx
  | cons y W ih =>
    obtain ⟨x, hx, h1⟩ := h
    have := sum_half_le W
    rcases List.mem_cons.1 hx with rfl | hx
    · simp only [half, List.map_cons, List.sum_cons] at this ⊢; omega
    · have := ih ⟨x, hx, h1⟩
      simp only [half, List.map_cons, List.sum_cons] at this ⊢; omega
theorem gI_step (W : List Nat) (i : Nat) : gI W (i + 1) = if 0 < W.getD i 0 then gI W i ++ [⟨W.getD i 0, [i]⟩] else gI W i := rfl
theorem sy_snoc (l : List Grp) (g : Grp) : sy (l ++ [g]) = sy l ++ g.s := by simp [sy]
theorem gI_sy (W : List Nat) (i : Nat) : (∀ s ∈ sy (gI W i), s < i) ∧ (sy (gI W i)).Nodup := by
  induction i with
  | zero => simp [gI, sy]
  | succ i ih =>
    rw [gI_step]
    split
    · rw [sy_snoc]
      refine ⟨fun s hs => ?_, ?_⟩
      · rcases List.mem_append.1 hs with hs | hs
        · have := ih.1 s hs; omega
        · simp at hs; omega
      · rw [List.nodup_append]
        refine ⟨ih.2, by simp, fun a ha b hb => ?_⟩
        simp at hb
        have := ih.1 a ha
        omega
    · exact ⟨fun s hs => by have := ih.1 s hs; omega, ih.2⟩
theorem gI_w (W : List Nat) (i : Nat) : ∀ g ∈ gI W i, 0 < g.w ∧ ∃ j, j < i ∧ g.w = W.getD j 0 ∧ g.s = [j] := by
  induction i with
  | zero => intro g hg; simp [gI] at hg
  | succ i ih =>
    intro g hg
    rw [gI_step] at hg
    split at hg
    · rename_i h
      rcases List.mem_append.1 hg with hg | hg
      · obtain ⟨h1, j, h2, h3⟩ := ih g hg; exact ⟨h1, j, by omega, h3⟩
      · simp at hg; subst hg; exact ⟨h, i, by omega, rfl, rfl⟩
    · obtain ⟨h1, j, h2, h3⟩ := ih g hg; exact ⟨h1, j, by omega, h3⟩
theorem gI_sum (W : List Nat) (i : Nat) (hi : i ≤ W.length) : sumW (gI W i) = (W.take i).sum := by
  induction i with
  | zero => simp [gI, sumW]
  | succ i ih =>
    have ih := ih (by omega)
    have e : W[i]? = some (W.getD i 0) := by rw [List.getD_eq_getElem?_getD, List.getElem?_eq_getElem (by omega)]; rfl
    rw [gI_step, take_snoc e, List.sum_append]
    split
    · unfold sumW at ih ⊢
      rw [List.map_append, List.sum_append, ih]
      simp
    · rename_i h
      rw [List.getD_eq_getElem?_getD] at h
      rw [ih]
      simp
      omega
theorem zero_at (n s : Nat) : oat (List.replicate n 0) s = 0 := by
  unfold oat
  rw [List.getD_eq_getElem?_getD, List.getElem?_replicate]
  split <;> rfl
theorem good0 (W : List Nat) : Good (gI W W.length) (once0 W) := by
  obtain ⟨h1, h2⟩ := gI_sy W W.length
  exact ⟨h2, fun s hs => by unfold once0; rw [List.length_replicate]; exact h1 s hs, fun s _ => zero_at _ _⟩
theorem mem_getD {W : List Nat} {j : Nat} (h : 0 < W.getD j 0) : W.getD j 0 ∈ W := by
  rw [List.getD_eq_getElem?_getD] at h ⊢
  cases hj : W[j]? with
  | none => rw [hj] at h; simp at h
  | some x => simpa using List.mem_of_getElem? hj
theorem sum_ones {W : List Nat} (h : ∀ x ∈ W, x ≤ 1) : W.sum = cnt W := by
  induction W with
  | nil => rfl
  | cons x W ih =>
    have h1 := ih (fun y hy => h y (List.mem_cons_of_mem _ hy))
    have h2 := h x (List.mem_cons_self ..)
    unfold cnt at h1 ⊢
    rw [List.sum_cons, List.countP_cons, h1]
    rcases (show x = 0 ∨ x = 1 by omega) with rfl | rfl <;> simp; omega
theorem merge_one (f : Nat) (l : List Grp) (o : List Nat) (h : l.length ≤ 1) : mergeF f l o = o := by
  cases f with
  | zero => rfl
  | succ f => rw [mergeF, if_pos h]
theorem mergeF_len (f : Nat) (l : List Grp) (o : List Nat) : (mergeF f l o).length = o.length := by
  induction f generalizing l o with
  | zero => rfl
  | succ f ih =>
    rw [mergeF]
    split
    · rfl
    · rw [ih, incs_len]
theorem onceL_len (W : List Nat) : (onceL W).length = W.length := by
  unfold onceL
  simp only [mergeF_len]
  split <;> simp [once0]
theorem fits_ones {W : List Nat} {most : Nat} (h : ∀ x ∈ W, x ≤ 1) (hc : cnt W ≤ 2 ^ most) (hm : 1 ≤ most) : fits most (onceL W) = true := by
  have key : ∀ s, oat (onceL W) s ≤ most := by
    intro s
    unfold onceL
    by_cases h1 : (gI W W.length).length = 1
    · simp only [h1, if_true]
      rw [merge_one _ _ _ (by omega)]
      unfold oat
      rw [List.getD_eq_getElem?_getD, List.getElem?_set]
      split
      · split <;> simp <;> omega
      · rw [← List.getD_eq_getElem?_getD]
        have := zero_at W.length s
        unfold oat at this
        unfold once0
        omega
    · simp only [if_neg h1]
      refine merge_fits most _ 0 _ _ (Nat.le_refl _) ⟨fun g hg => ?_, ?_⟩ (good0 W) ?_ s
      · obtain ⟨h2, j, h3, h4, h5⟩ := gI_w W W.length g hg
        have h6 := h (W.getD j 0) (mem_getD (by omega))
        exact .inl ⟨by rw [Nat.pow_zero]; omega, fun s _ => by have := zero_at W.length s; unfold once0; omega⟩
      · have : (gI W W.length).countP (irr 0) = 0 := by
          rw [List.countP_eq_zero]
          intro g _
          simp [irr]
          omega
        omega
      · rw [gI_sum W W.length (Nat.le_refl _), List.take_length, sum_ones h]
        exact hc
  unfold fits
  rw [List.all_eq_true]
  intro x hx
  obtain ⟨i, hi, e⟩ := List.mem_iff_getElem.1 hx
  have := key i
  unfold oat at this
  rw [List.getD_eq_getElem?_getD, List.getElem?_eq_getElem hi] at this
  simp at this ⊢
  omega
/-- what does not fit has a weight above 1 -/
theorem not_fits {W : List Nat} {most : Nat} (hc : cnt W ≤ 2 ^ most) (hm : 1 ≤ most) (h : fits most (onceL W) = false) : ∃ x ∈ W, 1 < x := by
  apply Classical.byContradiction
  intro h1
  have : ∀ x ∈ W, x ≤ 1 := fun x hx => by
    rcases Nat.lt_or_ge 1 x with h2 | h2
    · exact absurd ⟨x, hx, h2⟩ h1
    · exact h2
  rw [fits_ones this hc hm] at h
  cases h
theorem lensF_succ (most f : Nat) (W : List Nat) : lensF most (f + 1) W = if fits most (onceL W) = true then onceL W else lensF most f (half W) := rfl
theorem lensF_same {most : Nat} (hm : 1 ≤ most) : ∀ (f f' : Nat) (W : List Nat), cnt W ≤ 2 ^ most → W.sum < f → W.sum < f' → lensF most f W = lensF most f' W := by
  intro f
  induction f with
  | zero => intro f' W _ h; omega
  | succ f ih =>
    intro f' W hc h h'
    obtain ⟨g, rfl⟩ : ∃ g, f' = g + 1 := ⟨f' - 1, by omega⟩
    rw [lensF_succ, lensF_succ]
    cases hf : fits most (onceL W) with
    | true => rfl
    | false =>
      have h1 := sum_half_lt W (not_fits hc hm hf)
      simp only [Bool.false_eq_true, if_false]
      exact ih g (half W) (by rw [cnt_half]; exact hc) (by omega) (by omega)
theorem lens_yes {most : Nat} {W : List Nat} (h : fits most (onceL W) = true) : lens most W = onceL W := by
  unfold lens
  rw [lensF_succ, if_pos h]
theorem lens_no {most : Nat} {W : List Nat} (hm : 1 ≤ most) (hc : cnt W ≤ 2 ^ most) (h : fits most (onceL W) = false) : lens most W = lens most (half W) ∧ (half W).sum < W.sum := by
  have h1 := sum_half_lt W (not_fits hc hm h)
  refine ⟨?_, h1⟩
  unfold lens
  rw [lensF_succ, if_neg (by rw [h]; simp)]
  exact lensF_same hm _ _ _ (by rw [cnt_half]; exact hc) (by omega) (by omega)
theorem lens_len (most : Nat) (W : List Nat) : (lens most W).length = W.length := by
  have key : ∀ (f : Nat) (W : List Nat), (lensF most f W).length = W.length := by
    intro f
    induction f with
    | zero => intro W; exact onceL_len W
    | succ f ih =>
      intro W
      rw [lensF_succ]
      split
      · exact onceL_len W
      · rw [ih, half_len]
  exact key _ W

/-! ### no weight behind -/
theorem getD_zeros (W : List Nat) (m i : Nat) : (W ++ List.replicate m 0).getD i 0 = W.getD i 0 := by
  rw [List.getD_eq_getElem?_getD, List.getD_eq_getElem?_getD]
  rcases Nat.lt_or_ge i W.length with h | h
  · rw [List.getElem?_append_left h]
  · rw [List.getElem?_append_right h, List.getElem?_eq_none h, List.getElem?_replicate]
    split <;> rfl
theorem gI_zeros (W : List Nat) (m i : Nat) : gI (W ++ List.replicate m 0) i = gI W i := by
  induction i with
  | zero => rfl
  | succ i ih => rw [gI_step, gI_step, getD_zeros, ih]
theorem gI_more (W : List Nat) (d : Nat) : gI W (W.length + d) = gI W W.length := by
  induction d with
  | zero => rfl
  | succ d ih =>
    rw [← Nat.add_assoc, gI_step, ih, if_neg]
    rw [List.getD_eq_getElem?_getD, List.getElem?_eq_none (by omega)]
    simp
theorem inc_zeros (o Z : List Nat) (s : Nat) (hs : s < o.length) : inc (o ++ Z) s = inc o s ++ Z := by
  unfold inc
  rw [List.set_append_left _ _ hs]
  congr 2
  rw [List.getD_eq_getElem?_getD, List.getD_eq_getElem?_getD, List.getElem?_append_left hs]
theorem incs_zeros (o Z S : List Nat) (hS : ∀ s ∈ S, s < o.length) : incs (o ++ Z) S = incs o S ++ Z := by
  induction S generalizing o with
  | nil => rfl
  | cons s S ih =>
    show incs (inc (o ++ Z) s) S = incs (inc o s) S ++ Z
    rw [inc_zeros _ _ _ (hS s (List.mem_cons_self ..))]
    exact ih (inc o s) (fun x hx => by rw [inc_len]; exact hS x (List.mem_cons_of_mem _ hx))
theorem merge_zeros (Z : List Nat) (f : Nat) : ∀ (l : List Grp) (o : List Nat), Good l o → mergeF f l (o ++ Z) = mergeF f l o ++ Z := by
  induction f with
  | zero => intro l o _; rfl
  | succ f ih =>
    intro l o hg
    rw [mergeF, mergeF]
    split
    · rfl
    · rename_i h
      obtain ⟨x, y, R, hp, hj, hgr, _⟩ := join_spec (l := l) (by omega)
      rw [incs_zeros o Z _ (fun s hs => hg.lt s (by
        rw [hgr] at hs
        rcases List.mem_append.1 hs with h1 | h1
        · exact mem_sy (hp.symm.subset (List.mem_cons_self ..)) h1
        · exact mem_sy (hp.symm.subset (List.mem_cons_of_mem _ (List.mem_cons_self ..))) h1))]
      exact ih _ _ (hg.join (by omega)).1
theorem once_zeros (W : List Nat) (m : Nat) : onceL (W ++ List.replicate m 0) = onceL W ++ List.replicate m 0 := by
  unfold onceL
  have e : gI (W ++ List.replicate m 0) (W ++ List.replicate m 0).length = gI W W.length := by
    rw [gI_zeros, List.length_append, gI_more]
  have e0 : once0 (W ++ List.replicate m 0) = once0 W ++ List.replicate m 0 := by
    unfold once0
    rw [List.length_append, List.length_replicate, List.replicate_append_replicate]
  simp only [e, e0]
  by_cases h : (gI W W.length).length = 1
  · simp only [h, if_true]
    rw [merge_one _ _ _ (by omega), merge_one _ _ _ (by omega), List.set_append_left]
    match hg : gI W W.length, h with
    | [g], _ =>
      obtain ⟨_, j, hj, _, hs⟩ := gI_w W W.length g (by rw [hg]; simp)
      have : (gat [g] 0).s = [j] := by rw [show gat [g] 0 = g from rfl, hs]
      rw [this]
      simpa [once0] using hj
  · simp only [if_neg h]
    exact merge_zeros _ _ _ _ (good0 W)
theorem half_zeros (W : List Nat) (m : Nat) : half (W ++ List.replicate m 0) = half W ++ List.replicate m 0 := by
  unfold half
  rw [List.map_append]
  simp
theorem fits_zeros (most : Nat) (o : List Nat) (m : Nat) : fits most (o ++ List.replicate m 0) = fits most o := by
  unfold fits
  rw [List.all_append]
  have : (List.replicate m 0).all (fun x => decide (x ≤ most)) = true := by
    rw [List.all_eq_true]
    intro x hx
    have := List.eq_of_mem_replicate hx
    simp
    omega
  rw [this, Bool.and_true]
theorem lens_zeros (most : Nat) (W : List Nat) (m : Nat) : lens most (W ++ List.replicate m 0) = lens most W ++ List.replicate m 0 := by
  have key : ∀ (f : Nat) (W : List Nat), lensF most f (W ++ List.replicate m 0) = lensF most f W ++ List.replicate m 0 := by
    intro f
    induction f with
    | zero => intro W; exact once_zeros W m
    | succ f ih =>
      intro W
      rw [lensF_succ, lensF_succ, once_zeros, fits_zeros, half_zeros, ih]
      split <;> rfl
  unfold lens
  have : (W ++ List.replicate m 0).sum = W.sum := by simp
  rw [this]
  exact key _ W
end Go.Proofs.Ytphalcpmeblkgaa.HuffM
namespace Go.Proofs.Ytphalcpmeblkgaa.HuffM

/-- groups in their row, each with its depth in the end -/
inductive Dep : List (Grp × Nat) → Prop
  | nil : Dep []
  | one (g : Grp) : Dep [(g, 0)]
  | step (A B C E : List (Grp × Nat)) (x y : Grp) (d : Nat) (l : List (Grp × Nat)) (hl : l = A ++ (x, d + 1) :: B) (he : A ++ B = C ++ (y, d + 1) :: E)
      (hA : ∀ z ∈ A, x.w < z.1.w) (hB : ∀ z ∈ B, x.w ≤ z.1.w) (hC : ∀ z ∈ C, y.w < z.1.w) (hE : ∀ z ∈ E, y.w ≤ z.1.w)
      (hn : Dep (C ++ E ++ [(⟨x.w + y.w, x.s ++ y.s⟩, d)])) : Dep l
def DRel (p q : Grp × Nat) : Prop := (p.1.w ≤ q.1.w → q.2 ≤ p.2) ∧ (q.1.w < p.1.w → p.2 ≤ q.2)
def Deep1 (l : List (Grp × Nat)) : Prop := ∀ c T, l.Perm (c :: T) → T.Pairwise (fun x y => c.1.w ≤ x.1.w + y.1.w) → ∀ z ∈ T, z.2 ≤ c.2 + 1
section
variable {A B C E : List (Grp × Nat)} {x y : Grp} {d : Nat} {l : List (Grp × Nat)}
theorem step_perm (hl : l = A ++ (x, d + 1) :: B) (he : A ++ B = C ++ (y, d + 1) :: E) : l.Perm ((x, d + 1) :: (y, d + 1) :: (C ++ E)) := by
  subst hl
  refine List.perm_middle.trans (List.Perm.cons _ ?_)
  rw [he]
  exact List.perm_middle
theorem step_le (he : A ++ B = C ++ (y, d + 1) :: E) (hA : ∀ z ∈ A, x.w < z.1.w) (hB : ∀ z ∈ B, x.w ≤ z.1.w) : x.w ≤ y.w := by
  have h : (y, d + 1) ∈ A ++ B := by rw [he]; simp
  rcases List.mem_append.1 h with h | h
  · exact Nat.le_of_lt (hA _ h)
  · exact hB _ h
theorem step_rest (hC : ∀ z ∈ C, y.w < z.1.w) (hE : ∀ z ∈ E, y.w ≤ z.1.w) : ∀ z ∈ C ++ E, y.w ≤ z.1.w := by
  intro z hz
  rcases List.mem_append.1 hz with h | h
  · exact Nat.le_of_lt (hC _ h)
  · exact hE _ h
end
theorem pair_of {c : Nat} {R : List (Grp × Nat)} (h : ∀ z ∈ R, ∀ z' ∈ R, c ≤ z.1.w + z'.1.w) : R.Pairwise (fun x y => c ≤ x.1.w + y.1.w) := by
  induction R with
  | nil => exact List.Pairwise.nil
  | cons a R ih =>
    refine List.Pairwise.cons (fun z hz => h a (by simp) z (by simp [hz])) (ih fun z hz z' hz' => h z (by simp [hz]) z' (by simp [hz']))
theorem pair_perm {c : Nat} {R R' : List (Grp × Nat)} (hp : R.Perm R') (h : R.Pairwise (fun x y => c ≤ x.1.w + y.1.w)) : R'.Pairwise (fun x y => c ≤ x.1.w + y.1.w) :=
  (hp.pairwise_iff (fun {a b} h => by omega)).1 h
theorem Dep.both {l : List (Grp × Nat)} (h : Dep l) : l.Pairwise DRel ∧ Deep1 l := by
  induction h with
  | nil => exact ⟨List.Pairwise.nil, fun c T h => by have := h.length_eq; simp at this⟩
  | one g =>
    refine ⟨List.pairwise_singleton .., fun c T h _ z hz => ?_⟩
    have := h.length_eq
    cases T with
    | nil => simp at hz
    | cons _ _ => simp at this
  | step A B C E x y d l hl he hA hB hC hE hn ih =>
    obtain ⟨hm, hd⟩ := ih
    have hxy := step_le he hA hB
    have hR := step_rest hC hE
    have hp := step_perm hl he
    have hab : ((C ++ E) ++ [((⟨x.w + y.w, x.s ++ y.s⟩ : Grp), d)]).Perm ((⟨x.w + y.w, x.s ++ y.s⟩, d) :: (C ++ E)) := List.perm_append_singleton _ _
    -- whoever is left is at most one deeper than the new one
    have hr : ∀ z ∈ C ++ E, z.2 ≤ d + 1 := by
      refine hd _ _ hab (pair_of fun z hz z' hz' => ?_)
      have h1 := hR z hz
      have h2 := hR z' hz'
      show x.w + y.w ≤ _
      omega
    rw [List.pairwise_append] at hm
    obtain ⟨hm1, _, hm2⟩ := hm
    rw [List.pairwise_append] at hm1
    obtain ⟨hmC, hmE, hmCE⟩ := hm1
    have hAB : (A ++ B).Pairwise DRel := by
      rw [he, List.pairwise_append]
      refine ⟨hmC, List.Pairwise.cons (fun q hq => ?_) hmE, fun p hp q hq => ?_⟩
      · have h1 := hE q hq
        have h2 := hr q (by simp [hq])
        exact ⟨fun _ => h2, fun h => by simp only at h; omega⟩
      · rcases List.mem_cons.1 hq with rfl | hq
        · have h1 := hC p hp
          have h2 := hr p (by simp [hp])
          exact ⟨fun h => by simp only at h; omega, fun _ => h2⟩
        · exact hmCE p hp q hq
    have hAB2 : ∀ z ∈ A ++ B, z.2 ≤ d + 1 := by
      intro z hz
      rw [he] at hz
      rcases List.mem_append.1 hz with h | h
      · exact hr z (by simp [h])
      · rcases List.mem_cons.1 h with rfl | h
        · exact Nat.le_refl _
        · exact hr z (by simp [h])
    constructor
    · rw [hl, List.pairwise_append]
      rw [List.pairwise_append] at hAB
      obtain ⟨h1, h2, h3⟩ := hAB
      refine ⟨h1, List.Pairwise.cons (fun q hq => ?_) h2, fun p hp q hq => ?_⟩
      · have h1 := hB q hq
        exact ⟨fun _ => hAB2 q (by simp [hq]), fun h => by simp only at h; omega⟩
      · rcases List.mem_cons.1 hq with rfl | hq
        · have h1 := hA p hp
          exact ⟨fun h => by simp only at h; omega, fun _ => hAB2 p (by simp [hp])⟩
        · exact h3 p hp q hq
    · intro c T hcT hpair z hz
      have hq := hcT.symm.trans hp
      have hc : c ∈ (x, d + 1) :: (y, d + 1) :: (C ++ E) := hq.subset (by simp)
      have hz' : z ∈ (x, d + 1) :: (y, d + 1) :: (C ++ E) := hq.subset (by simp [hz])
      rcases List.mem_cons.1 hc with rfl | hc
      · rcases List.mem_cons.1 hz' with rfl | hz'
        · omega
        · rcases List.mem_cons.1 hz' with rfl | hz'
          · omega
          · have := hr z hz'; show z.2 ≤ d + 1 + 1; omega
      · rcases List.mem_cons.1 hc with rfl | hc
        · rcases List.mem_cons.1 hz' with rfl | hz'
          · show d + 1 ≤ d + 1 + 1; omega
          · rcases List.mem_cons.1 hz' with rfl | hz'
            · omega
            · have := hr z hz'; show z.2 ≤ d + 1 + 1; omega
        · obtain ⟨R1, R2, hcr⟩ := List.append_of_mem hc
          have hpR : (C ++ E).Perm (c :: (R1 ++ R2)) := by rw [hcr]; exact List.perm_middle
          have hT : T.Perm ((x, d + 1) :: (y, d + 1) :: (R1 ++ R2)) := by
            have h1 : (c :: T).Perm (c :: (x, d + 1) :: (y, d + 1) :: (R1 ++ R2)) := by
              refine hq.trans ?_
              refine ((hpR.cons _).cons _).trans ?_
              refine ((List.Perm.swap c (y, d + 1) _).cons _).trans ?_
              exact List.Perm.swap c (x, d + 1) _
            exact h1.cons_inv
          have hpt := pair_perm hT hpair
          rw [List.pairwise_cons, List.pairwise_cons] at hpt
          have hcxy := hpt.1 (y, d + 1) (by simp)
          simp only at hcxy
          have hN : ((C ++ E) ++ [((⟨x.w + y.w, x.s ++ y.s⟩ : Grp), d)]).Perm (c :: (⟨x.w + y.w, x.s ++ y.s⟩, d) :: (R1 ++ R2)) :=
            hab.trans ((hpR.cons _).trans (List.Perm.swap ..))
          have hall := hd c _ hN (List.Pairwise.cons (fun z hz => by simp only; omega) hpt.2.2)
          have hdc : d ≤ c.2 := (hm2 c hc (⟨x.w + y.w, x.s ++ y.s⟩, d) (by simp)).1 hcxy
          rcases List.mem_cons.1 (hT.subset hz) with rfl | hz
          · show d + 1 ≤ c.2 + 1; omega
          · rcases List.mem_cons.1 hz with rfl | hz
            · show d + 1 ≤ c.2 + 1; omega
            · exact hall z (by simp only [List.mem_cons]; exact Or.inr hz)
/-- who weighs more is no deeper -/
theorem Dep.mono {l : List (Grp × Nat)} (h : Dep l) {p q : Grp × Nat} (hp : p ∈ l) (hq : q ∈ l) (hw : q.1.w < p.1.w) : p.2 ≤ q.2 := by
  have h1 := h.both.1
  clear h
  induction l with
  | nil => simp at hp
  | cons a l ih =>
    rw [List.pairwise_cons] at h1
    rcases List.mem_cons.1 hp with rfl | hp'
    · rcases List.mem_cons.1 hq with rfl | hq'
      · omega
      · exact (h1.1 q hq').2 hw
    · rcases List.mem_cons.1 hq with rfl | hq'
      · exact (h1.1 p hp').1 (by omega)
      · exact ih hp' hq' h1.2
def fib : Nat → Nat
  | 0 => 0
  | 1 => 1
  | n + 2 => fib n + fib (n + 1)
def wsum (l : List (Grp × Nat)) : Nat := (l.map (·.1.w)).sum
theorem wsum_perm {l l' : List (Grp × Nat)} (h : l.Perm l') : wsum l = wsum l' := (h.map _).sum_nat
theorem Dep.fibs {l : List (Grp × Nat)} (h : Dep l) : ∀ c T m, l.Perm (c :: T) → (∀ z ∈ T, m ≤ z.1.w) → fib c.2 * m + fib (c.2 + 1) * c.1.w ≤ wsum l := by
  induction h with
  | nil => intro c T m h; have := h.length_eq; simp at this
  | one g =>
    intro c T m h _
    have hc : c ∈ [(g, 0)] := h.symm.subset (by simp)
    simp at hc
    subst hc
    simp [fib, wsum]
  | step A B C E x y d l hl he hA hB hC hE hn ih =>
    intro c T m hcT hm
    have hxy := step_le he hA hB
    have hR := step_rest hC hE
    have hp := step_perm hl he
    have hab : ((C ++ E) ++ [((⟨x.w + y.w, x.s ++ y.s⟩ : Grp), d)]).Perm ((⟨x.w + y.w, x.s ++ y.s⟩, d) :: (C ++ E)) := List.perm_append_singleton _ _
    have hs : wsum (C ++ E ++ [((⟨x.w + y.w, x.s ++ y.s⟩ : Grp), d)]) = wsum l := by
      rw [wsum_perm hp, wsum_perm hab]
      simp [wsum]
      omega
    rw [hs] at ih
    have hq := hcT.symm.trans hp
    have hc : c ∈ (x, d + 1) :: (y, d + 1) :: (C ++ E) := hq.subset (by simp)
    have f2 : fib (d + 1 + 1) = fib d + fib (d + 1) := rfl
    rcases List.mem_cons.1 hc with rfl | hc
    · have hT := hq.cons_inv
      have hmy := hm (y, d + 1) (hT.symm.subset (by simp))
      have h1 := ih _ _ x.w hab (fun z hz => by have := hR z hz; omega)
      simp only at h1 hmy ⊢
      have h2 := Nat.mul_le_mul_left (fib (d + 1)) hmy
      rw [f2, Nat.add_mul]
      rw [Nat.mul_add] at h1
      omega
    · rcases List.mem_cons.1 hc with rfl | hc
      · have hT := (hq.trans (List.Perm.swap ..)).cons_inv
        have hmx := hm (x, d + 1) (hT.symm.subset (by simp))
        have h1 := ih _ _ y.w hab (fun z hz => hR z hz)
        simp only at h1 hmx ⊢
        have h2 := Nat.mul_le_mul_left (fib (d + 1)) hmx
        rw [f2, Nat.add_mul]
        rw [Nat.mul_add] at h1
        omega
      · obtain ⟨R1, R2, hcr⟩ := List.append_of_mem hc
        have hpR : (C ++ E).Perm (c :: (R1 ++ R2)) := by rw [hcr]; exact List.perm_middle
        have hT : T.Perm ((x, d + 1) :: (y, d + 1) :: (R1 ++ R2)) := by
          have h1 : (c :: T).Perm (c :: (x, d + 1) :: (y, d + 1) :: (R1 ++ R2)) := by
            refine hq.trans ?_
            refine ((hpR.cons _).cons _).trans ?_
            refine ((List.Perm.swap c (y, d + 1) _).cons _).trans ?_
            exact List.Perm.swap c (x, d + 1) _
          exact h1.cons_inv
        have hN : ((C ++ E) ++ [((⟨x.w + y.w, x.s ++ y.s⟩ : Grp), d)]).Perm (c :: (⟨x.w + y.w, x.s ++ y.s⟩, d) :: (R1 ++ R2)) :=
          hab.trans ((hpR.cons _).trans (List.Perm.swap ..))
        refine ih c _ m hN (fun z hz => ?_)
        rcases List.mem_cons.1 hz with rfl | hz
        · have := hm (x, d + 1) (hT.symm.subset (by simp))
          simp only at this ⊢
          omega
        · exact hm z (hT.symm.subset (by simp only [List.mem_cons]; exact Or.inr (Or.inr hz)))
theorem fib_mono (n k : Nat) : fib (n + 1) ≤ fib (n + 1 + k) := by
  induction k with
  | zero => exact Nat.le_refl _
  | succ k ih =>
    have e : fib (n + 1 + (k + 1)) = fib (n + k) + fib (n + 1 + k) := by
      rw [show n + 1 + (k + 1) = (n + k) + 2 by omega, fib, show n + k + 1 = n + 1 + k by omega]
    omega
/-- with little weight none is deeper than 15 -/
theorem Dep.small {l : List (Grp × Nat)} (h : Dep l) (hw : ∀ p ∈ l, 0 < p.1.w) (hs : wsum l < 2584) : ∀ p ∈ l, p.2 ≤ 15 := by
  intro p hp
  rcases Nat.lt_or_ge 15 p.2 with h1 | h1
  · exfalso
    obtain ⟨P, S, hl⟩ := List.append_of_mem hp
    have hpm : l.Perm (p :: (P ++ S)) := by rw [hl]; exact List.perm_middle
    have h2 := h.fibs p _ 1 hpm (fun z hz => hw z (hpm.symm.subset (List.mem_cons_of_mem _ hz)))
    have h3 := hw p hp
    obtain ⟨k, hk⟩ : ∃ k, p.2 = 15 + 1 + k := ⟨p.2 - 16, by omega⟩
    have h4 := fib_mono 15 k
    have h5 := fib_mono 16 k
    have e1 : fib (15 + 1) = 987 := by decide
    have e2 : fib (16 + 1) = 1597 := by decide
    rw [hk, show 15 + 1 + k + 1 = 16 + 1 + k by omega] at h2
    rw [e1] at h4
    rw [e2] at h5
    have h6 := Nat.mul_le_mul_left (fib (16 + 1 + k)) h3
    omega
  · exact h1
def ksum (N : Nat) (l : List (Grp × Nat)) : Nat := (l.map fun p => 2 ^ (N - p.2)).sum
theorem ksum_perm {N : Nat} {l l' : List (Grp × Nat)} (h : l.Perm l') : ksum N l = ksum N l' := (h.map _).sum_nat
theorem Dep.kraft {l : List (Grp × Nat)} (h : Dep l) (N : Nat) : l ≠ [] → (∀ p ∈ l, p.2 ≤ N) → ksum N l = 2 ^ N := by
  induction h with
  | nil => intro h; exact absurd rfl h
  | one g => intro _ _; simp [ksum]
  | step A B C E x y d l hl he hA hB hC hE hn ih =>
    intro _ hN
    have hp := step_perm hl he
    have hab : ((C ++ E) ++ [((⟨x.w + y.w, x.s ++ y.s⟩ : Grp), d)]).Perm ((⟨x.w + y.w, x.s ++ y.s⟩, d) :: (C ++ E)) := List.perm_append_singleton _ _
    have hd : d + 1 ≤ N := hN (x, d + 1) (hp.symm.subset (by simp))
    have h1 := ih (by simp) (fun p hpm => by
      rcases List.mem_append.1 hpm with h | h
      · exact hN p (hp.symm.subset (by simp only [List.mem_cons]; exact Or.inr (Or.inr h)))
      · simp at h; subst h; show d ≤ N; omega)
    rw [ksum_perm hab] at h1
    rw [ksum_perm hp]
    unfold ksum at h1 ⊢
    simp only [List.map_cons, List.sum_cons] at h1 ⊢
    have e : 2 ^ (N - d) = 2 ^ (N - (d + 1)) + 2 ^ (N - (d + 1)) := by
      rw [show N - d = N - (d + 1) + 1 by omega, Nat.pow_succ]; omega
    omega
theorem Dep.deep {l : List (Grp × Nat)} (h : Dep l) (hn : 2 ≤ l.length) : ∀ p ∈ l, 0 < p.2 := by
  induction h with
  | nil => simp at hn
  | one g => simp at hn
  | step A B C E x y d l hl he hA hB hC hE hn' ih =>
    have hp := step_perm hl he
    intro p hpm
    rcases List.mem_cons.1 (hp.subset hpm) with rfl | h
    · show 0 < d + 1; omega
    · rcases List.mem_cons.1 h with rfl | h
      · show 0 < d + 1; omega
      · refine ih ?_ p (by simp only [List.mem_append] at h ⊢; exact Or.inl h)
        have := List.length_pos_of_mem h
        rw [List.length_append]
        simp
        simp at this
        omega
end Go.Proofs.Ytphalcpmeblkgaa.HuffM
namespace Go.Proofs.Ytphalcpmeblkgaa.HuffM

theorem aI_first (l : List Grp) (i : Nat) : ∀ j, j < aI l i → wt l (aI l i) < wt l j := by
  induction i with
  | zero => intro j hj; simp [aI] at hj
  | succ i ih =>
    intro j hj
    rw [aI] at hj ⊢
    split
    · rename_i h
      rw [if_pos h] at hj
      have := aI_le l i j hj
      omega
    · rename_i h
      rw [if_neg h] at hj
      exact ih j hj
theorem bI_first {l : List Grp} {a i b : Nat} (h : bI l a i = some b) : ∀ j, j < b → j ≠ a → wt l b < wt l j := by
  induction i generalizing b with
  | zero => cases h
  | succ i ih =>
    rw [bI] at h
    cases hb : bI l a i with
    | none =>
      rw [hb] at h
      simp only at h
      split at h
      · injection h with h
        subst h
        intro j hj hja
        exact absurd (bI_none hb j hj) hja
      · cases h
    | some b' =>
      rw [hb] at h
      simp only at h
      split at h
      · rename_i hc
        injection h with h
        subst h
        intro j hj hja
        have := (bI_some hb).2.2 j hj hja
        omega
      · injection h with h
        subst h
        exact ih hb
theorem rI_run (l : List Grp) (a b : Nat) (i k : Nat) (hk : i + k ≤ l.length) (hn : ∀ j, i ≤ j → j < i + k → j ≠ a ∧ j ≠ b) : rI l a b (i + k) = rI l a b i ++ (l.drop i).take k := by
  induction k with
  | zero => simp
  | succ k ih =>
    rw [show i + (k + 1) = (i + k) + 1 by omega, rI, if_pos (hn (i + k) (by omega) (by omega)), ih (by omega) (fun j h1 h2 => hn j h1 (by omega)), List.append_assoc]
    congr 1
    have e : (l.drop i)[k]? = some (gat l (i + k)) := by
      rw [List.getElem?_drop, List.getElem?_eq_getElem (by omega)]
      unfold gat
      rw [List.getD_eq_getElem?_getD, List.getElem?_eq_getElem (by omega)]
      rfl
    exact (take_snoc e).symm
theorem rI_skip (l : List Grp) (a b i : Nat) (h : i = a ∨ i = b) : rI l a b (i + 1) = rI l a b i := by
  rw [rI, if_neg (fun h' => by rcases h with h | h; exact h'.1 h; exact h'.2 h)]
theorem cut3 (l : List Grp) (i j : Nat) (hij : i < j) (hj : j < l.length) : l = l.take i ++ gat l i :: ((l.drop (i + 1)).take (j - i - 1) ++ gat l j :: l.drop (j + 1)) := by
  have e1 : l.drop i = gat l i :: l.drop (i + 1) := by
    rw [List.drop_eq_getElem_cons (by omega)]
    unfold gat
    rw [List.getD_eq_getElem?_getD, List.getElem?_eq_getElem (by omega)]
    rfl
  have e2 : l.drop j = gat l j :: l.drop (j + 1) := by
    rw [List.drop_eq_getElem_cons (by omega)]
    unfold gat
    rw [List.getD_eq_getElem?_getD, List.getElem?_eq_getElem (by omega)]
    rfl
  have e3 : l.drop (i + 1) = (l.drop (i + 1)).take (j - i - 1) ++ l.drop j := by
    conv => lhs; rw [← List.take_append_drop (j - i - 1) (l.drop (i + 1))]
    rw [List.drop_drop, show i + 1 + (j - i - 1) = j by omega]
  conv => lhs; rw [← List.take_append_drop i l, e1, e3, e2]
theorem rI_cut (l : List Grp) (a b i j : Nat) (hij : i < j) (hj : j < l.length) (h : i = a ∧ j = b ∨ i = b ∧ j = a) :
    rI l a b l.length = l.take i ++ ((l.drop (i + 1)).take (j - i - 1) ++ l.drop (j + 1)) := by
  have h1 := rI_run l a b 0 i (by omega) (fun k _ h2 => by omega)
  have h2 := rI_skip l a b i (by omega)
  have h3 := rI_run l a b (i + 1) (j - i - 1) (by omega) (fun k _ h2 => by omega)
  have h4 := rI_skip l a b j (by omega)
  have h5 := rI_run l a b (j + 1) (l.length - (j + 1)) (by omega) (fun k _ h2 => by omega)
  rw [show j + 1 + (l.length - (j + 1)) = l.length by omega] at h5
  rw [show i + 1 + (j - i - 1) = j by omega] at h3
  rw [Nat.zero_add] at h1
  rw [h5, h4, h3, h2, h1]
  have e : (l.drop (j + 1)).take (l.length - (j + 1)) = l.drop (j + 1) := List.take_of_length_le (by rw [List.length_drop]; omega)
  rw [e]
  simp [rI]
theorem in_take {l : List Grp} {i : Nat} {z : Grp} (h : z ∈ l.take i) : ∃ j, j < i ∧ j < l.length ∧ z = gat l j := by
  obtain ⟨k, hk, rfl⟩ := List.getElem_of_mem h
  rw [List.length_take] at hk
  refine ⟨k, by omega, by omega, ?_⟩
  unfold gat
  rw [List.getElem_take, List.getD_eq_getElem?_getD, List.getElem?_eq_getElem (by omega)]
  rfl
theorem in_drop {l : List Grp} {i : Nat} {z : Grp} (h : z ∈ l.drop i) : ∃ j, i ≤ j ∧ j < l.length ∧ z = gat l j := by
  obtain ⟨k, hk, rfl⟩ := List.getElem_of_mem h
  rw [List.length_drop] at hk
  refine ⟨i + k, by omega, by omega, ?_⟩
  unfold gat
  rw [List.getElem_drop, List.getD_eq_getElem?_getD, List.getElem?_eq_getElem (by omega)]
  rfl
theorem in_mid {l : List Grp} {i k : Nat} {z : Grp} (h : z ∈ (l.drop i).take k) : ∃ j, i ≤ j ∧ j < i + k ∧ j < l.length ∧ z = gat l j := by
  obtain ⟨q, hq, rfl⟩ := List.getElem_of_mem h
  rw [List.length_take, List.length_drop] at hq
  refine ⟨i + q, by omega, by omega, by omega, ?_⟩
  unfold gat
  rw [List.getElem_take, List.getElem_drop, List.getD_eq_getElem?_getD, List.getElem?_eq_getElem (by omega)]
  rfl
/-- what a join takes, and what it leaves, in their row -/
theorem join_row {l : List Grp} (h : 2 ≤ l.length) : ∃ A B C E x y, l = A ++ x :: B ∧ A ++ B = C ++ y :: E ∧ joinG l = C ++ E ++ [⟨x.w + y.w, x.s ++ y.s⟩] ∧ grp l = ⟨x.w + y.w, x.s ++ y.s⟩ ∧
    (∀ z ∈ A, x.w < z.w) ∧ (∀ z ∈ B, x.w ≤ z.w) ∧ (∀ z ∈ C, y.w < z.w) ∧ (∀ z ∈ E, y.w ≤ z.w) := by
  obtain ⟨h1, h2, h3, h4, h5⟩ := pick h
  have ha : ∀ j, j < l.length → wt l (pa l) ≤ wt l j := aI_le l l.length
  have ha' : ∀ j, j < pa l → wt l (pa l) < wt l j := aI_first l l.length
  have hb' : ∀ j, j < pb l → j ≠ pa l → wt l (pb l) < wt l j := by
    cases hb : bI l (pa l) l.length with
    | none =>
      have h0 := bI_none hb 0 (by omega)
      have h1 := bI_none hb 1 (by omega)
      omega
    | some b =>
      have e : pb l = b := by unfold pb; rw [hb]; rfl
      rw [e]
      exact bI_first hb
  obtain ⟨a, hea⟩ : ∃ a, a = pa l := ⟨_, rfl⟩
  obtain ⟨b, heb⟩ : ∃ b, b = pb l := ⟨_, rfl⟩
  have hg : grp l = ⟨(gat l a).w + (gat l b).w, (gat l a).s ++ (gat l b).s⟩ := by rw [hea, heb]; rfl
  have hj : joinG l = rI l a b l.length ++ [grp l] := by rw [hea, heb]; rfl
  rw [← hea, ← heb] at h3
  rw [← hea] at h1 ha ha'
  rw [← heb] at h2
  rw [← hea, ← heb] at h5 hb'
  clear h4 hea heb
  rcases Nat.lt_or_ge a b with hab | hab
  · have hc := cut3 l a b hab h2
    have hr := rI_cut l a b a b hab h2 (Or.inl ⟨rfl, rfl⟩)
    refine ⟨l.take a, (l.drop (a + 1)).take (b - a - 1) ++ gat l b :: l.drop (b + 1), l.take a ++ (l.drop (a + 1)).take (b - a - 1), l.drop (b + 1), gat l a, gat l b, hc, by simp, ?_, hg, ?_, ?_, ?_, ?_⟩
    · rw [hj, hr, hg]; simp
    · intro z hz
      obtain ⟨j, hj1, _, rfl⟩ := in_take hz
      exact ha' j hj1
    · intro z hz
      have hz : z ∈ l := by rw [hc]; simp only [List.mem_append, List.mem_cons] at hz ⊢; exact Or.inr (Or.inr hz)
      obtain ⟨j, _, hj2, rfl⟩ := in_drop (i := 0) (by simpa using hz)
      exact ha j hj2
    · intro z hz
      rcases List.mem_append.1 hz with hz | hz
      · obtain ⟨j, hj1, _, rfl⟩ := in_take hz
        exact hb' j (by omega) (by omega)
      · obtain ⟨j, hj1, hj2, _, rfl⟩ := in_mid hz
        exact hb' j (by omega) (by omega)
    · intro z hz
      obtain ⟨j, hj1, hj2, rfl⟩ := in_drop hz
      exact h5 j hj2 (by omega)
  · have hba : b < a := by omega
    have hc := cut3 l b a hba h1
    have hr := rI_cut l a b b a hba h1 (Or.inr ⟨rfl, rfl⟩)
    refine ⟨l.take b ++ gat l b :: (l.drop (b + 1)).take (a - b - 1), l.drop (a + 1), l.take b, (l.drop (b + 1)).take (a - b - 1) ++ l.drop (a + 1), gat l a, gat l b, by rw [List.append_assoc]; exact hc, by simp, ?_, hg, ?_, ?_, ?_, ?_⟩
    · rw [hj, hr, hg]
    · intro z hz
      rcases List.mem_append.1 hz with hz | hz
      · obtain ⟨j, hj1, _, rfl⟩ := in_take hz
        exact ha' j (by omega)
      · rcases List.mem_cons.1 hz with rfl | hz
        · exact ha' b hba
        · obtain ⟨j, hj1, hj2, _, rfl⟩ := in_mid hz
          exact ha' j (by omega)
    · intro z hz
      obtain ⟨j, hj1, hj2, rfl⟩ := in_drop hz
      exact ha j hj2
    · intro z hz
      obtain ⟨j, hj1, _, rfl⟩ := in_take hz
      exact hb' j hj1 (by omega)
    · intro z hz
      rcases List.mem_append.1 hz with hz | hz
      · obtain ⟨j, hj1, hj2, hj3, rfl⟩ := in_mid hz
        exact h5 j hj3 (by omega)
      · obtain ⟨j, hj1, hj2, rfl⟩ := in_drop hz
        exact h5 j hj2 (by omega)
theorem map_split {L : List (Grp × Nat)} {P S : List Grp} (h : L.map (·.1) = P ++ S) : ∃ P' S', L = P' ++ S' ∧ P'.map (·.1) = P ∧ S'.map (·.1) = S := by
  obtain ⟨P', S', h1, h2, h3⟩ := List.map_eq_append_iff.1 h
  exact ⟨P', S', h1, h2, h3⟩
theorem all_map {L : List (Grp × Nat)} {P : Grp → Prop} (h : ∀ z ∈ L.map (·.1), P z) : ∀ z ∈ L, P z.1 := fun z hz => h z.1 (List.mem_map_of_mem hz)
/-- the depths of a row of groups: the lengths that their symbols still get -/
theorem merge_dep (f : Nat) : ∀ (l : List Grp) (o : List Nat), l.length ≤ f + 1 → Good l o →
    ∃ L : List (Grp × Nat), L.map (·.1) = l ∧ Dep L ∧ (∀ p ∈ L, ∀ s ∈ p.1.s, oat (mergeF f l o) s = oat o s + p.2) ∧ ∀ s, s ∉ sy l → oat (mergeF f l o) s = oat o s := by
  have base : ∀ (f : Nat) (l : List Grp) (o : List Nat), l.length ≤ 1 → ∃ L : List (Grp × Nat), L.map (·.1) = l ∧ Dep L ∧ (∀ p ∈ L, ∀ s ∈ p.1.s, oat (mergeF f l o) s = oat o s + p.2) ∧ ∀ s, s ∉ sy l → oat (mergeF f l o) s = oat o s := by
    intro f l o h
    rw [merge_one f l o h]
    cases l with
    | nil => exact ⟨[], rfl, .nil, fun p hp => by simp at hp, fun _ _ => rfl⟩
    | cons g l =>
      cases l with
      | nil => exact ⟨[(g, 0)], rfl, .one g, fun p hp s _ => by simp at hp; subst hp; rfl, fun _ _ => rfl⟩
      | cons _ _ => simp at h
  induction f with
  | zero => intro l o h _; exact base 0 l o (by omega)
  | succ f ih =>
    intro l o hl hg
    by_cases h1 : l.length ≤ 1
    · exact base _ l o h1
    · have h2 : 2 ≤ l.length := by omega
      obtain ⟨hgood, hin, hout⟩ := hg.join h2
      obtain ⟨L', hm, hdep, hat, hno⟩ := ih (joinG l) (incs o (grp l).s) (by rw [join_len h2]; omega) hgood
      obtain ⟨A, B, C, E, x, y, hlr, hAB, hj, hgr, hA, hB, hC, hE⟩ := join_row h2
      rw [hj] at hm
      obtain ⟨R', S', rfl, hR', hS'⟩ := map_split hm
      obtain ⟨C', E', rfl, hC', hE'⟩ := map_split hR'
      obtain ⟨p, rfl⟩ : ∃ p, S' = [p] := by
        cases S' with
        | nil => simp at hS'
        | cons p S' =>
          cases S' with
          | nil => exact ⟨p, rfl⟩
          | cons _ _ => simp at hS'
      obtain ⟨gp, d⟩ := p
      simp at hS'
      subst hS'
      have hmAB : (C' ++ (y, d + 1) :: E').map (·.1) = A ++ B := by rw [hAB, List.map_append, List.map_cons, hC', hE']
      obtain ⟨A', B', hsp, hA', hB'⟩ := map_split hmAB
      have hmf : mergeF (f + 1) l o = mergeF f (joinG l) (incs o (grp l).s) := by rw [mergeF, if_neg h1]
      have hstep : Dep (A' ++ (x, d + 1) :: B') :=
        .step A' B' C' E' x y d _ rfl hsp.symm (all_map (P := fun z => x.w < z.w) (by rw [hA']; exact hA)) (all_map (P := fun z => x.w ≤ z.w) (by rw [hB']; exact hB))
          (all_map (P := fun z => y.w < z.w) (by rw [hC']; exact hC)) (all_map (P := fun z => y.w ≤ z.w) (by rw [hE']; exact hE)) hdep
      have hmap : (A' ++ (x, d + 1) :: B').map (·.1) = l := by rw [List.map_append, List.map_cons, hA', hB']; exact hlr.symm
      have hpm := step_perm (l := A' ++ (x, d + 1) :: B') rfl hsp.symm
      refine ⟨_, hmap, hstep, fun p hp s hs => ?_, fun s hs => ?_⟩
      · rw [hmf]
        have hnd := hg.nd
        rw [← hmap] at hnd
        have hnd := (sy_perm (hpm.map (·.1))).nodup_iff.1 hnd
        rw [List.map_cons, List.map_cons] at hnd
        rcases List.mem_cons.1 (hpm.subset hp) with rfl | hp
        · have hs' : s ∈ (grp l).s := by rw [hgr]; exact List.mem_append_left _ hs
          have h3 := hat (⟨x.w + y.w, x.s ++ y.s⟩, d) (by simp) s (List.mem_append_left _ hs)
          rw [h3, hin s hs']
          show _ = oat o s + (d + 1)
          omega
        · rcases List.mem_cons.1 hp with rfl | hp
          · have hs' : s ∈ (grp l).s := by rw [hgr]; exact List.mem_append_right _ hs
            have h3 := hat (⟨x.w + y.w, x.s ++ y.s⟩, d) (by simp) s (List.mem_append_right _ hs)
            rw [h3, hin s hs']
            show _ = oat o s + (d + 1)
            omega
          · have hs' : s ∉ (grp l).s := by
              rw [hgr]
              exact disj hnd (List.mem_map_of_mem hp) hs
            have h3 := hat p (List.mem_append_left _ hp) s hs
            rw [h3, hout s hs']
      · rw [hmf]
        have hs1 : s ∉ sy (joinG l) := fun h => hs ((sy_join h2).subset h)
        have hs2 : s ∉ (grp l).s := fun h => hs1 (by rw [hj]; exact mem_sy (g := ⟨x.w + y.w, x.s ++ y.s⟩) (by simp) (by rw [hgr] at h; exact h))
        rw [hno s hs1, hout s hs2]
end Go.Proofs.Ytphalcpmeblkgaa.HuffM
namespace Go.Proofs.Ytphalcpmeblkgaa.HuffM

theorem gI_len (W : List Nat) (i : Nat) (hi : i ≤ W.length) : (gI W i).length = cnt (W.take i) := by
  induction i with
  | zero => simp [gI, cnt]
  | succ i ih =>
    have ih := ih (by omega)
    have e : W[i]? = some (W.getD i 0) := by rw [List.getD_eq_getElem?_getD, List.getElem?_eq_getElem (by omega)]; rfl
    rw [gI_step, take_snoc e]
    unfold cnt at ih ⊢
    rw [List.countP_append]
    split
    · rename_i h
      rw [List.length_append, ih, List.countP_singleton]
      simp only [decide_eq_true_eq, h, if_true]
      rfl
    · rename_i h
      rw [ih, List.countP_singleton]
      simp only [decide_eq_true_eq, h, if_false]
      omega
theorem gI_mem (W : List Nat) (i j : Nat) (hj : j < i) (h : 0 < W.getD j 0) : (⟨W.getD j 0, [j]⟩ : Grp) ∈ gI W i := by
  induction i with
  | zero => omega
  | succ i ih =>
    rw [gI_step]
    rcases Nat.lt_succ_iff_lt_or_eq.1 hj with h1 | rfl
    · split
      · exact List.mem_append_left _ (ih h1)
      · exact ih h1
    · rw [if_pos h]; simp
theorem gI_nosy (W : List Nat) (i s : Nat) (h : ¬ 0 < W.getD s 0) : s ∉ sy (gI W i) := by
  intro hs
  obtain ⟨g, hg, hs⟩ := List.mem_flatMap.1 hs
  obtain ⟨h1, j, _, h3, h4⟩ := gI_w W i g hg
  rw [h4] at hs
  simp at hs
  subst hs
  omega
/-- what once tells of each symbol, where two or more have weight -/
structure OnceD (W : List Nat) (L : List (Grp × Nat)) : Prop where
  map : L.map (·.1) = gI W W.length
  dep : Dep L
  at_ : ∀ p ∈ L, ∀ s ∈ p.1.s, oat (onceL W) s = p.2
theorem once_dep {W : List Nat} (h : (gI W W.length).length ≠ 1) : (∃ L, OnceD W L) ∧ ∀ s, ¬ 0 < W.getD s 0 → oat (onceL W) s = 0 := by
  have e : onceL W = mergeF (gI W W.length).length (gI W W.length) (once0 W) := by unfold onceL; simp only [if_neg h]
  obtain ⟨L, h1, h2, h3, h4⟩ := merge_dep (gI W W.length).length (gI W W.length) (once0 W) (by omega) (good0 W)
  refine ⟨⟨L, h1, h2, fun p hp s hs => ?_⟩, fun s hs => ?_⟩
  · rw [e, h3 p hp s hs]
    have := zero_at W.length s
    unfold once0
    omega
  · rw [e, h4 s (gI_nosy W _ s hs)]
    exact zero_at _ _
theorem once_one {W : List Nat} (h : (gI W W.length).length = 1) : ∃ j, j < W.length ∧ 0 < W.getD j 0 ∧ (∀ s, 0 < W.getD s 0 → s = j) ∧ ∀ s, oat (onceL W) s = if s = j then 1 else 0 := by
  obtain ⟨g, hg⟩ : ∃ g, gI W W.length = [g] := by
    cases hl : gI W W.length with
    | nil => rw [hl] at h; simp at h
    | cons g l =>
      cases l with
      | nil => exact ⟨g, rfl⟩
      | cons _ _ => rw [hl] at h; simp at h
  obtain ⟨h1, j, h2, h3, h4⟩ := gI_w W W.length g (by rw [hg]; simp)
  refine ⟨j, h2, by omega, fun s hs => ?_, fun s => ?_⟩
  · have hs1 : s < W.length := by
      rcases Nat.lt_or_ge s W.length with h | h
      · exact h
      · rw [List.getD_eq_getElem?_getD, List.getElem?_eq_none h] at hs; simp at hs
    have := gI_mem W W.length s hs1 hs
    rw [hg] at this
    simp at this
    rw [← this] at h4
    simpa using h4
  · unfold onceL
    simp only [h, if_true]
    rw [merge_one _ _ _ (by omega), hg]
    have e : ((gat [g] 0).s.getD 0 0) = j := by unfold gat; simp [h4]
    rw [e]
    unfold oat
    rw [List.getD_eq_getElem?_getD, List.getElem?_set]
    unfold once0
    by_cases hsj : j = s
    · subst hsj
      simp [h2]
    · rw [if_neg hsj, if_neg (fun h => hsj h.symm), ← List.getD_eq_getElem?_getD]
      exact zero_at _ _
theorem once_zero (W : List Nat) (s : Nat) : oat (onceL W) s = 0 ↔ ¬ 0 < W.getD s 0 := by
  by_cases h : (gI W W.length).length = 1
  · obtain ⟨j, h1, h2, h3, h4⟩ := once_one h
    rw [h4]
    constructor
    · intro h5 h6
      rw [if_pos (h3 s h6)] at h5
      omega
    · intro h5
      rw [if_neg]
      rintro rfl
      exact h5 h2
  · obtain ⟨⟨L, hL⟩, h0⟩ := once_dep h
    refine ⟨fun h5 h6 => ?_, h0 s⟩
    have hs1 : s < W.length := by
      rcases Nat.lt_or_ge s W.length with h | h
      · exact h
      · rw [List.getD_eq_getElem?_getD, List.getElem?_eq_none h] at h6; simp at h6
    have hm := gI_mem W W.length s hs1 h6
    rw [← hL.map] at hm
    obtain ⟨p, hp, hpe⟩ := List.mem_map.1 hm
    have hlen : 2 ≤ L.length := by
      have h7 := List.length_pos_of_mem hp
      have h8 : L.length = (gI W W.length).length := by rw [← hL.map, List.length_map]
      omega
    have h7 := hL.dep.deep hlen p hp
    have h8 := hL.at_ p hp s (by rw [hpe]; simp)
    omega
theorem once_mono {W : List Nat} {i k : Nat} (hk : 0 < W.getD k 0) (h : W.getD k 0 < W.getD i 0) : oat (onceL W) i ≤ oat (onceL W) k := by
  have lt : ∀ {s : Nat}, 0 < W.getD s 0 → s < W.length := fun {s} h6 => by
    rcases Nat.lt_or_ge s W.length with h | h
    · exact h
    · rw [List.getD_eq_getElem?_getD, List.getElem?_eq_none h] at h6; simp at h6
  by_cases h1 : (gI W W.length).length = 1
  · obtain ⟨j, _, _, h3, _⟩ := once_one h1
    have e1 := h3 i (by omega)
    have e2 := h3 k hk
    subst e1
    subst e2
    omega
  · obtain ⟨⟨L, hL⟩, _⟩ := once_dep h1
    have hmi := gI_mem W W.length i (lt (by omega)) (by omega)
    have hmk := gI_mem W W.length k (lt hk) hk
    rw [← hL.map] at hmi hmk
    obtain ⟨p, hp, hpe⟩ := List.mem_map.1 hmi
    obtain ⟨q, hq, hqe⟩ := List.mem_map.1 hmk
    have h2 := hL.dep.mono hp hq (by rw [hpe, hqe]; exact h)
    rw [hL.at_ p hp i (by rw [hpe]; simp), hL.at_ q hq k (by rw [hqe]; simp)]
    exact h2
theorem fits_of {most : Nat} {o : List Nat} (h : ∀ s, oat o s ≤ most) : fits most o = true := by
  unfold fits
  rw [List.all_eq_true]
  intro x hx
  obtain ⟨i, hi, rfl⟩ := List.getElem_of_mem hx
  have := h i
  unfold oat at this
  rw [List.getD_eq_getElem?_getD, List.getElem?_eq_getElem hi] at this
  simpa using this
theorem fits_at {most : Nat} {o : List Nat} (h : fits most o = true) (s : Nat) : oat o s ≤ most := by
  unfold fits at h
  rw [List.all_eq_true] at h
  unfold oat
  rw [List.getD_eq_getElem?_getD]
  cases hs : o[s]? with
  | none => simp
  | some x => simpa using h x (List.mem_of_getElem? hs)
/-- with little weight no length is above 15 -/
theorem once_small {W : List Nat} (h : W.sum < 2584) : fits 15 (onceL W) = true := by
  refine fits_of fun s => ?_
  by_cases h1 : (gI W W.length).length = 1
  · obtain ⟨j, _, _, _, h4⟩ := once_one h1
    rw [h4]
    split <;> omega
  · obtain ⟨⟨L, hL⟩, h0⟩ := once_dep h1
    by_cases h6 : 0 < W.getD s 0
    · have hs1 : s < W.length := by
        rcases Nat.lt_or_ge s W.length with h | h
        · exact h
        · rw [List.getD_eq_getElem?_getD, List.getElem?_eq_none h] at h6; simp at h6
      have hm := gI_mem W W.length s hs1 h6
      rw [← hL.map] at hm
      obtain ⟨p, hp, hpe⟩ := List.mem_map.1 hm
      rw [hL.at_ p hp s (by rw [hpe]; simp)]
      refine hL.dep.small (fun q hq => ?_) ?_ p hp
      · have := List.mem_map_of_mem (f := (·.1)) hq
        rw [hL.map] at this
        exact (gI_w W _ _ this).1
      · have e : wsum L = sumW (gI W W.length) := by
          rw [← hL.map]
          unfold wsum sumW
          rw [List.map_map]
          rfl
        rw [e, gI_sum W _ (Nat.le_refl _), List.take_length]
        exact h
    · rw [h0 s h6]; omega
/-- the parts, symbol by symbol -/
theorem part_sum (W : List Nat) (o : List Nat) (ho : o.length = W.length) (hz : ∀ s, oat o s = 0 ↔ ¬ 0 < W.getD s 0) (h15 : ∀ s, oat o s ≤ 15) (i : Nat) (hi : i ≤ W.length) :
    rsum ((o.take i).map fun x : Nat => (x : Int)) = ((gI W i).map fun g => 2 ^ (15 - oat o (g.s.getD 0 0))).sum := by
  induction i with
  | zero => simp [gI, rsum]
  | succ i ih =>
    have ih := ih (by omega)
    have e : o[i]? = some (oat o i) := by unfold oat; rw [List.getD_eq_getElem?_getD, List.getElem?_eq_getElem (by omega)]; rfl
    rw [gI_step, take_snoc e, List.map_append, List.map_singleton, rsum_snoc, ih]
    have hzi := hz i
    have h1 := h15 i
    split
    · rename_i h
      rw [List.map_append, List.sum_append]
      congr 1
      have hpos : 0 < oat o i := by omega
      unfold kr
      rw [if_pos (by omega)]
      simp only [List.map_cons, List.map_nil, List.sum_cons, List.sum_nil, List.getD_cons_zero, Int.toNat_natCast, Nat.add_zero]
      rw [show (32768 : Nat) = 2 ^ 15 from rfl, Nat.pow_div h1 (by omega)]
    · rename_i h
      have : oat o i = 0 := hzi.2 h
      rw [this]
      rfl
theorem many_once (W : List Nat) (o : List Nat) (ho : o.length = W.length) (hz : ∀ s, oat o s = 0 ↔ ¬ 0 < W.getD s 0) (i : Nat) (hi : i ≤ W.length) :
    many ((o.take i).map fun x : Nat => (x : Int)) = (gI W i).length := by
  induction i with
  | zero => simp [gI, many]
  | succ i ih =>
    have ih := ih (by omega)
    have e : o[i]? = some (oat o i) := by unfold oat; rw [List.getD_eq_getElem?_getD, List.getElem?_eq_getElem (by omega)]; rfl
    rw [gI_step, take_snoc e, List.map_append, List.map_singleton, many_snoc, ih]
    have hzi := hz i
    split
    · rename_i h
      rw [if_pos (by omega), List.length_append]; rfl
    · rename_i h
      rw [if_neg (by omega)]; rfl
theorem ones_one (o : List Nat) (j : Nat) (hj : j < o.length) (h : ∀ s, oat o s = if s = j then 1 else 0) (i : Nat) (hi : i ≤ o.length) :
    ones ((o.take i).map fun x : Nat => (x : Int)) = if j < i then 1 else 0 := by
  induction i with
  | zero => simp [ones]
  | succ i ih =>
    have ih := ih (by omega)
    have e : o[i]? = some (oat o i) := by unfold oat; rw [List.getD_eq_getElem?_getD, List.getElem?_eq_getElem (by omega)]; rfl
    rw [take_snoc e, List.map_append, List.map_singleton, ones_snoc, ih, h i]
    by_cases h1 : i = j
    · subst h1
      simp
    · by_cases h2 : j < i
      · have h3 : j < i + 1 := by omega
        simp [h1, h2, h3]
      · have h3 : ¬ j < i + 1 := by omega
        simp [h1, h2, h3]
/-- there is a code of the lengths -/
theorem once_right {W : List Nat} (h : fits 15 (onceL W) = true) (hs : ∃ s, 0 < W.getD s 0) : rightB ((onceL W).map fun x : Nat => (x : Int)) = true := by
  have h15 := fits_at h
  have hl := onceL_len W
  have hz := once_zero W
  unfold rightB
  rw [Bool.and_eq_true]
  constructor
  · rw [List.all_eq_true]
    intro x hx
    obtain ⟨n, hn, rfl⟩ := List.mem_map.1 hx
    unfold fits at h
    rw [List.all_eq_true] at h
    have := h n hn
    simp at this
    unfold inR
    simp
    omega
  · rw [Bool.or_eq_true]
    by_cases h1 : (gI W W.length).length = 1
    · right
      obtain ⟨j, h2, _, _, h4⟩ := once_one h1
      have e1 := many_once W (onceL W) hl hz W.length (Nat.le_refl _)
      have e2 := ones_one (onceL W) j (by omega) h4 W.length (by omega)
      rw [← hl, List.take_length] at e1
      rw [← hl, List.take_length] at e2
      rw [if_pos (by omega)] at e2
      rw [hl, h1] at e1
      rw [e1, e2]
      rfl
    · left
      obtain ⟨⟨L, hL⟩, _⟩ := once_dep h1
      have e := part_sum W (onceL W) hl hz h15 W.length (Nat.le_refl _)
      rw [← hl, List.take_length, hl] at e
      have hd : ∀ p ∈ L, oat (onceL W) (p.1.s.getD 0 0) = p.2 := by
        intro p hp
        have h5 := List.mem_map_of_mem (f := (·.1)) hp
        rw [hL.map] at h5
        obtain ⟨_, j, _, _, h6⟩ := gI_w W _ _ h5
        have h6 : p.1.s = [j] := h6
        have h7 := hL.at_ p hp j (by rw [h6]; simp)
        rw [h6]
        exact h7
      have hk := hL.dep.kraft 15 (by
        rintro rfl
        obtain ⟨s, hs⟩ := hs
        have hs1 : s < W.length := by
          rcases Nat.lt_or_ge s W.length with h | h
          · exact h
          · rw [List.getD_eq_getElem?_getD, List.getElem?_eq_none h] at hs; simp at hs
        have hm := gI_mem W W.length s hs1 hs
        rw [← hL.map] at hm
        simp at hm) (fun p hp => by rw [← hd p hp]; exact h15 _)
      have e3 : ((gI W W.length).map fun g => 2 ^ (15 - oat (onceL W) (g.s.getD 0 0))).sum = ksum 15 L := by
        rw [← hL.map, List.map_map]
        unfold ksum
        congr 1
        apply List.map_congr_left
        intro p hp
        simp only [Function.comp_def]
        rw [hd p hp]
      rw [e, e3, hk]
      rfl
theorem half_pos (W : List Nat) (s : Nat) : 0 < (half W).getD s 0 ↔ 0 < W.getD s 0 := by
  unfold half
  rw [List.getD_eq_getElem?_getD, List.getD_eq_getElem?_getD, List.getElem?_map]
  cases W[s]? with
  | none => simp
  | some x => simp; omega
/-- what the lengths by weights are: those of once, of weights that are 0 at the same places -/
theorem lens_is {most : Nat} (hm : 1 ≤ most) : ∀ (n : Nat) (W : List Nat), W.sum ≤ n → cnt W ≤ 2 ^ most → ∃ W', W'.length = W.length ∧ (∀ s, 0 < W'.getD s 0 ↔ 0 < W.getD s 0) ∧ lens most W = onceL W' ∧ fits most (onceL W') = true := by
  intro n
  induction n with
  | zero =>
    intro W hn hc
    cases h : fits most (onceL W) with
    | true => exact ⟨W, rfl, fun _ => Iff.rfl, lens_yes h, h⟩
    | false => have := (lens_no hm hc h).2; omega
  | succ n ih =>
    intro W hn hc
    cases h : fits most (onceL W) with
    | true => exact ⟨W, rfl, fun _ => Iff.rfl, lens_yes h, h⟩
    | false =>
      obtain ⟨h1, h2⟩ := lens_no hm hc h
      obtain ⟨W', h3, h4, h5, h6⟩ := ih (half W) (by omega) (by rw [cnt_half]; exact hc)
      exact ⟨W', by rw [h3, half_len], fun s => by rw [h4, half_pos], by rw [h1, h5], h6⟩
/-- 5.1, 5.4 in plain words -/
theorem lens_short {most : Nat} {W : List Nat} (hm : 1 ≤ most) (hm2 : most ≤ 15) (hc : cnt W ≤ 2 ^ most) :
    (lens most W).length = W.length ∧ (∀ s, oat (lens most W) s ≤ most) ∧ (∀ s, oat (lens most W) s = 0 ↔ ¬ 0 < W.getD s 0) ∧
    ((∃ s, 0 < W.getD s 0) → rightB ((lens most W).map fun x : Nat => (x : Int)) = true) := by
  obtain ⟨W', h1, h2, h3, h4⟩ := lens_is hm W.sum W (Nat.le_refl _) hc
  refine ⟨lens_len most W, fun s => ?_, fun s => ?_, fun ⟨s, hs⟩ => ?_⟩
  · rw [h3]; exact fits_at h4 s
  · rw [h3, once_zero, h2]
  · rw [h3]
    exact once_right (fits_of fun s => by have := fits_at h4 s; omega) ⟨s, (h2 s).2 hs⟩
/-- with little weight, and where 15 bits' longest is within the most: nothing is halved -/
theorem lens_free {most : Nat} {W : List Nat} (hs : W.sum < 2000) (hl : ∀ s, oat (lens 15 W) s ≤ most) :
    lens most W = lens 15 W ∧ ∀ i k, 0 < W.getD k 0 → W.getD k 0 < W.getD i 0 → oat (lens most W) i ≤ oat (lens most W) k := by
  have h1 : lens 15 W = onceL W := lens_yes (once_small (by omega))
  rw [h1] at hl
  have h2 : lens most W = onceL W := lens_yes (fits_of hl)
  rw [h1, h2]
  exact ⟨rfl, fun i k hk h => once_mono hk h⟩
end Go.Proofs.Ytphalcpmeblkgaa.HuffM
namespace Go.Proofs.Ytphalcpmeblkgaa.HuffM

/-- two places change theirs -/
def swp (d : List Nat) (i j : Nat) : List Nat := (d.set i (d.getD j 0)).set j (d.getD i 0)
theorem swp_len (d : List Nat) (i j : Nat) : (swp d i j).length = d.length := by simp [swp]
theorem getD_at (P : List Nat) (x : Nat) (S : List Nat) (i : Nat) (hi : i = P.length) : (P ++ x :: S).getD i 0 = x := by
  subst hi
  simp [List.getD_eq_getElem?_getD]
theorem getE_at (P : List Nat) (x : Nat) (S : List Nat) (i : Nat) (hi : i = P.length) : (P ++ x :: S)[i]? = some x := by
  subst hi
  simp
theorem set_at (P : List Nat) (x y : Nat) (S : List Nat) (i : Nat) (hi : i = P.length) : (P ++ x :: S).set i y = P ++ y :: S := by
  subst hi
  rw [List.set_append_right _ _ (Nat.le_refl _), Nat.sub_self, List.set_cons_zero]
/-- the first place ahead of the second -/
theorem swp_at (P M S : List Nat) (x y i j : Nat) (hi : i = P.length) (hj : j = P.length + 1 + M.length) : swp (P ++ x :: (M ++ y :: S)) i j = P ++ y :: (M ++ x :: S) := by
  have e2 : (P ++ x :: (M ++ y :: S)).getD j 0 = y := by
    have := getD_at (P ++ x :: M) y S j (by simp; omega)
    simpa using this
  unfold swp
  rw [e2, getD_at P x _ i hi, set_at P x y _ i hi]
  have := set_at (P ++ y :: M) y x S j (by simp; omega)
  simpa using this
theorem swp_comm (d : List Nat) (i j : Nat) : swp d i j = swp d j i := by
  by_cases h : i = j
  · subst h; rfl
  · unfold swp
    rw [List.set_comm _ _ h]

/-- by keys, then by numbers -/
def lx (key : Nat → Nat) (x y : Nat) : Prop := key x < key y ∨ (key x = key y ∧ x < y)
def Srt (key : Nat → Nat) (l : List Nat) : Prop := l.Pairwise (lx key)
/-- of one key, who stands ahead is less -/
def Stb (key : Nat → Nat) (A B : List Nat) : Prop := ∀ x ∈ A, ∀ y ∈ B, key x = key y → x < y
section
variable {key : Nat → Nat}
theorem lx_trans {x y z : Nat} (h : lx key x y) (k : lx key y z) : lx key x z := by
  unfold lx at *
  omega
theorem lx_key {x y : Nat} (h : lx key x y) : key x ≤ key y := by
  unfold lx at h
  omega
theorem lx_asymm {x y : Nat} (h : lx key x y) (k : lx key y x) : False := by
  unfold lx at *
  omega
theorem lx_of_stb {x y : Nat} (h : key x = key y → x < y) (k : ¬ key y < key x) : lx key x y := by
  unfold lx
  omega
theorem srt_app {A B : List Nat} : Srt key (A ++ B) ↔ Srt key A ∧ Srt key B ∧ ∀ x ∈ A, ∀ y ∈ B, lx key x y := List.pairwise_append
theorem srt_perm_eq {A B : List Nat} (hA : Srt key A) (hB : Srt key B) (hp : A.Perm B) : A = B := by
  induction A generalizing B with
  | nil => exact hp.nil_eq
  | cons x A ih =>
    cases B with
    | nil => exact absurd hp.length_eq (by simp)
    | cons y B =>
      have hA' := List.pairwise_cons.1 hA
      have hB' := List.pairwise_cons.1 hB
      have hx : x ∈ y :: B := hp.mem_iff.1 (List.mem_cons_self ..)
      have hy : y ∈ x :: A := hp.mem_iff.2 (List.mem_cons_self ..)
      have e : x = y := by
        rcases List.mem_cons.1 hx with h | h
        · exact h
        · rcases List.mem_cons.1 hy with h' | h'
          · exact h'.symm
          · exact (lx_asymm (hB'.1 x h) (hA'.1 y h')).elim
      subst e
      rw [ih hA'.2 hB'.2 hp.cons_inv]
/-- all of a sorted list lie ahead of y, if its last one does -/
theorem ahead_of {A : List Nat} {z y : Nat} (h : Srt key (A ++ [z])) (k : lx key z y) : ∀ x ∈ A ++ [z], lx key x y := by
  intro x hx
  rcases List.mem_append.1 hx with hx | hx
  · exact lx_trans ((srt_app.1 h).2.2 x hx z (by simp)) k
  · simp at hx; subst hx; exact k
/-- all of a sorted list lie behind y, if its first one does -/
theorem behind_of {A : List Nat} {z y : Nat} (h : Srt key (z :: A)) (k : lx key y z) : ∀ x ∈ z :: A, lx key y x := by
  intro x hx
  rcases List.mem_cons.1 hx with hx | hx
  · subst hx; exact k
  · exact lx_trans k ((List.pairwise_cons.1 h).1 x hx)
theorem ins_end {C1 C2 : List Nat} {y : Nat} (h : Srt key (C1 ++ C2)) (h1 : ∀ x ∈ C1, lx key x y) (h2 : ∀ z ∈ C2, lx key y z) : Srt key (C1 ++ y :: C2) := by
  obtain ⟨a, b, c⟩ := srt_app.1 h
  refine srt_app.2 ⟨a, List.pairwise_cons.2 ⟨h2, b⟩, fun x hx z hz => ?_⟩
  rcases List.mem_cons.1 hz with rfl | hz
  · exact h1 x hx
  · exact c x hx z hz
theorem getD_seg (P L : List Nat) (i k : Nat) (h : i = P.length + k) : (P ++ L).getD i 0 = L.getD k 0 := by
  subst h
  rw [List.getD_eq_getElem?_getD, List.getElem?_append_right (by omega), Nat.add_sub_cancel_left, ← List.getD_eq_getElem?_getD]
theorem getD_fst (L M : List Nat) (k : Nat) (h : k < L.length) : (L ++ M).getD k 0 = L.getD k 0 := by
  rw [List.getD_eq_getElem?_getD, List.getElem?_append_left h, ← List.getD_eq_getElem?_getD]
theorem take_last {B : List Nat} {k : Nat} (h0 : 0 < k) (h : k ≤ B.length) : B.take k = B.take (k - 1) ++ [B.getD (k - 1) 0] := by
  have e : B[k - 1]? = some (B.getD (k - 1) 0) := by rw [List.getD_eq_getElem?_getD, List.getElem?_eq_getElem (by omega)]; rfl
  conv => lhs; rw [show k = (k - 1) + 1 by omega, List.take_add_one, e]
  rfl
theorem drop_first {B : List Nat} {k : Nat} (h : k < B.length) : B.drop k = B.getD k 0 :: B.drop (k + 1) := by
  rw [List.drop_eq_getElem_cons h, List.getD_eq_getElem?_getD, List.getElem?_eq_getElem h]
  rfl
theorem getD_mem {B : List Nat} {k : Nat} (h : k < B.length) : B.getD k 0 ∈ B := by
  rw [List.getD_eq_getElem?_getD, List.getElem?_eq_getElem h]
  exact List.getElem_mem h
theorem srt_take {B : List Nat} (h : Srt key B) (k : Nat) : Srt key (B.take k) := List.Pairwise.sublist (List.take_sublist k B) h
theorem srt_drop {B : List Nat} (h : Srt key B) (k : Nat) : Srt key (B.drop k) := List.Pairwise.sublist (List.drop_sublist k B) h
theorem stb_take {A B : List Nat} (h : Stb key A B) (k l : Nat) : Stb key (A.take k) (B.take l) := fun x hx y hy => h x (List.mem_of_mem_take hx) y (List.mem_of_mem_take hy)
theorem stb_drop {A B : List Nat} (h : Stb key A B) (k l : Nat) : Stb key (A.drop k) (B.drop l) := fun x hx y hy => h x (List.mem_of_mem_drop hx) y (List.mem_of_mem_drop hy)
/-- all of the first k lie ahead of y, if the last of them does -/
theorem take_ahead {B : List Nat} {k y : Nat} (hB : Srt key B) (hk : k ≤ B.length) (h : k = 0 ∨ lx key (B.getD (k - 1) 0) y) : ∀ x ∈ B.take k, lx key x y := by
  rcases Nat.eq_zero_or_pos k with rfl | h0
  · intro x hx; simp at hx
  · rcases h with h | h
    · omega
    · have e := take_last h0 hk
      have s := srt_take hB k
      rw [e] at s ⊢
      exact ahead_of s h
/-- all behind the first k lie behind y, if the first of them does -/
theorem drop_behind {B : List Nat} {k y : Nat} (hB : Srt key B) (h : k = B.length ∨ lx key y (B.getD k 0)) : ∀ x ∈ B.drop k, lx key y x := by
  by_cases hk : k < B.length
  · rcases h with h | h
    · omega
    · have e := drop_first hk
      have s := srt_drop hB k
      rw [e] at s ⊢
      exact behind_of s h
  · intro x hx
    rw [List.drop_eq_nil_of_le (by omega)] at hx
    simp at hx
/-- one symbol goes into a sorted list behind it -/
theorem merge1 {B : List Nat} {x k : Nat} (hB : Srt key B) (hs : Stb key [x] B) (hk : k ≤ B.length) (h1 : k = 0 ∨ key (B.getD (k - 1) 0) < key x) (h2 : k = B.length ∨ ¬ key (B.getD k 0) < key x) : Srt key (B.take k ++ x :: B.drop k) := by
  refine ins_end (by rw [List.take_append_drop]; exact hB) (take_ahead hB hk (h1.imp id .inl)) (drop_behind hB ?_)
  by_cases hkl : k = B.length
  · exact .inl hkl
  · exact .inr (lx_of_stb (hs x (by simp) _ (getD_mem (by omega))) (h2.resolve_left hkl))
/-- one symbol goes into a sorted list ahead of it -/
theorem merge2 {A : List Nat} {y k : Nat} (hA : Srt key A) (hs : Stb key A [y]) (hk : k ≤ A.length) (h1 : k = 0 ∨ ¬ key y < key (A.getD (k - 1) 0)) (h2 : k = A.length ∨ key y < key (A.getD k 0)) : Srt key (A.take k ++ y :: A.drop k) := by
  refine ins_end (by rw [List.take_append_drop]; exact hA) (take_ahead hA hk ?_) (drop_behind hA (h2.imp id .inl))
  by_cases hk0 : k = 0
  · exact .inl hk0
  · exact .inr (lx_of_stb (hs _ (getD_mem (by omega)) y (by simp)) (h1.resolve_left hk0))
/-- two sorted lists, cut so that the first parts lie ahead of the second ones -/
theorem merge3 {A B : List Nat} {k l : Nat} (hA : Srt key A) (hB : Srt key B) (hs : Stb key A B) (hk : k ≤ A.length) (hl : l ≤ B.length)
    (h1 : k = 0 ∨ l = B.length ∨ ¬ key (B.getD l 0) < key (A.getD (k - 1) 0)) (h2 : k = A.length ∨ l = 0 ∨ key (B.getD (l - 1) 0) < key (A.getD k 0)) :
    ∀ x ∈ A.take k ++ B.take l, ∀ y ∈ A.drop k ++ B.drop l, lx key x y := by
  have hAA : Srt key (A.take k ++ A.drop k) := by rw [List.take_append_drop]; exact hA
  have hBB : Srt key (B.take l ++ B.drop l) := by rw [List.take_append_drop]; exact hB
  have ab : ∀ x ∈ A.take k, ∀ y ∈ B.drop l, lx key x y := by
    intro x hx y hy
    have hk0 : k ≠ 0 := by rintro rfl; simp at hx
    have hll : l < B.length := by
      rcases Nat.lt_or_ge l B.length with h | h
      · exact h
      · rw [List.drop_eq_nil_of_le h] at hy; simp at hy
    have h := (h1.resolve_left hk0).resolve_left (by omega)
    have h3 : lx key (A.getD (k - 1) 0) (B.getD l 0) := lx_of_stb (hs _ (getD_mem (by omega)) _ (getD_mem hll)) h
    have h4 := take_ahead hA hk (.inr h3) x hx
    exact drop_behind hB (k := l) (.inr h4) y hy
  have ba : ∀ x ∈ B.take l, ∀ y ∈ A.drop k, lx key x y := by
    intro x hx y hy
    have hl0 : l ≠ 0 := by rintro rfl; simp at hx
    have hkk : k < A.length := by
      rcases Nat.lt_or_ge k A.length with h | h
      · exact h
      · rw [List.drop_eq_nil_of_le h] at hy; simp at hy
    have h := (h2.resolve_left (by omega)).resolve_left hl0
    have h4 := take_ahead hB hl (.inr (.inl h)) x hx
    exact drop_behind hA (k := k) (.inr h4) y hy
  intro x hx y hy
  rcases List.mem_append.1 hx with hx | hx <;> rcases List.mem_append.1 hy with hy | hy
  · exact (srt_app.1 hAA).2.2 x hx y hy
  · exact ab x hx y hy
  · exact ba x hx y hy
  · exact (srt_app.1 hBB).2.2 x hx y hy
/-- of one key, who stands ahead is less, in all of a list -/
def Sta (key : Nat → Nat) (l : List Nat) : Prop := l.Pairwise fun x y => key x = key y → x < y
theorem sta_stb {A B : List Nat} (h : Sta key (A ++ B)) : Sta key A ∧ Sta key B ∧ Stb key A B := List.pairwise_append.1 h
theorem srt_sta {A : List Nat} (h : Srt key A) : Sta key A := List.Pairwise.imp (fun {x y} h e => by unfold lx at h; omega) h
/-- a piece is put into order -/
theorem sta_in {P X C S : List Nat} (h : Sta key (P ++ (X ++ S))) (hp : C.Perm X) (hC : Srt key C) : Sta key (P ++ (C ++ S)) := by
  obtain ⟨a, b, c⟩ := sta_stb h
  obtain ⟨d, e, f⟩ := sta_stb b
  refine List.pairwise_append.2 ⟨a, List.pairwise_append.2 ⟨srt_sta hC, e, fun x hx y hy => f x (hp.mem_iff.1 hx) y hy⟩, fun x hx y hy => ?_⟩
  rcases List.mem_append.1 hy with hy | hy
  · exact c x hx y (List.mem_append_left _ (hp.mem_iff.1 hy))
  · exact c x hx y (List.mem_append_right _ hy)
theorem perm_in {P X C S D : List Nat} (h : (P ++ (X ++ S)).Perm D) (hp : C.Perm X) : (P ++ (C ++ S)).Perm D := ((List.Perm.append_left P (hp.append_right S))).trans h
/-- blocks of so many, each in order -/
def Bks (key : Nat → Nat) (bs : Nat) (L : List (List Nat)) : Prop := ∀ C ∈ L, C.length = bs ∧ Srt key C
theorem Bks.snoc {bs : Nat} {L : List (List Nat)} {C : List Nat} (h : Bks key bs L) (h1 : C.length = bs) (h2 : Srt key C) : Bks key bs (L ++ [C]) := by
  intro X hX
  rcases List.mem_append.1 hX with hX | hX
  · exact h X hX
  · simp at hX; subst hX; exact ⟨h1, h2⟩
theorem flat_snoc (L : List (List Nat)) (C : List Nat) : (L ++ [C]).flatten = L.flatten ++ C := by simp
end
end Go.Proofs.Ytphalcpmeblkgaa.HuffM
namespace Go.Proofs.Ytphalcpmeblkgaa.HuffM

/-- the length of a symbol's code -/
def kl (L : List Int) (x : Nat) : Nat := (L.getD x 0).toNat
/-- of the first k symbols those that have codes -/
def syms (L : List Int) (k : Nat) : List Nat := (List.range k).filter fun s => decide (0 < L.getD s 0)
theorem syms_succ (L : List Int) (k : Nat) : syms L (k + 1) = if 0 < L.getD k 0 then syms L k ++ [k] else syms L k := by
  unfold syms
  rw [List.range_succ, List.filter_append]
  by_cases h : 0 < L.getD k 0
  · rw [if_pos h]; simp only [List.filter_cons, List.filter_nil]; rw [if_pos (by simpa using h)]
  · rw [if_neg h]; simp only [List.filter_cons, List.filter_nil]; rw [if_neg (by simpa using h), List.append_nil]
theorem syms_mem {L : List Int} {k s : Nat} : s ∈ syms L k ↔ s < k ∧ 0 < L.getD s 0 := by simp [syms]
theorem syms_le (L : List Int) (k : Nat) : (syms L k).length ≤ k := by
  have := List.length_filter_le (fun s => decide (0 < L.getD s 0)) (List.range k)
  rwa [List.length_range] at this
theorem syms_sta (key : Nat → Nat) (L : List Int) (k : Nat) : Sta key (syms L k) := by
  unfold syms Sta
  exact ((List.pairwise_lt_range (n := k)).filter _).imp (R := fun x y => x < y) (S := fun x y => key x = key y → x < y) (fun h _ => h)
/-- the symbols whose codes have k bits -/
def blk (L : List Int) (k n : Nat) : List Nat := (List.range n).filter fun s => decide (L.getD s 0 = (k : Int))
def cod (L : List Int) : Nat → List Nat
  | 0 => []
  | k + 1 => cod L k ++ blk L (k + 1) L.length
/-- all of them, by rising codes -/
def codedL (L : List Int) : List Nat := cod L 15
theorem blk_mem {L : List Int} {k n s : Nat} : s ∈ blk L k n ↔ s < n ∧ L.getD s 0 = (k : Int) := by simp [blk]
theorem cod_mem {L : List Int} {k s : Nat} : s ∈ cod L k ↔ s < L.length ∧ 0 < L.getD s 0 ∧ L.getD s 0 ≤ (k : Int) := by
  induction k with
  | zero =>
    constructor
    · intro h; simp [cod] at h
    · rintro ⟨_, h1, h2⟩; omega
  | succ k ih =>
    rw [cod, List.mem_append, ih, blk_mem]
    constructor
    · rintro (⟨h1, h2, h3⟩ | ⟨h1, h2⟩)
      · exact ⟨h1, h2, by omega⟩
      · exact ⟨h1, by omega, by omega⟩
    · rintro ⟨h1, h2, h3⟩
      by_cases h : L.getD s 0 = ((k + 1 : Nat) : Int)
      · exact .inr ⟨h1, h⟩
      · exact .inl ⟨h1, h2, by omega⟩
theorem cod_srt (L : List Int) (k : Nat) : Srt (kl L) (cod L k) := by
  induction k with
  | zero => exact List.Pairwise.nil
  | succ k ih =>
    refine srt_app.2 ⟨ih, ?_, ?_⟩
    · unfold blk Srt
      refine List.Pairwise.imp_of_mem ?_ ((List.pairwise_lt_range (n := L.length)).filter _)
      intro x y hx hy h
      have h1 := (blk_mem (k := k + 1)).1 hx
      have h2 := (blk_mem (k := k + 1)).1 hy
      right
      unfold kl
      rw [h1.2, h2.2]
      exact ⟨rfl, h⟩
    · intro x hx y hy
      have h1 := cod_mem.1 hx
      have h2 := blk_mem.1 hy
      left
      unfold kl
      rw [h2.2]
      omega
theorem srt_mem_eq {key : Nat → Nat} {A B : List Nat} (hA : Srt key A) (hB : Srt key B) (hm : ∀ x, x ∈ A ↔ x ∈ B) : A = B := by
  induction A generalizing B with
  | nil =>
    cases B with
    | nil => rfl
    | cons y B => have := (hm y).2 (List.mem_cons_self ..); simp at this
  | cons x A ih =>
    cases B with
    | nil => have := (hm x).1 (List.mem_cons_self ..); simp at this
    | cons y B =>
      have hA' := List.pairwise_cons.1 hA
      have hB' := List.pairwise_cons.1 hB
      have e : x = y := by
        rcases List.mem_cons.1 ((hm x).1 (List.mem_cons_self ..)) with h | h
        · exact h
        · rcases List.mem_cons.1 ((hm y).2 (List.mem_cons_self ..)) with h' | h'
          · exact h'.symm
          · exact (lx_asymm (hB'.1 x h) (hA'.1 y h')).elim
      subst e
      have irr : ∀ z, ¬ lx key z z := fun z h => lx_asymm h h
      rw [ih hA'.2 hB'.2 fun z => ?_]
      constructor
      · intro h
        rcases List.mem_cons.1 ((hm z).1 (List.mem_cons_of_mem _ h)) with h' | h'
        · subst h'; exact (irr _ (hA'.1 z h)).elim
        · exact h'
      · intro h
        rcases List.mem_cons.1 ((hm z).2 (List.mem_cons_of_mem _ h)) with h' | h'
        · subst h'; exact (irr _ (hB'.1 z h)).elim
        · exact h'
/-- what a sort by lengths makes of the symbols that have codes -/
theorem coded_eq {L : List Int} (hL : ∀ x ∈ L, inR x = true) {C : List Nat} (hp : C.Perm (syms L L.length)) (hs : Srt (kl L) C) : C = codedL L := by
  refine srt_mem_eq hs (cod_srt L 15) fun x => ?_
  rw [hp.mem_iff, syms_mem, show codedL L = cod L 15 from rfl, cod_mem]
  constructor
  · rintro ⟨h1, h2⟩
    have h := hL _ (List.getElem_mem h1)
    have h0 : 0 ≤ L[x] ∧ L[x] ≤ 15 := by simpa [inR] using h
    have e : L.getD x 0 = L[x] := by rw [List.getD_eq_getElem?_getD, List.getElem?_eq_getElem h1]; rfl
    exact ⟨h1, h2, by rw [e]; exact h0.2⟩
  · rintro ⟨h1, h2, _⟩
    exact ⟨h1, h2⟩
theorem right_in {L : List Int} (h : rightB L = true) : ∀ x ∈ L, inR x = true := by
  unfold rightB at h
  rw [Bool.and_eq_true] at h
  exact List.all_eq_true.1 h.1
theorem right_some {L : List Int} (h : rightB L = true) : 0 < (syms L L.length).length := by
  rcases Nat.eq_zero_or_pos (syms L L.length).length with h0 | h0
  · exfalso
    have hno : ∀ x ∈ L, ¬ 0 < x := by
      intro x hx hp
      obtain ⟨i, hi, rfl⟩ := List.getElem_of_mem hx
      have : i ∈ syms L L.length := syms_mem.2 ⟨hi, by rw [List.getD_eq_getElem?_getD, List.getElem?_eq_getElem hi]; exact hp⟩
      rw [List.eq_nil_of_length_eq_zero h0] at this
      simp at this
    have hm : many L = 0 := by
      unfold many
      rw [List.countP_eq_zero]
      intro x hx
      simpa using hno x hx
    have hs : rsum L = 0 := by
      clear h h0 hm
      induction L with
      | nil => rfl
      | cons x L ih =>
        show kr x + rsum L = 0
        rw [ih (fun y hy => hno y (List.mem_cons_of_mem _ hy)), kr, if_neg (hno x (List.mem_cons_self ..))]
    unfold rightB at h
    rw [hs, hm] at h
    simp at h
  · exact h0
/-- one more code -/
def cst (L : List Int) (c : CS) (s : Nat) : CS := ⟨nextCode (kl L s) c, kl L s, c.out.set s (nextCode (kl L s) c)⟩
theorem crow_blk (L : List Int) (k n : Nat) (c : CS) : crow L k c n = (blk L k n).foldl (cst L) c := by
  induction n with
  | zero => rfl
  | succ n ih =>
    rw [crow, ih, cstep]
    unfold blk
    rw [List.range_succ, List.filter_append, List.foldl_append]
    by_cases h : L.getD n 0 = (k : Int)
    · rw [if_pos h]
      simp only [List.filter_cons, List.filter_nil]
      rw [if_pos (by simpa using h)]
      have e : kl L n = k := by unfold kl; rw [h]; rfl
      show _ = cst L _ n
      unfold cst
      rw [e]
    · rw [if_neg h]
      simp only [List.filter_cons, List.filter_nil]
      rw [if_neg (by simpa using h)]
      rfl
theorem call_cod (L : List Int) (k : Nat) : call L k = (cod L k).foldl (cst L) ⟨0, 0, List.replicate L.length 0⟩ := by
  induction k with
  | zero => rfl
  | succ k ih => rw [call, crow_blk, ih, cod, List.foldl_append]
/-- the state behind the first k of them -/
def cs (L : List Int) (k : Nat) : CS := ((codedL L).take k).foldl (cst L) ⟨0, 0, List.replicate L.length 0⟩
theorem cs_succ {L : List Int} {k s : Nat} (h : (codedL L)[k]? = some s) : cs L (k + 1) = cst L (cs L k) s := by
  unfold cs
  rw [take_snoc h, List.foldl_append]
  rfl
theorem cs_end (L : List Int) : (cs L (codedL L).length).out = codesL L := by
  unfold cs codesL
  rw [List.take_length, call_cod]
  rfl
end Go.Proofs.Ytphalcpmeblkgaa.HuffM
namespace Go.Proofs.Ytphalcpmeblkgaa.HuffM

/-- the first number of k bits behind all codes of k bits -/
def fe (L : List Int) : Nat → Nat
  | 0 => 0
  | k + 1 => 2 * fe L k + (blk L (k + 1) L.length).length
theorem cod_len_succ (L : List Int) (k : Nat) : (cod L (k + 1)).length = (cod L k).length + (blk L (k + 1) L.length).length := by rw [cod, List.length_append]
theorem fe_le (L : List Int) (k : Nat) : fe L k ≤ (cod L k).length * 2 ^ k := by
  induction k with
  | zero => simp [fe]
  | succ k ih =>
    rw [fe, cod_len_succ, Nat.pow_succ, Nat.add_mul]
    have h1 : (cod L k).length * (2 ^ k * 2) = 2 * ((cod L k).length * 2 ^ k) := by rw [← Nat.mul_assoc, Nat.mul_comm]
    have h2 : (blk L (k + 1) L.length).length * 1 ≤ (blk L (k + 1) L.length).length * (2 ^ k * 2) := Nat.mul_le_mul_left _ (by have := Nat.one_le_two_pow (n := k); omega)
    omega
theorem cod_pre (L : List Int) (k d : Nat) : ∃ R, cod L (k + d) = cod L k ++ R := by
  induction d with
  | zero => exact ⟨[], by simp⟩
  | succ d ih =>
    obtain ⟨R, h⟩ := ih
    exact ⟨R ++ blk L (k + d + 1) L.length, by rw [← Nat.add_assoc, cod, h, List.append_assoc]⟩
theorem cod_len_le (L : List Int) {k : Nat} (hk : k ≤ 15) : (cod L k).length ≤ (codedL L).length := by
  obtain ⟨R, h⟩ := cod_pre L k (15 - k)
  rw [show k + (15 - k) = 15 by omega] at h
  unfold codedL
  rw [h, List.length_append]
  omega
theorem coded_at {L : List Int} {k a x : Nat} (hk : k < 15) (h : (blk L (k + 1) L.length)[a]? = some x) : (codedL L)[(cod L k).length + a]? = some x := by
  obtain ⟨R, e⟩ := cod_pre L (k + 1) (15 - (k + 1))
  rw [show k + 1 + (15 - (k + 1)) = 15 by omega] at e
  unfold codedL
  rw [e, cod, List.append_assoc, List.getElem?_append_right (by omega), Nat.add_sub_cancel_left, List.getElem?_append_left (List.getElem?_eq_some_iff.1 h).1]
  exact h
theorem blk_cnt (L : List Int) (j k n : Nat) : (blk L k n).countP (fun s => decide (kl L s = j)) = if j = k then (blk L k n).length else 0 := by
  have hk : ∀ s ∈ blk L k n, kl L s = k := by
    intro s hs
    unfold kl
    rw [(blk_mem.1 hs).2]
    rfl
  by_cases e : j = k
  · rw [if_pos e, List.countP_eq_length]
    intro s hs
    simp [hk s hs, e]
  · rw [if_neg e, List.countP_eq_zero]
    intro s hs
    simp [hk s hs]
    omega
theorem cod_cnt (L : List Int) (j k : Nat) (hj : 0 < j) : (cod L k).countP (fun s => decide (kl L s = j)) = if j ≤ k then (blk L j L.length).length else 0 := by
  induction k with
  | zero => rw [if_neg (by omega)]; rfl
  | succ k ih =>
    rw [cod, List.countP_append, ih, blk_cnt]
    by_cases h1 : j ≤ k
    · rw [if_pos h1, if_neg (by omega), if_pos (by omega), Nat.add_zero]
    · rw [if_neg h1]
      by_cases h2 : j = k + 1
      · subst h2; rw [if_pos rfl, if_pos (Nat.le_refl _), Nat.zero_add]
      · rw [if_neg h2, if_neg (by omega)]

structure Ok (L : List Int) (k : Nat) (c : CS) : Prop where
  zero : c.last = 0 → fe L k = 0 ∧ c.code = 0
  pos : 0 < c.last → c.last ≤ k ∧ (c.code + 1) * 2 ^ (k - c.last) = fe L k
  len : c.out.length = L.length
  outs : ∀ j, j < k → ∀ a x, (blk L (j + 1) L.length)[a]? = some x → c.out[x]? = some (2 * fe L j + a)
structure Mid (L : List Int) (k i : Nat) (c0 c : CS) : Prop where
  zero : i = 0 → c = c0
  pos : 0 < i → c.last = k + 1 ∧ c.code + 1 = 2 * fe L k + i
  len : c.out.length = L.length
  outs : ∀ j, j < k → ∀ a x, (blk L (j + 1) L.length)[a]? = some x → c.out[x]? = some (2 * fe L j + a)
  news : ∀ a x, a < i → (blk L (k + 1) L.length)[a]? = some x → c.out[x]? = some (2 * fe L k + a)
theorem blk_inj {L : List Int} {k n a b x : Nat} (h1 : (blk L k n)[a]? = some x) (h2 : (blk L k n)[b]? = some x) : a = b := by
  have hp : (blk L k n).Pairwise (· < ·) := (List.pairwise_lt_range (n := n)).filter _
  obtain ⟨ha, ea⟩ := List.getElem?_eq_some_iff.1 h1
  obtain ⟨hb, eb⟩ := List.getElem?_eq_some_iff.1 h2
  have hp' := List.pairwise_iff_getElem.1 hp
  rcases Nat.lt_trichotomy a b with h | h | h
  · have := hp' a b ha hb h; omega
  · exact h
  · have := hp' b a hb ha h; omega
theorem mid_all {L : List Int} {k : Nat} {c0 : CS} (h0 : Ok L k c0) (hb : fe L (k + 1) < 9223372036854775808) (i : Nat) (hi : i ≤ (blk L (k + 1) L.length).length) : Mid L k i c0 (((blk L (k + 1) L.length).take i).foldl (cst L) c0) := by
  induction i with
  | zero => exact ⟨fun _ => rfl, fun h => by omega, h0.len, h0.outs, fun a x h => by omega⟩
  | succ i ih =>
    have M := ih (by omega)
    obtain ⟨s, hs⟩ : ∃ s, (blk L (k + 1) L.length)[i]? = some s := ⟨_, List.getElem?_eq_getElem (by omega)⟩
    have hm := blk_mem.1 (List.mem_of_getElem? hs)
    have hkl : kl L s = k + 1 := by unfold kl; rw [hm.2]; rfl
    rw [take_snoc hs, List.foldl_append]
    obtain ⟨c, hc⟩ : ∃ c, c = ((blk L (k + 1) L.length).take i).foldl (cst L) c0 := ⟨_, rfl⟩
    rw [← hc] at M ⊢
    have hfe : fe L (k + 1) = 2 * fe L k + (blk L (k + 1) L.length).length := rfl
    have hnext : nextCode (k + 1) c = 2 * fe L k + i := by
      unfold nextCode
      rcases Nat.eq_zero_or_pos i with e | e
      · have hc0 := M.zero e
        rw [hc0]
        by_cases hl : 0 < c0.last
        · rw [if_pos hl]
          obtain ⟨h1, h2⟩ := h0.pos hl
          have hx : c0.code + 1 ≤ fe L k := by
            rw [← h2]
            exact Nat.le_mul_of_pos_right _ (Nat.two_pow_pos _)
          have m1 : (c0.code + 1) % 18446744073709551616 = c0.code + 1 := Nat.mod_eq_of_lt (by omega)
          rw [m1, show k + 1 - c0.last = (k - c0.last) + 1 by omega, Nat.pow_succ, ← Nat.mul_assoc, h2, Nat.mod_eq_of_lt (by omega)]
          omega
        · rw [if_neg hl]
          obtain ⟨h1, h2⟩ := h0.zero (by omega)
          omega
      · obtain ⟨h1, h2⟩ := M.pos e
        rw [h1, if_pos (by omega), h2, Nat.sub_self, Nat.pow_zero, Nat.mul_one, Nat.mod_eq_of_lt (by omega), Nat.mod_eq_of_lt (by omega)]
    show Mid L k (i + 1) c0 (cst L c s)
    unfold cst
    rw [hkl, hnext]
    refine ⟨fun h => by omega, fun _ => ⟨rfl, by show 2 * fe L k + i + 1 = _; omega⟩, by show (List.set _ _ _).length = _; rw [List.length_set]; exact M.len, ?_, ?_⟩
    · intro j hj a x hx
      have hne : s ≠ x := by
        rintro rfl
        have := (blk_mem.1 (List.mem_of_getElem? hx)).2
        omega
      show (List.set _ _ _)[x]? = _
      rw [List.getElem?_set_ne hne]
      exact M.outs j hj a x hx
    · intro a x ha hx
      show (List.set _ _ _)[x]? = _
      by_cases hax : a = i
      · subst hax
        rw [hs] at hx
        injection hx with hx
        subst hx
        rw [List.getElem?_set_self (by rw [M.len]; exact hm.1)]
      · have hne : s ≠ x := by
          rintro rfl
          exact hax (blk_inj hx hs)
        rw [List.getElem?_set_ne hne]
        exact M.news a x (by omega) hx
theorem ok_call {L : List Int} (hl : (codedL L).length ≤ 1000) (k : Nat) (hk : k ≤ 15) : Ok L k (call L k) := by
  induction k with
  | zero => exact ⟨fun _ => ⟨rfl, rfl⟩, fun h => by have : (0 : Nat) < 0 := h; omega, by show (List.replicate _ _).length = _; simp, fun j hj => by omega⟩
  | succ k ih =>
    have h0 := ih (by omega)
    have hb : fe L (k + 1) < 9223372036854775808 := by
      have h1 := fe_le L (k + 1)
      have h2 := cod_len_le L hk
      have h3 := Nat.pow_le_pow_right (show 0 < 2 by omega) hk
      have h4 : (cod L (k + 1)).length * 2 ^ (k + 1) ≤ 1000 * 2 ^ 15 := Nat.mul_le_mul (by omega) h3
      omega
    have M := mid_all h0 hb (blk L (k + 1) L.length).length (Nat.le_refl _)
    rw [List.take_length, ← crow_blk] at M
    show Ok L (k + 1) (crow L (k + 1) (call L k) L.length)
    have hfe : fe L (k + 1) = 2 * fe L k + (blk L (k + 1) L.length).length := rfl
    rcases Nat.eq_zero_or_pos (blk L (k + 1) L.length).length with e | e
    · have hc := M.zero e
      rw [hc] at M ⊢
      refine ⟨fun h => ?_, fun h => ?_, h0.len, fun j hj a x hx => ?_⟩
      · have := h0.zero h
        exact ⟨by omega, this.2⟩
      · obtain ⟨h1, h2⟩ := h0.pos h
        refine ⟨by omega, ?_⟩
        rw [show k + 1 - (call L k).last = (k - (call L k).last) + 1 by omega, Nat.pow_succ, ← Nat.mul_assoc, h2]
        omega
      · by_cases hjk : j < k
        · exact h0.outs j hjk a x hx
        · obtain rfl : j = k := by omega
          rw [List.eq_nil_of_length_eq_zero e] at hx
          simp at hx
    · obtain ⟨h1, h2⟩ := M.pos e
      refine ⟨fun h => by omega, fun _ => ⟨by omega, ?_⟩, M.len, fun j hj a x hx => ?_⟩
      · rw [h1, Nat.sub_self, Nat.pow_zero, Nat.mul_one]
        omega
      · by_cases hjk : j < k
        · exact M.outs j hjk a x hx
        · obtain rfl : j = k := by omega
          exact M.news a x (List.getElem?_eq_some_iff.1 hx).1 hx
theorem code_at {L : List Int} (hl : (codedL L).length ≤ 1000) {j a x : Nat} (hj : j < 15) (h : (blk L (j + 1) L.length)[a]? = some x) : (codesL L).getD x 0 = 2 * fe L j + a := by
  have := (ok_call hl 15 (Nat.le_refl _)).outs j hj a x h
  unfold codesL
  rw [List.getD_eq_getElem?_getD, this]
  rfl
theorem hit_at {L : List Int} {B : List UInt8} {s : Nat} (hl : (codedL L).length ≤ 1000) (hL : ∀ x ∈ L, inR x = true) (hs : s < L.length) (h : hits L B s = true) :
    ∃ j a, j < 15 ∧ (blk L (j + 1) L.length)[a]? = some s ∧ j + 1 ≤ B.length ∧ bcode B (j + 1) = 2 * fe L j + a ∧ L.getD s 0 = ((j + 1 : Nat) : Int) := by
  have hin := hL _ (List.getElem_mem hs)
  have h0 : 0 ≤ L[s] ∧ L[s] ≤ 15 := by simpa [inR] using hin
  have e : L.getD s 0 = L[s] := by rw [List.getD_eq_getElem?_getD, List.getElem?_eq_getElem hs]; rfl
  unfold hits at h
  simp only [Bool.and_eq_true, bne_iff_ne, decide_eq_true_eq, beq_iff_eq] at h
  obtain ⟨⟨h1, h2⟩, h3⟩ := h
  obtain ⟨j, hj⟩ : ∃ j : Nat, L.getD s 0 = ((j + 1 : Nat) : Int) := ⟨(L.getD s 0).toNat - 1, by rw [e] at h1 ⊢; omega⟩
  have hb : s ∈ blk L (j + 1) L.length := blk_mem.2 ⟨hs, hj⟩
  obtain ⟨a, ha, ea⟩ := List.getElem_of_mem hb
  have hx : (blk L (j + 1) L.length)[a]? = some s := by rw [List.getElem?_eq_getElem ha, ea]
  have hj15 : j < 15 := by rw [e] at hj; omega
  refine ⟨j, a, hj15, hx, by rw [hj] at h2; omega, ?_, hj⟩
  rw [hj, code_at hl hj15 hx] at h3
  exact h3
theorem hit_of {L : List Int} {B : List UInt8} {s j a : Nat} (hl : (codedL L).length ≤ 1000) (hj : j < 15) (hx : (blk L (j + 1) L.length)[a]? = some s) (hb : j + 1 ≤ B.length) (hv : bcode B (j + 1) = 2 * fe L j + a) : hits L B s = true := by
  have hm := blk_mem.1 (List.mem_of_getElem? hx)
  unfold hits
  simp only [Bool.and_eq_true, bne_iff_ne, decide_eq_true_eq, beq_iff_eq]
  rw [hm.2, code_at hl hj hx]
  exact ⟨⟨by omega, by omega⟩, hv⟩
/-- codes of at most k bits are behind -/
theorem hit_far {L : List Int} {B : List UInt8} {j a k : Nat} (hk : ∀ i, i ≤ k → fe L i ≤ bcode B i) (ha : a < (blk L (j + 1) L.length).length) (hv : bcode B (j + 1) = 2 * fe L j + a) : k < j + 1 := by
  rcases Nat.lt_or_ge k (j + 1) with h | h
  · exact h
  · have h1 := hk (j + 1) h
    have h2 : fe L (j + 1) = 2 * fe L j + (blk L (j + 1) L.length).length := rfl
    omega
theorem below {L : List Int} {B : List UInt8} (hB : ∀ b ∈ B, b.toNat ≤ 1) {k : Nat} (h : bcode B k < fe L k) (d : Nat) (hd : k + d ≤ B.length) : bcode B (k + d) < fe L (k + d) := by
  induction d with
  | zero => exact h
  | succ d ih =>
    have h1 := ih (by omega)
    have hb : B[k + d]? = some B[k + d] := List.getElem?_eq_getElem (by omega)
    have h2 := hB _ (List.mem_of_getElem? hb)
    have h3 : fe L (k + d + 1) = 2 * fe L (k + d) + (blk L (k + d + 1) L.length).length := rfl
    rw [← Nat.add_assoc, bcode_succ hb, h3]
    omega
theorem found {L : List Int} {B : List UInt8} {K a s : Nat} (hl : (codedL L).length ≤ 1000) (hL : ∀ x ∈ L, inR x = true) (hB : ∀ b ∈ B, b.toNat ≤ 1) (hk : ∀ i, i ≤ K → fe L i ≤ bcode B i) (hK : K < 15) (hKB : K + 1 ≤ B.length)
    (hv : bcode B (K + 1) = 2 * fe L K + a) (hx : (blk L (K + 1) L.length)[a]? = some s) : nextS L B = ((s : Int), ((K + 1 : Nat) : Int)) := by
  have hit := hit_of hl hK hx hKB hv
  have hm := blk_mem.1 (List.mem_of_getElem? hx)
  have ha := (List.getElem?_eq_some_iff.1 hx).1
  have hlt : bcode B (K + 1) < fe L (K + 1) := by
    have : fe L (K + 1) = 2 * fe L K + (blk L (K + 1) L.length).length := rfl
    omega
  have huniq : ∀ s', s' < L.length → hits L B s' = true → s' = s := by
    intro s' hs' h'
    obtain ⟨j, a', hj, hx', hjb, hv', _⟩ := hit_at hl hL hs' h'
    have ha' := (List.getElem?_eq_some_iff.1 hx').1
    have h1 := hit_far hk ha' hv'
    by_cases e : j = K
    · subst e
      obtain rfl : a' = a := by omega
      rw [hx] at hx'
      injection hx' with hx'
      exact hx'.symm
    · exfalso
      have hb := below hB hlt (j - (K + 1)) (by omega)
      rw [show K + 1 + (j - (K + 1)) = j by omega] at hb
      have hbb : B[j]? = some B[j] := List.getElem?_eq_getElem (by omega)
      have h2 := hB _ (List.mem_of_getElem? hbb)
      rw [bcode_succ hbb] at hv'
      omega
  have hf : firstHit L B L.length = some s := by
    unfold firstHit
    cases hc : (List.range L.length).find? (hits L B) with
    | none =>
      have := List.find?_eq_none.1 hc s (List.mem_range.2 hm.1)
      exact absurd hit this
    | some s' =>
      rw [huniq s' (List.mem_range.1 (List.mem_of_find?_eq_some hc)) (List.find?_some hc)]
  unfold nextS
  rw [hf]
  simp only [hm.2]
theorem lost {L : List Int} {B : List UInt8} {K : Nat} (hl : (codedL L).length ≤ 1000) (hL : ∀ x ∈ L, inR x = true) (hk : ∀ i, i ≤ K → fe L i ≤ bcode B i) (hK : K = 15 ∨ B.length ≤ K) : nextS L B = (-1, 0) := by
  have hf : firstHit L B L.length = none := by
    unfold firstHit
    rw [List.find?_eq_none]
    intro s hs h
    obtain ⟨j, a, hj, hx, hjb, hv, _⟩ := hit_at hl hL (List.mem_range.1 hs) h
    have := hit_far hk (List.getElem?_eq_some_iff.1 hx).1 hv
    omega
  unfold nextS
  rw [hf]
end Go.Proofs.Ytphalcpmeblkgaa.HuffM
namespace Go.Proofs.Ytphalcpmeblkgaa.HuffM

/-- a node: its weight, its number -/
abbrev Nd := Nat × Nat
def ltn (x y : Nd) : Prop := x.1 < y.1 ∨ (x.1 = y.1 ∧ x.2 < y.2)
def ltb (x y : Nd) : Bool := bif x.1 != y.1 then decide (x.1 < y.1) else decide (x.2 < y.2)
theorem ltb_iff (x y : Nd) : ltb x y = true ↔ ltn x y := by
  unfold ltb ltn
  by_cases h : x.1 = y.1
  · have : (x.1 != y.1) = false := by simpa using h
    rw [this]
    simp
    omega
  · have : (x.1 != y.1) = true := by simpa using h
    rw [this]
    simp
    omega
theorem ltb_no (x y : Nd) : ltb x y = false ↔ ¬ ltn x y := by
  rw [← ltb_iff]
  cases ltb x y <;> simp
theorem ltn_trans {x y z : Nd} (h : ltn x y) (k : ltn y z) : ltn x z := by unfold ltn at *; omega
theorem ltn_asymm {x y : Nd} (h : ltn x y) : ¬ ltn y x := by unfold ltn at *; omega
theorem nlt_trans {x y z : Nd} (h : ¬ ltn x y) (k : ¬ ltn y z) : ¬ ltn x z := by unfold ltn at *; omega
theorem nlt_lt {x y z : Nd} (h : ¬ ltn x y) (k : ltn z y) : ¬ ltn x z := by unfold ltn at *; omega

def gn (l : List Nd) (i : Nat) : Nd := l.getD i (0, 0)
def swn (l : List Nd) (i j : Nat) : List Nd := (l.set i (gn l j)).set j (gn l i)
theorem swn_len (l : List Nd) (i j : Nat) : (swn l i j).length = l.length := by simp [swn]
theorem gn_at {l : List Nd} {i : Nat} (h : i < l.length) : l[i]? = some (gn l i) := by unfold gn; rw [List.getD_eq_getElem?_getD, List.getElem?_eq_getElem h]; rfl
theorem swn_at (l : List Nd) {i j : Nat} (hi : i < l.length) (hj : j < l.length) (k : Nat) : gn (swn l i j) k = if k = j then gn l i else if k = i then gn l j else gn l k := by
  unfold swn
  unfold gn
  rw [List.getD_eq_getElem?_getD, List.getElem?_set]
  by_cases h1 : j = k
  · rw [if_pos h1, if_pos h1.symm, if_pos (by rw [List.length_set]; omega)]
    rfl
  · rw [if_neg h1, if_neg (fun h => h1 h.symm), List.getElem?_set]
    by_cases h2 : i = k
    · rw [if_pos h2, if_pos h2.symm, if_pos (by omega)]
      rfl
    · rw [if_neg h2, if_neg (fun h => h2 h.symm), List.getD_eq_getElem?_getD]
theorem swn_perm (l : List Nd) {i j : Nat} (hi : i < l.length) (hj : j < l.length) : (swn l i j).Perm l := by
  have h := List.set_set_perm (as := l) hi hj
  have e1 : gn l j = l[j] := by have := gn_at hj; rw [List.getElem?_eq_getElem hj] at this; injection this with this; exact this.symm
  have e2 : gn l i = l[i] := by have := gn_at hi; rw [List.getElem?_eq_getElem hi] at this; injection this with this; exact this.symm
  unfold swn
  rw [e1, e2]
  exact h

/-- whoever of the first n stands under lo or behind is no less than who stands above -/
def Hp (l : List Nd) (n lo : Nat) : Prop := ∀ k, k < n → 0 < k → lo ≤ (k - 1) / 2 → ¬ ltn (gn l k) (gn l ((k - 1) / 2))
theorem Hp.root {l : List Nd} {n : Nat} (h : Hp l n 0) : ∀ k, k < n → ¬ ltn (gn l k) (gn l 0) := by
  intro k
  induction k using Nat.strongRecOn with
  | ind k ih =>
    intro hk
    rcases Nat.eq_zero_or_pos k with rfl | h0
    · unfold ltn; omega
    · exact nlt_trans (h k hk h0 (Nat.zero_le _)) (ih ((k - 1) / 2) (by omega) (by omega))
/-- sifting down: it stands at i -/
structure Dn (l : List Nd) (n i0 i : Nat) : Prop where
  a : ∀ k, k < n → 0 < k → i0 ≤ (k - 1) / 2 → (k - 1) / 2 ≠ i → ¬ ltn (gn l k) (gn l ((k - 1) / 2))
  b : i0 < i → ∀ k, k < n → 0 < k → (k - 1) / 2 = i → ¬ ltn (gn l k) (gn l ((i - 1) / 2))
theorem Dn.start {l : List Nd} {n i0 : Nat} (h : Hp l n (i0 + 1)) : Dn l n i0 i0 := ⟨fun k h1 h2 h3 h4 => h k h1 h2 (by omega), fun h => by omega⟩
theorem Dn.leaf {l : List Nd} {n i0 i : Nat} (h : Dn l n i0 i) (hl : n ≤ 2 * i + 1) : Hp l n i0 := fun k h1 h2 h3 => h.a k h1 h2 h3 (by omega)
/-- j is the lesser child of i -/
def Lc (l : List Nd) (n i j : Nat) : Prop := (j = 2 * i + 1 ∨ j = 2 * i + 2) ∧ j < n ∧ ∀ k, k < n → 0 < k → (k - 1) / 2 = i → ¬ ltn (gn l k) (gn l j)
theorem Dn.stop {l : List Nd} {n i0 i j : Nat} (h : Dn l n i0 i) (hj : Lc l n i j) (hs : ¬ ltn (gn l j) (gn l i)) : Hp l n i0 := by
  intro k h1 h2 h3
  by_cases e : (k - 1) / 2 = i
  · rw [e]
    exact nlt_trans (hj.2.2 k h1 h2 e) hs
  · exact h.a k h1 h2 h3 e
theorem Dn.go {l : List Nd} {n i0 i j : Nat} (h : Dn l n i0 i) (hi0 : i0 ≤ i) (hj : Lc l n i j) (hs : ltn (gn l j) (gn l i)) (hn : n ≤ l.length) : Dn (swn l i j) n i0 j := by
  obtain ⟨hc, hjn, hmin⟩ := hj
  have hil : i < l.length := by omega
  have hjl : j < l.length := by omega
  have hji : (j - 1) / 2 = i := by omega
  constructor
  · intro k h1 h2 h3 h4
    rw [swn_at l hil hjl, swn_at l hil hjl]
    by_cases e1 : k = j
    · subst e1
      rw [if_pos rfl, hji, if_neg (by omega), if_pos rfl]
      exact ltn_asymm hs
    · rw [if_neg e1]
      by_cases e2 : k = i
      · subst e2
        rw [if_pos rfl, if_neg h4, if_neg (by omega)]
        exact h.b (by omega) j hjn (by omega) hji
      · rw [if_neg e2, if_neg h4]
        by_cases e3 : (k - 1) / 2 = i
        · rw [if_pos e3]
          exact hmin k h1 h2 e3
        · rw [if_neg e3]
          exact h.a k h1 h2 h3 e3
  · intro h1 k h2 h3 h4
    rw [swn_at l hil hjl, swn_at l hil hjl, hji, if_neg (by omega), if_neg (by omega), if_neg (by omega), if_pos rfl]
    have := h.a k h2 h3 (by omega) (by omega)
    rwa [h4] at this
/-- sifting up: it stands at j -/
structure Up (l : List Nd) (n j : Nat) : Prop where
  a : ∀ k, k < n → 0 < k → k ≠ j → ¬ ltn (gn l k) (gn l ((k - 1) / 2))
  b : 0 < j → ∀ k, k < n → 0 < k → (k - 1) / 2 = j → ¬ ltn (gn l k) (gn l ((j - 1) / 2))
theorem Up.top {l : List Nd} {n : Nat} (h : Up l n 0) : Hp l n 0 := fun k h1 h2 _ => h.a k h1 h2 (by omega)
theorem Up.stop {l : List Nd} {n j : Nat} (h : Up l n j) (hs : ¬ ltn (gn l j) (gn l ((j - 1) / 2))) : Hp l n 0 := by
  intro k h1 h2 _
  by_cases e : k = j
  · subst e; exact hs
  · exact h.a k h1 h2 e
theorem Up.go {l : List Nd} {n j : Nat} (h : Up l n j) (hj0 : 0 < j) (hjn : j < n) (hs : ltn (gn l j) (gn l ((j - 1) / 2))) (hn : n ≤ l.length) : Up (swn l ((j - 1) / 2) j) n ((j - 1) / 2) := by
  obtain ⟨i, hi⟩ : ∃ i, i = (j - 1) / 2 := ⟨_, rfl⟩
  rw [← hi] at hs ⊢
  have hil : i < l.length := by omega
  have hjl : j < l.length := by omega
  constructor
  · intro k h1 h2 h3
    rw [swn_at l hil hjl, swn_at l hil hjl]
    by_cases e1 : k = j
    · subst e1
      rw [if_pos rfl, ← hi, if_neg (by omega), if_pos rfl]
      exact ltn_asymm hs
    · rw [if_neg e1, if_neg h3]
      by_cases e2 : (k - 1) / 2 = j
      · rw [if_pos e2]
        have := h.b hj0 k h1 h2 e2
        rwa [← hi] at this
      · rw [if_neg e2]
        by_cases e3 : (k - 1) / 2 = i
        · rw [if_pos e3]
          have := h.a k h1 h2 e1
          rw [e3] at this
          exact nlt_lt this hs
        · rw [if_neg e3]
          exact h.a k h1 h2 e1
  · intro h1 k h2 h3 h4
    have hp := h.a i (by omega) h1 (by omega)
    rw [swn_at l hil hjl, swn_at l hil hjl, if_neg (show ¬ (i - 1) / 2 = j by omega), if_neg (show ¬ (i - 1) / 2 = i by omega)]
    by_cases e1 : k = j
    · rw [if_pos e1]
      exact hp
    · rw [if_neg e1, if_neg (by omega)]
      have := h.a k h2 h3 e1
      rw [h4] at this
      exact nlt_trans this hp
theorem Up.push {l : List Nd} {x : Nd} (h : Hp l l.length 0) : Up (l ++ [x]) (l.length + 1) l.length := by
  have hg : ∀ k, k < l.length → gn (l ++ [x]) k = gn l k := fun k hk => by unfold gn; rw [List.getD_eq_getElem?_getD, List.getElem?_append_left hk, ← List.getD_eq_getElem?_getD]
  constructor
  · intro k h1 h2 h3
    rw [hg k (by omega), hg _ (by omega)]
    exact h k (by omega) h2 (Nat.zero_le _)
  · intro h0 k h1 h2 h3
    omega
/-- behind the first exchange of Pop -/
theorem Hp.pop {l : List Nd} (h : Hp l l.length 0) (h0 : 0 < l.length) : Hp (swn l 0 (l.length - 1)) (l.length - 1) 1 := by
  intro k h1 h2 h3
  rw [swn_at l h0 (by omega), swn_at l h0 (by omega), if_neg (by omega), if_neg (by omega), if_neg (by omega), if_neg (by omega)]
  exact h k (by omega) h2 (Nat.zero_le _)
theorem Hp.all {l : List Nd} {n : Nat} (lo : Nat) (h : n / 2 ≤ lo) : Hp l n lo := fun k h1 h2 h3 => by omega
end Go.Proofs.Ytphalcpmeblkgaa.HuffM
namespace Go.Proofs.Ytphalcpmeblkgaa.HuffM

/-- groups with their numbers -/
abbrev Zs := List (Grp × Nat)
def ks (Z : Zs) : List Nd := Z.map fun z => (z.1.w, z.2)
def gz (Z : Zs) : List Grp := Z.map (·.1)
/-- numbers rise, all below N -/
structure Wz (Z : Zs) (N : Nat) : Prop where
  asc : Z.Pairwise fun a b => a.2 < b.2
  lt : ∀ z ∈ Z, z.2 < N
theorem gz_app (A B : Zs) : gz (A ++ B) = gz A ++ gz B := by simp [gz]
theorem ks_app (A B : Zs) : ks (A ++ B) = ks A ++ ks B := by simp [ks]
theorem split_gz {Z : Zs} {A B : List Grp} {x : Grp} (h : gz Z = A ++ x :: B) : ∃ ZA z ZB, Z = ZA ++ z :: ZB ∧ gz ZA = A ∧ z.1 = x ∧ gz ZB = B := by
  unfold gz at h
  obtain ⟨ZA, Z2, h1, h2, h3⟩ := List.map_eq_append_iff.1 h
  obtain ⟨z, ZB, h4, h5, h6⟩ := List.map_eq_cons_iff.1 h3
  exact ⟨ZA, z, ZB, by rw [h1, h4], h2, h5, h6⟩
/-- the least node of a heap is the first of the groups of least weight -/
theorem pick_min {Z ZA ZB : Zs} {z : Grp × Nat} {N : Nat} {h h' : List Nd} {x : Nd} (hZ : Z = ZA ++ z :: ZB) (hw : Wz Z N) (hA : ∀ a ∈ ZA, z.1.w < a.1.w) (hB : ∀ b ∈ ZB, z.1.w ≤ b.1.w)
    (hp : h.Perm (ks Z)) (hx : (x :: h').Perm h) (hm : ∀ y ∈ h', ¬ ltn y x) : x = (z.1.w, z.2) ∧ h'.Perm (ks (ZA ++ ZB)) := by
  have hall : (x :: h').Perm (ks Z) := hx.trans hp
  have hk : ks Z = ks ZA ++ (z.1.w, z.2) :: ks ZB := by rw [hZ, ks_app]; rfl
  have hless : ∀ q ∈ Z, q = z ∨ ltn (z.1.w, z.2) (q.1.w, q.2) := by
    intro q hq
    rw [hZ] at hq
    rcases List.mem_append.1 hq with hq | hq
    · exact .inr (.inl (hA q hq))
    · rcases List.mem_cons.1 hq with hq | hq
      · exact .inl hq
      · right
        have h1 := hB q hq
        have h2 := hw.asc
        rw [hZ] at h2
        have h3 := (List.pairwise_cons.1 (List.pairwise_append.1 h2).2.1).1 q hq
        unfold ltn
        simp only
        omega
  have e : x = (z.1.w, z.2) := by
    have h1 : x ∈ ks Z := hall.mem_iff.1 (List.mem_cons_self ..)
    have h2 : (z.1.w, z.2) ∈ x :: h' := hall.mem_iff.2 (by rw [hk]; simp)
    rcases List.mem_cons.1 h2 with h2' | h2'
    · exact h2'.symm
    · obtain ⟨q, hq, rfl⟩ := List.mem_map.1 h1
      rcases hless q hq with h3 | h3
      · rw [h3]
      · exact absurd h3 (hm _ h2')
  refine ⟨e, ?_⟩
  subst e
  rw [hk] at hall
  have h4 := hall.trans List.perm_middle
  rw [ks_app]
  exact h4.cons_inv

/-- the joins from here on, as pairs of numbers -/
inductive Run : Zs → Nat → List (Nat × Nat) → Prop
  | done (Z : Zs) (N : Nat) : Z.length ≤ 1 → Run Z N []
  | step (Z Z' : Zs) (N a b : Nat) (sa sb : List Nat) (ps : List (Nat × Nat)) : 2 ≤ Z.length → gz Z' = joinG (gz Z) → (grp (gz Z)).s = sa ++ sb →
      (∃ wa wb C E, Z.Perm ((⟨wa, sa⟩, a) :: (⟨wb, sb⟩, b) :: (C ++ E)) ∧ Z' = C ++ E ++ [(⟨wa + wb, sa ++ sb⟩, N)]) → Wz Z' (N + 1) → Run Z' (N + 1) ps → Run Z N ((a, b) :: ps)
def nsum (h : List Nd) : Nat := (h.map (·.1)).sum
theorem nsum_perm {h k : List Nd} (p : h.Perm k) : nsum h = nsum k := (p.map _).sum_nat
theorem step_run {Z : Zs} {N : Nat} {h h1 h2 : List Nd} {x y : Nd} (hw : Wz Z N) (hl : 2 ≤ Z.length) (hp : h.Perm (ks Z)) (hx : (x :: h1).Perm h) (hm : ∀ q ∈ h1, ¬ ltn q x) (hy : (y :: h2).Perm h1) (hn : ∀ q ∈ h2, ¬ ltn q y) :
    ∃ Z', Wz Z' (N + 1) ∧ (h2 ++ [(x.1 + y.1, N)]).Perm (ks Z') ∧ Z'.length + 1 = Z.length ∧ (∀ ps, Run Z' (N + 1) ps → Run Z N ((x.2, y.2) :: ps)) ∧ x.2 < N ∧ y.2 < N := by
  have hlg : 2 ≤ (gz Z).length := by unfold gz; rw [List.length_map]; exact hl
  obtain ⟨A, B, C, E, gx, gy, h1', h2', h3', h4', h5, h6, h7, h8⟩ := join_row hlg
  obtain ⟨ZA, zx, ZB, rfl, rfl, rfl, rfl⟩ := split_gz h1'
  rw [← gz_app] at h2'
  obtain ⟨ZC, zy, ZE, e2, rfl, rfl, rfl⟩ := split_gz h2'
  have mem : ∀ {L : Zs} {P : Grp → Prop}, (∀ g ∈ gz L, P g) → ∀ z ∈ L, P z.1 := fun h z hz => h z.1 (List.mem_map.2 ⟨z, hz, rfl⟩)
  obtain ⟨ex, hp1⟩ := pick_min rfl hw (mem h5) (mem h6) hp hx hm
  have hw1 : Wz (ZA ++ ZB) N := ⟨hw.asc.sublist (by simp), fun z hz => hw.lt z (by
    rcases List.mem_append.1 hz with h | h
    · simp [h]
    · simp [h])⟩
  obtain ⟨ey, hp2⟩ := pick_min e2 hw1 (mem h7) (mem h8) hp1 hy hn
  subst ex ey
  have hw2 : Wz (ZC ++ ZE) N := ⟨(e2 ▸ hw1.asc).sublist (by simp), fun z hz => hw1.lt z (by
    rw [e2]
    rcases List.mem_append.1 hz with h | h
    · simp [h]
    · simp [h])⟩
  have hxN := hw.lt zx (by simp)
  have hyN := hw1.lt zy (by rw [e2]; simp)
  have hwz : Wz (ZC ++ ZE ++ [(⟨zx.1.w + zy.1.w, zx.1.s ++ zy.1.s⟩, N)]) (N + 1) := by
    refine ⟨List.pairwise_append.2 ⟨hw2.asc, List.pairwise_singleton _ _, fun p hp q hq => ?_⟩, fun z hz => ?_⟩
    · simp at hq
      subst hq
      exact hw2.lt p hp
    · rcases List.mem_append.1 hz with h | h
      · have := hw2.lt z h; omega
      · simp at h
        subst h
        simp
  have hlen : (ZA ++ ZB).length = (ZC ++ ZE).length + 1 := by rw [e2]; simp; omega
  refine ⟨ZC ++ ZE ++ [(⟨zx.1.w + zy.1.w, zx.1.s ++ zy.1.s⟩, N)], hwz, ?_, ?_, ?_, hxN, hyN⟩
  · rw [ks_app (ZC ++ ZE)]
    exact hp2.append_right _
  · simp at hlen ⊢
    omega
  · intro ps hps
    refine Run.step _ _ N zx.2 zy.2 zx.1.s zy.1.s ps hl ?_ (by rw [h4']) ⟨zx.1.w, zy.1.w, ZC, ZE, ?_, rfl⟩ hwz hps
    · rw [h3', gz_app, gz_app]
      rfl
    · refine (List.perm_middle).trans (List.Perm.cons _ ?_)
      rw [e2]
      exact List.perm_middle
theorem step_sum {h h1 h2 : List Nd} {x y : Nd} (hx : (x :: h1).Perm h) (hy : (y :: h2).Perm h1) (N : Nat) : x.1 + y.1 ≤ nsum h ∧ nsum (h2 ++ [(x.1 + y.1, N)]) = nsum h := by
  have e1 := nsum_perm hx
  have e2 := nsum_perm hy
  have e3 : nsum (x :: h1) = x.1 + nsum h1 := rfl
  have e4 : nsum (y :: h2) = y.1 + nsum h2 := rfl
  have e5 : nsum (h2 ++ [(x.1 + y.1, N)]) = nsum h2 + (x.1 + y.1) := by simp [nsum]
  omega

/-- how often a node is joined from here on; N: the next number -/
def bk : Nat → List (Nat × Nat) → Nat → Nat
  | _, [], _ => 0
  | N, p :: ps, n => if n = p.1 ∨ n = p.2 then bk (N + 1) ps N + 1 else bk (N + 1) ps n
def syz (Z : Zs) : List Nat := Z.flatMap (·.1.s)
theorem syz_perm {Z Y : Zs} (h : Z.Perm Y) : (syz Z).Perm (syz Y) := h.flatMap_right _
theorem run_merge {Z : Zs} {N : Nat} {ps : List (Nat × Nat)} (hr : Run Z N ps) : Wz Z N → ∀ (f : Nat) (o : List Nat), Z.length ≤ f + 1 → (syz Z).Nodup → (∀ s ∈ syz Z, s < o.length) →
    (∀ z ∈ Z, ∀ s ∈ z.1.s, oat (mergeF f (gz Z) o) s = oat o s + bk N ps z.2) ∧ (∀ s, s ∉ syz Z → oat (mergeF f (gz Z) o) s = oat o s) ∧ ∀ n, n < N → (∀ z ∈ Z, z.2 ≠ n) → bk N ps n = 0 := by
  induction hr with
  | done Z N hl =>
    intro hw f o hf hn ho
    have hm : mergeF f (gz Z) o = o := merge_one f (gz Z) o (by unfold gz; rw [List.length_map]; exact hl)
    rw [hm]
    exact ⟨fun z hz s hs => rfl, fun s hs => rfl, fun n _ _ => rfl⟩
  | step Z Z' N a b sa sb ps hl hj hg hperm hw' hps ih =>
    intro hw f o hf hn ho
    obtain ⟨wa, wb, C, E, hp, rfl⟩ := hperm
    obtain ⟨f, rfl⟩ : ∃ f', f = f' + 1 := ⟨f - 1, by omega⟩
    have hlg : ¬ (gz Z).length ≤ 1 := by unfold gz; rw [List.length_map]; omega
    have hmf : mergeF (f + 1) (gz Z) o = mergeF f (joinG (gz Z)) (incs o (grp (gz Z)).s) := by rw [mergeF, if_neg hlg]
    rw [hmf, ← hj, hg]
    have hsp : (syz Z).Perm (sa ++ (sb ++ syz (C ++ E))) := syz_perm hp
    have hsp' : (syz (C ++ E ++ [(⟨wa + wb, sa ++ sb⟩, N)])).Perm (syz Z) := by
      refine List.Perm.trans ?_ hsp.symm
      unfold syz
      rw [List.flatMap_append]
      simp only [List.flatMap_cons, List.flatMap_nil, List.append_nil]
      rw [← List.append_assoc sa]
      exact List.perm_append_comm
    have hn2 : (sa ++ (sb ++ syz (C ++ E))).Nodup := hsp.nodup_iff.1 hn
    have hnab : (sa ++ sb).Nodup := by
      rw [← List.append_assoc] at hn2
      exact (List.nodup_append.1 hn2).1
    have hdis : ∀ s ∈ sa ++ sb, s ∉ syz (C ++ E) := by
      intro s hs hs'
      rw [← List.append_assoc] at hn2
      exact (List.nodup_append.1 hn2).2.2 s hs s hs' rfl
    have hlt : ∀ s ∈ sa ++ sb, s < o.length := fun s hs => ho s (hsp.mem_iff.2 (by
      rcases List.mem_append.1 hs with h | h
      · simp [h]
      · simp [h]))
    have hinc := incs_at o (sa ++ sb) hlt hnab
    have hzl : (C ++ E ++ [((⟨wa + wb, sa ++ sb⟩ : Grp), N)]).length + 1 = Z.length := by
      have := hp.length_eq
      simp at this ⊢
      omega
    obtain ⟨i1, i2, i3⟩ := ih hw' f (incs o (sa ++ sb)) (by omega) (hsp'.nodup_iff.2 hn) (fun s hs => by rw [incs_len]; exact ho s (hsp'.mem_iff.1 hs))
    have haN : a < N := hw.lt ((⟨wa, sa⟩ : Grp), a) (hp.mem_iff.2 (List.mem_cons_self ..))
    have hbN : b < N := hw.lt ((⟨wb, sb⟩ : Grp), b) (hp.mem_iff.2 (by simp))
    have hpw : ((⟨wa, sa⟩, a) :: (⟨wb, sb⟩, b) :: (C ++ E) : Zs).Pairwise fun p q => p.2 ≠ q.2 :=
      (hp.pairwise_iff (fun {p q} h => Ne.symm h)).1 (hw.asc.imp (fun {p q} h => Nat.ne_of_lt h))
    have hna : ∀ z ∈ C ++ E, z.2 ≠ a := fun z hz => ((List.pairwise_cons.1 hpw).1 z (List.mem_cons_of_mem _ hz)).symm
    have hnb : ∀ z ∈ C ++ E, z.2 ≠ b := fun z hz => ((List.pairwise_cons.1 (List.pairwise_cons.1 hpw).2).1 z hz).symm
    have hnew : ∀ s ∈ sa ++ sb, oat (mergeF f (gz (C ++ E ++ [((⟨wa + wb, sa ++ sb⟩ : Grp), N)])) (incs o (sa ++ sb))) s = oat o s + (bk (N + 1) ps N + 1) := by
      intro s hs
      have h := i1 _ (List.mem_append_right _ (List.mem_singleton.2 rfl)) s hs
      rw [h, hinc, if_pos hs]
      simp only
      omega
    refine ⟨fun z hz s hs => ?_, fun s hs => ?_, fun n hn1 hz => ?_⟩
    · rcases List.mem_cons.1 (hp.mem_iff.1 hz) with rfl | hz
      · rw [hnew s (List.mem_append_left _ hs), bk, if_pos (.inl rfl)]
      · rcases List.mem_cons.1 hz with rfl | hz
        · rw [hnew s (List.mem_append_right _ hs), bk, if_pos (.inr rfl)]
        · rw [i1 z (List.mem_append_left _ hz) s hs, hinc, if_neg (fun h => hdis s h (List.mem_flatMap.2 ⟨z, hz, hs⟩)), bk, if_neg]
          rintro (h | h)
          · exact hna z hz h
          · exact hnb z hz h
    · rw [i2 s (fun h => hs (hsp'.mem_iff.1 h)), hinc, if_neg]
      intro h
      refine hs (hsp.mem_iff.2 ?_)
      rcases List.mem_append.1 h with h | h
      · simp [h]
      · simp [h]
    · rw [bk, if_neg]
      · refine i3 n (by omega) fun z hz' => ?_
        rcases List.mem_append.1 hz' with h | h
        · exact hz z (hp.mem_iff.2 (by simp only [List.mem_cons]; exact .inr (.inr h)))
        · simp at h
          subst h
          simp only
          omega
      · rintro (h | h)
        · exact hz _ (hp.mem_iff.2 (List.mem_cons_self ..)) h.symm
        · exact hz _ (hp.mem_iff.2 (List.mem_cons_of_mem _ (List.mem_cons_self ..))) h.symm
end Go.Proofs.Ytphalcpmeblkgaa.HuffM
namespace Go.Proofs.Ytphalcpmeblkgaa.BitsM

/-- the lowest n bits of a number, the lowest first -/
def low (x n : Nat) : List Bool := (List.range n).map x.testBit
/-- the number of bits, the lowest first -/
def num : List Bool → Nat
  | [] => 0
  | b :: l => b.toNat + 2 * num l
def bitsOf (l : List UInt8) : List Bool := l.flatMap fun b => low b.toNat 8
/-- bits that lack till a whole number of bytes -/
def lack (n : Nat) : Nat := (8 - n % 8) % 8
def full (l : List Bool) : List Bool := l ++ List.replicate (lack l.length) false
def pack (l : List Bool) : List UInt8 := (List.range ((l.length + 7) / 8)).map fun i => UInt8.ofNat (num ((l.drop (8 * i)).take 8))

theorem low_length (x n : Nat) : (low x n).length = n := by simp [low]
theorem low_zero (x : Nat) : low x 0 = [] := rfl
theorem low_succ (x n : Nat) : low x (n + 1) = low x n ++ [x.testBit n] := by simp [low, List.range_succ]
theorem low_cons (x n : Nat) : low x (n + 1) = x.testBit 0 :: low (x / 2) n := by
  simp only [low, List.range_succ_eq_map, List.map_cons, List.map_map]
  congr 1
  apply List.map_congr_left
  intro i _
  simp [Nat.testBit_succ]
theorem num_lt (l : List Bool) : num l < 2 ^ l.length := by
  induction l with
  | nil => simp [num]
  | cons b l ih => have : b.toNat ≤ 1 := by cases b <;> simp
                   simp only [num, List.length_cons, Nat.pow_succ]; omega
theorem num_append (a b : List Bool) : num (a ++ b) = num a + 2 ^ a.length * num b := by
  induction a with
  | nil => simp [num]
  | cons x a ih => rw [List.cons_append, num, ih, num, List.length_cons, Nat.pow_succ, Nat.mul_comm (2 ^ a.length) 2, Nat.mul_assoc]; omega
theorem num_replicate (n : Nat) : num (List.replicate n false) = 0 := by
  induction n with
  | zero => rfl
  | succ n ih => simp [List.replicate_succ, num, ih]
theorem num_snoc (a : List Bool) (b : Bool) : num (a ++ [b]) = num a + 2 ^ a.length * b.toNat := by
  rw [num_append]; simp [num]
theorem num_low (x n : Nat) : num (low x n) = x % 2 ^ n := by
  induction n generalizing x with
  | zero => simp [low_zero, num]; omega
  | succ n ih =>
    rw [low_cons, num, ih, Nat.pow_succ, Nat.mul_comm (2 ^ n) 2, Nat.mod_mul]
    simp [Nat.testBit_zero]
    rcases Nat.mod_two_eq_zero_or_one x with h | h <;> simp [h]
theorem low_num (l : List Bool) : low (num l) l.length = l := by
  induction l with
  | nil => rfl
  | cons b l ih =>
    rw [List.length_cons, low_cons]
    have h0 : (num (b :: l)).testBit 0 = b := by
      simp only [Nat.testBit_zero, num]
      cases b <;> simp <;> omega
    have h1 : num (b :: l) / 2 = num l := by
      simp only [num]
      have : b.toNat ≤ 1 := by cases b <;> simp
      omega
    rw [h0, h1, ih]
theorem num_inj {a b : List Bool} (hl : a.length = b.length) (h : num a = num b) : a = b := by
  rw [← low_num a, ← low_num b, h, hl]
theorem testBit_num (l : List Bool) (i : Nat) : (num l).testBit i = l.getD i false := by
  induction l generalizing i with
  | nil => simp [num]
  | cons b l ih =>
    have h1 : num (b :: l) / 2 = num l := by
      simp only [num]
      have : b.toNat ≤ 1 := by cases b <;> simp
      omega
    cases i with
    | zero => simp only [Nat.testBit_zero, num, List.getD_cons_zero]; cases b <;> simp <;> omega
    | succ i => rw [Nat.testBit_succ, h1, ih]; simp

theorem bitsOf_nil : bitsOf [] = [] := rfl
theorem bitsOf_cons (b : UInt8) (l : List UInt8) : bitsOf (b :: l) = low b.toNat 8 ++ bitsOf l := rfl
theorem bitsOf_append (a b : List UInt8) : bitsOf (a ++ b) = bitsOf a ++ bitsOf b := by simp [bitsOf]
theorem bitsOf_length (l : List UInt8) : (bitsOf l).length = 8 * l.length := by
  induction l with
  | nil => rfl
  | cons b l ih => rw [bitsOf_cons, List.length_append, ih, low_length, List.length_cons]; omega

theorem lack_lt (n : Nat) : lack n < 8 := by unfold lack; omega
theorem lack_add (n : Nat) : (n + lack n) % 8 = 0 := by unfold lack; omega
theorem lack_zero {n : Nat} (h : n % 8 = 0) : lack n = 0 := by unfold lack; omega
theorem lack_pos {n : Nat} (h : n % 8 ≠ 0) : lack n = 8 - n % 8 := by unfold lack; omega
theorem lack_ceil (n : Nat) : n + lack n = 8 * ((n + 7) / 8) := by unfold lack; omega
theorem full_length (l : List Bool) : (full l).length = l.length + lack l.length := by simp [full]
theorem full_mod (l : List Bool) : (full l).length % 8 = 0 := by rw [full_length]; exact lack_add _
theorem full_of_aligned {l : List Bool} (h : l.length % 8 = 0) : full l = l := by simp [full, lack_zero h]

theorem pack_length (l : List Bool) : (pack l).length = (l.length + 7) / 8 := by simp [pack]
theorem pack_nil : pack [] = [] := rfl
theorem pack_get (l : List Bool) (i : Nat) (h : i < (l.length + 7) / 8) : (pack l)[i]? = some (UInt8.ofNat (num ((l.drop (8 * i)).take 8))) := by
  simp [pack, h]
theorem num_take8_lt (l : List Bool) : num (l.take 8) < 256 := by
  have h := num_lt (l.take 8)
  have h2 : (l.take 8).length ≤ 8 := by simp; omega
  have := Nat.pow_le_pow_right (show 0 < 2 by omega) h2
  omega
theorem pack_get_toNat (l : List Bool) (i : Nat) (b : UInt8) (h : (pack l)[i]? = some b) : b.toNat = num ((l.drop (8 * i)).take 8) := by
  have hi : i < (l.length + 7) / 8 := by rw [← pack_length]; exact (List.getElem?_eq_some_iff.1 h).1
  rw [pack_get l i hi] at h
  obtain rfl := Option.some.inj h
  simp
  exact num_take8_lt _
theorem pack_append {a : List Bool} (h : a.length % 8 = 0) (b : List Bool) : pack (a ++ b) = pack a ++ pack b := by
  apply List.ext_getElem?
  intro i
  have hla := pack_length a
  by_cases hi : i < (pack a).length
  · rw [List.getElem?_append_left hi, pack_get _ _ (by rw [List.length_append]; omega), pack_get _ _ (by omega)]
    rw [List.drop_append_of_le_length (by omega), List.take_append_of_le_length (by simp; omega)]
  · rw [List.getElem?_append_right (by omega)]
    by_cases hi2 : i < ((a ++ b).length + 7) / 8
    · have hb : i - (pack a).length < (b.length + 7) / 8 := by rw [List.length_append] at hi2; omega
      rw [pack_get _ _ hi2, pack_get _ _ hb]
      congr 3
      rw [show 8 * i = a.length + 8 * (i - (pack a).length) from by omega, List.drop_append]
      simp [List.drop_eq_nil_of_le (show a.length ≤ a.length + 8 * (i - (pack a).length) from by omega)]
    · rw [List.getElem?_eq_none (by rw [pack_length]; omega), List.getElem?_eq_none (by rw [pack_length]; rw [List.length_append] at hi2; omega)]
theorem pack_low8 (b : UInt8) : pack (low b.toNat 8) = [b] := by
  have h : pack (low b.toNat 8) = [UInt8.ofNat (num ((low b.toNat 8).take 8))] := by
    simp [pack, low_length, List.range_succ]
  rw [h, List.take_of_length_le (by rw [low_length]; omega), num_low]
  simp
theorem pack_bitsOf (l : List UInt8) : pack (bitsOf l) = l := by
  induction l with
  | nil => rfl
  | cons b l ih => rw [bitsOf_cons, pack_append (by rw [low_length]), pack_low8, ih]; rfl
/-- bits that are 0, at the end of the last byte, turn no byte -/
theorem pack_pad (l : List Bool) (k : Nat) (h : k ≤ lack l.length) : pack (l ++ List.replicate k false) = pack l := by
  have hc := lack_ceil l.length
  have hlk := lack_lt l.length
  apply List.ext_getElem?
  intro i
  have hlen : ((l ++ List.replicate k false).length + 7) / 8 = (l.length + 7) / 8 := by
    simp; omega
  by_cases hi : i < (l.length + 7) / 8
  · rw [pack_get _ _ (by rw [hlen]; exact hi), pack_get _ _ hi]
    congr 2
    rw [List.drop_append, List.take_append, num_append, List.drop_replicate, List.take_replicate, num_replicate]
    simp
  · rw [List.getElem?_eq_none (by rw [pack_length, hlen]; omega), List.getElem?_eq_none (by rw [pack_length]; omega)]
theorem pack_full (l : List Bool) : pack (full l) = pack l := pack_pad l _ (Nat.le_refl _)
theorem pack_snoc_new {l : List Bool} (h : l.length % 8 = 0) (b : Bool) : pack (l ++ [b]) = pack l ++ [UInt8.ofNat b.toNat] := by
  rw [pack_append h]
  congr 1
  simp [pack, num, List.range_succ]
/-- a bit behind others in the last byte: the byte turns, no other one -/
theorem pack_snoc_old {l : List Bool} (h : l.length % 8 ≠ 0) (b : Bool) (o : UInt8) (ho : (pack l)[l.length / 8]? = some o) :
    pack (l ++ [b]) = (pack l).set (l.length / 8) (UInt8.ofNat (o.toNat + 2 ^ (l.length % 8) * b.toNat)) ∧ o.toNat < 2 ^ (l.length % 8) := by
  have hon := pack_get_toNat _ _ _ ho
  have ht : ((l.drop (8 * (l.length / 8))).take 8) = l.drop (8 * (l.length / 8)) := List.take_of_length_le (by simp; omega)
  rw [ht] at hon
  have hdl : (l.drop (8 * (l.length / 8))).length = l.length % 8 := by simp; omega
  refine ⟨?_, by rw [hon, ← hdl]; exact num_lt _⟩
  apply List.ext_getElem?
  intro i
  by_cases hi : i < (l.length + 7) / 8
  · rw [pack_get _ _ (by simp; omega)]
    by_cases he : i = l.length / 8
    · subst he
      rw [List.getElem?_set_self (by rw [pack_length]; omega)]
      congr 2
      rw [List.drop_append_of_le_length (by omega), List.take_of_length_le (by simp; omega), num_snoc, hdl, hon]
    · rw [List.getElem?_set_ne (by omega), pack_get _ _ hi]
      congr 2
      rw [List.drop_append_of_le_length (by omega), List.take_append_of_le_length (by simp; omega)]
  · rw [List.getElem?_eq_none (by rw [pack_length]; simp; omega), List.getElem?_eq_none (by rw [List.length_set, pack_length]; omega)]
/-- the byte that holds a bit of bytes, and the bit in it -/
theorem bitsOf_get (l : List UInt8) (i : Nat) (o : UInt8) (ho : l[i / 8]? = some o) : (bitsOf l)[i]? = some (o.toNat.testBit (i % 8)) := by
  induction l generalizing i with
  | nil => simp at ho
  | cons b l ih =>
    rw [bitsOf_cons]
    by_cases hi : i < 8
    · rw [List.getElem?_append_left (by rw [low_length]; exact hi)]
      rw [show i / 8 = 0 from by omega] at ho
      simp at ho
      subst ho
      simp [low, hi, Nat.mod_eq_of_lt hi]
    · rw [List.getElem?_append_right (by rw [low_length]; omega), low_length]
      have := ih (i - 8) (by
        rw [show i / 8 = (i - 8) / 8 + 1 from by omega] at ho
        simpa using ho)
      rw [this, show (i - 8) % 8 = i % 8 from by omega]
end Go.Proofs.Ytphalcpmeblkgaa.BitsM
