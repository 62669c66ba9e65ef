/-
  Layer 13, plain: columns of truths by how many are alike; what their numbers tell; the bytes. No program is named.
  Layer 11: cells compared by == (written by gen11.py out of rleB.src).
-/
import Derived.Test.YtohbcepbodcapaaZm03
import Derived.Test.YtohbcepbodcapaaZm07
import Derived.Test.YtohbcepbodcapaaZm02
import Derived.Laws.StructEq
namespace Go.Proofs.Ytohbcepbodcapaa.BooM
open LebM
set_option linter.unusedVariables false

/-- one truth more: the numbers, and which truth was the last -/
def addB (s : List Nat × Bool) (x : Bool) : List Nat × Bool :=
  if x = s.2 then (s.1.dropLast ++ [(s.1.getLast?.getD 0) + 1], s.2) else (s.1 ++ [1], x)
def stB (L : List Bool) : List Nat × Bool := L.foldl addB ([0], false)
def numsB (L : List Bool) : List Nat := (stB L).1
/-- the truths that numbers tell, from the truth x on -/
def spr (x : Bool) : List Nat → List Bool
  | [] => []
  | n :: l => List.replicate n x ++ spr (!x) l
/-- the truth behind so many numbers -/
def odd (x : Bool) : List Nat → Bool
  | [] => x
  | _ :: l => odd (!x) l

theorem add_same (M : List Nat) (k : Nat) (x : Bool) : addB (M ++ [k], x) x = (M ++ [k + 1], x) := by simp [addB]
theorem add_other (M : List Nat) (x y : Bool) (h : y ≠ x) : addB (M, x) y = (M ++ [1], y) := by simp [addB, h]
theorem odd_snoc : ∀ (M : List Nat) (x : Bool) (k : Nat), odd x (M ++ [k]) = !(odd x M)
  | [], x, k => rfl
  | _ :: M, x, k => odd_snoc M (!x) k
theorem odd_is : ∀ (M : List Nat) (x : Bool), odd x M = (if M.length % 2 = 0 then x else !x)
  | [], x => rfl
  | _ :: M, x => by
    show odd (!x) M = _
    rw [odd_is M (!x), List.length_cons]
    by_cases h : M.length % 2 = 0
    · rw [if_pos h, if_neg (by omega)]
    · rw [if_neg h, if_pos (by omega), Bool.not_not]
theorem spr_app : ∀ (M M' : List Nat) (x : Bool), spr x (M ++ M') = spr x M ++ spr (odd x M) M'
  | [], M', x => rfl
  | n :: M, M', x => by
    show List.replicate n x ++ spr (!x) (M ++ M') = (List.replicate n x ++ spr (!x) M) ++ spr (odd (!x) M) M'
    rw [spr_app M M' (!x), List.append_assoc]
theorem spr_one (x : Bool) (n : Nat) : spr x [n] = List.replicate n x := by simp [spr]
theorem spr_snoc (M : List Nat) (n : Nat) (x : Bool) : spr x (M ++ [n]) = spr x M ++ List.replicate n (odd x M) := by rw [spr_app, spr_one]
/-- what the fold keeps: a row that is not empty, the last truth by its length, all but the first above 0 -/
structure St (s : List Nat × Bool) (L : List Bool) : Prop where
  ex : ∃ M k, s.1 = M ++ [k] ∧ s.2 = odd false M
  spr : spr false s.1 = L
  pos : ∀ n ∈ s.1.tail, n ≠ 0
theorem tail_snoc {M : List Nat} {k : Nat} (h : M ≠ []) : (M ++ [k]).tail = M.tail ++ [k] := by
  cases M with
  | nil => exact absurd rfl h
  | cons a M => rfl
theorem St.zero : St ([0], false) [] := ⟨⟨[], 0, rfl, rfl⟩, rfl, fun n h => by simp at h⟩
theorem St.step {s : List Nat × Bool} {L : List Bool} (h : St s L) (y : Bool) : St (addB s y) (L ++ [y]) := by
  obtain ⟨⟨M, k, h1, h2⟩, h3, h4⟩ := h
  obtain ⟨N, x⟩ := s
  dsimp only at h1 h2 h3 h4
  subst h1
  by_cases hy : y = x
  · subst hy
    rw [add_same]
    refine ⟨⟨M, k + 1, rfl, h2⟩, ?_, ?_⟩
    · dsimp only
      rw [← h3, spr_snoc, spr_snoc, ← h2, List.replicate_succ', List.append_assoc]
    · dsimp only
      intro n hn
      by_cases hM : M = []
      · subst hM; simp at hn
      · rw [tail_snoc hM] at hn h4
        rcases List.mem_append.1 hn with hn | hn
        · exact h4 n (List.mem_append_left _ hn)
        · simp at hn; omega
  · rw [add_other _ _ _ hy]
    have hx : y = odd false (M ++ [k]) := by rw [odd_snoc, ← h2]; revert hy; clear h2 h3 h4; cases x <;> cases y <;> simp
    refine ⟨⟨M ++ [k], 1, rfl, hx⟩, ?_, ?_⟩
    · dsimp only
      rw [spr_snoc, h3, ← hx]
      rfl
    · dsimp only
      intro n hn
      rw [tail_snoc (by simp)] at hn
      rcases List.mem_append.1 hn with hn | hn
      · exact h4 n hn
      · simp at hn; omega
theorem st_snoc (L : List Bool) (y : Bool) : stB (L ++ [y]) = addB (stB L) y := by simp [stB]
theorem st_st (L : List Bool) : St (stB L) L := by
  have h : ∀ (L : List Bool) (s : List Nat × Bool) (L0 : List Bool), St s L0 → St (L.foldl addB s) (L0 ++ L) := by
    intro L
    induction L with
    | nil => intro s L0 h; simpa using h
    | cons y L ih =>
      intro s L0 h
      have := ih _ _ (h.step y)
      simpa using this
  have := h L _ _ St.zero
  simpa [stB] using this
/-- right numbers: none, or at least two, none but the first 0 -/
def rightB (N : List Nat) : Prop := N = [] ∨ 2 ≤ N.length ∧ ∀ n ∈ N.tail, n ≠ 0
/-- the fold goes over a run -/
theorem fold_run (M : List Nat) (x : Bool) : ∀ (n k : Nat), (List.replicate n x).foldl addB (M ++ [k], x) = (M ++ [k + n], x)
  | 0, k => rfl
  | n + 1, k => by
    rw [List.replicate_succ, List.foldl_cons, add_same, fold_run M x n (k + 1), show k + 1 + n = k + (n + 1) by omega]
theorem fold_spr : ∀ (l : List Nat) (M : List Nat) (k : Nat) (x : Bool), (∀ n ∈ l, n ≠ 0) → ((spr (!x) l).foldl addB (M ++ [k], x)).1 = M ++ [k] ++ l
  | [], M, k, x, _ => by simp [spr]
  | n :: l, M, k, x, h => by
    obtain ⟨m, rfl⟩ : ∃ m, n = m + 1 := ⟨n - 1, by have := h n (List.mem_cons_self ..); omega⟩
    show ((List.replicate (m + 1) (!x) ++ spr (!!x) l).foldl addB (M ++ [k], x)).1 = _
    rw [List.foldl_append, List.replicate_succ, List.foldl_cons, add_other _ _ _ (by cases x <;> simp), fold_run, fold_spr l _ _ _ (fun n hn => h n (List.mem_cons_of_mem _ hn)), show 1 + m = m + 1 by omega]
    simp
theorem nums_spr (n : Nat) (l : List Nat) (h : ∀ n ∈ l, n ≠ 0) : numsB (spr false (n :: l)) = n :: l := by
  show ((List.replicate n false ++ spr (!false) l).foldl addB ([0], false)).1 = _
  rw [List.foldl_append]
  have := fold_run [] false n 0
  simp only [List.nil_append, Nat.zero_add] at this
  rw [this]
  exact fold_spr l [] n false h
theorem sum_len : ∀ (N : List Nat) (x : Bool), (spr x N).length = N.sum
  | [], x => rfl
  | n :: N, x => by
    show (List.replicate n x ++ spr (!x) N).length = _
    rw [List.length_append, List.length_replicate, sum_len N (!x), List.sum_cons]
theorem nums_len (L : List Bool) : (numsB L).length ≤ L.length + 1 := by
  have hs := st_st L
  obtain ⟨⟨M, k, h1, _⟩, h3, h4⟩ := hs
  have h5 : (spr false (stB L).1).length = (stB L).1.sum := sum_len _ _
  rw [h3] at h5
  have hpos : ∀ (T : List Nat), (∀ n ∈ T, n ≠ 0) → T.length ≤ T.sum := by
    intro T
    induction T with
    | nil => intro _; exact Nat.le_refl _
    | cons a T ih =>
      intro h
      have := ih (fun n hn => h n (List.mem_cons_of_mem _ hn))
      have := h a (List.mem_cons_self ..)
      simp only [List.length_cons, List.sum_cons]
      omega
  show (stB L).1.length ≤ _
  cases hN : (stB L).1 with
  | nil => simp
  | cons a T =>
    rw [hN] at h4 h5
    have := hpos T h4
    simp only [List.sum_cons] at h5
    simp only [List.length_cons]
    omega
theorem nums_sum (L : List Bool) : (numsB L).sum = L.length := by rw [← sum_len _ false]; exact congrArg _ (st_st L).spr
theorem mem_le_sum : ∀ (N : List Nat) (n : Nat), n ∈ N → n ≤ N.sum
  | [], n, h => by simp at h
  | a :: N, n, h => by
    rw [List.sum_cons]
    rcases List.mem_cons.1 h with rfl | h
    · omega
    · have := mem_le_sum N n h; omega
theorem nums_le (L : List Bool) : ∀ n ∈ numsB L, n ≤ L.length := fun n hn => by rw [← nums_sum]; exact mem_le_sum _ n hn
/-- is there a true -/
theorem nums_some (L : List Bool) : (numsB L).length = 1 ↔ ¬ true ∈ L := by
  obtain ⟨⟨M, k, h1, _⟩, h3, h4⟩ := st_st L
  have e : numsB L = M ++ [k] := h1
  rw [e]
  constructor
  · intro h
    have hM : M = [] := by cases M with | nil => rfl | cons a M => simp at h
    subst hM
    rw [h1] at h3
    rw [← h3]
    intro hm
    simp [spr] at hm
  · intro h
    cases M with
    | nil => rfl
    | cons a M =>
      exfalso
      apply h
      rw [← h3, h1]
      have h5 : (stB L).1.tail = M ++ [k] := by rw [h1]; rfl
      rw [h5] at h4
      show true ∈ List.replicate a false ++ spr (!false) (M ++ [k])
      cases hT : M ++ [k] with
      | nil => simp at hT
      | cons b T =>
        rw [hT] at h4
        have hb := h4 b (List.mem_cons_self ..)
        refine List.mem_append_right _ (List.mem_append_left _ ?_)
        exact List.mem_replicate.2 ⟨hb, rfl⟩
/-- the bytes -/
def putB (L : List Bool) : List UInt8 := if (numsB L).length = 1 then [] else (numsB L).flatMap u
/-- what is read: the numbers, how many truths, the error -/
def scan (most : Int) : Nat → List Nat → Nat → List UInt8 → List Nat × Nat × Nat
  | 0, l, c, B => (l, c, 0)
  | f + 1, l, c, B => if B = [] then (l, c, 0) else if (gu B).2.2 ≠ 0 then ([], 0, (gu B).2.2) else if most < (c : Int) + ((gu B).1 : Nat) then ([], 0, 4) else scan most f (l ++ [(gu B).1]) (c + (gu B).1) (B.drop (gu B).2.1)
def readB (most : Int) (B : List UInt8) : List Nat × Nat × Nat := scan most B.length [] 0 B
open Classical in
noncomputable def getB (most : Int) (B : List UInt8) : List Bool × Nat :=
  if (readB most B).2.2 ≠ 0 then ([], (readB most B).2.2) else if most < 0 then ([], 3) else if ¬ rightB (readB most B).1 then ([], 3) else (spr false (readB most B).1, 0)
theorem scan_nil (most : Int) (f : Nat) (l : List Nat) (c : Nat) : scan most f l c [] = (l, c, 0) := by cases f <;> simp [scan]
theorem scan_put (most : Int) : ∀ (N : List Nat) (f : Nat) (l : List Nat) (c : Nat), (∀ n ∈ N, n < 18446744073709551616) → N.length ≤ f → ((c + N.sum : Nat) : Int) ≤ most → scan most f l c (N.flatMap u) = (l ++ N, c + N.sum, 0)
  | [], f, l, c, _, _, _ => by simp [scan_nil]
  | n :: N, 0, l, c, _, h, _ => by simp at h
  | n :: N, f + 1, l, c, h64, hf, hm => by
    have hn := h64 n (List.mem_cons_self ..)
    have hne : (n :: N).flatMap u ≠ [] := by
      rw [List.flatMap_cons]
      intro h
      exact u_ne n (List.append_eq_nil_iff.1 h).1
    rw [List.sum_cons] at hm
    rw [scan, if_neg hne, List.flatMap_cons, gu_back n _ hn]
    dsimp only
    rw [if_neg (by simp), if_neg (by omega), List.drop_left, scan_put most N f _ _ (fun n hn => h64 n (List.mem_cons_of_mem _ hn)) (by simpa using hf) (by omega)]
    simp [Nat.add_assoc]
theorem scan_long (most : Int) : ∀ (N : List Nat) (f : Nat) (l : List Nat) (c : Nat), (∀ n ∈ N, n < 18446744073709551616) → N.length ≤ f → (c : Int) ≤ most → most < ((c + N.sum : Nat) : Int) → scan most f l c (N.flatMap u) = ([], 0, 4)
  | [], f, l, c, _, _, h1, h2 => by simp at h2; omega
  | n :: N, 0, l, c, _, h, _, _ => by simp at h
  | n :: N, f + 1, l, c, h64, hf, hc, hm => by
    have hn := h64 n (List.mem_cons_self ..)
    have hne : (n :: N).flatMap u ≠ [] := by
      rw [List.flatMap_cons]
      intro h
      exact u_ne n (List.append_eq_nil_iff.1 h).1
    rw [List.sum_cons] at hm
    rw [scan, if_neg hne, List.flatMap_cons, gu_back n _ hn]
    dsimp only
    by_cases h : most < (c : Int) + (n : Nat)
    · rw [if_neg (by simp), if_pos h]
    · rw [if_neg (by simp), if_neg h, List.drop_left, scan_long most N f _ _ (fun n hn => h64 n (List.mem_cons_of_mem _ hn)) (by simpa using hf) (by omega) (by omega)]
theorem gu_ok {B : List UInt8} (h : (gu B).2.2 = 0) : (gu B).1 < 18446744073709551616 ∧ B.take (gu B).2.1 = u (gu B).1 ∧ 0 < (gu B).2.1 ∧ (gu B).2.1 ≤ B.length := by
  unfold gu at h ⊢
  by_cases h1 : spanE B ≠ 0
  · rw [if_pos h1] at h; exact absurd h h1
  rw [if_neg h1] at h ⊢
  by_cases h2 : u (val (B.take (spanK B)) % 18446744073709551616) = B.take (spanK B)
  · rw [if_pos h2]
    refine ⟨Nat.mod_lt _ (by decide), h2.symm, ?_, (spanK_le B).1⟩
    dsimp only
    have := u_pos (val (B.take (spanK B)) % 18446744073709551616)
    rw [h2, List.length_take] at this
    omega
  · rw [if_neg h2] at h; cases h
theorem scan_back (most : Int) : ∀ (f : Nat) (l : List Nat) (c : Nat) (B : List UInt8), B.length ≤ f → (scan most f l c B).2.2 = 0 → ∃ N, (scan most f l c B).1 = l ++ N ∧ B = N.flatMap u ∧ (scan most f l c B).2.1 = c + N.sum ∧ (N ≠ [] → ((c + N.sum : Nat) : Int) ≤ most)
  | 0, l, c, B, hf, _ => by
    have : B = [] := List.length_eq_zero_iff.1 (by omega)
    subst this
    exact ⟨[], by simp [scan], rfl, by simp [scan], fun h => absurd rfl h⟩
  | f + 1, l, c, B, hf, he => by
    by_cases hB : B = []
    · subst hB
      exact ⟨[], by simp [scan], rfl, by simp [scan], fun h => absurd rfl h⟩
    · rw [scan, if_neg hB] at he ⊢
      by_cases h1 : (gu B).2.2 ≠ 0
      · rw [if_pos h1] at he
        exact absurd he h1
      · rw [if_neg h1] at he ⊢
        by_cases h2 : most < (c : Int) + ((gu B).1 : Nat)
        · rw [if_pos h2] at he
          cases he
        · rw [if_neg h2] at he ⊢
          obtain ⟨g1, g2, g3, g4⟩ := gu_ok (Decidable.not_not.1 h1)
          obtain ⟨N, i1, i2, i3, i4⟩ := scan_back most f _ _ _ (by rw [List.length_drop]; omega) he
          refine ⟨(gu B).1 :: N, by rw [i1]; simp, ?_, by rw [i3, List.sum_cons]; omega, fun _ => ?_⟩
          · rw [List.flatMap_cons, ← i2, ← g2, List.take_append_drop]
          · rw [List.sum_cons]
            by_cases hN : N = []
            · subst hN; simp; omega
            · have := i4 hN; omega
theorem scan_err (most : Int) : ∀ (f : Nat) (l : List Nat) (c : Nat) (B : List UInt8), (scan most f l c B).2.2 ≤ 4
  | 0, l, c, B => Nat.zero_le _
  | f + 1, l, c, B => by
    rw [scan]
    split
    · exact Nat.zero_le _
    · split
      · have : (gu B).2.2 ≤ 3 := by
          unfold gu
          have := spanE_le B
          split
          · exact this
          · split <;> simp
        exact Nat.le_trans this (by omega)
      · split
        · exact Nat.le_refl _
        · exact scan_err most f _ _ _
/-- what is put is read as it was -/
theorem get_put (L : List Bool) (hL : L.length < 18446744073709551616) : getB L.length (putB L) = (if true ∈ L then (L, 0) else ([], 0)) := by
  have hle := nums_le L
  unfold getB readB putB
  by_cases h : true ∈ L
  · have h1 : ¬ (numsB L).length = 1 := fun h' => (nums_some L).1 h' h
    rw [if_neg h1, if_pos h]
    have hlen : (numsB L).length ≤ ((numsB L).flatMap u).length := by
      generalize numsB L = N
      induction N with
      | nil => simp
      | cons n N ih => rw [List.flatMap_cons, List.length_append, List.length_cons]; have := u_pos n; omega
    rw [scan_put (L.length : Int) (numsB L) _ [] 0 (fun n hn => by have := hle n hn; omega) hlen (by rw [nums_sum]; omega)]
    obtain ⟨⟨M, k, e1, _⟩, e3, e4⟩ := st_st L
    have hr : rightB (numsB L) := by
      refine .inr ⟨?_, e4⟩
      have : (numsB L).length ≠ 0 := by show (stB L).1.length ≠ 0; rw [e1]; simp
      omega
    simp only [List.nil_append, ne_eq, not_true_eq_false, if_false, if_neg (show ¬ (L.length : Int) < 0 by omega), hr]
    exact congrArg (fun q => (q, 0)) e3
  · rw [if_pos ((nums_some L).2 h), if_neg h]
    simp [scan_nil, rightB, spr]
theorem get_long (L : List Bool) (hL : L.length < 18446744073709551616) (h : true ∈ L) : getB ((L.length : Int) - 1) (putB L) = ([], 4) := by
  have hle := nums_le L
  have hpos : 0 < L.length := List.length_pos_of_mem h
  unfold getB readB putB
  have h1 : ¬ (numsB L).length = 1 := fun h' => (nums_some L).1 h' h
  have hlen : (numsB L).length ≤ ((numsB L).flatMap u).length := by
    generalize numsB L = N
    induction N with
    | nil => simp
    | cons n N ih => rw [List.flatMap_cons, List.length_append, List.length_cons]; have := u_pos n; omega
  rw [if_neg h1, scan_long _ (numsB L) _ [] 0 (fun n hn => by have := hle n hn; omega) hlen (by omega) (by rw [nums_sum]; omega)]
  simp
/-- whatever is read has just these bytes -/
theorem put_get (most : Int) (B : List UInt8) (h : (getB most B).2 = 0) : putB (getB most B).1 = B ∧ (true ∈ (getB most B).1 ↔ B ≠ []) ∧ ((getB most B).1.length : Int) ≤ most := by
  unfold getB at h ⊢
  by_cases h1 : (readB most B).2.2 ≠ 0
  · rw [if_pos h1] at h; exact absurd h h1
  rw [if_neg h1] at h ⊢
  by_cases h2 : most < 0
  · rw [if_pos h2] at h; cases h
  rw [if_neg h2] at h ⊢
  by_cases h3 : rightB (readB most B).1
  · rw [if_neg (fun q => q h3)] at h ⊢
    obtain ⟨N, i1, i2, i3, i4⟩ := scan_back most B.length [] 0 B (Nat.le_refl _) (Decidable.not_not.1 h1)
    have e : (readB most B).1 = N := i1
    rw [e] at h3 ⊢
    dsimp only
    rcases h3 with rfl | ⟨h3, h4⟩
    · simp at i2
      subst i2
      simp [spr, putB, numsB, stB]
      omega
    · cases N with
      | nil => simp at h3
      | cons n T =>
        have hn := nums_spr n T h4
        have hne : (numsB (spr false (n :: T))).length ≠ 1 := by rw [hn]; rw [List.length_cons] at h3 ⊢; omega
        refine ⟨by rw [putB, if_neg hne, hn, ← i2], ⟨fun _ hb => ?_, fun _ => ?_⟩, ?_⟩
        · rw [hb] at i2
          have := congrArg List.length i2
          rw [List.flatMap_cons, List.length_append] at this
          have := u_pos n
          simp at *
          omega
        · exact Classical.byContradiction fun h' => hne ((nums_some _).2 h')
        · rw [sum_len]
          have := i4 (by simp)
          rw [Nat.zero_add] at this
          exact this
  · rw [if_pos h3] at h; cases h
theorem get_nil (most : Int) (B : List UInt8) (h : (getB most B).2 ≠ 0) : (getB most B).1 = [] := by
  unfold getB at h ⊢
  split
  · rfl
  · rename_i h1
    rw [if_neg h1] at h
    split
    · rfl
    · rename_i h2
      rw [if_neg h2] at h
      split
      · rfl
      · rename_i h3
        rw [if_neg h3] at h
        exact absurd rfl h
theorem get_le (most : Int) (B : List UInt8) : (getB most B).2 ≤ 4 := by
  unfold getB
  split
  · exact scan_err _ _ _ _ _
  · split
    · omega
    · split <;> simp
theorem get_zero : getB 3000 [] = ([], 0) := by simp [getB, readB, scan, rightB, spr]
theorem put_runs (a b c : Nat) (ha : a < 128) (hb : 0 < b) (hb2 : b < 128) (hc : c < 128) :
    putB (List.replicate a false ++ List.replicate b true ++ List.replicate c false) = [UInt8.ofNat a, UInt8.ofNat b] ++ (if 0 < c then [UInt8.ofNat c] else []) := by
  by_cases h : 0 < c
  · have e : List.replicate a false ++ List.replicate b true ++ List.replicate c false = spr false [a, b, c] := by simp [spr]
    rw [e, putB, nums_spr a [b, c] (by simp; omega)]
    simp [u_small ha, u_small hb2, u_small hc, h]
  · have e : List.replicate a false ++ List.replicate b true ++ List.replicate c false = spr false [a, b] := by simp [spr]; omega
    rw [e, putB, nums_spr a [b] (by simp; omega)]
    simp [u_small ha, u_small hb2, h]
end Go.Proofs.Ytohbcepbodcapaa.BooM
namespace Go.Proofs.Ytohbcepbodcapaa
open Go.RowKit Mem Go.Lib
set_option linter.unusedVariables false

theorem txt_list (B : List UInt8) : (txt B).toList = B := ByteArray.toList_mk B
/-- slice expressions, as equations -/
theorem cut_u8 (A : Option Addr) (n c f y : Nat) (hf : f ≤ y) (hy : y ≤ n) (hn : n ≤ c) (fi yi : Int) (ef : fi = (f : Int)) (ey : yi = (y : Int)) (w : World) :
    (Instr.sliceAt 30 (.slice A n c) (some (.int .i64 fi)) (some (.int .i64 yi)) none).run Try.prog w = .ok (.slice (if c = f then A else A.map (·.add f)) (y - f) (c - f)) w := by
  subst ef ey
  cases A with
  | none =>
    go_simp
    try (intro h; omega)
  | some ad =>
    go_simp
    try (intro h; omega)
theorem from_u8 (A : Option Addr) (n c f : Nat) (hf : f ≤ n) (hn : n ≤ c) (fi : Int) (ef : fi = (f : Int)) (w : World) :
    (Instr.sliceAt 30 (.slice A n c) (some (.int .i64 fi)) none none).run Try.prog w = .ok (.slice (if c = f then A else A.map (·.add f)) (n - f) (c - f)) w := by
  subst ef
  cases A with
  | none =>
    go_simp
    try (intro h; omega)
  | some ad =>
    go_simp
    try (intro h; omega)
theorem cell_equalC (a b : Bool) (x y : Int) (w : World) : (Op.equalIn 10000 68 (.agg #[.bool a, (.int .i64 x)]) (.agg #[.bool b, (.int .i64 y)])).run Try.prog w = .ok (decide ((a, x) = (b, y))) w := by
  have h := run_equalIn_agg (P := Try.prog) w 9999 68 #[.bool a, (.int .i64 x)] #[.bool b, (.int .i64 y)] (by unfold Program.fieldsOf; rw [Try.underlying68]) (by kernel_rfl)
  rw [h]
  clear h
  unfold Program.fieldsOf
  rw [Try.underlying68]
  go_simp
  cases a <;> cases b <;> by_cases h : x = y <;> simp [h]
theorem cell_eqlC (a b : Bool) (x y : Int) (w : World) : (binOp .eql 68 (.agg #[.bool a, (.int .i64 x)]) (.agg #[.bool b, (.int .i64 y)])).run Try.prog w = .ok (.bool (decide ((a, x) = (b, y)))) w := by
  rw [run_eql_struct, cell_equalC]
  rfl
theorem cell_neqC (a b : Bool) (x y : Int) (w : World) : (binOp .neq 68 (.agg #[.bool a, (.int .i64 x)]) (.agg #[.bool b, (.int .i64 y)])).run Try.prog w = .ok (.bool (!decide ((a, x) = (b, y)))) w := by
  rw [run_neq_struct, cell_equalC]
  rfl
theorem cell_gdC (op : BinOp) (a b : Bool) (x y : Int) (o p : Operand) (w : World) : (eqGuard op 68 o p (.agg #[.bool a, (.int .i64 x)]) (.agg #[.bool b, (.int .i64 y)])).run Try.prog w = .ok () w := run_eqGuard_agg w op _ o p _ _ (by kernel_rfl)
theorem from_gC (A : Option Addr) (n c f : Nat) (hf : f ≤ n) (hn : n ≤ c) (fi : Int) (ef : fi = (f : Int)) (w : World) :
    (Instr.sliceAt 91 (.slice A n c) (some (.int .i64 fi)) none none).run Try.prog w = .ok (.slice (if c = f then A else A.map (·.add (f * 3))) (n - f) (c - f)) w := by
  subst ef
  cases A with
  | none =>
    go_simp
    try (intro h; omega)
  | some ad =>
    go_simp
    try (intro h; omega)
theorem to_gC (A : Option Addr) (n c y : Nat) (hy : y ≤ n) (hn : n ≤ c) (yi : Int) (ey : yi = (y : Int)) (w : World) :
    (Instr.sliceAt 91 (.slice A n c) none (some (.int .i64 yi)) none).run Try.prog w = .ok (.slice A y c) w := by
  subst ey
  cases A with
  | none =>
    go_simp
    try (intro h; omega)
  | some ad =>
    go_simp
    try (intro h; omega)
theorem cell_equalW (a b : Bool) (x y : (List UInt8)) (w : World) : (Op.equalIn 10000 82 (.agg #[.bool a, (.string (txt x))]) (.agg #[.bool b, (.string (txt y))])).run Try.prog w = .ok (decide ((a, x) = (b, y))) w := by
  have h := run_equalIn_agg (P := Try.prog) w 9999 82 #[.bool a, (.string (txt x))] #[.bool b, (.string (txt y))] (by unfold Program.fieldsOf; rw [Try.underlying82]) (by kernel_rfl)
  rw [h]
  clear h
  unfold Program.fieldsOf
  rw [Try.underlying82]
  go_simp
  simp only [txt_list]
  cases a <;> cases b <;> by_cases h : x = y <;> simp [h]
theorem cell_eqlW (a b : Bool) (x y : (List UInt8)) (w : World) : (binOp .eql 82 (.agg #[.bool a, (.string (txt x))]) (.agg #[.bool b, (.string (txt y))])).run Try.prog w = .ok (.bool (decide ((a, x) = (b, y)))) w := by
  rw [run_eql_struct, cell_equalW]
  rfl
theorem cell_neqW (a b : Bool) (x y : (List UInt8)) (w : World) : (binOp .neq 82 (.agg #[.bool a, (.string (txt x))]) (.agg #[.bool b, (.string (txt y))])).run Try.prog w = .ok (.bool (!decide ((a, x) = (b, y)))) w := by
  rw [run_neq_struct, cell_equalW]
  rfl
theorem cell_gdW (op : BinOp) (a b : Bool) (x y : (List UInt8)) (o p : Operand) (w : World) : (eqGuard op 82 o p (.agg #[.bool a, (.string (txt x))]) (.agg #[.bool b, (.string (txt y))])).run Try.prog w = .ok () w := run_eqGuard_agg w op _ o p _ _ (by kernel_rfl)
theorem from_gW (A : Option Addr) (n c f : Nat) (hf : f ≤ n) (hn : n ≤ c) (fi : Int) (ef : fi = (f : Int)) (w : World) :
    (Instr.sliceAt 100 (.slice A n c) (some (.int .i64 fi)) none none).run Try.prog w = .ok (.slice (if c = f then A else A.map (·.add (f * 3))) (n - f) (c - f)) w := by
  subst ef
  cases A with
  | none =>
    go_simp
    try (intro h; omega)
  | some ad =>
    go_simp
    try (intro h; omega)
theorem to_gW (A : Option Addr) (n c y : Nat) (hy : y ≤ n) (hn : n ≤ c) (yi : Int) (ey : yi = (y : Int)) (w : World) :
    (Instr.sliceAt 100 (.slice A n c) none (some (.int .i64 yi)) none).run Try.prog w = .ok (.slice A y c) w := by
  subst ey
  cases A with
  | none =>
    go_simp
    try (intro h; omega)
  | some ad =>
    go_simp
    try (intro h; omega)
end Go.Proofs.Ytohbcepbodcapaa
