import Derived.Test.YtbabgnadgdidmaaGreatZm17
import Derived.Test.YtbabgnadgdidmaaGreatZm02
namespace Go.Proofs.YtbabgnadgdidmaaGreat.RleM
open LebM
def lastF (p : Int) : List (Bool × Int) → Int
 | [] => p
 | c :: l => lastF (if c.1 = true then c.2 else p) l
def stepF (p : Int) (c : Bool × Int) : Bool × Int := (c.1, if c.1 = true then IntKind.i64.wrap (c.2 - p) else c.2)
def stepsF (p : Int) : List (Bool × Int) → List (Bool × Int)
 | [] => []
 | c :: l => stepF p c :: stepsF (if c.1 = true then c.2 else p) l
def sumF (p : Int) (c : Bool × Int) : Bool × Int := (c.1, if c.1 = true then IntKind.i64.wrap (p + c.2) else c.2)
def lastS (p : Int) : List (Bool × Int) → Int
 | [] => p
 | c :: l => lastS (if c.1 = true then IntKind.i64.wrap (p + c.2) else p) l
def sumsF (p : Int) : List (Bool × Int) → List (Bool × Int)
 | [] => []
 | c :: l => sumF p c :: sumsF (if c.1 = true then IntKind.i64.wrap (p + c.2) else p) l
theorem steps_len : ∀ (p : Int) (L : List (Bool × Int)), (stepsF p L).length = L.length
 | _, [] => rfl
 | _, c :: l => by rw [stepsF, List.length_cons, List.length_cons, steps_len _ l]
theorem sums_len : ∀ (p : Int) (L : List (Bool × Int)), (sumsF p L).length = L.length
 | _, [] => rfl
 | _, c :: l => by rw [sumsF, List.length_cons, List.length_cons, sums_len _ l]
theorem last_snoc : ∀ (p : Int) (L : List (Bool × Int)) (c : Bool × Int), lastF p (L ++ [c]) = if c.1 = true then c.2 else lastF p L
 | _, [], _ => rfl
 | p, d :: l, c => by rw [List.cons_append, lastF, last_snoc _ l c, lastF]
theorem steps_snoc : ∀ (p : Int) (L : List (Bool × Int)) (c : Bool × Int), stepsF p (L ++ [c]) = stepsF p L ++ [stepF (lastF p L) c]
 | _, [], _ => rfl
 | p, d :: l, c => by rw [List.cons_append, stepsF, steps_snoc _ l c, stepsF, lastF, List.cons_append]
theorem lastS_snoc : ∀ (p : Int) (L : List (Bool × Int)) (c : Bool × Int), lastS p (L ++ [c]) = if c.1 = true then IntKind.i64.wrap (lastS p L + c.2) else lastS p L
 | _, [], _ => rfl
 | p, d :: l, c => by rw [List.cons_append, lastS, lastS_snoc _ l c, lastS]
theorem sums_snoc : ∀ (p : Int) (L : List (Bool × Int)) (c : Bool × Int), sumsF p (L ++ [c]) = sumsF p L ++ [sumF (lastS p L) c]
 | _, [], _ => rfl
 | p, d :: l, c => by rw [List.cons_append, sumsF, sums_snoc _ l c, sumsF, lastS, List.cons_append]
theorem steps_take (p : Int) (L : List (Bool × Int)) (i : Nat) (c : Bool × Int) (h : L[i]? = some c) : stepsF p (L.take (i + 1)) = stepsF p (L.take i) ++ [stepF (lastF p (L.take i)) c] ∧ lastF p (L.take (i + 1)) = if c.1 = true then c.2 else lastF p (L.take i) := by
 have e : L.take (i + 1) = L.take i ++ [c] := by rw [List.take_add_one, h]; rfl
 rw [e];exact ⟨steps_snoc _ _ _, last_snoc _ _ _⟩
theorem sums_take (p : Int) (L : List (Bool × Int)) (i : Nat) (c : Bool × Int) (h : L[i]? = some c) : sumsF p (L.take (i + 1)) = sumsF p (L.take i) ++ [sumF (lastS p (L.take i)) c] ∧ lastS p (L.take (i + 1)) = if c.1 = true then IntKind.i64.wrap (lastS p (L.take i) + c.2) else lastS p (L.take i) := by
 have e : L.take (i + 1) = L.take i ++ [c] := by rw [List.take_add_one, h]; rfl
 rw [e];exact ⟨sums_snoc _ _ _, lastS_snoc _ _ _⟩
theorem sums_steps : ∀ (p : Int) (L : List (Bool × Int)), (∀ c ∈ L, okS c) → sumsF p (stepsF p L) = L
 | _, [], _ => rfl
 | p, (true, a) :: l, h => by
  have h0 : okS (true, a) := h _ (List.mem_cons_self ..);have e : IntKind.i64.wrap (p + IntKind.i64.wrap (a - p)) = a := by
   have h1 := h0.1;have h2 := h0.2;simp only at h1 h2;rw [IntKind.wrap_i64, IntKind.wrap_i64];omega
  show sumF p (true, IntKind.i64.wrap (a - p)) :: sumsF (IntKind.i64.wrap (p + IntKind.i64.wrap (a - p))) (stepsF a l) = _;rw [e, sums_steps a l (fun c hc => h c (List.mem_cons_of_mem _ hc))];show (true, IntKind.i64.wrap (p + IntKind.i64.wrap (a - p))) :: l = _;rw [e]
 | p, (false, a) :: l, h => by
  show (false, a) :: sumsF p (stepsF p l) = _;rw [sums_steps p l (fun c hc => h c (List.mem_cons_of_mem _ hc))]
theorem wrap_ok (z : Int) : -9223372036854775808 ≤ IntKind.i64.wrap z ∧ IntKind.i64.wrap z < 9223372036854775808 := by
 rw [IntKind.wrap_i64];omega
theorem steps_may : ∀ (p : Int) (L : List (Bool × Int)), (∀ c ∈ L, mayS c) → ∀ c ∈ stepsF p L, mayS c
 | _, [], _, c, hc => by cases hc
 | p, (b, a) :: l, h, c, hc => by
  have h0 : mayS (b, a) := h _ (List.mem_cons_self ..);rcases List.mem_cons.1 hc with e | hc
  · rw [e];cases b with
    | true => exact ⟨fun h => (by cases h), wrap_ok _⟩
    | false => exact h0
  · exact steps_may _ l (fun c hc => h c (List.mem_cons_of_mem _ hc)) c hc
theorem steps_some : ∀ (p : Int) (L : List (Bool × Int)), (stepsF p L).any (·.1) = L.any (·.1)
 | _, [] => rfl
 | p, (b, a) :: l => by
  show (b || (stepsF _ l).any (·.1)) = (b || l.any (·.1));rw [steps_some _ l]
end Go.Proofs.YtbabgnadgdidmaaGreat.RleM
namespace Go.Proofs.YtbabgnadgdidmaaGreat.BooM
open LebM
set_option linter.unusedVariables false
def addB (s : List Nat × Bool) (x : Bool) : List Nat × Bool :=
 if x = s.2 then (s.1.dropLast ++ [(s.1.getLast?.getD 0) + 1], s.2) else (s.1 ++ [1], x)
def stB (L : List Bool) : List Nat × Bool := L.foldl addB ([0], false)
def numsB (L : List Bool) : List Nat := (stB L).1
def spr (x : Bool) : List Nat → List Bool
 | [] => []
 | n :: l => List.replicate n x ++ spr (!x) l
def odd (x : Bool) : List Nat → Bool
 | [] => x
 | _ :: l => odd (!x) l
theorem add_same (M : List Nat) (k : Nat) (x : Bool) : addB (M ++ [k], x) x = (M ++ [k + 1], x) := by simp [addB]
theorem add_other (M : List Nat) (x y : Bool) (h : y ≠ x) : addB (M, x) y = (M ++ [1], y) := by simp [addB, h]
theorem odd_snoc : ∀ (M : List Nat) (x : Bool) (k : Nat), odd x (M ++ [k]) = !(odd x M)
 | [], x, k => rfl
 | _ :: M, x, k => odd_snoc M (!x) k
theorem spr_app : ∀ (M M' : List Nat) (x : Bool), spr x (M ++ M') = spr x M ++ spr (odd x M) M'
 | [], M', x => rfl
 | n :: M, M', x => by
  show List.replicate n x ++ spr (!x) (M ++ M') = (List.replicate n x ++ spr (!x) M) ++ spr (odd (!x) M) M';rw [spr_app M M' (!x), List.append_assoc]
theorem spr_one (x : Bool) (n : Nat) : spr x [n] = List.replicate n x := by simp [spr]
theorem spr_snoc (M : List Nat) (n : Nat) (x : Bool) : spr x (M ++ [n]) = spr x M ++ List.replicate n (odd x M) := by rw [spr_app, spr_one]
structure St (s : List Nat × Bool) (L : List Bool) : Prop where
 ex : ∃ M k, s.1 = M ++ [k] ∧ s.2 = odd false M
 spr : spr false s.1 = L
 pos : ∀ n ∈ s.1.tail, n ≠ 0
theorem tail_snoc {M : List Nat} {k : Nat} (h : M ≠ []) : (M ++ [k]).tail = M.tail ++ [k] := by
 cases M with
 | nil => exact absurd rfl h
 | cons a M => rfl
theorem St.zero : St ([0], false) [] := ⟨⟨[], 0, rfl, rfl⟩, rfl, fun n h => by simp at h⟩
theorem St.step {s : List Nat × Bool} {L : List Bool} (h : St s L) (y : Bool) : St (addB s y) (L ++ [y]) := by
 obtain ⟨⟨M, k, h1, h2⟩, h3, h4⟩ := h;obtain ⟨N, x⟩ := s;dsimp only at h1 h2 h3 h4;subst h1;by_cases hy : y = x
 · subst hy;rw [add_same];refine ⟨⟨M, k + 1, rfl, h2⟩, ?_, ?_⟩
   · dsimp only;rw [← h3, spr_snoc, spr_snoc, ← h2, List.replicate_succ', List.append_assoc]
   · dsimp only;intro n hn;by_cases hM : M = []
     · subst hM; simp at hn
     · rw [tail_snoc hM] at hn h4;rcases List.mem_append.1 hn with hn | hn
       · exact h4 n (List.mem_append_left _ hn)
       · simp at hn; omega
 · rw [add_other _ _ _ hy];have hx : y = odd false (M ++ [k]) := by rw [odd_snoc, ← h2]; revert hy; clear h2 h3 h4; cases x <;> cases y <;> simp
   refine ⟨⟨M ++ [k], 1, rfl, hx⟩, ?_, ?_⟩
   · dsimp only;rw [spr_snoc, h3, ← hx];rfl
   · dsimp only;intro n hn;rw [tail_snoc (by simp)] at hn;rcases List.mem_append.1 hn with hn | hn
     · exact h4 n hn
     · simp at hn; omega
theorem st_snoc (L : List Bool) (y : Bool) : stB (L ++ [y]) = addB (stB L) y := by simp [stB]
theorem st_st (L : List Bool) : St (stB L) L := by
 have h : ∀ (L : List Bool) (s : List Nat × Bool) (L0 : List Bool), St s L0 → St (L.foldl addB s) (L0 ++ L) := by
  intro L
  induction L with
  | nil => intro s L0 h; simpa using h
  | cons y L ih =>
   intro s L0 h;have := ih _ _ (h.step y)
   simpa using this
 have := h L _ _ St.zero
 simpa [stB] using this
def rightB (N : List Nat) : Prop := N = [] ∨ 2 ≤ N.length ∧ ∀ n ∈ N.tail, n ≠ 0
theorem fold_run (M : List Nat) (x : Bool) : ∀ (n k : Nat), (List.replicate n x).foldl addB (M ++ [k], x) = (M ++ [k + n], x)
 | 0, k => rfl
 | n + 1, k => by
  rw [List.replicate_succ, List.foldl_cons, add_same, fold_run M x n (k + 1), show k + 1 + n = k + (n + 1) by omega]
theorem fold_spr : ∀ (l : List Nat) (M : List Nat) (k : Nat) (x : Bool), (∀ n ∈ l, n ≠ 0) → ((spr (!x) l).foldl addB (M ++ [k], x)).1 = M ++ [k] ++ l
 | [], M, k, x, _ => by simp [spr]
 | n :: l, M, k, x, h => by
  obtain ⟨m, rfl⟩ : ∃ m, n = m + 1 := ⟨n - 1, by have := h n (List.mem_cons_self ..); omega⟩
  show ((List.replicate (m + 1) (!x) ++ spr (!!x) l).foldl addB (M ++ [k], x)).1 = _;rw [List.foldl_append, List.replicate_succ, List.foldl_cons, add_other _ _ _ (by cases x <;> simp), fold_run, fold_spr l _ _ _ (fun n hn => h n (List.mem_cons_of_mem _ hn)), show 1 + m = m + 1 by omega];simp
theorem nums_spr (n : Nat) (l : List Nat) (h : ∀ n ∈ l, n ≠ 0) : numsB (spr false (n :: l)) = n :: l := by
 show ((List.replicate n false ++ spr (!false) l).foldl addB ([0], false)).1 = _;rw [List.foldl_append];have := fold_run [] false n 0;simp only [List.nil_append, Nat.zero_add] at this;rw [this];exact fold_spr l [] n false h
theorem sum_len : ∀ (N : List Nat) (x : Bool), (spr x N).length = N.sum
 | [], x => rfl
 | n :: N, x => by
  show (List.replicate n x ++ spr (!x) N).length = _;rw [List.length_append, List.length_replicate, sum_len N (!x), List.sum_cons]
theorem nums_len (L : List Bool) : (numsB L).length ≤ L.length + 1 := by
 have hs := st_st L;obtain ⟨⟨M, k, h1, _⟩, h3, h4⟩ := hs;have h5 : (spr false (stB L).1).length = (stB L).1.sum := sum_len _ _;rw [h3] at h5;have hpos : ∀ (T : List Nat), (∀ n ∈ T, n ≠ 0) → T.length ≤ T.sum := by
  intro T
  induction T with
  | nil => intro _; exact Nat.le_refl _
  | cons a T ih =>
   intro h;have := ih (fun n hn => h n (List.mem_cons_of_mem _ hn));have := h a (List.mem_cons_self ..);simp only [List.length_cons, List.sum_cons];omega
 show (stB L).1.length ≤ _;cases hN : (stB L).1 with
 | nil => simp
 | cons a T =>
  rw [hN] at h4 h5;have := hpos T h4;simp only [List.sum_cons] at h5;simp only [List.length_cons];omega
theorem nums_sum (L : List Bool) : (numsB L).sum = L.length := by rw [← sum_len _ false]; exact congrArg _ (st_st L).spr
theorem mem_le_sum : ∀ (N : List Nat) (n : Nat), n ∈ N → n ≤ N.sum
 | [], n, h => by simp at h
 | a :: N, n, h => by
  rw [List.sum_cons];rcases List.mem_cons.1 h with rfl | h
  · omega
  · have := mem_le_sum N n h; omega
theorem nums_le (L : List Bool) : ∀ n ∈ numsB L, n ≤ L.length := fun n hn => by rw [← nums_sum]; exact mem_le_sum _ n hn
theorem nums_some (L : List Bool) : (numsB L).length = 1 ↔ ¬ true ∈ L := by
 obtain ⟨⟨M, k, h1, _⟩, h3, h4⟩ := st_st L;have e : numsB L = M ++ [k] := h1;rw [e];constructor
 · intro h;have hM : M = [] := by cases M with | nil => rfl | cons a M => simp at h
   subst hM;rw [h1] at h3;rw [← h3];intro hm;simp [spr] at hm
 · intro h;cases M with
   | nil => rfl
   | cons a M =>
    exfalso;apply h;rw [← h3, h1];have h5 : (stB L).1.tail = M ++ [k] := by rw [h1]; rfl
    rw [h5] at h4;show true ∈ List.replicate a false ++ spr (!false) (M ++ [k]);cases hT : M ++ [k] with
    | nil => simp at hT
    | cons b T =>
     rw [hT] at h4;have hb := h4 b (List.mem_cons_self ..);refine List.mem_append_right _ (List.mem_append_left _ ?_);exact List.mem_replicate.2 ⟨hb, rfl⟩
def putB (L : List Bool) : List UInt8 := if (numsB L).length = 1 then [] else (numsB L).flatMap u
def scan (most : Int) : Nat → List Nat → Nat → List UInt8 → List Nat × Nat × Nat
 | 0, l, c, B => (l, c, 0)
 | f + 1, l, c, B => if B = [] then (l, c, 0) else if (gu B).2.2 ≠ 0 then ([], 0, (gu B).2.2) else if most < (c : Int) + ((gu B).1 : Nat) then ([], 0, 4) else scan most f (l ++ [(gu B).1]) (c + (gu B).1) (B.drop (gu B).2.1)
def readB (most : Int) (B : List UInt8) : List Nat × Nat × Nat := scan most B.length [] 0 B
open Classical in
noncomputable def getB (most : Int) (B : List UInt8) : List Bool × Nat :=
 if (readB most B).2.2 ≠ 0 then ([], (readB most B).2.2) else if most < 0 then ([], 3) else if ¬ rightB (readB most B).1 then ([], 3) else (spr false (readB most B).1, 0)
theorem scan_nil (most : Int) (f : Nat) (l : List Nat) (c : Nat) : scan most f l c [] = (l, c, 0) := by cases f <;> simp [scan]
theorem scan_put (most : Int) : ∀ (N : List Nat) (f : Nat) (l : List Nat) (c : Nat), (∀ n ∈ N, n < 18446744073709551616) → N.length ≤ f → ((c + N.sum : Nat) : Int) ≤ most → scan most f l c (N.flatMap u) = (l ++ N, c + N.sum, 0)
 | [], f, l, c, _, _, _ => by simp [scan_nil]
 | n :: N, 0, l, c, _, h, _ => by simp at h
 | n :: N, f + 1, l, c, h64, hf, hm => by
  have hn := h64 n (List.mem_cons_self ..);have hne : (n :: N).flatMap u ≠ [] := by
   rw [List.flatMap_cons];intro h;exact u_ne n (List.append_eq_nil_iff.1 h).1
  rw [List.sum_cons] at hm;rw [scan, if_neg hne, List.flatMap_cons, gu_back n _ hn];dsimp only;rw [if_neg (by simp), if_neg (by omega), List.drop_left, scan_put most N f _ _ (fun n hn => h64 n (List.mem_cons_of_mem _ hn)) (by simpa using hf) (by omega)];simp [Nat.add_assoc]
theorem gu_ok {B : List UInt8} (h : (gu B).2.2 = 0) : (gu B).1 < 18446744073709551616 ∧ B.take (gu B).2.1 = u (gu B).1 ∧ 0 < (gu B).2.1 ∧ (gu B).2.1 ≤ B.length := by
 unfold gu at h ⊢;by_cases h1 : spanE B ≠ 0
 · rw [if_pos h1] at h; exact absurd h h1
 rw [if_neg h1] at h ⊢;by_cases h2 : u (val (B.take (spanK B)) % 18446744073709551616) = B.take (spanK B)
 · rw [if_pos h2];refine ⟨Nat.mod_lt _ (by decide), h2.symm, ?_, (spanK_le B).1⟩;dsimp only;have := u_pos (val (B.take (spanK B)) % 18446744073709551616);rw [h2, List.length_take] at this;omega
 · rw [if_neg h2] at h; cases h
theorem scan_back (most : Int) : ∀ (f : Nat) (l : List Nat) (c : Nat) (B : List UInt8), B.length ≤ f → (scan most f l c B).2.2 = 0 → ∃ N, (scan most f l c B).1 = l ++ N ∧ B = N.flatMap u ∧ (scan most f l c B).2.1 = c + N.sum ∧ (N ≠ [] → ((c + N.sum : Nat) : Int) ≤ most)
 | 0, l, c, B, hf, _ => by
  have : B = [] := List.length_eq_zero_iff.1 (by omega);subst this;exact ⟨[], by simp [scan], rfl, by simp [scan], fun h => absurd rfl h⟩
 | f + 1, l, c, B, hf, he => by
  by_cases hB : B = []
  · subst hB;exact ⟨[], by simp [scan], rfl, by simp [scan], fun h => absurd rfl h⟩
  · rw [scan, if_neg hB] at he ⊢;by_cases h1 : (gu B).2.2 ≠ 0
    · rw [if_pos h1] at he;exact absurd he h1
    · rw [if_neg h1] at he ⊢;by_cases h2 : most < (c : Int) + ((gu B).1 : Nat)
      · rw [if_pos h2] at he;cases he
      · rw [if_neg h2] at he ⊢;obtain ⟨g1, g2, g3, g4⟩ := gu_ok (Decidable.not_not.1 h1);obtain ⟨N, i1, i2, i3, i4⟩ := scan_back most f _ _ _ (by rw [List.length_drop]; omega) he;refine ⟨(gu B).1 :: N, by rw [i1]; simp, ?_, by rw [i3, List.sum_cons]; omega, fun _ => ?_⟩
        · rw [List.flatMap_cons, ← i2, ← g2, List.take_append_drop]
        · rw [List.sum_cons];by_cases hN : N = []
          · subst hN; simp; omega
          · have := i4 hN; omega
theorem get_put (L : List Bool) (hL : L.length < 18446744073709551616) : getB L.length (putB L) = (if true ∈ L then (L, 0) else ([], 0)) := by
 have hle := nums_le L;unfold getB readB putB;by_cases h : true ∈ L
 · have h1 : ¬ (numsB L).length = 1 := fun h' => (nums_some L).1 h' h;rw [if_neg h1, if_pos h];have hlen : (numsB L).length ≤ ((numsB L).flatMap u).length := by
    generalize numsB L = N
    induction N with
    | nil => simp
    | cons n N ih => rw [List.flatMap_cons, List.length_append, List.length_cons]; have := u_pos n; omega
   rw [scan_put (L.length : Int) (numsB L) _ [] 0 (fun n hn => by have := hle n hn; omega) hlen (by rw [nums_sum]; omega)];obtain ⟨⟨M, k, e1, _⟩, e3, e4⟩ := st_st L;have hr : rightB (numsB L) := by
    refine .inr ⟨?_, e4⟩;have : (numsB L).length ≠ 0 := by show (stB L).1.length ≠ 0; rw [e1]; simp
    omega
   simp only [List.nil_append, ne_eq, not_true_eq_false, if_false, if_neg (show ¬ (L.length : Int) < 0 by omega), hr];exact congrArg (fun q => (q, 0)) e3
 · rw [if_pos ((nums_some L).2 h), if_neg h];simp [scan_nil, rightB, spr]
theorem put_get (most : Int) (B : List UInt8) (h : (getB most B).2 = 0) : putB (getB most B).1 = B ∧ (true ∈ (getB most B).1 ↔ B ≠ []) ∧ ((getB most B).1.length : Int) ≤ most := by
 unfold getB at h ⊢;by_cases h1 : (readB most B).2.2 ≠ 0
 · rw [if_pos h1] at h; exact absurd h h1
 rw [if_neg h1] at h ⊢;by_cases h2 : most < 0
 · rw [if_pos h2] at h; cases h
 rw [if_neg h2] at h ⊢;by_cases h3 : rightB (readB most B).1
 · rw [if_neg (fun q => q h3)] at h ⊢;obtain ⟨N, i1, i2, i3, i4⟩ := scan_back most B.length [] 0 B (Nat.le_refl _) (Decidable.not_not.1 h1);have e : (readB most B).1 = N := i1;rw [e] at h3 ⊢;dsimp only;rcases h3 with rfl | ⟨h3, h4⟩
   · simp at i2;subst i2;simp [spr, putB, numsB, stB];omega
   · cases N with
     | nil => simp at h3
     | cons n T =>
      have hn := nums_spr n T h4;have hne : (numsB (spr false (n :: T))).length ≠ 1 := by rw [hn]; rw [List.length_cons] at h3 ⊢; omega
      refine ⟨by rw [putB, if_neg hne, hn, ← i2], ⟨fun _ hb => ?_, fun _ => ?_⟩, ?_⟩
      · rw [hb] at i2;have := congrArg List.length i2;rw [List.flatMap_cons, List.length_append] at this;have := u_pos n;simp at *;omega
      · exact Classical.byContradiction fun h' => hne ((nums_some _).2 h')
      · rw [sum_len];have := i4 (by simp);rw [Nat.zero_add] at this;exact this
 · rw [if_pos h3] at h; cases h
end Go.Proofs.YtbabgnadgdidmaaGreat.BooM
