/-
  Plain mathematics of layer 12: a column's differences, their sums, how long a row's bytes are. No program named.
-/
import Derived.Test.YtmdobloncbljeaaRleAb
namespace Go.Proofs.Ytmdobloncbljeaa.RleM
open LebM

/-- the last number, p ahead of all -/
def lastF (p : Int) : List (Bool × Int) → Int
  | [] => p
  | c :: l => lastF (if c.1 = true then c.2 else p) l
def stepF (p : Int) (c : Bool × Int) : Bool × Int := (c.1, if c.1 = true then IntKind.i64.wrap (c.2 - p) else c.2)
def stepsF (p : Int) : List (Bool × Int) → List (Bool × Int)
  | [] => []
  | c :: l => stepF p c :: stepsF (if c.1 = true then c.2 else p) l
def sumF (p : Int) (c : Bool × Int) : Bool × Int := (c.1, if c.1 = true then IntKind.i64.wrap (p + c.2) else c.2)
def lastS (p : Int) : List (Bool × Int) → Int
  | [] => p
  | c :: l => lastS (if c.1 = true then IntKind.i64.wrap (p + c.2) else p) l
def sumsF (p : Int) : List (Bool × Int) → List (Bool × Int)
  | [] => []
  | c :: l => sumF p c :: sumsF (if c.1 = true then IntKind.i64.wrap (p + c.2) else p) l
theorem steps_len : ∀ (p : Int) (L : List (Bool × Int)), (stepsF p L).length = L.length
  | _, [] => rfl
  | _, c :: l => by rw [stepsF, List.length_cons, List.length_cons, steps_len _ l]
theorem sums_len : ∀ (p : Int) (L : List (Bool × Int)), (sumsF p L).length = L.length
  | _, [] => rfl
  | _, c :: l => by rw [sumsF, List.length_cons, List.length_cons, sums_len _ l]
theorem last_snoc : ∀ (p : Int) (L : List (Bool × Int)) (c : Bool × Int), lastF p (L ++ [c]) = if c.1 = true then c.2 else lastF p L
  | _, [], _ => rfl
  | p, d :: l, c => by rw [List.cons_append, lastF, last_snoc _ l c, lastF]
theorem steps_snoc : ∀ (p : Int) (L : List (Bool × Int)) (c : Bool × Int), stepsF p (L ++ [c]) = stepsF p L ++ [stepF (lastF p L) c]
  | _, [], _ => rfl
  | p, d :: l, c => by rw [List.cons_append, stepsF, steps_snoc _ l c, stepsF, lastF, List.cons_append]
theorem lastS_snoc : ∀ (p : Int) (L : List (Bool × Int)) (c : Bool × Int), lastS p (L ++ [c]) = if c.1 = true then IntKind.i64.wrap (lastS p L + c.2) else lastS p L
  | _, [], _ => rfl
  | p, d :: l, c => by rw [List.cons_append, lastS, lastS_snoc _ l c, lastS]
theorem sums_snoc : ∀ (p : Int) (L : List (Bool × Int)) (c : Bool × Int), sumsF p (L ++ [c]) = sumsF p L ++ [sumF (lastS p L) c]
  | _, [], _ => rfl
  | p, d :: l, c => by rw [List.cons_append, sumsF, sums_snoc _ l c, sumsF, lastS, List.cons_append]
theorem steps_take (p : Int) (L : List (Bool × Int)) (i : Nat) (c : Bool × Int) (h : L[i]? = some c) : stepsF p (L.take (i + 1)) = stepsF p (L.take i) ++ [stepF (lastF p (L.take i)) c] ∧ lastF p (L.take (i + 1)) = if c.1 = true then c.2 else lastF p (L.take i) := by
  have e : L.take (i + 1) = L.take i ++ [c] := by rw [List.take_add_one, h]; rfl
  rw [e]
  exact ⟨steps_snoc _ _ _, last_snoc _ _ _⟩
theorem sums_take (p : Int) (L : List (Bool × Int)) (i : Nat) (c : Bool × Int) (h : L[i]? = some c) : sumsF p (L.take (i + 1)) = sumsF p (L.take i) ++ [sumF (lastS p (L.take i)) c] ∧ lastS p (L.take (i + 1)) = if c.1 = true then IntKind.i64.wrap (lastS p (L.take i) + c.2) else lastS p (L.take i) := by
  have e : L.take (i + 1) = L.take i ++ [c] := by rw [List.take_add_one, h]; rfl
  rw [e]
  exact ⟨sums_snoc _ _ _, lastS_snoc _ _ _⟩
/-- what is summed up is what it was -/
theorem sums_steps : ∀ (p : Int) (L : List (Bool × Int)), (∀ c ∈ L, okS c) → sumsF p (stepsF p L) = L
  | _, [], _ => rfl
  | p, (true, a) :: l, h => by
    have h0 : okS (true, a) := h _ (List.mem_cons_self ..)
    have e : IntKind.i64.wrap (p + IntKind.i64.wrap (a - p)) = a := by
      have h1 := h0.1
      have h2 := h0.2
      simp only at h1 h2
      rw [IntKind.wrap_i64, IntKind.wrap_i64]
      omega
    show sumF p (true, IntKind.i64.wrap (a - p)) :: sumsF (IntKind.i64.wrap (p + IntKind.i64.wrap (a - p))) (stepsF a l) = _
    rw [e, sums_steps a l (fun c hc => h c (List.mem_cons_of_mem _ hc))]
    show (true, IntKind.i64.wrap (p + IntKind.i64.wrap (a - p))) :: l = _
    rw [e]
  | p, (false, a) :: l, h => by
    show (false, a) :: sumsF p (stepsF p l) = _
    rw [sums_steps p l (fun c hc => h c (List.mem_cons_of_mem _ hc))]
theorem wrap_ok (z : Int) : -9223372036854775808 ≤ IntKind.i64.wrap z ∧ IntKind.i64.wrap z < 9223372036854775808 := by
  rw [IntKind.wrap_i64]
  omega
theorem steps_may : ∀ (p : Int) (L : List (Bool × Int)), (∀ c ∈ L, mayS c) → ∀ c ∈ stepsF p L, mayS c
  | _, [], _, c, hc => by cases hc
  | p, (b, a) :: l, h, c, hc => by
    have h0 : mayS (b, a) := h _ (List.mem_cons_self ..)
    rcases List.mem_cons.1 hc with e | hc
    · rw [e]
      cases b with
      | true => exact ⟨fun h => (by cases h), wrap_ok _⟩
      | false => exact h0
    · exact steps_may _ l (fun c hc => h c (List.mem_cons_of_mem _ hc)) c hc
theorem steps_some : ∀ (p : Int) (L : List (Bool × Int)), (stepsF p L).any (·.1) = L.any (·.1)
  | _, [] => rfl
  | p, (b, a) :: l => by
    show (b || (stepsF _ l).any (·.1)) = (b || l.any (·.1))
    rw [steps_some _ l]
theorem steps_none : ∀ (p : Int) (L : List (Bool × Int)), (∀ c ∈ L, c.1 = false) → stepsF p L = L
  | _, [], _ => rfl
  | p, (b, a) :: l, h => by
    have h0 : b = false := h _ (List.mem_cons_self ..)
    subst h0
    show (false, a) :: stepsF p l = _
    rw [steps_none p l (fun c hc => h c (List.mem_cons_of_mem _ hc))]
/-- numbers that rise by one -/
def rowF (z : Int) (k : Nat) : List (Bool × Int) := (List.range k).map fun (i : Nat) => (true, IntKind.i64.wrap (z + (i : Int)))
theorem row_succ (z : Int) (k : Nat) : rowF z (k + 1) = rowF z k ++ [(true, IntKind.i64.wrap (z + (k : Int)))] := by
  unfold rowF
  rw [List.range_succ, List.map_append]
  rfl
theorem row_len (z : Int) (k : Nat) : (rowF z k).length = k := by simp [rowF]
theorem row_may (z : Int) (k : Nat) : ∀ c ∈ rowF z k, mayS c := by
  intro c hc
  obtain ⟨i, _, rfl⟩ := List.mem_map.1 hc
  exact ⟨fun h => (by cases h), wrap_ok _⟩
theorem row_steps (z : Int) (h0 : -9223372036854775808 ≤ z) (h1 : z < 9223372036854775808) : ∀ m : Nat, stepsF 0 (rowF z (m + 1)) = (true, z) :: List.replicate m (true, 1)
  | 0 => by
    have e : IntKind.i64.wrap (IntKind.i64.wrap (z + ((0 : Nat) : Int)) - 0) = z := by rw [IntKind.wrap_i64, IntKind.wrap_i64]; omega
    show [(true, IntKind.i64.wrap (IntKind.i64.wrap (z + ((0 : Nat) : Int)) - 0))] = [(true, z)]
    rw [e]
  | m + 1 => by
    have hl : lastF 0 (rowF z (m + 1)) = IntKind.i64.wrap (z + (m : Int)) := by rw [row_succ, last_snoc]; rfl
    have e : IntKind.i64.wrap (IntKind.i64.wrap (z + ((m + 1 : Nat) : Int)) - IntKind.i64.wrap (z + (m : Int))) = 1 := by
      rw [IntKind.wrap_i64, IntKind.wrap_i64, IntKind.wrap_i64]
      omega
    rw [row_succ z (m + 1), steps_snoc, row_steps z h0 h1 m, hl, List.replicate_succ' (n := m)]
    show _ ++ [(true, IntKind.i64.wrap (IntKind.i64.wrap (z + ((m + 1 : Nat) : Int)) - IntKind.i64.wrap (z + (m : Int))))] = _
    rw [e]
    rfl
theorem same_steps (z : Int) (h0 : -9223372036854775808 ≤ z) (h1 : z < 9223372036854775808) (m : Nat) : stepsF 0 (List.replicate (m + 1) (true, z)) = (true, z) :: List.replicate m (true, 0) := by
  have e : IntKind.i64.wrap (z - 0) = z := by rw [IntKind.wrap_i64]; omega
  have e' : IntKind.i64.wrap (z - z) = 0 := by rw [IntKind.wrap_i64]; omega
  have h : ∀ n : Nat, stepsF z (List.replicate n (true, z)) = List.replicate n (true, 0) := by
    intro n
    induction n with
    | zero => rfl
    | succ n ih =>
      rw [List.replicate_succ, List.replicate_succ, ← ih]
      show (true, IntKind.i64.wrap (z - z)) :: _ = _
      rw [e']
      rfl
  rw [List.replicate_succ]
  show (true, IntKind.i64.wrap (z - 0)) :: stepsF z _ = _
  rw [e, h]
/-- one, and then others like one another -/
theorem len_two (x y : Int) (m : Nat) (hx : okS (true, x)) (hy : (s y).length = 1) (hm : m ≤ 4000) : (tellW kS (gatherG ((true, x) :: List.replicate m (true, y)))).length ≤ 14 := by
  have hz : ∀ a : Int, ((true, a) : Bool × Int) ≠ kS.zero := by intro a h; injection h with h; cases h
  have hp : ∀ a : Int, kS.put (true, a) = s a := fun _ => rfl
  have hxl : (s x).length ≤ 10 := s_len10 hx.1 hx.2
  have hs : ∀ z : Int, -8192 ≤ z → z < 8192 → (s z).length ≤ 2 := fun z h0 h1 => s_len_le 1 z (by omega) (by omega)
  have hs1 : ∀ z : Int, -64 ≤ z → z < 64 → (s z).length ≤ 1 := fun z h0 h1 => s_len_le 0 z (by omega) (by omega)
  rw [told_some (c := (true, x)) (List.mem_cons_self ..) (hz x)]
  by_cases hxy : x = y
  · subst hxy
    rw [← List.replicate_succ, gather_replicate _ _ (by omega)]
    by_cases h1 : m = 0
    · subst h1
      have ho : othersG kS.zero [(((true, x) : Bool × Int), 0 + 1)] = 1 := others_all _ _ (fun g hg => by rw [List.mem_singleton.1 hg]; exact ⟨hz x, rfl⟩)
      rw [tell_other (hz x) (by omega), ho]
      have h2 := hs1 (-((1 : Nat) : Int)) (by omega) (by omega)
      simp only [List.take_succ_cons, List.take_zero, List.drop_succ_cons, List.drop_zero, puts, List.flatMap_cons, List.flatMap_nil, tell_nil, List.append_nil, hp, List.length_append]
      omega
    · rw [tell_same (hz x) (by omega), tell_nil, hp]
      have h2 := hs ((m + 1 : Nat) : Int) (by omega) (by omega)
      simp only [List.length_append, List.length_nil]
      omega
  · by_cases h0 : m = 0
    · subst h0
      have hg := gather_replicate ((true, x) : Bool × Int) 1 (by omega)
      have ho : othersG kS.zero [(((true, x) : Bool × Int), 1)] = 1 := others_all _ _ (fun g hg => by rw [List.mem_singleton.1 hg]; exact ⟨hz x, rfl⟩)
      rw [show ((true, x) :: List.replicate 0 (true, y)) = List.replicate 1 ((true, x) : Bool × Int) from rfl, hg, tell_other (hz x) (by omega), ho]
      have h2 := hs1 (-((1 : Nat) : Int)) (by omega) (by omega)
      simp only [List.take_succ_cons, List.take_zero, List.drop_succ_cons, List.drop_zero, puts, List.flatMap_cons, List.flatMap_nil, tell_nil, List.append_nil, hp, List.length_append]
      omega
    · have hg : gatherG ((true, x) :: List.replicate m (true, y)) = [((true, x), 1), ((true, y), m)] := by
        have h := gather_spread (l := [(((true, x) : Bool × Int), 1), ((true, y), m)]) ⟨by omega, fun d hd => by cases hd; intro e; injection e with _ e; exact hxy e.symm, by omega, fun d hd => by simp at hd, trivial⟩
        rw [← h]
        simp [spreadG]
      rw [hg]
      by_cases h1 : m = 1
      · subst h1
        have ho : othersG kS.zero [(((true, x) : Bool × Int), 1), ((true, y), 1)] = 2 := others_all _ _ (fun g hg => by
          rcases List.mem_cons.1 hg with e | e
          · rw [e]; exact ⟨hz x, rfl⟩
          · rw [List.mem_singleton.1 e]; exact ⟨hz y, rfl⟩)
        rw [tell_other (hz x) (by omega), ho]
        have h2 := hs1 (-((2 : Nat) : Int)) (by omega) (by omega)
        simp only [List.take_succ_cons, List.take_zero, List.drop_succ_cons, List.drop_zero, puts, List.flatMap_cons, List.flatMap_nil, tell_nil, List.append_nil, hp, List.length_append]
        omega
      · have ho : othersG kS.zero [(((true, x) : Bool × Int), 1), ((true, y), m)] = 1 := by
          rw [othersG, if_neg (by rintro (e | e); exact hz x e; omega), others_zero _ (.inr (by omega))]
        rw [tell_other (hz x) (by omega), ho]
        have h2 := hs1 (-((1 : Nat) : Int)) (by omega) (by omega)
        have h3 := hs (m : Int) (by omega) (by omega)
        simp only [List.take_succ_cons, List.take_zero, List.drop_succ_cons, List.drop_zero, puts, List.flatMap_cons, List.flatMap_nil, List.append_nil, hp, List.length_append]
        rw [tell_same (hz y) (by omega), tell_nil]
        simp only [List.length_append, List.length_nil, hp]
        omega
theorem s_one : (s 1).length = 1 := by rw [s_small (by omega)]; rfl
theorem s_zero : (s 0).length = 1 := by rw [s_small (by omega)]; rfl
end Go.Proofs.Ytmdobloncbljeaa.RleM
