/-
  Plain: how long columns are.
  Plain mathematics of layer 12: a column's differences, their sums, how long a row's bytes are. No program named.
-/
import Derived.Test.YtohbcepbodcapaaZm25
namespace Go.Proofs.Ytohbcepbodcapaa.RleM
open LebM
set_option linter.unusedVariables false

theorem tell_le {κ : Type} [DecidableEq κ] {K : Kd κ} (x : List κ) (M N : Nat) (hx : x.length ≤ N) (hN : N ≤ 1000000) (hM : ∀ c ∈ x, (K.put c).length ≤ M) : (tellG K (gatherG x)).length ≤ N * (20 + M) ∧ (tellW K (gatherG x)).length ≤ N * (20 + M) := by
  have hg := gather_len x
  have hm := mem_gather' (p := fun c => (K.put c).length ≤ M) hM
  have h1 := tell_len (K := K) (gatherG x).length (gatherG x) (fun g hg => by have := gather_mem hg; omega) (by omega)
  have h2 := wt_le (gatherG x) hm
  have h3 : (gatherG x).length * M ≤ N * M := Nat.mul_le_mul_right _ (by omega)
  have h4 : N * (20 + M) = 20 * N + N * M := by rw [Nat.mul_add, Nat.mul_comm]
  have h5 : (tellG K (gatherG x)).length ≤ N * (20 + M) := by unfold tellG; omega
  refine ⟨h5, ?_⟩
  have h6 : tellW K (gatherG x) = [] ∨ tellW K (gatherG x) = tellG K (gatherG x) := by
    match gatherG x with
    | [] => exact .inr rfl
    | [(c, n)] =>
      by_cases e : c = K.zero
      · exact .inl (if_pos e)
      · exact .inr (if_neg e)
    | _ :: _ :: _ => exact .inr rfl
  rcases h6 with h | h
  · rw [h]; exact Nat.zero_le _
  · rw [h]; exact h5
theorem putU10 {c : Bool × Int} (h : okU c) : (kU.put c).length ≤ 10 := by
  have h1 : 0 ≤ c.2 := h.1
  have h2 : c.2 < 9223372036854775808 := h.2
  exact u_len10 (n := c.2.toNat) (by omega)
theorem putS10 {c : Bool × Int} (h : okS c) : (kS.put c).length ≤ 10 := s_len10 h.1 h.2
theorem putW10 {c : Bool × List UInt8} (h : c.2.length ≤ 1000000) : (kW.put c).length ≤ 10 + c.2.length := by
  have := u_len10 (n := c.2.length) (by omega)
  show (u c.2.length ++ c.2).length ≤ _
  rw [List.length_append]
  omega
/-- numbers: at most so many bytes -/
theorem lenU {x : List (Bool × Int)} (hx : x.length ≤ 600) (h : ∀ c ∈ x, mayU c) : (tellW kU (gatherG x)).length ≤ 18000 := (tell_le x 10 600 hx (by omega) (fun c hc => putU10 (h c hc).2)).2
theorem lenS {x : List (Bool × Int)} (hx : x.length ≤ 600) (h : ∀ c ∈ x, mayS c) : (tellW kS (gatherG x)).length ≤ 18000 := (tell_le x 10 600 hx (by omega) (fun c hc => putS10 (h c hc).2)).2
/-- texts that aren't long -/
theorem lenWr {κ : Type} [DecidableEq κ] {K : Kd κ} {x : List κ} {f : κ → Nat} (hx : x.length ≤ 600) (h : ∀ c ∈ x, x.length + f c / 4 ≤ 600) (hp : ∀ c ∈ x, (K.put c).length ≤ 10 + f c) : (tellG K (gatherG x)).length ≤ 1000000 ∧ (tellW K (gatherG x)).length ≤ 1000000 := by
  by_cases h3 : x.length ≤ 300
  · have := tell_le (K := K) x 2413 300 h3 (by omega) (fun c hc => by have h1 := h c hc; have h2 := hp c hc; omega)
    omega
  · have := tell_le (K := K) x 1209 600 hx (by omega) (fun c hc => by have h1 := h c hc; have h2 := hp c hc; omega)
    omega
theorem tellW_one {κ : Type} [DecidableEq κ] {K : Kd κ} {c : κ} {n : Nat} (hz : c ≠ K.zero) : tellW K [(c, n)] = tellG K [(c, n)] := by
  show (if c = K.zero then [] else _) = _
  exact if_neg hz
section
variable {κ : Type} [DecidableEq κ] {K : Kd κ} {most : Int}
theorem none_err {z : κ} {r : Rs κ} {e : Nat} (h : noneG z most r = .error e) : e ≠ 0 := by
  unfold noneG at h
  split at h
  · next hq => injection h with h; subst h; exact hq
  · split at h
    · cases h
    · injection h with h; omega
theorem same_err {n : Nat} {r : Rs κ} {e : Nat} (h : sameG K most n r = .error e) : e ≠ 0 := by
  unfold sameG at h
  split at h
  · split at h
    · next hq => injection h with h; subst h; exact hq
    · cases h
  · injection h with h; omega
theorem many_err : ∀ (n : Nat) {r : Rs κ} {e : Nat}, manyG K n r = .error e → e ≠ 0
  | 0, r, e, h => by cases h
  | n + 1, r, e, h => by
    rw [manyG] at h
    split at h
    · next hq => injection h with h; subst h; exact hq
    · exact many_err n h
theorem run_err {r : Rs κ} {e : Nat} (h : runG K most r = .error e) : e ≠ 0 := by
  unfold runG at h
  split at h
  · next hq => injection h with h; subst h; exact hq
  · split at h
    · exact none_err h
    · split at h
      · exact same_err h
      · unfold unlikeG at h
        split at h
        · exact many_err _ h
        · injection h with h; omega
theorem loop_err : ∀ (f : Nat) {r : Rs κ} {e : Nat}, loopG K most f r = .error e → e ≠ 0
  | 0, r, e, h => by cases h
  | f + 1, r, e, h => by
    rw [loopG] at h
    split at h
    · cases h
    · split at h
      · next e' he => injection h with h; subst h; exact run_err he
      · exact loop_err f h
theorem read_err {B : List UInt8} {e : Nat} (h : readG K most B = .error e) : e ≠ 0 := by
  unfold readG at h
  split at h
  · next e' he => injection h with h; subst h; exact loop_err _ he
  · split at h
    · injection h with h; omega
    · split at h
      · injection h with h; omega
      · cases h
end
/-- like ones -/
theorem gather_replicate {κ : Type} [DecidableEq κ] (c : κ) (k : Nat) (hk : 0 < k) : gatherG (List.replicate k c) = [(c, k)] := by
  have h := gather_spread (l := [(c, k)]) ⟨hk, by simp, trivial⟩
  rw [← h]
  simp [spreadG]
theorem len_same (k X : Nat) (hk : 2 ≤ k) (hk2 : k ≤ 8000) (hX : X < 128) : (tellW kU (gatherG (List.replicate k ((true, (X : Int)) : Bool × Int)))).length ≤ 4 := by
  rw [gather_replicate _ _ (by omega)]
  have hz : ((true, (X : Int)) : Bool × Int) ≠ kU.zero := by intro h; injection h with h; cases h
  have e : tellW kU [((true, (X : Int)), k)] = tellG kU [((true, (X : Int)), k)] := tellW_one hz
  rw [e, tell_same hz (by omega), tell_nil]
  have h1 := s_len_le 1 (k : Int) (by omega) (by omega)
  have h2 : kU.put (true, (X : Int)) = u X := rfl
  rw [h2, u_small hX]
  simp only [List.length_append, List.length_cons, List.length_nil]
  omega
theorem len_one (X : Nat) (hX : X < 128) : (tellW kU (gatherG [((true, (X : Int)) : Bool × Int)])).length = 2 := by
  have hg := gather_replicate ((true, (X : Int)) : Bool × Int) 1 (by omega)
  rw [show [((true, (X : Int)) : Bool × Int)] = List.replicate 1 (true, (X : Int)) from rfl, hg]
  have hz : ((true, (X : Int)) : Bool × Int) ≠ kU.zero := by intro h; injection h with h; cases h
  have e : tellW kU [((true, (X : Int)), 1)] = tellG kU [((true, (X : Int)), 1)] := tellW_one hz
  have ho : othersG kU.zero [(((true, (X : Int)) : Bool × Int), 1)] = 1 := by
    rw [othersG, if_neg (by rintro (h | h); exact hz h; omega)]
    rfl
  rw [e, tell_other hz (by omega), ho]
  show (s (-((1 : Nat) : Int)) ++ (puts kU [((true, (X : Int)), 1)] ++ [])).length = 2
  have h2 : puts kU [(((true, (X : Int)) : Bool × Int), 1)] = u X := by
    show u X ++ [] = u X
    rw [List.append_nil]
  rw [h2, u_small hX, s_small (by omega)]
  rfl
/-- ones that rise -/
def rises (v k : Nat) : List (Bool × Int) := (List.range k).map fun i => (true, (((v + i) % 100 : Nat) : Int))
theorem rises_succ (v k : Nat) : rises v (k + 1) = rises v k ++ [(true, (((v + k) % 100 : Nat) : Int))] := by
  unfold rises
  rw [List.range_succ, List.map_append]
  rfl
def risesG (v k : Nat) : List ((Bool × Int) × Nat) := (List.range k).map fun i => ((true, (((v + i) % 100 : Nat) : Int)), 1)
theorem risesG_succ (v k : Nat) : risesG v (k + 1) = risesG v k ++ [((true, (((v + k) % 100 : Nat) : Int)), 1)] := by
  unfold risesG
  rw [List.range_succ, List.map_append]
  rfl
theorem wf_rises (v : Nat) : ∀ k, WF (risesG v k)
  | 0 => trivial
  | k + 1 => by
    rw [risesG_succ, wf_snoc]
    refine ⟨wf_rises v k, by omega, fun g hg => ?_⟩
    match k, hg with
    | k + 1, hg =>
      rw [risesG_succ, List.getLast?_concat] at hg
      cases hg
      intro h
      injection h with _ h
      omega
theorem spread_rises (v : Nat) : ∀ k, spreadG (risesG v k) = rises v k
  | 0 => rfl
  | k + 1 => by rw [risesG_succ, spread_app, spread_rises v k, rises_succ]; rfl
theorem others_all {κ : Type} [DecidableEq κ] (z : κ) : ∀ (l : List (κ × Nat)), (∀ g ∈ l, g.1 ≠ z ∧ g.2 = 1) → othersG z l = l.length
  | [], _ => rfl
  | (c, n) :: l, h => by
    obtain ⟨h1, h2⟩ := h (c, n) (List.mem_cons_self ..)
    simp only at h1 h2
    rw [othersG, if_neg (by rintro (e | e); exact h1 e; omega), others_all z l (fun g hg => h g (List.mem_cons_of_mem _ hg)), List.length_cons]
theorem puts_rises (v : Nat) : ∀ k, (puts kU (risesG v k)).length = k
  | 0 => rfl
  | k + 1 => by
    have ih := puts_rises v k
    rw [risesG_succ]
    unfold puts at ih ⊢
    rw [List.flatMap_append, List.length_append, ih]
    have : kU.put (true, (((v + k) % 100 : Nat) : Int)) = u ((v + k) % 100) := rfl
    rw [List.flatMap_singleton, this, u_small (by omega)]
    rfl
theorem len_rises (v k : Nat) (hk : 1 ≤ k) (hk2 : k ≤ 8000) : (tellW kU (gatherG (rises v k))).length ≤ k + 2 := by
  have hg : gatherG (rises v k) = risesG v k := by rw [← spread_rises, gather_spread (wf_rises v k)]
  have hgl : (risesG v k).length = k := by simp [risesG]
  have hall : ∀ g ∈ risesG v k, g.1 ≠ kU.zero ∧ g.2 = 1 := by
    intro g hg
    obtain ⟨i, _, rfl⟩ := List.mem_map.1 hg
    exact ⟨(by intro h; injection h with h; cases h), rfl⟩
  have hoth := others_all kU.zero _ hall
  have hmem : ((true, (((v + 0) % 100 : Nat) : Int)) : Bool × Int) ∈ rises v k := by
    unfold rises
    exact List.mem_map.2 ⟨0, by simp; omega, rfl⟩
  rw [told_some hmem (by intro h; injection h with h; cases h), hg]
  have hpl := puts_rises v k
  match hD : risesG v k, hgl, hoth, hall with
  | [], h, _, _ => simp at h; omega
  | (c, n) :: D, hgl, hoth, hall =>
    obtain ⟨h1, h2⟩ := hall (c, n) (List.mem_cons_self ..)
    simp only at h1 h2
    rw [tell_other h1 (by omega), hoth, hgl, List.take_of_length_le (by omega), List.drop_of_length_le (by omega), tell_nil, List.append_nil, List.length_append]
    rw [hD] at hpl
    rw [hpl]
    have := s_len_le 1 (-((k : Nat) : Int)) (by omega) (by omega)
    omega
end Go.Proofs.Ytohbcepbodcapaa.RleM
namespace Go.Proofs.Ytohbcepbodcapaa.RleM
open LebM

/-- the last number, p ahead of all -/
def lastF (p : Int) : List (Bool × Int) → Int
  | [] => p
  | c :: l => lastF (if c.1 = true then c.2 else p) l
def stepF (p : Int) (c : Bool × Int) : Bool × Int := (c.1, if c.1 = true then IntKind.i64.wrap (c.2 - p) else c.2)
def stepsF (p : Int) : List (Bool × Int) → List (Bool × Int)
  | [] => []
  | c :: l => stepF p c :: stepsF (if c.1 = true then c.2 else p) l
def sumF (p : Int) (c : Bool × Int) : Bool × Int := (c.1, if c.1 = true then IntKind.i64.wrap (p + c.2) else c.2)
def lastS (p : Int) : List (Bool × Int) → Int
  | [] => p
  | c :: l => lastS (if c.1 = true then IntKind.i64.wrap (p + c.2) else p) l
def sumsF (p : Int) : List (Bool × Int) → List (Bool × Int)
  | [] => []
  | c :: l => sumF p c :: sumsF (if c.1 = true then IntKind.i64.wrap (p + c.2) else p) l
theorem steps_len : ∀ (p : Int) (L : List (Bool × Int)), (stepsF p L).length = L.length
  | _, [] => rfl
  | _, c :: l => by rw [stepsF, List.length_cons, List.length_cons, steps_len _ l]
theorem sums_len : ∀ (p : Int) (L : List (Bool × Int)), (sumsF p L).length = L.length
  | _, [] => rfl
  | _, c :: l => by rw [sumsF, List.length_cons, List.length_cons, sums_len _ l]
theorem last_snoc : ∀ (p : Int) (L : List (Bool × Int)) (c : Bool × Int), lastF p (L ++ [c]) = if c.1 = true then c.2 else lastF p L
  | _, [], _ => rfl
  | p, d :: l, c => by rw [List.cons_append, lastF, last_snoc _ l c, lastF]
theorem steps_snoc : ∀ (p : Int) (L : List (Bool × Int)) (c : Bool × Int), stepsF p (L ++ [c]) = stepsF p L ++ [stepF (lastF p L) c]
  | _, [], _ => rfl
  | p, d :: l, c => by rw [List.cons_append, stepsF, steps_snoc _ l c, stepsF, lastF, List.cons_append]
theorem lastS_snoc : ∀ (p : Int) (L : List (Bool × Int)) (c : Bool × Int), lastS p (L ++ [c]) = if c.1 = true then IntKind.i64.wrap (lastS p L + c.2) else lastS p L
  | _, [], _ => rfl
  | p, d :: l, c => by rw [List.cons_append, lastS, lastS_snoc _ l c, lastS]
theorem sums_snoc : ∀ (p : Int) (L : List (Bool × Int)) (c : Bool × Int), sumsF p (L ++ [c]) = sumsF p L ++ [sumF (lastS p L) c]
  | _, [], _ => rfl
  | p, d :: l, c => by rw [List.cons_append, sumsF, sums_snoc _ l c, sumsF, lastS, List.cons_append]
theorem steps_take (p : Int) (L : List (Bool × Int)) (i : Nat) (c : Bool × Int) (h : L[i]? = some c) : stepsF p (L.take (i + 1)) = stepsF p (L.take i) ++ [stepF (lastF p (L.take i)) c] ∧ lastF p (L.take (i + 1)) = if c.1 = true then c.2 else lastF p (L.take i) := by
  have e : L.take (i + 1) = L.take i ++ [c] := by rw [List.take_add_one, h]; rfl
  rw [e]
  exact ⟨steps_snoc _ _ _, last_snoc _ _ _⟩
theorem sums_take (p : Int) (L : List (Bool × Int)) (i : Nat) (c : Bool × Int) (h : L[i]? = some c) : sumsF p (L.take (i + 1)) = sumsF p (L.take i) ++ [sumF (lastS p (L.take i)) c] ∧ lastS p (L.take (i + 1)) = if c.1 = true then IntKind.i64.wrap (lastS p (L.take i) + c.2) else lastS p (L.take i) := by
  have e : L.take (i + 1) = L.take i ++ [c] := by rw [List.take_add_one, h]; rfl
  rw [e]
  exact ⟨sums_snoc _ _ _, lastS_snoc _ _ _⟩
/-- what is summed up is what it was -/
theorem sums_steps : ∀ (p : Int) (L : List (Bool × Int)), (∀ c ∈ L, okS c) → sumsF p (stepsF p L) = L
  | _, [], _ => rfl
  | p, (true, a) :: l, h => by
    have h0 : okS (true, a) := h _ (List.mem_cons_self ..)
    have e : IntKind.i64.wrap (p + IntKind.i64.wrap (a - p)) = a := by
      have h1 := h0.1
      have h2 := h0.2
      simp only at h1 h2
      rw [IntKind.wrap_i64, IntKind.wrap_i64]
      omega
    show sumF p (true, IntKind.i64.wrap (a - p)) :: sumsF (IntKind.i64.wrap (p + IntKind.i64.wrap (a - p))) (stepsF a l) = _
    rw [e, sums_steps a l (fun c hc => h c (List.mem_cons_of_mem _ hc))]
    show (true, IntKind.i64.wrap (p + IntKind.i64.wrap (a - p))) :: l = _
    rw [e]
  | p, (false, a) :: l, h => by
    show (false, a) :: sumsF p (stepsF p l) = _
    rw [sums_steps p l (fun c hc => h c (List.mem_cons_of_mem _ hc))]
theorem wrap_ok (z : Int) : -9223372036854775808 ≤ IntKind.i64.wrap z ∧ IntKind.i64.wrap z < 9223372036854775808 := by
  rw [IntKind.wrap_i64]
  omega
theorem steps_may : ∀ (p : Int) (L : List (Bool × Int)), (∀ c ∈ L, mayS c) → ∀ c ∈ stepsF p L, mayS c
  | _, [], _, c, hc => by cases hc
  | p, (b, a) :: l, h, c, hc => by
    have h0 : mayS (b, a) := h _ (List.mem_cons_self ..)
    rcases List.mem_cons.1 hc with e | hc
    · rw [e]
      cases b with
      | true => exact ⟨fun h => (by cases h), wrap_ok _⟩
      | false => exact h0
    · exact steps_may _ l (fun c hc => h c (List.mem_cons_of_mem _ hc)) c hc
theorem steps_some : ∀ (p : Int) (L : List (Bool × Int)), (stepsF p L).any (·.1) = L.any (·.1)
  | _, [] => rfl
  | p, (b, a) :: l => by
    show (b || (stepsF _ l).any (·.1)) = (b || l.any (·.1))
    rw [steps_some _ l]
theorem steps_none : ∀ (p : Int) (L : List (Bool × Int)), (∀ c ∈ L, c.1 = false) → stepsF p L = L
  | _, [], _ => rfl
  | p, (b, a) :: l, h => by
    have h0 : b = false := h _ (List.mem_cons_self ..)
    subst h0
    show (false, a) :: stepsF p l = _
    rw [steps_none p l (fun c hc => h c (List.mem_cons_of_mem _ hc))]
/-- numbers that rise by one -/
def rowF (z : Int) (k : Nat) : List (Bool × Int) := (List.range k).map fun (i : Nat) => (true, IntKind.i64.wrap (z + (i : Int)))
theorem row_succ (z : Int) (k : Nat) : rowF z (k + 1) = rowF z k ++ [(true, IntKind.i64.wrap (z + (k : Int)))] := by
  unfold rowF
  rw [List.range_succ, List.map_append]
  rfl
theorem row_len (z : Int) (k : Nat) : (rowF z k).length = k := by simp [rowF]
theorem row_may (z : Int) (k : Nat) : ∀ c ∈ rowF z k, mayS c := by
  intro c hc
  obtain ⟨i, _, rfl⟩ := List.mem_map.1 hc
  exact ⟨fun h => (by cases h), wrap_ok _⟩
theorem row_steps (z : Int) (h0 : -9223372036854775808 ≤ z) (h1 : z < 9223372036854775808) : ∀ m : Nat, stepsF 0 (rowF z (m + 1)) = (true, z) :: List.replicate m (true, 1)
  | 0 => by
    have e : IntKind.i64.wrap (IntKind.i64.wrap (z + ((0 : Nat) : Int)) - 0) = z := by rw [IntKind.wrap_i64, IntKind.wrap_i64]; omega
    show [(true, IntKind.i64.wrap (IntKind.i64.wrap (z + ((0 : Nat) : Int)) - 0))] = [(true, z)]
    rw [e]
  | m + 1 => by
    have hl : lastF 0 (rowF z (m + 1)) = IntKind.i64.wrap (z + (m : Int)) := by rw [row_succ, last_snoc]; rfl
    have e : IntKind.i64.wrap (IntKind.i64.wrap (z + ((m + 1 : Nat) : Int)) - IntKind.i64.wrap (z + (m : Int))) = 1 := by
      rw [IntKind.wrap_i64, IntKind.wrap_i64, IntKind.wrap_i64]
      omega
    rw [row_succ z (m + 1), steps_snoc, row_steps z h0 h1 m, hl, List.replicate_succ' (n := m)]
    show _ ++ [(true, IntKind.i64.wrap (IntKind.i64.wrap (z + ((m + 1 : Nat) : Int)) - IntKind.i64.wrap (z + (m : Int))))] = _
    rw [e]
    rfl
theorem same_steps (z : Int) (h0 : -9223372036854775808 ≤ z) (h1 : z < 9223372036854775808) (m : Nat) : stepsF 0 (List.replicate (m + 1) (true, z)) = (true, z) :: List.replicate m (true, 0) := by
  have e : IntKind.i64.wrap (z - 0) = z := by rw [IntKind.wrap_i64]; omega
  have e' : IntKind.i64.wrap (z - z) = 0 := by rw [IntKind.wrap_i64]; omega
  have h : ∀ n : Nat, stepsF z (List.replicate n (true, z)) = List.replicate n (true, 0) := by
    intro n
    induction n with
    | zero => rfl
    | succ n ih =>
      rw [List.replicate_succ, List.replicate_succ, ← ih]
      show (true, IntKind.i64.wrap (z - z)) :: _ = _
      rw [e']
      rfl
  rw [List.replicate_succ]
  show (true, IntKind.i64.wrap (z - 0)) :: stepsF z _ = _
  rw [e, h]
/-- one, and then others like one another -/
theorem len_two (x y : Int) (m : Nat) (hx : okS (true, x)) (hy : (s y).length = 1) (hm : m ≤ 4000) : (tellW kS (gatherG ((true, x) :: List.replicate m (true, y)))).length ≤ 14 := by
  have hz : ∀ a : Int, ((true, a) : Bool × Int) ≠ kS.zero := by intro a h; injection h with h; cases h
  have hp : ∀ a : Int, kS.put (true, a) = s a := fun _ => rfl
  have hxl : (s x).length ≤ 10 := s_len10 hx.1 hx.2
  have hs : ∀ z : Int, -8192 ≤ z → z < 8192 → (s z).length ≤ 2 := fun z h0 h1 => s_len_le 1 z (by omega) (by omega)
  have hs1 : ∀ z : Int, -64 ≤ z → z < 64 → (s z).length ≤ 1 := fun z h0 h1 => s_len_le 0 z (by omega) (by omega)
  rw [told_some (c := (true, x)) (List.mem_cons_self ..) (hz x)]
  by_cases hxy : x = y
  · subst hxy
    rw [← List.replicate_succ, gather_replicate _ _ (by omega)]
    by_cases h1 : m = 0
    · subst h1
      have ho : othersG kS.zero [(((true, x) : Bool × Int), 0 + 1)] = 1 := others_all _ _ (fun g hg => by rw [List.mem_singleton.1 hg]; exact ⟨hz x, rfl⟩)
      rw [tell_other (hz x) (by omega), ho]
      have h2 := hs1 (-((1 : Nat) : Int)) (by omega) (by omega)
      simp only [List.take_succ_cons, List.take_zero, List.drop_succ_cons, List.drop_zero, puts, List.flatMap_cons, List.flatMap_nil, tell_nil, List.append_nil, hp, List.length_append]
      omega
    · rw [tell_same (hz x) (by omega), tell_nil, hp]
      have h2 := hs ((m + 1 : Nat) : Int) (by omega) (by omega)
      simp only [List.length_append, List.length_nil]
      omega
  · by_cases h0 : m = 0
    · subst h0
      have hg := gather_replicate ((true, x) : Bool × Int) 1 (by omega)
      have ho : othersG kS.zero [(((true, x) : Bool × Int), 1)] = 1 := others_all _ _ (fun g hg => by rw [List.mem_singleton.1 hg]; exact ⟨hz x, rfl⟩)
      rw [show ((true, x) :: List.replicate 0 (true, y)) = List.replicate 1 ((true, x) : Bool × Int) from rfl, hg, tell_other (hz x) (by omega), ho]
      have h2 := hs1 (-((1 : Nat) : Int)) (by omega) (by omega)
      simp only [List.take_succ_cons, List.take_zero, List.drop_succ_cons, List.drop_zero, puts, List.flatMap_cons, List.flatMap_nil, tell_nil, List.append_nil, hp, List.length_append]
      omega
    · have hg : gatherG ((true, x) :: List.replicate m (true, y)) = [((true, x), 1), ((true, y), m)] := by
        have h := gather_spread (l := [(((true, x) : Bool × Int), 1), ((true, y), m)]) ⟨by omega, fun d hd => by cases hd; intro e; injection e with _ e; exact hxy e.symm, by omega, fun d hd => by simp at hd, trivial⟩
        rw [← h]
        simp [spreadG]
      rw [hg]
      by_cases h1 : m = 1
      · subst h1
        have ho : othersG kS.zero [(((true, x) : Bool × Int), 1), ((true, y), 1)] = 2 := others_all _ _ (fun g hg => by
          rcases List.mem_cons.1 hg with e | e
          · rw [e]; exact ⟨hz x, rfl⟩
          · rw [List.mem_singleton.1 e]; exact ⟨hz y, rfl⟩)
        rw [tell_other (hz x) (by omega), ho]
        have h2 := hs1 (-((2 : Nat) : Int)) (by omega) (by omega)
        simp only [List.take_succ_cons, List.take_zero, List.drop_succ_cons, List.drop_zero, puts, List.flatMap_cons, List.flatMap_nil, tell_nil, List.append_nil, hp, List.length_append]
        omega
      · have ho : othersG kS.zero [(((true, x) : Bool × Int), 1), ((true, y), m)] = 1 := by
          rw [othersG, if_neg (by rintro (e | e); exact hz x e; omega), others_zero _ (.inr (by omega))]
        rw [tell_other (hz x) (by omega), ho]
        have h2 := hs1 (-((1 : Nat) : Int)) (by omega) (by omega)
        have h3 := hs (m : Int) (by omega) (by omega)
        simp only [List.take_succ_cons, List.take_zero, List.drop_succ_cons, List.drop_zero, puts, List.flatMap_cons, List.flatMap_nil, List.append_nil, hp, List.length_append]
        rw [tell_same (hz y) (by omega), tell_nil]
        simp only [List.length_append, List.length_nil, hp]
        omega
theorem s_one : (s 1).length = 1 := by rw [s_small (by omega)]; rfl
theorem s_zero : (s 0).length = 1 := by rw [s_small (by omega)]; rfl
end Go.Proofs.Ytohbcepbodcapaa.RleM
