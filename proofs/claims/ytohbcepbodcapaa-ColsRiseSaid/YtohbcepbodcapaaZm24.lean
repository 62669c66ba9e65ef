/-
  Layer 11: the three kinds of columns, plain.
  Plain mathematics of layer 11: what is told is read as it was; what is read is told so.
-/
import Derived.Test.YtohbcepbodcapaaZm23
namespace Go.Proofs.Ytohbcepbodcapaa.RleM
open LebM

def kU : Kd (Bool × Int) where
  zero := (false, 0)
  put c := u c.2.toNat
  get B := if (gu B).2.2 ≠ 0 then ((false, 0), 0, (gu B).2.2) else if 9223372036854775807 < (gu B).1 then ((false, 0), 0, 4) else ((true, ((gu B).1 : Int)), (gu B).2.1, 0)
def kS : Kd (Bool × Int) where
  zero := (false, 0)
  put c := s c.2
  get B := if (gs B).2.2 ≠ 0 then ((false, 0), 0, (gs B).2.2) else ((true, (gs B).1), (gs B).2.1, 0)
def kW : Kd (Bool × List UInt8) where
  zero := (false, [])
  put c := u c.2.length ++ c.2
  get B := if (gu B).2.2 ≠ 0 then ((false, []), 0, (gu B).2.2) else if B.length - (gu B).2.1 < (gu B).1 then ((false, []), 0, 2) else ((true, (B.drop (gu B).2.1).take (gu B).1), (gu B).2.1 + (gu B).1, 0)
/-- what may be told: the numbers' range, the texts' length -/
def okU (c : Bool × Int) : Prop := 0 ≤ c.2 ∧ c.2 < 9223372036854775808
def okS (c : Bool × Int) : Prop := -9223372036854775808 ≤ c.2 ∧ c.2 < 9223372036854775808
def okW (c : Bool × List UInt8) : Prop := c.2.length ≤ 1000000
theorem gu_bd (B : List UInt8) : (gu B).1 < 18446744073709551616 ∧ (gu B).2.1 ≤ B.length ∧ (gu B).2.2 ≤ 3 := by
  have h := spanK_le B
  have h2 := spanE_le B
  unfold gu
  split
  · exact ⟨by show 0 < _; omega, Nat.zero_le _, h2⟩
  · split
    · exact ⟨Nat.mod_lt _ (by omega), h.1, Nat.zero_le _⟩
    · exact ⟨by show 0 < _; omega, Nat.zero_le _, Nat.le_refl _⟩
theorem gs_bd (B : List UInt8) : -9223372036854775808 ≤ (gs B).1 ∧ (gs B).1 < 9223372036854775808 ∧ (gs B).2.1 ≤ B.length ∧ (gs B).2.2 ≤ 3 := by
  have h := spanK_le B
  have h2 := spanE_le B
  unfold gs
  split
  · exact ⟨by show (_ : Int) ≤ 0; omega, by show (0 : Int) < _; omega, Nat.zero_le _, h2⟩
  · split
    · exact ⟨(sgn_bd _ _).1, (sgn_bd _ _).2, h.1, Nat.zero_le _⟩
    · exact ⟨by show (_ : Int) ≤ 0; omega, by show (0 : Int) < _; omega, Nat.zero_le _, Nat.le_refl _⟩
theorem getU_bd (B : List UInt8) : okU (kU.get B).1 ∧ (kU.get B).2.1 ≤ B.length ∧ (kU.get B).2.2 ≤ 4 := by
  have h := gu_bd B
  unfold kU okU
  simp only
  split
  · simp only; omega
  · split
    · simp only; omega
    · simp only; omega
theorem getS_bd (B : List UInt8) : okS (kS.get B).1 ∧ (kS.get B).2.1 ≤ B.length ∧ (kS.get B).2.2 ≤ 4 := by
  have h := gs_bd B
  unfold kS okS
  simp only
  split
  · simp only; omega
  · simp only; omega
theorem getW_bd (B : List UInt8) (hB : B.length ≤ 1000000) : okW (kW.get B).1 ∧ (kW.get B).2.1 ≤ B.length ∧ (kW.get B).2.2 ≤ 4 := by
  have h := gu_bd B
  unfold kW okW
  simp only
  split
  · simp only [List.length_nil]; omega
  · split
    · simp only [List.length_nil]; omega
    · simp only [List.length_take, List.length_drop]; omega
theorem spanK_pos {B : List UInt8} (h : spanE B = 0) : 1 ≤ spanK B := by
  unfold spanE at h
  unfold spanK
  split
  · omega
  · next hq => rw [if_neg hq] at h; split at h <;> omega
theorem gu_pos {B : List UInt8} (h : (gu B).2.2 = 0) : 1 ≤ (gu B).2.1 := by
  unfold gu at h ⊢
  split
  · next hq => rw [if_pos hq] at h; exact absurd h hq
  · next hq =>
    rw [if_neg hq] at h
    split
    · exact spanK_pos (by omega)
    · next hq2 => rw [if_neg hq2] at h; exact absurd h (by decide)
theorem gs_pos {B : List UInt8} (h : (gs B).2.2 = 0) : 1 ≤ (gs B).2.1 := by
  unfold gs at h ⊢
  split
  · next hq => rw [if_pos hq] at h; exact absurd h hq
  · next hq =>
    rw [if_neg hq] at h
    split
    · exact spanK_pos (by omega)
    · next hq2 => rw [if_neg hq2] at h; exact absurd h (by decide)
theorem getU_pos {B : List UInt8} (h : (kU.get B).2.2 = 0) : 1 ≤ (kU.get B).2.1 := by
  unfold kU at h ⊢
  simp only at h ⊢
  split
  · next hq => rw [if_pos hq] at h; exact absurd h hq
  · next hq =>
    rw [if_neg hq] at h
    split
    · next hq2 => rw [if_pos hq2] at h; exact absurd h (by decide)
    · exact gu_pos (by omega)
theorem getS_pos {B : List UInt8} (h : (kS.get B).2.2 = 0) : 1 ≤ (kS.get B).2.1 := by
  unfold kS at h ⊢
  simp only at h ⊢
  split
  · next hq => rw [if_pos hq] at h; exact absurd h hq
  · exact gs_pos (by omega)
theorem getW_pos {B : List UInt8} (h : (kW.get B).2.2 = 0) : 1 ≤ (kW.get B).2.1 := by
  unfold kW at h ⊢
  simp only at h ⊢
  split
  · next hq => rw [if_pos hq] at h; exact absurd h hq
  · next hq =>
    rw [if_neg hq] at h
    split
    · next hq2 => rw [if_pos hq2] at h; exact absurd h (by decide)
    · have := gu_pos (B := B) (by omega); simp only; omega
/-- what a reader keeps -/
structure Inv {κ : Type} (ok : κ → Prop) (r : Rs κ) : Prop where
  len : r.left.length + r.gs.length ≤ 1000000
  tot : total r.gs = r.count
  cnt : r.count ≤ 1000000
  all : ∀ g ∈ r.gs, ok g.1
section
variable {κ : Type}
theorem Inv.less {ok : κ → Prop} {left left' : List UInt8} {G : List (κ × Nat)} {cnt : Nat} (h : Inv ok ⟨left, G, cnt⟩) (hl : left'.length ≤ left.length) : Inv ok ⟨left', G, cnt⟩ := ⟨by have := h.len; simp only at this ⊢; omega, h.tot, h.cnt, h.all⟩
theorem Inv.small {ok : κ → Prop} {r : Rs κ} (h : Inv ok r) : r.gs.length ≤ 1000000 ∧ ∀ g ∈ r.gs, ∀ n, n ≤ 1000000 → g.2 + n < 9223372036854775808 :=
  ⟨by have := h.len; omega, fun g hg n hn => by have := mem_total hg; rw [h.tot] at this; have := h.cnt; omega⟩
end
section
variable {κ : Type} [DecidableEq κ]
theorem addG_len (l : List (κ × Nat)) (c : κ) (n : Nat) : (addG l c n).length ≤ l.length + 1 := by
  by_cases h : n = 0
  · subst h; rw [addG_zero]; omega
  · rcases snoc_cases l with rfl | ⟨l', d, m, rfl⟩
    · rw [addG_nil c h]; simp
    · rw [addG_snoc _ _ _ _ h]
      split <;> simp
theorem mem_addG {l : List (κ × Nat)} {c : κ} {n : Nat} {g : κ × Nat} (hg : g ∈ addG l c n) : g.1 = c ∨ ∃ g' ∈ l, g'.1 = g.1 := by
  by_cases h : n = 0
  · subst h; rw [addG_zero] at hg; exact .inr ⟨g, hg, rfl⟩
  · rcases snoc_cases l with rfl | ⟨l', d, m, rfl⟩
    · rw [addG_nil c h] at hg; simp at hg; exact .inl (by rw [hg])
    · rw [addG_snoc _ _ _ _ h] at hg
      split at hg
      · next e =>
        rcases List.mem_append.1 hg with h | h
        · exact .inr ⟨g, List.mem_append_left _ h, rfl⟩
        · simp at h; exact .inl (by rw [h]; exact e)
      · rcases List.mem_append.1 hg with h | h
        · exact .inr ⟨g, h, rfl⟩
        · simp at h; exact .inl (by rw [h])
theorem Inv.add {ok : κ → Prop} {left left' : List UInt8} {G : List (κ × Nat)} {cnt : Nat} (h : Inv ok ⟨left, G, cnt⟩) {c : κ} {n : Nat} (hl : left'.length + 1 ≤ left.length) (hc : ok c) (hn : cnt + n ≤ 1000000) : Inv ok ⟨left', addG G c n, cnt + n⟩ := by
  obtain ⟨h1, h2, h3, h4⟩ := h
  simp only at h1 h2 h3 h4
  refine ⟨?_, ?_, hn, ?_⟩
  · have := addG_len G c n; simp only; omega
  · rw [total_add, h2]
  · intro g hg
    rcases mem_addG hg with e | ⟨g', hg', e⟩
    · rw [e]; exact hc
    · rw [← e]; exact h4 g' hg'
/-- what a kind's reading keeps -/
structure Good (K : Kd κ) (ok : κ → Prop) : Prop where
  zero : ok K.zero
  bd : ∀ B : List UInt8, B.length ≤ 1000000 → ok (K.get B).1 ∧ (K.get B).2.1 ≤ B.length
  pos : ∀ B : List UInt8, (K.get B).2.2 = 0 → 1 ≤ (K.get B).2.1
section
variable {K : Kd κ} {ok : κ → Prop} {most : Int}
theorem noneG_inv (hz : ok K.zero) (hm : most ≤ 1000000) {r r' : Rs κ} (h : noneG K.zero most r = .ok r') (hI : Inv ok r) : Inv ok r' ∧ r'.left.length < r.left.length := by
  obtain ⟨left, gs, cnt⟩ := r
  unfold noneG at h
  simp only at h
  split at h
  · cases h
  · next he =>
    split at h
    · next hf =>
      injection h with h
      subst h
      have h1 := gu_pos (B := left) (by omega)
      have h2 := (gu_bd left).2.1
      exact ⟨hI.add (by rw [List.length_drop]; omega) hz (by omega), by simp only [List.length_drop]; omega⟩
    · cases h
theorem sameG_inv (hG : Good K ok) (hm : most ≤ 1000000) {n : Nat} {r r' : Rs κ} (h : sameG K most n r = .ok r') (hI : Inv ok r) : Inv ok r' ∧ r'.left.length < r.left.length := by
  obtain ⟨left, gs, cnt⟩ := r
  have hl := hI.len
  unfold sameG at h
  simp only at h hl
  split at h
  · next hf =>
    split at h
    · cases h
    · next he =>
      injection h with h
      subst h
      have h1 := hG.pos left (by omega)
      have h2 := hG.bd left (by omega)
      exact ⟨hI.add (by rw [List.length_drop]; omega) h2.1 (by omega), by simp only [List.length_drop]; omega⟩
  · cases h
theorem manyG_inv (hG : Good K ok) : ∀ (n : Nat) {r r' : Rs κ}, manyG K n r = .ok r' → Inv ok r → r.count + n ≤ 1000000 → Inv ok r' ∧ r'.left.length ≤ r.left.length
  | 0, r, r', h, hI, _ => by injection h with h; subst h; exact ⟨hI, Nat.le_refl _⟩
  | n + 1, ⟨left, gs, cnt⟩, r', h, hI, hn => by
    have hl := hI.len
    rw [manyG] at h
    simp only at h hl hn
    split at h
    · cases h
    · next he =>
      have h1 := hG.pos left (by omega)
      have h2 := hG.bd left (by omega)
      have h3 : Inv ok ⟨left.drop (K.get left).2.1, addG gs (K.get left).1 1, cnt + 1⟩ := hI.add (by rw [List.length_drop]; omega) h2.1 (by omega)
      obtain ⟨h4, h5⟩ := manyG_inv hG n h h3 (by simp only; omega)
      exact ⟨h4, by simp only [List.length_drop] at h5 ⊢; omega⟩
theorem runG_inv (hG : Good K ok) (hm : most ≤ 1000000) {r r' : Rs κ} (h : runG K most r = .ok r') (hI : Inv ok r) : Inv ok r' ∧ r'.left.length < r.left.length := by
  obtain ⟨left, gs0, cnt⟩ := r
  unfold runG at h
  simp only at h
  split at h
  · cases h
  · next he =>
    have h1 := gs_pos (B := left) (by omega)
    have h2 := (gs_bd left).2.2.1
    have hI2 : Inv ok ⟨left.drop (Go.Proofs.Ytohbcepbodcapaa.gs left).2.1, gs0, cnt⟩ := hI.less (by rw [List.length_drop]; omega)
    split at h
    · obtain ⟨h3, h4⟩ := noneG_inv hG.zero hm h hI2
      exact ⟨h3, by simp only [List.length_drop] at h4 ⊢; omega⟩
    · split at h
      · obtain ⟨h3, h4⟩ := sameG_inv hG hm h hI2
        exact ⟨h3, by simp only [List.length_drop] at h4 ⊢; omega⟩
      · unfold unlikeG at h
        split at h
        · next hf =>
          obtain ⟨h3, h4⟩ := manyG_inv hG _ h hI2 (by simp only at hf ⊢; omega)
          exact ⟨h3, by simp only [List.length_drop] at h4 ⊢; omega⟩
        · cases h
end
end
theorem goodU : Good kU okU := ⟨⟨Int.le_refl _, by show (0 : Int) < _; omega⟩, fun B _ => ⟨(getU_bd B).1, (getU_bd B).2.1⟩, fun _ h => getU_pos h⟩
theorem goodS : Good kS okS := ⟨⟨by show (_ : Int) ≤ 0; omega, by show (0 : Int) < _; omega⟩, fun B _ => ⟨(getS_bd B).1, (getS_bd B).2.1⟩, fun _ h => getS_pos h⟩
theorem goodW : Good kW okW := ⟨Nat.zero_le _, fun B hB => ⟨(getW_bd B hB).1, (getW_bd B hB).2.1⟩, fun _ h => getW_pos h⟩
theorem putU_len {c : Bool × Int} (h : okU c) : (kU.put c).length ≤ 1000010 := by
  have h1 : 0 ≤ c.2 := h.1
  have h2 : c.2 < 9223372036854775808 := h.2
  have := u_len10 (n := c.2.toNat) (by omega)
  show (u c.2.toNat).length ≤ _
  omega
theorem putS_len {c : Bool × Int} (h : okS c) : (kS.put c).length ≤ 1000010 := by
  have := s_len10 h.1 h.2
  show (s c.2).length ≤ _
  omega
theorem putW_len {c : Bool × List UInt8} (h : okW c) : (kW.put c).length ≤ 1000010 := by
  have h1 : c.2.length ≤ 1000000 := h
  have := u_len10 (n := c.2.length) (by omega)
  show (u c.2.length ++ c.2).length ≤ _
  rw [List.length_append]
  omega
theorem wt_le {κ : Type} {K : Kd κ} {M : Nat} : ∀ (l : List (κ × Nat)), (∀ g ∈ l, (K.put g.1).length ≤ M) → wt K l ≤ l.length * M
  | [], _ => Nat.zero_le _
  | (c, n) :: l, h => by
    have h1 := h (c, n) (List.mem_cons_self ..)
    have h2 := wt_le l (fun g hg => h g (List.mem_cons_of_mem _ hg))
    rw [wt, List.length_cons, Nat.add_mul, Nat.one_mul]
    simp only at h1
    omega
theorem tell_bound {κ : Type} [DecidableEq κ] {K : Kd κ} (l : List (κ × Nat)) (h : ∀ g ∈ l, (K.put g.1).length ≤ 1000010) (hc : ∀ g ∈ l, g.2 < 9223372036854775808) (hl : l.length ≤ 1000000) : (tellG K l).length ≤ 2000000000000 := by
  have h1 := tell_len (K := K) l.length l hc (by omega)
  have h2 := wt_le l h
  have h3 : l.length * 1000010 ≤ 1000000 * 1000010 := Nat.mul_le_mul_right _ hl
  unfold tellG
  omega
end Go.Proofs.Ytohbcepbodcapaa.RleM
namespace Go.Proofs.Ytohbcepbodcapaa.RleM
open LebM
set_option linter.unusedVariables false

section
variable {κ : Type}
theorem wf_cut {l k : List (κ × Nat)} (h : WF (l ++ k)) : WF l ∧ WF k := by
  constructor
  · revert h
    refine snoc_ind (p := fun k => WF (l ++ k) → WF l) (fun h => by simpa using h) (fun k x ih h => ?_) k
    rw [← List.append_assoc] at h
    exact ih ((wf_snoc _ x.1 x.2).1 h).1
  · induction l with
    | nil => exact h
    | cons x l ih => exact ih h.2.2
end
section
variable {κ : Type} [DecidableEq κ] {K : Kd κ} {p : κ → Prop}
/-- what is put is read -/
def Back (K : Kd κ) (p : κ → Prop) : Prop := ∀ c, p c → c ≠ K.zero → ∀ R : List UInt8, K.get (K.put c ++ R) = (c, (K.put c).length, 0)
theorem add_next {g0 l : List (κ × Nat)} {c : κ} {n : Nat} (h : WF (g0 ++ (c, n) :: l)) : addG g0 c n = g0 ++ [(c, n)] := by
  have h2 : WF (g0 ++ [(c, n)]) := by
    have e : g0 ++ (c, n) :: l = (g0 ++ [(c, n)]) ++ l := by simp
    rw [e] at h
    exact (wf_cut h).1
  obtain ⟨-, h3, h4⟩ := (wf_snoc _ _ _).1 h2
  exact add_new h3 h4
theorem many_back (hb : Back K p) : ∀ (M g0 : List (κ × Nat)) (R : List UInt8) (cnt : Nat), WF (g0 ++ M) → (∀ g ∈ M, p g.1 ∧ g.1 ≠ K.zero ∧ ¬ 1 < g.2) →
    manyG K M.length ⟨puts K M ++ R, g0, cnt⟩ = .ok ⟨R, g0 ++ M, cnt + M.length⟩
  | [], g0, R, cnt, _, _ => by simp [manyG, puts]
  | (c, n) :: M, g0, R, cnt, hw, h => by
    obtain ⟨h1, h2, h3⟩ := h (c, n) (List.mem_cons_self ..)
    simp only at h1 h2 h3
    have hn : n = 1 := by have h0 : 0 < n := (wf_cut hw).2.1; omega
    subst hn
    have hg := hb c h1 h2 (puts K M ++ R)
    have hp : puts K ((c, 1) :: M) ++ R = K.put c ++ (puts K M ++ R) := by unfold puts; rw [List.flatMap_cons, List.append_assoc]
    rw [hp, List.length_cons, manyG]
    simp only [hg, ne_eq, not_true_eq_false, if_false, List.drop_left]
    rw [add_next hw, many_back hb M (g0 ++ [(c, 1)]) R (cnt + 1) (by simpa using hw) (fun g hg => h g (List.mem_cons_of_mem _ hg))]
    simp
    omega
theorem drop_others {z : κ} (l : List (κ × Nat)) : (l.take (othersG z l)).length = othersG z l := by rw [List.length_take, Nat.min_eq_left (others_le z l)]
theorem total_take (z : κ) : ∀ l : List (κ × Nat), WF l → total (l.take (othersG z l)) = othersG z l
  | [], _ => rfl
  | (c, n) :: l, h => by
    rw [othersG]
    split
    · rfl
    · next hq =>
      have h0 : 0 < n := h.1
      have hn : n = 1 := by omega
      rw [List.take_succ_cons, total, total_take z l h.2.2, hn, Nat.add_comm]
theorem loop_back (hb : Back K p) (most : Int) : ∀ (m : Nat) (l : List (κ × Nat)), l.length ≤ m → ∀ (f : Nat) (g0 : List (κ × Nat)) (cnt : Nat), WF (g0 ++ l) → (∀ g ∈ l, p g.1) → (tellG K l).length ≤ f → (cnt : Int) ≤ most → total l < 9223372036854775808 →
    loopG K most f ⟨tellG K l, g0, cnt⟩ = if (cnt : Int) + total l ≤ most then .ok ⟨[], g0 ++ l, cnt + total l⟩ else .error 4 := by
  intro m
  induction m with
  | zero =>
    intro l hl f g0 cnt hw hp hf hc ht
    obtain rfl : l = [] := List.eq_nil_of_length_eq_zero (by omega)
    rw [tell_nil, if_pos (by simp [total]; exact hc)]
    cases f <;> simp [loopG, total]
  | succ m ih =>
    intro l hl f g0 cnt hw hp hf hc ht
    match l, hl with
    | [], _ =>
      rw [tell_nil, if_pos (by simp [total]; exact hc)]
      cases f <;> simp [loopG, total]
    | (c, n) :: l, hl =>
      have hn0 : 0 < n := (wf_cut hw).2.1
      rw [List.length_cons] at hl
      rw [total] at ht
      have hw2 : WF (g0 ++ [(c, n)] ++ l) := by simpa using hw
      by_cases hz : c = K.zero
      · subst hz
        rw [tell_none] at hf ⊢
        have hsp := s_pos 0
        rw [List.length_append] at hf
        obtain ⟨f, rfl⟩ : ∃ f', f = f' + 1 := ⟨f - 1, by omega⟩
        rw [loopG, if_neg (by intro e; have := congrArg List.length e; simp only [List.length_append, List.length_nil] at this; omega)]
        have h1 := gs_back 0 (u n ++ tellG K l) (by omega) (by omega)
        have h2 := gu_back n (tellG K l) (by omega)
        have hrun : runG K most ⟨s 0 ++ (u n ++ tellG K l), g0, cnt⟩ = if (cnt : Int) + n ≤ most then .ok ⟨tellG K l, g0 ++ [(K.zero, n)], cnt + n⟩ else .error 4 := by
          unfold runG noneG
          simp only [h1, h2, List.drop_left, ne_eq, not_true_eq_false, if_false, if_true, add_next hw]
        rw [hrun]
        by_cases hfit : (cnt : Int) + n ≤ most
        · rw [if_pos hfit]
          simp only
          rw [ih l (by omega) f _ _ hw2 (fun g hg => hp g (List.mem_cons_of_mem _ hg)) (by rw [List.length_append] at hf; omega) (by omega) (by omega)]
          by_cases hall : (cnt : Int) + total ((K.zero, n) :: l) ≤ most
          · rw [if_pos hall, if_pos (by rw [total] at hall; omega), total]
            simp [Nat.add_assoc]
          · rw [if_neg hall, if_neg (by rw [total] at hall; omega)]
        · rw [if_neg hfit, if_neg (by rw [total]; omega)]
      · by_cases hm : 1 < n
        · rw [tell_same hz hm] at hf ⊢
          have hsp := s_pos (n : Int)
          rw [List.length_append] at hf
          obtain ⟨f, rfl⟩ : ∃ f', f = f' + 1 := ⟨f - 1, by omega⟩
          rw [loopG, if_neg (by intro e; have := congrArg List.length e; simp only [List.length_append, List.length_nil] at this; omega)]
          have h1 := gs_back (n : Int) (K.put c ++ tellG K l) (by omega) (by omega)
          have h2 := hb c (hp (c, n) (List.mem_cons_self ..)) hz (tellG K l)
          have hrun : runG K most ⟨s (n : Int) ++ (K.put c ++ tellG K l), g0, cnt⟩ = if (cnt : Int) + n ≤ most then .ok ⟨tellG K l, g0 ++ [(c, n)], cnt + n⟩ else .error 4 := by
            unfold runG sameG
            simp only [h1, h2, List.drop_left, ne_eq, not_true_eq_false, if_false, add_next hw, Int.toNat_natCast]
            rw [if_neg (by omega), if_pos (by omega)]
          rw [hrun]
          by_cases hfit : (cnt : Int) + n ≤ most
          · rw [if_pos hfit]
            simp only
            rw [ih l (by omega) f _ _ hw2 (fun g hg => hp g (List.mem_cons_of_mem _ hg)) (by rw [List.length_append] at hf; omega) (by omega) (by omega)]
            by_cases hall : (cnt : Int) + total ((c, n) :: l) ≤ most
            · rw [if_pos hall, if_pos (by rw [total] at hall; omega), total]
              simp [Nat.add_assoc]
            · rw [if_neg hall, if_neg (by rw [total] at hall; omega)]
          · rw [if_neg hfit, if_neg (by rw [total]; omega)]
        · obtain ⟨O, hO⟩ : ∃ O, O = othersG K.zero ((c, n) :: l) := ⟨_, rfl⟩
          have hOp : 0 < O := by rw [hO]; exact others_pos hz hm l
          have hOl : O ≤ l.length + 1 := by rw [hO]; exact others_le K.zero ((c, n) :: l)
          have hwl := (wf_cut hw).2
          have htt := total_take K.zero _ hwl
          have hlen := drop_others (z := K.zero) ((c, n) :: l)
          have hmem : ∀ g ∈ ((c, n) :: l).take O, p g.1 ∧ g.1 ≠ K.zero ∧ ¬ 1 < g.2 := by
            intro g hg
            obtain ⟨k, hk⟩ := List.getElem?_of_mem hg
            rw [List.getElem?_take] at hk
            split at hk
            · next hko =>
              rw [hO] at hko
              exact ⟨hp g (List.mem_of_getElem? hk), others_mem K.zero _ k g hko hk⟩
            · cases hk
          have hte := tell_other (K := K) hz hm l
          rw [← hO] at hte htt hlen
          obtain ⟨M, hM⟩ : ∃ M, M = ((c, n) :: l).take O := ⟨_, rfl⟩
          obtain ⟨D, hD⟩ : ∃ D, D = ((c, n) :: l).drop O := ⟨_, rfl⟩
          have hMD : (c, n) :: l = M ++ D := by rw [hM, hD, List.take_append_drop]
          have hDl : D.length ≤ m := by rw [hD, List.length_drop, List.length_cons]; omega
          rw [← hM, ← hD] at hte
          rw [← hM] at htt hlen hmem
          have htd : total ((c, n) :: l) = O + total D := by rw [hMD, total_app, htt]
          have htd2 : O + total D < 9223372036854775808 := by rw [← htd, total]; exact ht
          rw [hte] at hf ⊢
          have hsp := s_pos (-((O : Nat) : Int))
          rw [List.length_append] at hf
          obtain ⟨f, rfl⟩ : ∃ f', f = f' + 1 := ⟨f - 1, by omega⟩
          rw [loopG, if_neg (by intro e; have := congrArg List.length e; simp only [List.length_append, List.length_nil] at this; omega)]
          have h1 := gs_back (-((O : Nat) : Int)) (puts K M ++ tellG K D) (by omega) (by omega)
          have hw3 : WF (g0 ++ M ++ D) := by rw [List.append_assoc, ← hMD]; exact hw
          have h2 := many_back hb M g0 (tellG K D) cnt (wf_cut hw3).1 hmem
          rw [hlen] at h2
          have hrun : runG K most ⟨s (-((O : Nat) : Int)) ++ (puts K M ++ tellG K D), g0, cnt⟩ = if (cnt : Int) + O ≤ most then .ok ⟨tellG K D, g0 ++ M, cnt + O⟩ else .error 4 := by
            unfold runG unlikeG
            simp only [h1, List.drop_left, ne_eq, not_true_eq_false, if_false, Int.neg_neg, Int.toNat_natCast, h2]
            rw [if_neg (by omega), if_neg (by omega)]
          rw [hrun, htd]
          by_cases hfit : (cnt : Int) + O ≤ most
          · rw [if_pos hfit]
            simp only
            rw [ih D hDl f _ _ hw3 (fun g hg => hp g (by rw [hMD]; exact List.mem_append_right _ hg)) (by rw [List.length_append] at hf; omega) (by omega) (by omega)]
            by_cases hall : (cnt : Int) + (O + total D : Nat) ≤ most
            · rw [if_pos hall, if_pos (by omega), hMD]
              simp [Nat.add_assoc]
            · rw [if_neg hall, if_neg (by omega)]
          · rw [if_neg hfit, if_neg (by omega)]
/-- all of them nothing -/
theorem told_none {x : List κ} (h : ∀ c ∈ x, c = K.zero) : tellW K (gatherG x) = [] := by
  have hw := wf_gather x
  have hm : ∀ g ∈ gatherG x, g.1 = K.zero := by
    intro g hg
    have hs : g.1 ∈ spreadG (gatherG x) ∨ g.2 = 0 := by
      clear hw
      generalize gatherG x = l at hg
      induction l with
      | nil => cases hg
      | cons a l ih =>
        obtain ⟨c, n⟩ := a
        rcases List.mem_cons.1 hg with rfl | hg
        · rcases Nat.eq_zero_or_pos n with h0 | h0
          · exact .inr h0
          · exact .inl (by rw [spreadG]; exact List.mem_append_left _ (List.mem_replicate.2 ⟨by omega, rfl⟩))
        · rcases ih hg with h | h
          · exact .inl (by rw [spreadG]; exact List.mem_append_right _ h)
          · exact .inr h
    rcases hs with hs | hs
    · rw [spread_gather] at hs; exact h _ hs
    · exfalso
      generalize gatherG x = l at hg hw
      induction l with
      | nil => cases hg
      | cons a l ih =>
        obtain ⟨c, n⟩ := a
        rcases List.mem_cons.1 hg with rfl | hg
        · have := hw.1; simp only at hs; omega
        · exact ih hg hw.2.2
  match gatherG x, hw, hm with
  | [], _, _ => rfl
  | [(c, n)], _, hm =>
    have e : c = K.zero := hm (c, n) (List.mem_cons_self ..)
    show (if c = K.zero then _ else _) = _
    exact if_pos e
  | (c, n) :: (d, k) :: l, hw, hm =>
    exfalso
    have e1 : c = K.zero := hm (c, n) (List.mem_cons_self ..)
    have e2 : d = K.zero := hm (d, k) (List.mem_cons_of_mem _ (List.mem_cons_self ..))
    exact hw.2.1 (d, k) rfl (by rw [e1]; exact e2)
theorem told_some {x : List κ} {c : κ} (hc : c ∈ x) (hz : c ≠ K.zero) : tellW K (gatherG x) = tellG K (gatherG x) := by
  have hx := spread_gather x
  match gatherG x, hx with
  | [], hx => rfl
  | [(d, n)], hx =>
    show (if d = K.zero then _ else _) = _
    refine if_neg (fun e => hz ?_)
    rw [← hx] at hc
    simp [spreadG] at hc
    rw [hc.2, e]
  | _ :: _ :: _, hx => rfl
theorem tell_ne : ∀ {l : List (κ × Nat)}, l ≠ [] → tellG K l ≠ []
  | [], h => absurd rfl h
  | (c, n) :: l, _ => by
    intro e
    have := congrArg List.length e
    by_cases hz : c = K.zero
    · subst hz; rw [tell_none, List.length_append] at this; have := s_pos 0; simp only [List.length_nil] at *; omega
    · by_cases hm : 1 < n
      · rw [tell_same hz hm, List.length_append] at this; have := s_pos (n : Int); simp only [List.length_nil] at *; omega
      · rw [tell_other hz hm, List.length_append] at this; have := s_pos (-((othersG K.zero ((c, n) :: l) : Nat) : Int)); simp only [List.length_nil] at *; omega
theorem read_back (hb : Back K p) {x : List κ} {c : κ} (hp : ∀ c ∈ x, p c) (hc : c ∈ x) (hz : c ≠ K.zero) (hx : x.length < 9223372036854775808) (most : Int) (hm : 0 ≤ most) :
    readG K most (tellW K (gatherG x)) = if (x.length : Int) ≤ most then .ok (gatherG x) else .error 4 := by
  have hpg : ∀ g ∈ gatherG x, p g.1 := by
    intro g hg
    have : g.1 ∈ x := by
      have hw := wf_gather x
      have hs : g.1 ∈ spreadG (gatherG x) := by
        generalize gatherG x = l at hg hw
        induction l with
        | nil => cases hg
        | cons a l ih =>
          obtain ⟨c, n⟩ := a
          rw [spreadG]
          rcases List.mem_cons.1 hg with rfl | hg
          · have := hw.1; exact List.mem_append_left _ (List.mem_replicate.2 ⟨by omega, rfl⟩)
          · exact List.mem_append_right _ (ih hg hw.2.2)
      rwa [spread_gather] at hs
    exact hp _ this
  have ht := total_gather x
  have h := loop_back hb most _ (gatherG x) (Nat.le_refl _) (tellG K (gatherG x)).length [] 0 (by simpa using wf_gather x) hpg (Nat.le_refl _) hm (by rw [ht]; exact hx)
  rw [ht] at h
  have hs := told_some (K := K) hc hz
  unfold readG
  rw [hs, h]
  by_cases hf : (x.length : Int) ≤ most
  · rw [if_pos (by simpa using hf), if_pos hf]
    simp only [List.nil_append]
    rw [if_neg (by omega), hs, if_neg (by simp)]
  · rw [if_neg (by simpa using hf), if_neg hf]
theorem read_nil (most : Int) (hm : 0 ≤ most) : readG K most [] = .ok [] := by
  unfold readG
  simp only [List.length_nil, loopG]
  rw [if_neg (by omega), if_neg (by show ¬ (tellW K [] ≠ []); intro h; exact h rfl)]
/-- what is read is a column's bytes -/
theorem none_wf {most : Int} {z : κ} {r r' : Rs κ} (h : noneG z most r = .ok r') (hw : WF r.gs) : WF r'.gs := by
  unfold noneG at h
  split at h
  · cases h
  · split at h
    · injection h with h; subst h; exact wf_add hw _ _
    · cases h
theorem same_wf {most : Int} {n : Nat} {r r' : Rs κ} (h : sameG K most n r = .ok r') (hw : WF r.gs) : WF r'.gs := by
  unfold sameG at h
  split at h
  · split at h
    · cases h
    · injection h with h; subst h; exact wf_add hw _ _
  · cases h
theorem many_wf : ∀ (n : Nat) {r r' : Rs κ}, manyG K n r = .ok r' → WF r.gs → WF r'.gs
  | 0, r, r', h, hw => by injection h with h; subst h; exact hw
  | n + 1, r, r', h, hw => by
    rw [manyG] at h
    split at h
    · cases h
    · exact many_wf n (r := ⟨r.left.drop (K.get r.left).2.1, addG r.gs (K.get r.left).1 1, r.count + 1⟩) h (wf_add hw (K.get r.left).1 1)
theorem run_wf {most : Int} {r r' : Rs κ} (h : runG K most r = .ok r') (hw : WF r.gs) : WF r'.gs := by
  unfold runG at h
  split at h
  · cases h
  · split at h
    · exact none_wf h hw
    · split at h
      · exact same_wf h hw
      · unfold unlikeG at h
        split at h
        · exact many_wf _ h hw
        · cases h
theorem loop_inv {ok : κ → Prop} (hG : Good K ok) {most : Int} (hm : most ≤ 1000000) : ∀ (f : Nat) {r r' : Rs κ}, loopG K most f r = .ok r' → WF r.gs → Inv ok r → WF r'.gs ∧ Inv ok r'
  | 0, r, r', h, hw, hI => by injection h with h; subst h; exact ⟨hw, hI⟩
  | f + 1, r, r', h, hw, hI => by
    rw [loopG] at h
    split at h
    · injection h with h; subst h; exact ⟨hw, hI⟩
    · split at h
      · cases h
      · next r2 hr => exact loop_inv hG hm f h (run_wf hr hw) (runG_inv hG hm hr hI).1
theorem read_ok {ok : κ → Prop} (hG : Good K ok) {most : Int} (hm : most ≤ 1000000) {B : List UInt8} (hB : B.length ≤ 1000000) {gs : List (κ × Nat)} (h : readG K most B = .ok gs) :
    tellW K (gatherG (spreadG gs)) = B ∧ (∀ c ∈ spreadG gs, ok c) ∧ (spreadG gs).length ≤ 1000000 := by
  unfold readG at h
  split at h
  · cases h
  · next r hr =>
    split at h
    · cases h
    · split at h
      · cases h
      · next hq =>
        injection h with h
        subst h
        obtain ⟨h1, h2⟩ := loop_inv hG hm _ hr trivial ⟨by simp; exact hB, rfl, Nat.zero_le _, fun g hg => by cases hg⟩
        refine ⟨by rw [gather_spread h1]; exact Decidable.byContradiction hq, ?_, by rw [spread_len, h2.tot]; exact h2.cnt⟩
        have ha := h2.all
        clear hr h1 h2 hq
        generalize r.gs = l at ha
        intro c hc
        induction l with
        | nil => cases hc
        | cons a l ih =>
          obtain ⟨d, n⟩ := a
          rw [spreadG] at hc
          rcases List.mem_append.1 hc with hc | hc
          · rw [(List.mem_replicate.1 hc).2]; exact ha (d, n) (List.mem_cons_self ..)
          · exact ih (fun g hg => ha g (List.mem_cons_of_mem _ hg)) hc
end
/-- cells that may be -/
def mayU (c : Bool × Int) : Prop := (c.1 = false → c.2 = 0) ∧ okU c
def mayS (c : Bool × Int) : Prop := (c.1 = false → c.2 = 0) ∧ okS c
def mayW (c : Bool × List UInt8) : Prop := (c.1 = false → c.2 = []) ∧ okW c
theorem backU : Back kU mayU := by
  rintro ⟨i, x⟩ ⟨h0, h1, h2⟩ hz R
  simp only at h0 h1 h2
  have hi : i = true := by
    cases i with
    | true => rfl
    | false => exact absurd (by rw [h0 rfl]; rfl) hz
  subst hi
  have hg : gu (kU.put (true, x) ++ R) = (x.toNat, (u x.toNat).length, 0) := gu_back x.toNat R (by omega)
  show (if (gu (kU.put (true, x) ++ R)).2.2 ≠ 0 then _ else if 9223372036854775807 < (gu (kU.put (true, x) ++ R)).1 then _ else ((true, ((gu (kU.put (true, x) ++ R)).1 : Int)), (gu (kU.put (true, x) ++ R)).2.1, 0)) = _
  rw [hg]
  rw [if_neg (by simp), if_neg (by simp only; omega)]
  show ((true, ((x.toNat : Nat) : Int)), (u x.toNat).length, 0) = ((true, x), (u x.toNat).length, 0)
  rw [show ((x.toNat : Nat) : Int) = x by omega]
theorem backS : Back kS mayS := by
  rintro ⟨i, x⟩ ⟨h0, h1, h2⟩ hz R
  simp only at h0 h1 h2
  have hi : i = true := by
    cases i with
    | true => rfl
    | false => exact absurd (by rw [h0 rfl]; rfl) hz
  subst hi
  have hg : gs (kS.put (true, x) ++ R) = (x, (s x).length, 0) := gs_back x R h1 h2
  show (if (gs (kS.put (true, x) ++ R)).2.2 ≠ 0 then _ else ((true, (gs (kS.put (true, x) ++ R)).1), (gs (kS.put (true, x) ++ R)).2.1, 0)) = _
  rw [hg]
  rw [if_neg (by simp)]
  rfl
theorem backW : Back kW mayW := by
  rintro ⟨i, x⟩ ⟨h0, h1⟩ hz R
  simp only at h0
  have h1' : x.length ≤ 1000000 := h1
  have hi : i = true := by
    cases i with
    | true => rfl
    | false => exact absurd (by rw [h0 rfl]; rfl) hz
  subst hi
  have hg : gu (kW.put (true, x) ++ R) = (x.length, (u x.length).length, 0) := by
    have h := gu_back x.length (x ++ R) (by omega)
    rw [← List.append_assoc] at h
    exact h
  show (if (gu (kW.put (true, x) ++ R)).2.2 ≠ 0 then _ else if (kW.put (true, x) ++ R).length - (gu (kW.put (true, x) ++ R)).2.1 < (gu (kW.put (true, x) ++ R)).1 then _ else ((true, ((kW.put (true, x) ++ R).drop (gu (kW.put (true, x) ++ R)).2.1).take (gu (kW.put (true, x) ++ R)).1), (gu (kW.put (true, x) ++ R)).2.1 + (gu (kW.put (true, x) ++ R)).1, 0)) = _
  rw [hg]
  have hl : (kW.put (true, x) ++ R).length = (u x.length).length + x.length + R.length := by show (u x.length ++ x ++ R).length = _; simp only [List.length_append]
  rw [if_neg (by simp), if_neg (by rw [hl]; simp only; omega)]
  show ((true, ((u x.length ++ x ++ R).drop (u x.length).length).take x.length), (u x.length).length + x.length, 0) = ((true, x), (u x.length ++ x).length, 0)
  rw [List.append_assoc, List.drop_left, List.take_left, List.length_append]
end Go.Proofs.Ytohbcepbodcapaa.RleM
