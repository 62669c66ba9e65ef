/-
  Layer 11: the three kinds of columns, plain.
  A region that draws its order, walked by the lone laws: the condition that is kept may be made more on the way. Nothing of any program here.
-/
import Derived.Test.YtcoohjjjiakdjaaZm06
import Derived.Deep.RegionHeld3
import Derived.Deep.DrawnRows
namespace Go.Proofs.Ytcoohjjjiakdjaa.RleM
open LebM

def kU : Kd (Bool × Int) where
  zero := (false, 0)
  put c := u c.2.toNat
  get B := if (gu B).2.2 ≠ 0 then ((false, 0), 0, (gu B).2.2) else if 9223372036854775807 < (gu B).1 then ((false, 0), 0, 4) else ((true, ((gu B).1 : Int)), (gu B).2.1, 0)
def kS : Kd (Bool × Int) where
  zero := (false, 0)
  put c := s c.2
  get B := if (gs B).2.2 ≠ 0 then ((false, 0), 0, (gs B).2.2) else ((true, (gs B).1), (gs B).2.1, 0)
def kW : Kd (Bool × List UInt8) where
  zero := (false, [])
  put c := u c.2.length ++ c.2
  get B := if (gu B).2.2 ≠ 0 then ((false, []), 0, (gu B).2.2) else if B.length - (gu B).2.1 < (gu B).1 then ((false, []), 0, 2) else ((true, (B.drop (gu B).2.1).take (gu B).1), (gu B).2.1 + (gu B).1, 0)
/-- what may be told: the numbers' range, the texts' length -/
def okU (c : Bool × Int) : Prop := 0 ≤ c.2 ∧ c.2 < 9223372036854775808
def okS (c : Bool × Int) : Prop := -9223372036854775808 ≤ c.2 ∧ c.2 < 9223372036854775808
def okW (c : Bool × List UInt8) : Prop := c.2.length ≤ 1000000
theorem gu_bd (B : List UInt8) : (gu B).1 < 18446744073709551616 ∧ (gu B).2.1 ≤ B.length ∧ (gu B).2.2 ≤ 3 := by
  have h := spanK_le B
  have h2 := spanE_le B
  unfold gu
  split
  · exact ⟨by show 0 < _; omega, Nat.zero_le _, h2⟩
  · split
    · exact ⟨Nat.mod_lt _ (by omega), h.1, Nat.zero_le _⟩
    · exact ⟨by show 0 < _; omega, Nat.zero_le _, Nat.le_refl _⟩
theorem gs_bd (B : List UInt8) : -9223372036854775808 ≤ (gs B).1 ∧ (gs B).1 < 9223372036854775808 ∧ (gs B).2.1 ≤ B.length ∧ (gs B).2.2 ≤ 3 := by
  have h := spanK_le B
  have h2 := spanE_le B
  unfold gs
  split
  · exact ⟨by show (_ : Int) ≤ 0; omega, by show (0 : Int) < _; omega, Nat.zero_le _, h2⟩
  · split
    · exact ⟨(sgn_bd _ _).1, (sgn_bd _ _).2, h.1, Nat.zero_le _⟩
    · exact ⟨by show (_ : Int) ≤ 0; omega, by show (0 : Int) < _; omega, Nat.zero_le _, Nat.le_refl _⟩
theorem getU_bd (B : List UInt8) : okU (kU.get B).1 ∧ (kU.get B).2.1 ≤ B.length ∧ (kU.get B).2.2 ≤ 4 := by
  have h := gu_bd B
  unfold kU okU
  simp only
  split
  · simp only; omega
  · split
    · simp only; omega
    · simp only; omega
theorem getS_bd (B : List UInt8) : okS (kS.get B).1 ∧ (kS.get B).2.1 ≤ B.length ∧ (kS.get B).2.2 ≤ 4 := by
  have h := gs_bd B
  unfold kS okS
  simp only
  split
  · simp only; omega
  · simp only; omega
theorem getW_bd (B : List UInt8) (hB : B.length ≤ 1000000) : okW (kW.get B).1 ∧ (kW.get B).2.1 ≤ B.length ∧ (kW.get B).2.2 ≤ 4 := by
  have h := gu_bd B
  unfold kW okW
  simp only
  split
  · simp only [List.length_nil]; omega
  · split
    · simp only [List.length_nil]; omega
    · simp only [List.length_take, List.length_drop]; omega
theorem spanK_pos {B : List UInt8} (h : spanE B = 0) : 1 ≤ spanK B := by
  unfold spanE at h
  unfold spanK
  split
  · omega
  · next hq => rw [if_neg hq] at h; split at h <;> omega
theorem gu_pos {B : List UInt8} (h : (gu B).2.2 = 0) : 1 ≤ (gu B).2.1 := by
  unfold gu at h ⊢
  split
  · next hq => rw [if_pos hq] at h; exact absurd h hq
  · next hq =>
    rw [if_neg hq] at h
    split
    · exact spanK_pos (by omega)
    · next hq2 => rw [if_neg hq2] at h; exact absurd h (by decide)
theorem gs_pos {B : List UInt8} (h : (gs B).2.2 = 0) : 1 ≤ (gs B).2.1 := by
  unfold gs at h ⊢
  split
  · next hq => rw [if_pos hq] at h; exact absurd h hq
  · next hq =>
    rw [if_neg hq] at h
    split
    · exact spanK_pos (by omega)
    · next hq2 => rw [if_neg hq2] at h; exact absurd h (by decide)
theorem getU_pos {B : List UInt8} (h : (kU.get B).2.2 = 0) : 1 ≤ (kU.get B).2.1 := by
  unfold kU at h ⊢
  simp only at h ⊢
  split
  · next hq => rw [if_pos hq] at h; exact absurd h hq
  · next hq =>
    rw [if_neg hq] at h
    split
    · next hq2 => rw [if_pos hq2] at h; exact absurd h (by decide)
    · exact gu_pos (by omega)
theorem getS_pos {B : List UInt8} (h : (kS.get B).2.2 = 0) : 1 ≤ (kS.get B).2.1 := by
  unfold kS at h ⊢
  simp only at h ⊢
  split
  · next hq => rw [if_pos hq] at h; exact absurd h hq
  · exact gs_pos (by omega)
theorem getW_pos {B : List UInt8} (h : (kW.get B).2.2 = 0) : 1 ≤ (kW.get B).2.1 := by
  unfold kW at h ⊢
  simp only at h ⊢
  split
  · next hq => rw [if_pos hq] at h; exact absurd h hq
  · next hq =>
    rw [if_neg hq] at h
    split
    · next hq2 => rw [if_pos hq2] at h; exact absurd h (by decide)
    · have := gu_pos (B := B) (by omega); simp only; omega
/-- what a reader keeps -/
structure Inv {κ : Type} (ok : κ → Prop) (r : Rs κ) : Prop where
  len : r.left.length + r.gs.length ≤ 1000000
  tot : total r.gs = r.count
  cnt : r.count ≤ 1000000
  all : ∀ g ∈ r.gs, ok g.1
section
variable {κ : Type}
theorem Inv.less {ok : κ → Prop} {left left' : List UInt8} {G : List (κ × Nat)} {cnt : Nat} (h : Inv ok ⟨left, G, cnt⟩) (hl : left'.length ≤ left.length) : Inv ok ⟨left', G, cnt⟩ := ⟨by have := h.len; simp only at this ⊢; omega, h.tot, h.cnt, h.all⟩
theorem Inv.small {ok : κ → Prop} {r : Rs κ} (h : Inv ok r) : r.gs.length ≤ 1000000 ∧ ∀ g ∈ r.gs, ∀ n, n ≤ 1000000 → g.2 + n < 9223372036854775808 :=
  ⟨by have := h.len; omega, fun g hg n hn => by have := mem_total hg; rw [h.tot] at this; have := h.cnt; omega⟩
end
section
variable {κ : Type} [DecidableEq κ]
theorem addG_len (l : List (κ × Nat)) (c : κ) (n : Nat) : (addG l c n).length ≤ l.length + 1 := by
  by_cases h : n = 0
  · subst h; rw [addG_zero]; omega
  · rcases snoc_cases l with rfl | ⟨l', d, m, rfl⟩
    · rw [addG_nil c h]; simp
    · rw [addG_snoc _ _ _ _ h]
      split <;> simp
theorem mem_addG {l : List (κ × Nat)} {c : κ} {n : Nat} {g : κ × Nat} (hg : g ∈ addG l c n) : g.1 = c ∨ ∃ g' ∈ l, g'.1 = g.1 := by
  by_cases h : n = 0
  · subst h; rw [addG_zero] at hg; exact .inr ⟨g, hg, rfl⟩
  · rcases snoc_cases l with rfl | ⟨l', d, m, rfl⟩
    · rw [addG_nil c h] at hg; simp at hg; exact .inl (by rw [hg])
    · rw [addG_snoc _ _ _ _ h] at hg
      split at hg
      · next e =>
        rcases List.mem_append.1 hg with h | h
        · exact .inr ⟨g, List.mem_append_left _ h, rfl⟩
        · simp at h; exact .inl (by rw [h]; exact e)
      · rcases List.mem_append.1 hg with h | h
        · exact .inr ⟨g, h, rfl⟩
        · simp at h; exact .inl (by rw [h])
theorem Inv.add {ok : κ → Prop} {left left' : List UInt8} {G : List (κ × Nat)} {cnt : Nat} (h : Inv ok ⟨left, G, cnt⟩) {c : κ} {n : Nat} (hl : left'.length + 1 ≤ left.length) (hc : ok c) (hn : cnt + n ≤ 1000000) : Inv ok ⟨left', addG G c n, cnt + n⟩ := by
  obtain ⟨h1, h2, h3, h4⟩ := h
  simp only at h1 h2 h3 h4
  refine ⟨?_, ?_, hn, ?_⟩
  · have := addG_len G c n; simp only; omega
  · rw [total_add, h2]
  · intro g hg
    rcases mem_addG hg with e | ⟨g', hg', e⟩
    · rw [e]; exact hc
    · rw [← e]; exact h4 g' hg'
/-- what a kind's reading keeps -/
structure Good (K : Kd κ) (ok : κ → Prop) : Prop where
  zero : ok K.zero
  bd : ∀ B : List UInt8, B.length ≤ 1000000 → ok (K.get B).1 ∧ (K.get B).2.1 ≤ B.length
  pos : ∀ B : List UInt8, (K.get B).2.2 = 0 → 1 ≤ (K.get B).2.1
section
variable {K : Kd κ} {ok : κ → Prop} {most : Int}
theorem noneG_inv (hz : ok K.zero) (hm : most ≤ 1000000) {r r' : Rs κ} (h : noneG K.zero most r = .ok r') (hI : Inv ok r) : Inv ok r' ∧ r'.left.length < r.left.length := by
  obtain ⟨left, gs, cnt⟩ := r
  unfold noneG at h
  simp only at h
  split at h
  · cases h
  · next he =>
    split at h
    · next hf =>
      injection h with h
      subst h
      have h1 := gu_pos (B := left) (by omega)
      have h2 := (gu_bd left).2.1
      exact ⟨hI.add (by rw [List.length_drop]; omega) hz (by omega), by simp only [List.length_drop]; omega⟩
    · cases h
theorem sameG_inv (hG : Good K ok) (hm : most ≤ 1000000) {n : Nat} {r r' : Rs κ} (h : sameG K most n r = .ok r') (hI : Inv ok r) : Inv ok r' ∧ r'.left.length < r.left.length := by
  obtain ⟨left, gs, cnt⟩ := r
  have hl := hI.len
  unfold sameG at h
  simp only at h hl
  split at h
  · next hf =>
    split at h
    · cases h
    · next he =>
      injection h with h
      subst h
      have h1 := hG.pos left (by omega)
      have h2 := hG.bd left (by omega)
      exact ⟨hI.add (by rw [List.length_drop]; omega) h2.1 (by omega), by simp only [List.length_drop]; omega⟩
  · cases h
theorem manyG_inv (hG : Good K ok) : ∀ (n : Nat) {r r' : Rs κ}, manyG K n r = .ok r' → Inv ok r → r.count + n ≤ 1000000 → Inv ok r' ∧ r'.left.length ≤ r.left.length
  | 0, r, r', h, hI, _ => by injection h with h; subst h; exact ⟨hI, Nat.le_refl _⟩
  | n + 1, ⟨left, gs, cnt⟩, r', h, hI, hn => by
    have hl := hI.len
    rw [manyG] at h
    simp only at h hl hn
    split at h
    · cases h
    · next he =>
      have h1 := hG.pos left (by omega)
      have h2 := hG.bd left (by omega)
      have h3 : Inv ok ⟨left.drop (K.get left).2.1, addG gs (K.get left).1 1, cnt + 1⟩ := hI.add (by rw [List.length_drop]; omega) h2.1 (by omega)
      obtain ⟨h4, h5⟩ := manyG_inv hG n h h3 (by simp only; omega)
      exact ⟨h4, by simp only [List.length_drop] at h5 ⊢; omega⟩
theorem runG_inv (hG : Good K ok) (hm : most ≤ 1000000) {r r' : Rs κ} (h : runG K most r = .ok r') (hI : Inv ok r) : Inv ok r' ∧ r'.left.length < r.left.length := by
  obtain ⟨left, gs0, cnt⟩ := r
  unfold runG at h
  simp only at h
  split at h
  · cases h
  · next he =>
    have h1 := gs_pos (B := left) (by omega)
    have h2 := (gs_bd left).2.2.1
    have hI2 : Inv ok ⟨left.drop (Go.Proofs.Ytcoohjjjiakdjaa.gs left).2.1, gs0, cnt⟩ := hI.less (by rw [List.length_drop]; omega)
    split at h
    · obtain ⟨h3, h4⟩ := noneG_inv hG.zero hm h hI2
      exact ⟨h3, by simp only [List.length_drop] at h4 ⊢; omega⟩
    · split at h
      · obtain ⟨h3, h4⟩ := sameG_inv hG hm h hI2
        exact ⟨h3, by simp only [List.length_drop] at h4 ⊢; omega⟩
      · unfold unlikeG at h
        split at h
        · next hf =>
          obtain ⟨h3, h4⟩ := manyG_inv hG _ h hI2 (by simp only at hf ⊢; omega)
          exact ⟨h3, by simp only [List.length_drop] at h4 ⊢; omega⟩
        · cases h
end
end
theorem goodU : Good kU okU := ⟨⟨Int.le_refl _, by show (0 : Int) < _; omega⟩, fun B _ => ⟨(getU_bd B).1, (getU_bd B).2.1⟩, fun _ h => getU_pos h⟩
theorem goodS : Good kS okS := ⟨⟨by show (_ : Int) ≤ 0; omega, by show (0 : Int) < _; omega⟩, fun B _ => ⟨(getS_bd B).1, (getS_bd B).2.1⟩, fun _ h => getS_pos h⟩
theorem goodW : Good kW okW := ⟨Nat.zero_le _, fun B hB => ⟨(getW_bd B hB).1, (getW_bd B hB).2.1⟩, fun _ h => getW_pos h⟩
theorem putU_len {c : Bool × Int} (h : okU c) : (kU.put c).length ≤ 1000010 := by
  have h1 : 0 ≤ c.2 := h.1
  have h2 : c.2 < 9223372036854775808 := h.2
  have := u_len10 (n := c.2.toNat) (by omega)
  show (u c.2.toNat).length ≤ _
  omega
theorem putS_len {c : Bool × Int} (h : okS c) : (kS.put c).length ≤ 1000010 := by
  have := s_len10 h.1 h.2
  show (s c.2).length ≤ _
  omega
theorem putW_len {c : Bool × List UInt8} (h : okW c) : (kW.put c).length ≤ 1000010 := by
  have h1 : c.2.length ≤ 1000000 := h
  have := u_len10 (n := c.2.length) (by omega)
  show (u c.2.length ++ c.2).length ≤ _
  rw [List.length_append]
  omega
theorem wt_le {κ : Type} {K : Kd κ} {M : Nat} : ∀ (l : List (κ × Nat)), (∀ g ∈ l, (K.put g.1).length ≤ M) → wt K l ≤ l.length * M
  | [], _ => Nat.zero_le _
  | (c, n) :: l, h => by
    have h1 := h (c, n) (List.mem_cons_self ..)
    have h2 := wt_le l (fun g hg => h g (List.mem_cons_of_mem _ hg))
    rw [wt, List.length_cons, Nat.add_mul, Nat.one_mul]
    simp only at h1
    omega
theorem tell_bound {κ : Type} [DecidableEq κ] {K : Kd κ} (l : List (κ × Nat)) (h : ∀ g ∈ l, (K.put g.1).length ≤ 1000010) (hc : ∀ g ∈ l, g.2 < 9223372036854775808) (hl : l.length ≤ 1000000) : (tellG K l).length ≤ 2000000000000 := by
  have h1 := tell_len (K := K) l.length l hc (by omega)
  have h2 := wt_le l h
  have h3 : l.length * 1000010 ≤ 1000000 * 1000010 := Nat.mul_le_mul_right _ hl
  unfold tellG
  omega
end Go.Proofs.Ytcoohjjjiakdjaa.RleM
namespace Go.Proofs.Ytcoohjjjiakdjaa
open Go

theorem wpAnyH_imp {P : Program} {md : Region.Mode} {ops : Array Oper} {Q : Exit → Act → World → Prop} {S S' : World → Prop} (hS : ∀ w, S' w → S w) :
    ∀ (fuel : Nat) (listed : Array Bool) (a : Act) (w : World), wpAnyH P md ops Q S' fuel listed a w → wpAnyH P md ops Q S fuel listed a w
  | 0, _, _, _, h => h
  | fuel + 1, _, _, _, h => ⟨h.1, fun i hi => wpOp_mono (fun a' w' h' => ⟨hS _ h'.1, wpAnyH_imp hS fuel _ a' w' h'.2⟩) (h.2 i hi)⟩
theorem wpAnyH_more {P : Program} {md : Region.Mode} {ops : Array Oper} {Q : Exit → Act → World → Prop} {S : World → Prop} (S' : World → Prop) {fuel : Nat} {listed : Array Bool} {a : Act} {w : World}
    (hS : ∀ w, S' w → S w) (h : S' w) (hk : S' w → wpAnyH P md ops Q S' fuel listed a w) : wpAnyH P md ops Q S fuel listed a w :=
  wpAnyH_imp hS fuel listed a w (hk h)
end Go.Proofs.Ytcoohjjjiakdjaa
