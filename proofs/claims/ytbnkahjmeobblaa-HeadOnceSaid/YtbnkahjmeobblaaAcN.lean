/-
  Plain mathematics of layer 18: the least one that is greater than all that are there.
-/
import Derived.Test.YtbnkahjmeobblaaZm06
namespace Go.Proofs.Ytbnkahjmeobblaa
open Go Go.RowKit Mem LebM OpM
namespace AcM

theorem rise_split {O : List Tx} (h : Rise O) (j : Nat) : ∀ x ∈ O.take j, ∀ y ∈ O.drop j, Op.bytesLess x y = true := by
  have h2 := h
  unfold Rise at h2
  rw [← List.take_append_drop j O] at h2
  exact (List.pairwise_append.1 h2).2.2
/-- who may come next -/
theorem cand_iff {a : Tx} {N : List Nm} {y : Nm} (hy : y ∈ N) {j : Nat} (hj : j ≤ (othersA a N).length) :
    y.a ∈ (othersA a N).drop j ↔ y.a ≠ a ∧ (j = 0 ∨ ∃ z, (othersA a N)[j - 1]? = some z ∧ Op.bytesLess z y.a = true) := by
  have hr := others_rise a N
  constructor
  · intro h
    refine ⟨((others_mem a N _).1 (List.mem_of_mem_drop h)).1, ?_⟩
    rcases Nat.eq_zero_or_pos j with h0 | h0
    · exact Or.inl h0
    · obtain ⟨z, hz⟩ : ∃ z, (othersA a N)[j - 1]? = some z := ⟨_, List.getElem?_eq_getElem (by omega)⟩
      refine Or.inr ⟨z, hz, rise_split hr j z (List.mem_of_getElem? (i := j - 1) ?_) _ h⟩
      rw [List.getElem?_take, if_pos (by omega), hz]
  · rintro ⟨hne, h⟩
    have hm : y.a ∈ othersA a N := (others_mem a N _).2 ⟨hne, y, hy, rfl⟩
    rcases h with rfl | ⟨z, hz, hl⟩
    · exact hm
    · rw [← List.take_append_drop j (othersA a N)] at hm
      rcases List.mem_append.1 hm with h1 | h1
      · exfalso
        obtain ⟨i, hi⟩ := List.getElem?_of_mem h1
        have hil := (List.getElem?_eq_some_iff.1 hi).1
        rw [List.length_take] at hil
        rw [List.getElem?_take, if_pos (by omega)] at hi
        by_cases hij : i = j - 1
        · subst hij
          rw [hz] at hi
          injection hi with hi
          rw [hi, bless_irr] at hl
          cases hl
        · have hlt : Op.bytesLess y.a z = true := by
            refine rise_split hr (j - 1) y.a (List.mem_of_getElem? (i := i) ?_) z (List.mem_of_getElem? (i := 0) ?_)
            · rw [List.getElem?_take, if_pos (by omega), hi]
            · rw [List.getElem?_drop, Nat.add_zero, hz]
          rw [bless_asym hlt] at hl
          cases hl
      · exact h1
/-- the least one met so far -/
def Best (O : List Tx) (j : Nat) (M N : List Nm) (z : Int) : Prop :=
  (z = -1 ∧ ∀ y ∈ M, y.a ∉ O.drop j) ∨ ∃ (b : Nat) (y : Nm), z = (b : Int) ∧ N[b]? = some y ∧ y.a ∈ O.drop j ∧ ∀ x ∈ M, x.a ∈ O.drop j → Op.bytesLess x.a y.a = false
theorem best_none (O : List Tx) (j : Nat) (N : List Nm) : Best O j [] N (-1) := Or.inl ⟨rfl, fun y h => by cases h⟩
theorem mem_next {N : List Nm} {k : Nat} {y x : Nm} (hy : N[k]? = some y) (hx : x ∈ N.take (k + 1)) : x ∈ N.take k ∨ x = y := by
  rw [List.take_add_one, hy] at hx
  simpa using hx
theorem best_skip {O : List Tx} {j k : Nat} {N : List Nm} {z : Int} {y : Nm} (h : Best O j (N.take k) N z) (hy : N[k]? = some y) (hn : y.a ∉ O.drop j) : Best O j (N.take (k + 1)) N z := by
  rcases h with ⟨h1, h2⟩ | ⟨b, y0, h1, h2, h3, h4⟩
  · refine Or.inl ⟨h1, fun x hx => ?_⟩
    rcases mem_next hy hx with hx | rfl
    · exact h2 x hx
    · exact hn
  · refine Or.inr ⟨b, y0, h1, h2, h3, fun x hx hin => ?_⟩
    rcases mem_next hy hx with hx | rfl
    · exact h4 x hx hin
    · exact absurd hin hn
theorem best_new {O : List Tx} {j k : Nat} {N : List Nm} {y : Nm} (h : ∀ x ∈ N.take k, x.a ∉ O.drop j) (hy : N[k]? = some y) (hin : y.a ∈ O.drop j) : Best O j (N.take (k + 1)) N (k : Int) := by
  refine Or.inr ⟨k, y, rfl, hy, hin, fun x hx hx2 => ?_⟩
  rcases mem_next hy hx with hx | rfl
  · exact absurd hx2 (h x hx)
  · exact bless_irr _
theorem best_less {O : List Tx} {j k : Nat} {N : List Nm} {y y0 : Nm} (h : ∀ x ∈ N.take k, x.a ∈ O.drop j → Op.bytesLess x.a y0.a = false) (hy : N[k]? = some y) (hin : y.a ∈ O.drop j) (hl : Op.bytesLess y.a y0.a = true) : Best O j (N.take (k + 1)) N (k : Int) := by
  refine Or.inr ⟨k, y, rfl, hy, hin, fun x hx hx2 => ?_⟩
  rcases mem_next hy hx with hx | rfl
  · cases h3 : Op.bytesLess x.a y.a with
    | false => rfl
    | true =>
      have := bless_trans h3 hl
      rw [h x hx hx2] at this
      cases this
  · exact bless_irr _
theorem best_keep {O : List Tx} {j k b : Nat} {N : List Nm} {y y0 : Nm} (h : ∀ x ∈ N.take k, x.a ∈ O.drop j → Op.bytesLess x.a y0.a = false) (hb : N[b]? = some y0) (hin0 : y0.a ∈ O.drop j) (hy : N[k]? = some y) (hl : Op.bytesLess y.a y0.a = false) : Best O j (N.take (k + 1)) N (b : Int) := by
  refine Or.inr ⟨b, y0, rfl, hb, hin0, fun x hx hx2 => ?_⟩
  rcases mem_next hy hx with hx | rfl
  · exact h x hx hx2
  · exact hl
/-- nobody comes any more -/
theorem best_end {O : List Tx} {j : Nat} {N : List Nm} (hm : ∀ z ∈ O, ∃ y ∈ N, y.a = z) (h : ∀ y ∈ N, y.a ∉ O.drop j) : O.length ≤ j := by
  rcases Nat.lt_or_ge j O.length with h0 | h0
  · exfalso
    have hz : O[j] ∈ O.drop j := List.mem_of_getElem? (i := 0) (by rw [List.getElem?_drop, Nat.add_zero]; exact List.getElem?_eq_getElem h0)
    obtain ⟨y, hy, e⟩ := hm _ (List.mem_of_mem_drop hz)
    exact h y hy (e ▸ hz)
  · exact h0
/-- who comes next -/
theorem best_is {O : List Tx} {j : Nat} {N : List Nm} {y : Nm} (hr : Rise O) (hm : ∀ z ∈ O, ∃ y ∈ N, y.a = z) (hin : y.a ∈ O.drop j) (h : ∀ x ∈ N, x.a ∈ O.drop j → Op.bytesLess x.a y.a = false) : O[j]? = some y.a := by
  obtain ⟨i, hi⟩ := List.getElem?_of_mem hin
  have hil := (List.getElem?_eq_some_iff.1 hi).1
  rw [List.length_drop] at hil
  rw [List.getElem?_drop] at hi
  rcases Nat.eq_zero_or_pos i with h0 | h0
  · rw [h0, Nat.add_zero] at hi
    exact hi
  · exfalso
    obtain ⟨z, hz⟩ : ∃ z, O[j]? = some z := ⟨_, List.getElem?_eq_getElem (by omega)⟩
    have hz2 : z ∈ O.drop j := List.mem_of_getElem? (i := 0) (by rw [List.getElem?_drop, Nat.add_zero]; exact hz)
    obtain ⟨x, hx, rfl⟩ := hm z (List.mem_of_getElem? hz)
    have h1 := h x hx hz2
    have h2 := rise_split hr (j + 1) x.a (List.mem_of_getElem? (i := j) (by rw [List.getElem?_take, if_pos (by omega), hz])) y.a (List.mem_of_getElem? (i := i - 1) (by rw [List.getElem?_drop, show j + 1 + (i - 1) = j + i by omega, hi]))
    rw [h1] at h2
    cases h2
end AcM
end Go.Proofs.Ytbnkahjmeobblaa
