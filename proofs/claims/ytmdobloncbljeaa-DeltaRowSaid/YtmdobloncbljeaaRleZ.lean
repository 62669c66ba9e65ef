/-
  Plain: where groups lie in their cells.
-/
import Derived.Test.YtmdobloncbljeaaRleW
namespace Go.Proofs.Ytmdobloncbljeaa.RleM
open LebM
set_option linter.unusedVariables false

section
variable {κ : Type}
theorem spread_head {c : κ} {m : Nat} {D : List (κ × Nat)} {t : Nat} (h : t < m) : (spreadG ((c, m) :: D))[t]? = some c := by
  rw [spreadG, List.getElem?_append_left (by simpa using h), List.getElem?_replicate]
  simp [h]
theorem spread_next {c : κ} {m : Nat} {D : List (κ × Nat)} (t : Nat) : (spreadG ((c, m) :: D))[m + t]? = (spreadG D)[t]? := by
  rw [spreadG, List.getElem?_append_right (by simp), List.length_replicate, Nat.add_sub_cancel_left]
theorem spread_first {D : List (κ × Nat)} (hw : WF D) : (spreadG D)[0]? = (D[0]?).map (·.1) := by
  match D, hw with
  | [], _ => rfl
  | (c, m) :: D, hw => rw [spread_head hw.1]; rfl
theorem after_group {c : κ} {m : Nat} {D : List (κ × Nat)} (hw : WF ((c, m) :: D)) {e : κ} (h : (spreadG ((c, m) :: D))[m]? = some e) : e ≠ c := by
  have h2 := spread_next (c := c) (m := m) (D := D) 0
  rw [Nat.add_zero] at h2
  rw [h2, spread_first hw.2.2] at h
  match D, hw, h with
  | (d, k) :: D, hw, h =>
    simp at h
    subst h
    exact hw.2.1 (d, k) rfl
theorem wf_adj : ∀ {D : List (κ × Nat)} (hw : WF D) {t : Nat} {a b : κ × Nat}, D[t]? = some a → D[t + 1]? = some b → b.1 ≠ a.1
  | (c, m) :: D, hw, 0, a, b, ha, hb => by
    simp at ha hb
    subst ha
    exact hw.2.1 b (by rw [List.head?_eq_getElem?]; exact hb)
  | (c, m) :: D, hw, t + 1, a, b, ha, hb => wf_adj hw.2.2 (t := t) (by simpa using ha) (by simpa using hb)
theorem wf_pos : ∀ {D : List (κ × Nat)} (hw : WF D) {g : κ × Nat}, g ∈ D → 0 < g.2
  | (c, m) :: D, hw, g, hg => by
    rcases List.mem_cons.1 hg with rfl | hg
    · exact hw.1
    · exact wf_pos hw.2.2 hg
theorem wf_drop : ∀ {D : List (κ × Nat)} (hw : WF D) (t : Nat), WF (D.drop t)
  | [], _, t => by rw [List.drop_nil]; trivial
  | (c, m) :: D, hw, 0 => hw
  | (c, m) :: D, hw, t + 1 => wf_drop hw.2.2 t
end
section
variable {κ : Type} [DecidableEq κ]
theorem spread_others (z : κ) : ∀ {D : List (κ × Nat)} (hw : WF D) (t : Nat), t ≤ othersG z D → (spreadG D)[t]? = (D[t]?).map (·.1)
  | [], _, t, h => by simp [othersG] at h; subst h; rfl
  | (c, m) :: D, hw, 0, _ => spread_first hw
  | (c, m) :: D, hw, t + 1, h => by
    rw [othersG] at h
    split at h
    · omega
    · next hq =>
      have hm : m = 1 := by have := hw.1; omega
      subst hm
      rw [Nat.add_comm t 1, spread_next, spread_others z hw.2.2 t (by omega), Nat.add_comm 1 t, List.getElem?_cons_succ]
theorem spread_drop (z : κ) : ∀ {D : List (κ × Nat)} (hw : WF D), (spreadG D).drop (othersG z D) = spreadG (D.drop (othersG z D))
  | [], _ => rfl
  | (c, m) :: D, hw => by
    rw [othersG]
    split
    · rfl
    · next hq =>
      have hm : m = 1 := by have := hw.1; omega
      subst hm
      rw [List.drop_succ_cons, ← spread_drop z hw.2.2, spreadG, Nat.add_comm, ← List.drop_drop]
      rfl
theorem spread_twice (z : κ) {D : List (κ × Nat)} (hw : WF D) {c : κ} {m : Nat} (h : D[othersG z D]? = some (c, m)) (hm : 1 < m) : (spreadG D)[othersG z D + 1]? = some c := by
  have h1 := congrArg (fun l => l[1]?) (spread_drop z hw)
  simp only [List.getElem?_drop] at h1
  rw [h1]
  have h2 : D.drop (othersG z D) = (c, m) :: D.drop (othersG z D + 1) := by
    have hl := (List.getElem?_eq_some_iff.1 h).1
    rw [List.drop_eq_getElem_cons hl]
    congr 1
    exact (List.getElem?_eq_some_iff.1 h).2
  rw [h2]
  exact spread_head hm
end
end Go.Proofs.Ytmdobloncbljeaa.RleM
