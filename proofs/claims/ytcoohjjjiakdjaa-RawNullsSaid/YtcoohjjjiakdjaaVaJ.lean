/-
  Layer 14, the program: Right; slices of values. THE CONTRACTS as one word.
-/
import Derived.Test.YtcoohjjjiakdjaaVaI
namespace Go.Proofs.Ytcoohjjjiakdjaa
open Go.RowKit Mem Go.Lib VaM LebM UtfM
attribute [local go_sem ↓] Go.wp_at_zero Go.wp_at_succ
set_option linter.unusedVariables false

/-- a slice reads as these values -/
def Vls (w : World) (A : Option Addr) (n : Nat) (L : List V) : Prop := L.length = n ∧ ∀ k v, L[k]? = some v → ∃ b o, A = some ⟨b, o, none⟩ ∧ b < w.heap.size ∧
  w.cell? ⟨b, o + k * 4, none⟩ = some (.int .i64 v.k) ∧ w.cell? ⟨b, o + k * 4 + 1, none⟩ = some (.int .u64 (v.u : Int)) ∧ w.cell? ⟨b, o + k * 4 + 2, none⟩ = some (.int .i64 v.n) ∧ w.cell? ⟨b, o + k * 4 + 3, none⟩ = some (.string (txt v.s))
theorem Vls.fr {S : Nat → Prop} {w w' : World} {A : Option Addr} {n : Nat} {L : List V} (h : Vls w A n L) (hf : Fr S w w') (hS : ∀ ad, A = some ad → ¬ S ad.block) : Vls w' A n L :=
  ⟨h.1, fun k v hk => by
    obtain ⟨b, o, e, hb, h0, h1, h2, h3⟩ := h.2 k v hk
    exact ⟨b, o, e, Nat.lt_of_lt_of_le hb hf.size, hf.cell h0 (hS ⟨b, o, none⟩ e), hf.cell h1 (hS ⟨b, o, none⟩ e), hf.cell h2 (hS ⟨b, o, none⟩ e), hf.cell h3 (hS ⟨b, o, none⟩ e)⟩⟩
theorem Vls.nil (w : World) (A : Option Addr) : Vls w A 0 [] := ⟨rfl, fun k t h => by simp at h⟩
theorem v_flat : ∀ (T : List V) (k : Nat) (t : V), T[k]? = some t → ∀ j, j < 4 → (T.flatMap vls)[k * 4 + j]? = (vls t)[j]?
  | [], k, t, h, j, hj => by simp at h
  | s :: T, 0, t, h, j, hj => by
    simp at h
    subst h
    rw [List.flatMap_cons, List.getElem?_append_left (by show _ < 4; omega), Nat.zero_mul, Nat.zero_add]
  | s :: T, k + 1, t, h, j, hj => by
    rw [List.flatMap_cons, List.getElem?_append_right (by show 4 ≤ _; omega), show (k + 1) * 4 + j - (vls s).length = k * 4 + j by show (k + 1) * 4 + j - 4 = _; omega]
    exact v_flat T k t (by simpa using h) j hj
/-- a block of values -/
theorem Vls.row {w : World} {b : Nat} {L : List V} (h : Row w b 46 (L.flatMap vls)) : Vls w (some ⟨b, 0, none⟩) L.length L := by
  refine ⟨rfl, fun k v hk => ⟨b, 0, rfl, h.lt, ?_, ?_, ?_, ?_⟩⟩
  all_goals rw [Nat.zero_add]
  · exact h.cell (v_flat L k v hk 0 (by omega))
  · exact h.cell (v_flat L k v hk 1 (by omega))
  · exact h.cell (v_flat L k v hk 2 (by omega))
  · exact h.cell (v_flat L k v hk 3 (by omega))

end Go.Proofs.Ytcoohjjjiakdjaa
