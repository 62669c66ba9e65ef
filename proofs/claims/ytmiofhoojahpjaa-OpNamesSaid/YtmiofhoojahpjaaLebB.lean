/-
  Contracts of layer 2's reference: U, S.
-/
import Derived.Test.YtmiofhoojahpjaaLebA
namespace Go.Proofs.Ytmiofhoojahpjaa
open Go.RowKit LebM Mem Go.Lib

theorem cons_app {w w1 w' : World} {b : UInt8} {L : List UInt8} {A' : Option Addr} {c' k : Nat} (hk : k = w.heap.size) (hf1 : Fr (fun _ => False) (w.alloc (.cells #[bytec b] 5)) w1)
    (hown' : w'.ownsRow w.heap.size 5 1 (.slice A' (1 + L.length) c') (1 + L.length) (bytec b :: L.map bytec))
    (hfr' : Fr (fun j => (Value.slice (some ⟨k, 0, none⟩) 1 1).ownBlock = some j) w1 w') : Gives w (b :: L) (.returned (.slice A' (1 + L.length) c')) w' := by
  subst hk
  refine ⟨A', c', by rw [Nat.add_comm]; rfl, ?_, ?_⟩
  · unfold Own
    rw [show (b :: L).length = 1 + L.length from by rw [Nat.add_comm]; rfl]
    exact hown'
  · exact (((Fr.refl _ w).alloc _).trans hf1 (fun _ _ h => h)).trans hfr' (fun j hj h => by simp [Value.ownBlock] at h; omega)

/-- Go's quotient and rest -/
theorem quo_neg (n : Int) (h : n < 0) : n % 128 = 0 ∧ n.tmod 128 = 0 ∧ n.tdiv 128 = n / 128 ∨ n % 128 ≠ 0 ∧ n.tmod 128 = n % 128 - 128 ∧ n.tdiv 128 = n / 128 + 1 := by
  have h1 : n.tdiv 128 = -((-n) / 128) := by rw [← Int.neg_neg n, Int.neg_tdiv, Int.neg_neg, Int.tdiv_eq_ediv_of_nonneg (by omega)]
  have h2 := Int.tmod_add_mul_tdiv n 128
  omega

end Go.Proofs.Ytmiofhoojahpjaa
