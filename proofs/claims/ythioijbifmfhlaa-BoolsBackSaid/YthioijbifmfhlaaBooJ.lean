/-
  Layer 13's rows: an argument that is a slice of truths, read.
-/
import Derived.Test.YthioijbifmfhlaaBooA
import Derived.Deep.Grids
namespace Go.Proofs.Ythioijbifmfhlaa
open Go.ChangeShapes Go.WideShapes Go.RowKit Go.Deep Mem

theorem bools_arg {H : Type} {enc : TypeId × Value → H} {W : World} {r : Reach} {b0 : Nat} {v : Value} {d : DataW H} {p : List MemPlace} (hv : Value.okWide Try.prog W r b0 22 v)
    (h : DataW.Trod enc Try.prog W 0 (fun _ => true) true 22 v d p) : ∃ (A : Option Addr) (n c : Nat) (L : List Bool), v = .slice A n c ∧ n ≤ c ∧ c ≤ maxLen ∧ Rd W A n (L.map boc) := by
  obtain ⟨a0, len, cap, rfl⟩ := okWide_slice Try.underlying22 hv
  obtain ⟨fuel, hf⟩ := h
  rcases open_bools Try.underlying22 Try.underlying4 (by kernel_rfl) (by simpa [Value.cells] using hf) with ⟨hcs, _⟩ | ⟨a, len', cap', B, hcs, _, hl, hm, _, hcell⟩
  · injection hcs with hcs
    exact ⟨none, 0, 0, [], hcs, Nat.le_refl _, Nat.zero_le _, Rd.nil W none⟩
  · injection hcs with hcs
    refine ⟨some a, len', cap', (List.range len').map B, hcs, hl, hm, ⟨by simp, fun hn => ⟨a, rfl, fun j u hu => ?_⟩⟩⟩
    have hj := (List.getElem?_eq_some_iff.1 hu).1
    simp at hj
    rw [hcell j (by omega), ← hu]
    simp [boc, hj]
end Go.Proofs.Ythioijbifmfhlaa
