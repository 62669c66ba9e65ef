/-
  Layer 16's rows: an argument that is a slice of texts, read.
-/
import Derived.Test.YtfgjneodhmfknaaDirI
import Derived.Deep.Strs
namespace Go.Proofs.Ytfgjneodhmfknaa
open Go.ChangeShapes Go.WideShapes Go.RowKit Go.Deep Mem

theorem txt_toList (s : ByteArray) : txt s.data.toList = s := by
  cases s
  simp [txt]
theorem texts_arg {H : Type} {enc : TypeId × Value → H} {W : World} {r : Reach} {b0 : Nat} {v : Value} {d : DataW H} {p : List MemPlace} (hv : Value.okWide Try.prog W r b0 23 v)
    (h : DataW.Trod enc Try.prog W 0 (fun _ => true) true 23 v d p) : ∃ (A : Option Addr) (n c : Nat) (L : List (List UInt8)), v = .slice A n c ∧ n ≤ c ∧ c ≤ maxLen ∧ Rd W A n (L.map strc) ∧ ∀ s ∈ L, s.length ≤ maxLen := by
  obtain ⟨a0, len, cap, rfl⟩ := okWide_slice Try.underlying23 hv
  obtain ⟨fuel, hf⟩ := h
  rcases open_strs Try.underlying23 Try.underlying9 (by kernel_rfl) (by simpa [Value.cells] using hf) with ⟨hcs, _⟩ | ⟨a, len', cap', m, Sx, hcs, _, hl, hm, hmm, _, hcell⟩
  · injection hcs with hcs
    exact ⟨none, 0, 0, [], hcs, Nat.le_refl _, Nat.zero_le _, Rd.nil W none, fun s hs => by cases hs⟩
  · injection hcs with hcs
    have hlm : len' ≤ m := by rw [hmm]; split <;> omega
    refine ⟨some a, len', cap', (List.range len').map (fun i => (Sx i).data.toList), hcs, hl, hm, ⟨by simp, fun hn => ⟨a, rfl, fun j u hu => ?_⟩⟩, fun s hs => ?_⟩
    · have hj := (List.getElem?_eq_some_iff.1 hu).1
      simp at hj
      rw [(hcell j (by omega)).1, ← hu]
      simp [strc, hj, txt_toList]
    · obtain ⟨i, hi, rfl⟩ := List.mem_map.1 hs
      have h1 := (hcell i (by have := List.mem_range.1 hi; omega)).2
      exact h1
end Go.Proofs.Ytfgjneodhmfknaa
