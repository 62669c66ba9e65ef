/-
  Layer 5's rows: an argument that is a slice of ints, read.
-/
import Derived.Test.YtphalcpmeblkgaaHuffA
namespace Go.Proofs.Ytphalcpmeblkgaa
open Go.ChangeShapes Go.WideShapes Go.RowKit Go.Deep Mem

section
variable {H : Type} {enc : TypeId × Value → H} {P : Program} {w : World} {base : Nat} {held : Bool}
theorem open_i64s {t e : TypeId} {fuel : Nat} {v : Value} {x : DataW H × List MemPlace} (ht : P.underlying t = some (.slice e)) (he : P.underlying e = some (.int .i64)) (hc : P.cellsOf e = 1)
    (h : DataW.trod enc P w base (fun _ => true) held fuel t [v] = some x) : ∃ (A : Option Addr) (n c : Nat) (l : List Int), v = .slice A n c ∧ n ≤ c ∧ c ≤ maxLen ∧ Rd w A n (l.map intc) := by
  rcases open_ints ht he hc h with ⟨hcs, _⟩ | ⟨a, len, cap, zs, hcs, _, hl, hm, hz, _, hcell, hw⟩
  · injection hcs with hcs
    exact ⟨none, 0, 0, [], hcs, Nat.le_refl _, Nat.zero_le _, Rd.nil w none⟩
  · injection hcs with hcs
    simp at hz
    refine ⟨some a, len, cap, zs.take len, hcs, hl, hm, ⟨?_, fun hn => ⟨a, rfl, fun j u hu => ?_⟩⟩⟩
    · simp; omega
    · have hj := (List.getElem?_eq_some_iff.1 hu).1
      simp at hj
      rw [hcell j (by omega)]
      rw [← hu]
      simp only [List.getElem?_map]
      rw [List.getElem?_take, if_pos (by omega), List.getElem?_eq_getElem (by omega)]
      simp [intc, List.getElem?_eq_getElem (show j < zs.length by omega)]
end
theorem ints_arg {H : Type} {enc : TypeId × Value → H} {W : World} {r : Reach} {b0 : Nat} {v : Value} {d : DataW H} {p : List MemPlace} (hv : Value.okWide Try.prog W r b0 22 v)
    (h : DataW.Trod enc Try.prog W 0 (fun _ => true) true 22 v d p) : ∃ (A : Option Addr) (n c : Nat) (l : List Int), v = .slice A n c ∧ n ≤ c ∧ c ≤ maxLen ∧ Rd W A n (l.map intc) := by
  obtain ⟨a0, len, cap, rfl⟩ := okWide_slice Try.underlying22 hv
  obtain ⟨fuel, hf⟩ := h
  exact open_i64s Try.underlying22 Try.underlying3 (by kernel_rfl) (by simpa [Value.cells] using hf)
/-- where a slice that holds something lies -/
theorem rd_lt {w : World} {A : Option Addr} {n : Nat} {xs : List Value} (h : Rd w A n xs) (hn : 0 < n) : ∀ ad, A = some ad → ad.block < w.heap.size := by
  intro ad hA
  obtain ⟨ad', e, hc⟩ := h.2 hn
  rw [hA] at e
  injection e with e
  subst e
  have hl : 0 < xs.length := by rw [h.1]; exact hn
  have := World.block_lt_of_cell? w _ (hc 0 _ (List.getElem?_eq_getElem hl))
  rwa [add_block] at this
/-- where a slice lies that a row's reading gives -/
theorem wide_lt {P : Program} {w : World} {r : Reach} {base : Nat} {t e : TypeId} {A : Option Addr} {n c : Nat} (ht : P.underlying t = some (.slice e)) (h : Value.okWide P w r base t (.slice A n c)) : ∀ ad, A = some ad → ad.block < w.heap.size := by
  intro ad hA
  subst hA
  simp only [Value.okWide, ht, Cell.okWide, Cell.ok, World.has] at h
  obtain ⟨_, _, _, _, row, cells, hs, _⟩ := h
  rcases Nat.lt_or_ge ad.block w.heap.size with h1 | h1
  · exact h1
  · unfold World.shape? at hs
    rw [Array.getElem?_eq_none h1] at hs
    cases hs
end Go.Proofs.Ytphalcpmeblkgaa
