/-
  A slice that reads as tokens.
-/
import Derived.Test.YtamcgenjlndfjaaDoorLzA
import Derived.Test.YtamcgenjlndfjaaDoorApp
namespace Go.Proofs.YtamcgenjlndfjaaDoor
open Go.RowKit LzM Mem Go.Lib

/-- a slice reads as these tokens -/
def Toks (w : World) (A : Option Addr) (n : Nat) (T : List Tok) : Prop := T.length = n ∧ ∀ k t, T[k]? = some t → ∃ g o, A = some ⟨g, o, none⟩ ∧ g < w.heap.size ∧
  w.cell? ⟨g, o + k * 3, none⟩ = some (bytec t.b) ∧ w.cell? ⟨g, o + k * 3 + 1, none⟩ = some (.int .i64 t.l) ∧ w.cell? ⟨g, o + k * 3 + 2, none⟩ = some (.int .i64 t.d)
theorem Toks.fr {S : Nat → Prop} {w w' : World} {A : Option Addr} {n : Nat} {T : List Tok} (h : Toks w A n T) (hf : Fr S w w') (hS : ∀ g, g < w.heap.size → ¬ S g) : Toks w' A n T :=
  ⟨h.1, fun k t hk => by
    obtain ⟨g, o, e, hg, h1, h2, h3⟩ := h.2 k t hk
    exact ⟨g, o, e, Nat.lt_of_lt_of_le hg hf.size, hf.cell h1 (hS g hg), hf.cell h2 (hS g hg), hf.cell h3 (hS g hg)⟩⟩
end Go.Proofs.YtamcgenjlndfjaaDoor
