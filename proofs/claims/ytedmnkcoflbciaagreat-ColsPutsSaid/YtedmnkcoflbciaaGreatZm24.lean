/-
  Layer 11, the program: take, of numbers (written by gen11.py out of rleI.src).
  Layer 11, the program: a reader's run of nothings (written by gen11.py out of rleL.src).
  Layer 11, the program: take, of cells (written by gen11.py out of rleJ.src).
-/
import Derived.Test.YtedmnkcoflbciaaGreatZm20
import Derived.Test.YtedmnkcoflbciaaGreatZm23
namespace Go.Proofs.YtedmnkcoflbciaaGreat
open Go.RowKit Mem Go.Lib RleM LebM
attribute [local go_sem ↓] Go.wp_at_zero Go.wp_at_succ
set_option linter.unusedVariables false

end Go.Proofs.YtedmnkcoflbciaaGreat
namespace Go.Proofs.YtedmnkcoflbciaaGreat
open Go.RowKit Mem Go.Lib RleM LebM
attribute [local go_sem ↓] Go.wp_at_zero Go.wp_at_succ
set_option linter.unusedVariables false

section
variable {β : Type} {f : β → Value} {T G : TypeId} {fp fg : Value}
theorem Rdr.fr {w w' : World} {base g : Nat} {most : Int} {r : Rs (Bool × β)} (h : Rdr f T G fp fg w base g most r) (hf : Fr (fun _ => False) w w') : Rdr f T G fp fg w' base g most r := by
  obtain ⟨⟨A, n, c, Ag, cg, h1, h2, h3, h4, h5⟩, hb⟩ := h
  exact ⟨⟨A, n, c, Ag, cg, h1.fr hf (fun h => h), h2.fr hf (fun _ _ h => h), h3, h4, h5.fr hf⟩, hb⟩
/-- what is left is turned -/
theorem Rdr.left {w w' : World} {base g : Nat} {most : Int} {L L' : List UInt8} {gs : List ((Bool × β) × Nat)} {cnt : Nat} {A : Option Addr} {n c : Nat} {Ag : Option Addr} {cg : Nat}
    (hrow : Row w g T [fp, fg, .slice A n c, .slice Ag gs.length cg, .int .i64 (cnt : Int), .int .i64 most]) (hO : OwnG f G w base Ag cg gs) (hb : base ≤ g) (hTG : G ≠ T) (hf : Fr (fun b => b = g) w w')
    (h : ∃ A' c' n', Row w' g T [fp, fg, .slice A' n' c', .slice Ag gs.length cg, .int .i64 (cnt : Int), .int .i64 most] ∧ Rd w' A' n' (L'.map bytec) ∧ n' ≤ c' ∧ (0 < n' → ∀ ad, A' = some ad → ad.block < base)) : Rdr f T G fp fg w' base g most ⟨L', gs, cnt⟩ := by
  obtain ⟨A', c', n', h1, h2, h3, h4⟩ := h
  exact ⟨⟨A', n', c', Ag, cg, h1, h2, h3, h4, own_fr hO hf (fun ad e h => own_ne hO hrow hTG (by rw [e, ← h]; rfl))⟩, hb⟩
theorem Rdr.cells {w : World} {base g : Nat} {most : Int} {r : Rs (Bool × β)} (h : Rdr f T G fp fg w base g most r) : w.cell? ⟨g, 4, none⟩ = some (.int .i64 (r.count : Int)) ∧ w.cell? ⟨g, 5, none⟩ = some (.int .i64 most) ∧ w.cell? ⟨g, 0, none⟩ = some fp ∧ w.cell? ⟨g, 1, none⟩ = some fg := by
  obtain ⟨⟨A, n, c, Ag, cg, h1, h2, h3, h4, h5⟩, hb⟩ := h
  exact ⟨h1.cell rfl, h1.cell rfl, h1.cell rfl, h1.cell rfl⟩
theorem Rdr.lt {w : World} {base g : Nat} {most : Int} {r : Rs (Bool × β)} (h : Rdr f T G fp fg w base g most r) : g < w.heap.size := by
  obtain ⟨⟨A, n, c, Ag, cg, h1, h2, h3, h4, h5⟩, hb⟩ := h
  exact h1.lt
/-- another block of two cells is written -/
theorem Rdr.other {w w' : World} {base g p : Nat} {most : Int} {r : Rs (Bool × β)} {T' : TypeId} {L : List Value} (h : Rdr f T G fp fg w base g most r) (hp : Row w p T' L) (hpb : base ≤ p ∧ p ≠ g) (hTG : G ≠ T') (hf : Fr (fun b => b = p) w w') : Rdr f T G fp fg w' base g most r := by
  obtain ⟨⟨A, n, c, Ag, cg, h1, h2, h3, h4, h5⟩, hb⟩ := h
  exact ⟨⟨A, n, c, Ag, cg, h1.fr hf (fun e => hpb.2 e.symm), h2.frp hf (fun h0 ad e h => by have := h4 h0 ad e; omega), h3, h4, own_fr h5 hf (fun ad e h => own_ne h5 hp hTG (by rw [e, ← h]; rfl))⟩, hb⟩
theorem Fr.up {w w' : World} {base g : Nat} (h : Fr (fun b => b = g) w w') (hb : base ≤ g) : Fr (fun k => base ≤ k) w w' := h.mono (fun _ _ e => by rw [e]; exact hb)
end
end Go.Proofs.YtedmnkcoflbciaaGreat
namespace Go.Proofs.YtedmnkcoflbciaaGreat
open Go.RowKit Mem Go.Lib RleM LebM
attribute [local go_sem ↓] Go.wp_at_zero Go.wp_at_succ
set_option linter.unusedVariables false

end Go.Proofs.YtedmnkcoflbciaaGreat
