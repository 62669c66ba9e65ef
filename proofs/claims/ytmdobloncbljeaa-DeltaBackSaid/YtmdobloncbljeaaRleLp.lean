/-
  The law RlePuts (written by gen_laws11.py).
-/
import Derived.Test.YtmdobloncbljeaaRleAa
import Derived.Test.YtmdobloncbljeaaRleAb
import Derived.Test.YtmdobloncbljeaaRleZc
namespace Go.Proofs.Ytmdobloncbljeaa
open Go.RowKit Mem Go.Lib RleM LebM
attribute [local go_sem ↓] Go.wp_at_zero Go.wp_at_succ
set_option linter.unusedVariables false

def Rng (sign : Bool) (a : List (Bool × Int)) : Prop := ∀ (k : Nat) (t : Bool × Int), a[k]? = some t → -9223372036854775808 ≤ t.2 ∧ t.2 < 9223372036854775808 ∧ (sign = false → 0 ≤ t.2)
theorem ref_may {κ : Type} {L : List κ} {f : κ → Bool × List UInt8} (h : ∀ c, (f c).1 = false → f c = (false, [])) : ∀ (j : Nat) (x : Bool × List UInt8), (L.map f)[j]? = some x → x.1 = false → x = (false, []) := by
  intro j x hx h0
  rw [List.getElem?_map] at hx
  obtain ⟨c, _, rfl⟩ := Option.map_eq_some_iff.1 hx
  exact h c h0
theorem refS_len {c : Bool × Int} (h : mayU c) : (kR.put (refS false c)).length ≤ 10 := by
  show (refS false c).2.length ≤ 10
  unfold refS
  simp only
  split
  · simp
  · exact putU10 h.2
theorem refS_len2 {c : Bool × Int} (h : mayS c) : (kR.put (refS true c)).length ≤ 10 := by
  show (refS true c).2.length ≤ 10
  unfold refS
  simp only
  split
  · simp
  · exact putS10 h.2
theorem refW_len (c : Bool × List UInt8) (h : c.2.length ≤ 1000000) : (refW c).2.length ≤ 10 + c.2.length := by
  unfold refW
  simp only
  split
  · simp
  · exact putW10 h
end Go.Proofs.Ytmdobloncbljeaa
