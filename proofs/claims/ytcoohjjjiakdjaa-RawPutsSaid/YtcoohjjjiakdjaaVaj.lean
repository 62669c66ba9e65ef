/-
  Layer 14's rows: an argument that is a value, read.
-/
import Derived.Test.YtcoohjjjiakdjaaVaJ
import Derived.Lib.SmallJoins
import Derived.ChangeMaps5
namespace Go.Proofs.Ytcoohjjjiakdjaa
open Go.ChangeShapes Go.WideShapes Go.RowKit Go.Deep Mem VaM

set_option maxRecDepth 100000 in
theorem value_arg {H : Type} {enc : TypeId × Value → H} {W : World} {r : Reach} {b0 : Nat} {v : Value} {d : DataW H} {p : List MemPlace} (hv : Value.okWide Try.prog W r b0 46 v)
    (h : DataW.Trod enc Try.prog W 0 (fun _ => true) true 46 v d p) : ∃ x : V, v = valc x ∧ x.ok ∧ x.s.length ≤ maxLen := by
  obtain ⟨v0, v1, v2, v3, y0, y1, y2, y3, n, rfl, _, _, h0, h1, h2, h3⟩ := Go.Joins.open_agg4 Try.underlying46 (by kernel_rfl) (by kernel_rfl) hv h
  obtain ⟨n0, e0, _, q0⟩ := DataW.trod_int Try.underlying3 h0
  obtain ⟨n1, e1, _, q1⟩ := DataW.trod_int Try.underlying44 h1
  obtain ⟨n2, e2, _, q2⟩ := DataW.trod_int Try.underlying2 h2
  obtain ⟨n3, e3, _, q3⟩ := DataW.trod_string Try.underlying9 h3
  simp at e0 e1 e2 e3
  subst e0 e1 e2 e3
  have b0 := bounds_i64 q0
  have b1 := bounds_u64 q1
  have b2 := bounds_i64 q2
  obtain ⟨u, rfl⟩ := Int.eq_ofNat_of_zero_le b1.1
  refine ⟨⟨n0, u, n2, n3.data.toList⟩, ?_, ⟨⟨b0.1, by have := b0.2; show n0 < _; omega⟩, by have := b1.2; show u < _; omega, b2.1, by have := b2.2; show n2 < _; omega⟩, q3⟩
  unfold valc
  rw [show txt n3.data.toList = n3 from (txt_of n3).symm]
end Go.Proofs.Ytcoohjjjiakdjaa
