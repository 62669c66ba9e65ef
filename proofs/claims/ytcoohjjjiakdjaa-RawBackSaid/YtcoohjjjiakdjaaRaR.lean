/-
  Layer 15's rows: an argument that is a slice of values, read.
-/
import Derived.Test.YtcoohjjjiakdjaaRleAr
import Derived.Test.YtcoohjjjiakdjaaVaj
namespace Go.Proofs.Ytcoohjjjiakdjaa
open Go.ChangeShapes Go.WideShapes Go.RowKit Go.Deep Mem VaM

section
variable {H : Type} {enc : TypeId × Value → H} {P : Program} {w : World} {base : Nat} {held : Bool}
theorem open_vals {t e ti tu tn ts : TypeId} {f0 f1 f2 f3 : Field} {fuel : Nat} {v : Value} {x : DataW H × List MemPlace} (ht : P.underlying t = some (.slice e)) (he : P.underlying e = some (.struct #[f0, f1, f2, f3]))
    (hone : oneCellFields P #[f0, f1, f2, f3] = true) (hC : P.cellsOf e = 4) (h0 : f0.type = ti) (h1 : f1.type = tu) (h2 : f2.type = tn) (h3 : f3.type = ts)
    (u0 : P.underlying ti = some (.int .i64)) (u1 : P.underlying tu = some (.int .u64)) (u2 : P.underlying tn = some (.int .i64)) (u3 : P.underlying ts = some .string)
    (h : DataW.trod enc P w base (fun _ => true) held fuel t [v] = some x) : ∃ (A : Option Addr) (n c : Nat) (T : List V), v = .slice A n c ∧ n ≤ c ∧ c ≤ maxLen ∧ Vls w A n T ∧ ∀ (k : Nat) (t : V), T[k]? = some t → t.ok ∧ t.s.length ≤ maxLen := by
  rcases open_slice ht h with ⟨hcs, _⟩ | ⟨a, len, cap, m, n, D, Pl, hcs, _, hl, hm, hmm, _, hi⟩
  · injection hcs with hcs
    exact ⟨none, 0, 0, [], hcs, Nat.le_refl _, Nat.zero_le _, Vls.nil _ _, fun k t h => by simp at h⟩
  · injection hcs with hcs
    simp at hmm
    subst hmm
    rw [hC] at hi
    have hplain : 0 < len → a = ⟨a.block, a.off, none⟩ := by
      intro hlen
      obtain ⟨cs', hc, _⟩ := hi 0 (by omega)
      obtain ⟨_, _, hat⟩ := World.cells?_some hc
      obtain ⟨bb, oo, spot⟩ := a
      have hcell := hat 0 (by omega)
      have hl4 : cs'.length = 4 := by obtain ⟨_, h, _⟩ := World.cells?_some hc; exact h
      rw [List.getElem?_eq_getElem (by omega)] at hcell
      have hspot : spot = none := by simpa [Addr.add] using World.cell?_spot hcell
      subst hspot
      rfl
    obtain ⟨l, hll, hlp⟩ := choose_list len (fun i (x : V) => (w.cell? ⟨a.block, a.off + i * 4, none⟩ = some (.int .i64 x.k) ∧ w.cell? ⟨a.block, a.off + i * 4 + 1, none⟩ = some (.int .u64 (x.u : Int)) ∧ w.cell? ⟨a.block, a.off + i * 4 + 2, none⟩ = some (.int .i64 x.n) ∧ w.cell? ⟨a.block, a.off + i * 4 + 3, none⟩ = some (.string (txt x.s))) ∧ x.ok ∧ x.s.length ≤ maxLen) (fun i hil => by
      obtain ⟨cs', hc, ht'⟩ := hi i (by omega)
      obtain ⟨_, hcl, hat⟩ := World.cells?_some hc
      have ha := hplain (by omega)
      have hadd : ∀ j, (a.add (i * 4)).add j = ⟨a.block, a.off + i * 4 + j, none⟩ := by
        intro j
        rw [ha]
        simp [Addr.add_lit]
      match cs', hcl with
      | [v0, v1, v2, v3], _ =>
        obtain ⟨xs, k, _, _, _, hxl, hf⟩ := DataW.trod_struct he ht'
        obtain ⟨o0, k0⟩ := hone_of hone 0 f0 rfl
        obtain ⟨o1, k1⟩ := hone_of hone 1 f1 rfl
        obtain ⟨o2, k2⟩ := hone_of hone 2 f2 rfl
        obtain ⟨o3, k3⟩ := hone_of hone 3 f3 rfl
        match xs, hxl with
        | [y0, y1, y2, y3], _ =>
          have g0 : DataW.trod enc P w base (fun _ => true) held k ti [v0] = some y0 := by have := hf 0 f0 rfl; rw [o0, k0, h0] at this; simpa using this
          have g1 : DataW.trod enc P w base (fun _ => true) held k tu [v1] = some y1 := by have := hf 1 f1 rfl; rw [o1, k1, h1] at this; simpa using this
          have g2 : DataW.trod enc P w base (fun _ => true) held k tn [v2] = some y2 := by have := hf 2 f2 rfl; rw [o2, k2, h2] at this; simpa using this
          have g3 : DataW.trod enc P w base (fun _ => true) held k ts [v3] = some y3 := by have := hf 3 f3 rfl; rw [o3, k3, h3] at this; simpa using this
          obtain ⟨n0, e0, _, q0⟩ := DataW.trod_int u0 g0
          obtain ⟨n1, e1, _, q1⟩ := DataW.trod_int u1 g1
          obtain ⟨n2, e2, _, q2⟩ := DataW.trod_int u2 g2
          obtain ⟨n3, e3, _, q3⟩ := DataW.trod_string u3 g3
          simp at e0 e1 e2 e3
          subst e0 e1 e2 e3
          have b0 := bounds_i64 q0
          have b1 := bounds_u64 q1
          have b2 := bounds_i64 q2
          obtain ⟨u, rfl⟩ := Int.eq_ofNat_of_zero_le b1.1
          refine ⟨⟨n0, u, n2, n3.data.toList⟩, ⟨?_, ?_, ?_, ?_⟩, ⟨⟨b0.1, by have := b0.2; show n0 < _; omega⟩, by have := b1.2; show u < _; omega, b2.1, by have := b2.2; show n2 < _; omega⟩, q3⟩
          · have := hat 0 (by omega)
            rw [hadd] at this
            simpa using this
          · have := hat 1 (by omega)
            rw [hadd] at this
            simpa using this
          · have := hat 2 (by omega)
            rw [hadd] at this
            simpa using this
          · have := hat 3 (by omega)
            rw [hadd] at this
            show _ = some (Value.string (txt n3.data.toList))
            rw [txt_data]
            simpa using this)
    refine ⟨some a, len, m, l, hcs, hl, hm, ⟨hll, fun k t hk => ?_⟩, fun k t hk => ?_⟩
    · have hkl := (List.getElem?_eq_some_iff.1 hk).1
      obtain ⟨⟨h1, h2, h3, h4⟩, _⟩ := hlp k t hk
      exact ⟨a.block, a.off, by rw [← hplain (by omega)], (World.block_lt_of_cell? w ⟨a.block, a.off + k * 4, none⟩ h1 : a.block < w.heap.size), h1, h2, h3, h4⟩
    · exact (hlp k t hk).2
end
set_option maxRecDepth 100000 in
theorem values_arg {H : Type} {enc : TypeId × Value → H} {W : World} {r : Reach} {b0 : Nat} {v : Value} {d : DataW H} {p : List MemPlace} (hv : Value.okWide Try.prog W r b0 22 v)
    (h : DataW.Trod enc Try.prog W 0 (fun _ => true) true 22 v d p) : ∃ (A : Option Addr) (n c : Nat) (T : List V), v = .slice A n c ∧ n ≤ c ∧ c ≤ maxLen ∧ Vls W A n T ∧ (∀ t ∈ T, t.ok) ∧ ∀ t ∈ T, t.s.length ≤ maxLen := by
  obtain ⟨a0, len, cap, rfl⟩ := okWide_slice Try.underlying22 hv
  obtain ⟨fuel, hf⟩ := h
  obtain ⟨A, n, c, T, e, h1, h2, h3, h4⟩ := open_vals (ti := 3) (tu := 44) (tn := 2) (ts := 9) Try.underlying22 Try.underlying46 (by kernel_rfl) (by kernel_rfl) rfl rfl rfl rfl Try.underlying3 Try.underlying44 Try.underlying2 Try.underlying9 (by simpa [Value.cells] using hf)
  refine ⟨A, n, c, T, e, h1, h2, h3, fun t ht => ?_, fun t ht => ?_⟩
  · obtain ⟨k, hk⟩ := List.getElem?_of_mem ht
    exact (h4 k t hk).1
  · obtain ⟨k, hk⟩ := List.getElem?_of_mem ht
    exact (h4 k t hk).2
end Go.Proofs.Ytcoohjjjiakdjaa
