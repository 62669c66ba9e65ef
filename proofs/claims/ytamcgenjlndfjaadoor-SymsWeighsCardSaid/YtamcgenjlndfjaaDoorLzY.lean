/-
  Layer 6's rows: an argument that is a slice of tokens, read.
-/
import Derived.Test.YtamcgenjlndfjaaDoorLzTk
import Derived.Deep.Slices
import Derived.Deep.Fields
namespace Go.Proofs.YtamcgenjlndfjaaDoor
open Go.ChangeShapes Go.WideShapes Go.RowKit Go.Deep LzM Mem

theorem choose_toks {α : Type} (n : Nat) (p : Nat → α → Prop) (h : ∀ i, i < n → ∃ x, p i x) : ∃ l : List α, l.length = n ∧ ∀ i x, l[i]? = some x → p i x := by
  induction n with
  | zero => exact ⟨[], rfl, fun i x hx => by simp at hx⟩
  | succ n ih =>
    obtain ⟨l, hl, hp⟩ := ih (fun i hi => h i (by omega))
    obtain ⟨x, hx⟩ := h n (by omega)
    refine ⟨l ++ [x], by simp [hl], fun i y hy => ?_⟩
    by_cases hi : i < n
    · rw [List.getElem?_append_left (by omega)] at hy
      exact hp i y hy
    · have hlt := (List.getElem?_eq_some_iff.1 hy).1
      simp at hlt
      obtain rfl : i = n := by omega
      rw [List.getElem?_append_right (by omega), hl, Nat.sub_self] at hy
      simp at hy
      subst hy
      exact hx

section
variable {H : Type} {enc : TypeId × Value → H} {P : Program} {w : World} {base : Nat} {held : Bool}
theorem open_toks {t e tu tn : TypeId} {f0 f1 f2 : Field} {fuel : Nat} {v : Value} {x : DataW H × List MemPlace} (ht : P.underlying t = some (.slice e)) (he : P.underlying e = some (.struct #[f0, f1, f2]))
    (hone : oneCellFields P #[f0, f1, f2] = true) (hC : P.cellsOf e = 3) (h0 : f0.type = tu) (h1 : f1.type = tn) (h2 : f2.type = tn)
    (u0 : P.underlying tu = some (.int .u8)) (u1 : P.underlying tn = some (.int .i64))
    (h : DataW.trod enc P w base (fun _ => true) held fuel t [v] = some x) : ∃ (A : Option Addr) (n c : Nat) (T : List Tok), v = .slice A n c ∧ n ≤ c ∧ c ≤ maxLen ∧ Toks w A n T := by
  rcases open_slice ht h with ⟨hcs, _⟩ | ⟨a, len, cap, m, n, D, Pl, hcs, _, hl, hm, hmm, _, hi⟩
  · injection hcs with hcs
    exact ⟨none, 0, 0, [], hcs, Nat.le_refl _, Nat.zero_le _, rfl, fun k t h => by simp at h⟩
  · injection hcs with hcs
    simp at hmm
    subst hmm
    rw [hC] at hi
    have hplain : 0 < len → a = ⟨a.block, a.off, none⟩ := by
      intro hlen
      obtain ⟨cs', hc, _⟩ := hi 0 (by omega)
      obtain ⟨_, _, hat⟩ := World.cells?_some hc
      obtain ⟨bb, oo, spot⟩ := a
      have hcell := hat 0 (by omega)
      have hl4 : cs'.length = 3 := by obtain ⟨_, h, _⟩ := World.cells?_some hc; exact h
      rw [List.getElem?_eq_getElem (by omega)] at hcell
      have hspot : spot = none := by simpa [Addr.add] using World.cell?_spot hcell
      subst hspot
      rfl
    obtain ⟨l, hll, hlp⟩ := choose_toks len (fun i (x : Tok) => w.cell? ⟨a.block, a.off + i * 3, none⟩ = some (bytec x.b) ∧ w.cell? ⟨a.block, a.off + i * 3 + 1, none⟩ = some (.int .i64 x.l) ∧ w.cell? ⟨a.block, a.off + i * 3 + 2, none⟩ = some (.int .i64 x.d)) (fun i hil => by
      obtain ⟨cs', hc, ht'⟩ := hi i (by omega)
      obtain ⟨_, hcl, hat⟩ := World.cells?_some hc
      have ha := hplain (by omega)
      have hadd : ∀ j, (a.add (i * 3)).add j = ⟨a.block, a.off + i * 3 + j, none⟩ := by
        intro j
        rw [ha]
        simp [Addr.add_lit]
      match cs', hcl with
      | [v0, v1, v2], _ =>
        obtain ⟨xs, k, _, _, _, hxl, hf⟩ := DataW.trod_struct he ht'
        obtain ⟨o0, k0⟩ := hone_of hone 0 f0 rfl
        obtain ⟨o1, k1⟩ := hone_of hone 1 f1 rfl
        obtain ⟨o2, k2⟩ := hone_of hone 2 f2 rfl
        match xs, hxl with
        | [y0, y1, y2], _ =>
          have g0 : DataW.trod enc P w base (fun _ => true) held k tu [v0] = some y0 := by have := hf 0 f0 rfl; rw [o0, k0, h0] at this; simpa using this
          have g1 : DataW.trod enc P w base (fun _ => true) held k tn [v1] = some y1 := by have := hf 1 f1 rfl; rw [o1, k1, h1] at this; simpa using this
          have g2 : DataW.trod enc P w base (fun _ => true) held k tn [v2] = some y2 := by have := hf 2 f2 rfl; rw [o2, k2, h2] at this; simpa using this
          obtain ⟨n0, e0, _, q0⟩ := DataW.trod_int u0 g0
          obtain ⟨n1, e1, _, q1⟩ := DataW.trod_int u1 g1
          obtain ⟨n2, e2, _, q2⟩ := DataW.trod_int u1 g2
          simp at e0 e1 e2
          subst e0 e1 e2
          have b0 := bounds_u8 q0
          refine ⟨⟨UInt8.ofNat n0.toNat, n1, n2⟩, ?_, ?_, ?_⟩
          · have := hat 0 (by omega)
            rw [hadd] at this
            have hn0 : ((UInt8.ofNat n0.toNat).toNat : Int) = n0 := by simp; omega
            show _ = some (Value.int .u8 ((UInt8.ofNat n0.toNat).toNat : Int))
            rw [hn0]
            simpa using this
          · have := hat 1 (by omega)
            rw [hadd] at this
            simpa using this
          · have := hat 2 (by omega)
            rw [hadd] at this
            simpa using this)
    refine ⟨some a, len, m, l, hcs, hl, hm, hll, fun k t hk => ?_⟩
    have hkl := (List.getElem?_eq_some_iff.1 hk).1
    obtain ⟨h1, h2, h3⟩ := hlp k t hk
    exact ⟨a.block, a.off, by rw [← hplain (by omega)], (World.block_lt_of_cell? w ⟨a.block, a.off + k * 3, none⟩ h1 : a.block < w.heap.size), h1, h2, h3⟩
end

theorem toks_arg {H : Type} {enc : TypeId × Value → H} {W : World} {r : Reach} {b0 : Nat} {v : Value} {d : DataW H} {p : List MemPlace} (hv : Value.okWide Tryd.prog W r b0 40 v)
    (h : DataW.Trod enc Tryd.prog W 0 (fun _ => true) true 40 v d p) : ∃ (A : Option Addr) (n c : Nat) (T : List Tok), v = .slice A n c ∧ n ≤ c ∧ c ≤ maxLen ∧ Toks W A n T := by
  obtain ⟨a0, len, cap, rfl⟩ := okWide_slice Tryd.underlying40 hv
  obtain ⟨fuel, hf⟩ := h
  exact open_toks (tu := 5) (tn := 3) Tryd.underlying40 Tryd.underlying43 (by kernel_rfl) (by kernel_rfl) rfl rfl rfl Tryd.underlying5 Tryd.underlying3 (by simpa [Value.cells] using hf)
end Go.Proofs.YtamcgenjlndfjaaDoor
