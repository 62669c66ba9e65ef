/-
  Layer 11's rows: an argument that is a slice of cells, of words, read (written by gen11.py out of rleAr.src).
-/
import Derived.Test.YtcoohjjjiakdjaaZm02
import Derived.Deep.Slices
import Derived.Deep.Fields
namespace Go.Proofs.Ytcoohjjjiakdjaa
open Go.ChangeShapes Go.WideShapes Go.RowKit Go.Deep Mem

theorem choose_list {α : Type} (n : Nat) (p : Nat → α → Prop) (h : ∀ i, i < n → ∃ x, p i x) : ∃ l : List α, l.length = n ∧ ∀ i x, l[i]? = some x → p i x := by
  induction n with
  | zero => exact ⟨[], rfl, fun i x hx => by simp at hx⟩
  | succ n ih =>
    obtain ⟨l, hl, hp⟩ := ih (fun i hi => h i (by omega))
    obtain ⟨x, hx⟩ := h n (by omega)
    refine ⟨l ++ [x], by simp [hl], fun i y hy => ?_⟩
    by_cases hi : i < n
    · rw [List.getElem?_append_left (by omega)] at hy
      exact hp i y hy
    · have hlt := (List.getElem?_eq_some_iff.1 hy).1
      simp at hlt
      obtain rfl : i = n := by omega
      rw [List.getElem?_append_right (by omega), hl, Nat.sub_self] at hy
      simp at hy
      subst hy
      exact hx
theorem txt_data (s : ByteArray) : txt s.data.toList = s := by
  cases s
  simp [txt]

section
variable {H : Type} {enc : TypeId × Value → H} {P : Program} {w : World} {base : Nat} {held : Bool}
theorem open_cellsC {t e tb tn : TypeId} {f0 f1 : Field} {fuel : Nat} {v : Value} {x : DataW H × List MemPlace} (ht : P.underlying t = some (.slice e)) (he : P.underlying e = some (.struct #[f0, f1]))
    (hone : oneCellFields P #[f0, f1] = true) (hC : P.cellsOf e = 2) (h0 : f0.type = tb) (h1 : f1.type = tn)
    (u0 : P.underlying tb = some .bool) (u1 : P.underlying tn = some (.int .i64))
    (h : DataW.trod enc P w base (fun _ => true) held fuel t [v] = some x) : ∃ (A : Option Addr) (n c : Nat) (T : List (Bool × Int)), v = .slice A n c ∧ n ≤ c ∧ c ≤ maxLen ∧ Cls nv w A n T ∧ ∀ (k : Nat) (t : Bool × Int), T[k]? = some t → -9223372036854775808 ≤ t.2 ∧ t.2 < 9223372036854775808 := by
  rcases open_slice ht h with ⟨hcs, _⟩ | ⟨a, len, cap, m, n, D, Pl, hcs, _, hl, hm, hmm, _, hi⟩
  · injection hcs with hcs
    exact ⟨none, 0, 0, [], hcs, Nat.le_refl _, Nat.zero_le _, Cls.nil _ _, fun k t h => by simp at h⟩
  · injection hcs with hcs
    simp at hmm
    subst hmm
    rw [hC] at hi
    have hplain : 0 < len → a = ⟨a.block, a.off, none⟩ := by
      intro hlen
      obtain ⟨cs', hc, _⟩ := hi 0 (by omega)
      obtain ⟨_, _, hat⟩ := World.cells?_some hc
      obtain ⟨bb, oo, spot⟩ := a
      have hcell := hat 0 (by omega)
      have hl4 : cs'.length = 2 := by obtain ⟨_, h, _⟩ := World.cells?_some hc; exact h
      rw [List.getElem?_eq_getElem (by omega)] at hcell
      have hspot : spot = none := by simpa [Addr.add] using World.cell?_spot hcell
      subst hspot
      rfl
    obtain ⟨l, hll, hlp⟩ := choose_list len (fun i (x : Bool × Int) => w.cell? ⟨a.block, a.off + i * 2, none⟩ = some (.bool x.1) ∧ w.cell? ⟨a.block, a.off + i * 2 + 1, none⟩ = some (nv x.2) ∧ -9223372036854775808 ≤ x.2 ∧ x.2 < 9223372036854775808) (fun i hil => by
      obtain ⟨cs', hc, ht'⟩ := hi i (by omega)
      obtain ⟨_, hcl, hat⟩ := World.cells?_some hc
      have ha := hplain (by omega)
      have hadd : ∀ j, (a.add (i * 2)).add j = ⟨a.block, a.off + i * 2 + j, none⟩ := by
        intro j
        rw [ha]
        simp [Addr.add_lit]
      match cs', hcl with
      | [v0, v1], _ =>
        obtain ⟨xs, k, _, _, _, hxl, hf⟩ := DataW.trod_struct he ht'
        obtain ⟨o0, k0⟩ := hone_of hone 0 f0 rfl
        obtain ⟨o1, k1⟩ := hone_of hone 1 f1 rfl
        match xs, hxl with
        | [y0, y1], _ =>
          have g0 : DataW.trod enc P w base (fun _ => true) held k tb [v0] = some y0 := by have := hf 0 f0 rfl; rw [o0, k0, h0] at this; simpa using this
          have g1 : DataW.trod enc P w base (fun _ => true) held k tn [v1] = some y1 := by have := hf 1 f1 rfl; rw [o1, k1, h1] at this; simpa using this
          obtain ⟨n0, e0, _⟩ := DataW.trod_bool u0 g0
          simp at e0
          subst e0
          obtain ⟨n1, e1, _, q1⟩ := DataW.trod_int u1 g1
          simp at e1
          subst e1
          have b1 := bounds_i64 q1
          refine ⟨(n0, n1), ?_, ?_, b1.1, by have h := b1.2; show n1 < _; omega⟩
          · have := hat 0 (by omega)
            rw [hadd] at this
            simpa using this
          · have := hat 1 (by omega)
            rw [hadd] at this
            simpa [nv] using this)
    refine ⟨some a, len, m, l, hcs, hl, hm, ⟨hll, fun k t hk => ?_⟩, fun k t hk => ?_⟩
    · have hkl := (List.getElem?_eq_some_iff.1 hk).1
      obtain ⟨h1, h2, _⟩ := hlp k t hk
      exact ⟨a.block, a.off, by rw [← hplain (by omega)], (World.block_lt_of_cell? w ⟨a.block, a.off + k * 2, none⟩ h1 : a.block < w.heap.size), h1, h2⟩
    · exact (hlp k t hk).2.2
end
set_option maxRecDepth 100000 in
theorem cells_arg {H : Type} {enc : TypeId × Value → H} {W : World} {r : Reach} {b0 : Nat} {v : Value} {d : DataW H} {p : List MemPlace} (hv : Value.okWide Try.prog W r b0 37 v)
    (h : DataW.Trod enc Try.prog W 0 (fun _ => true) true 37 v d p) : ∃ (A : Option Addr) (n c : Nat) (T : List (Bool × Int)), v = .slice A n c ∧ n ≤ c ∧ c ≤ maxLen ∧ Cls nv W A n T ∧ ∀ (k : Nat) (t : Bool × Int), T[k]? = some t → -9223372036854775808 ≤ t.2 ∧ t.2 < 9223372036854775808 := by
  obtain ⟨a0, len, cap, rfl⟩ := okWide_slice Try.underlying37 hv
  obtain ⟨fuel, hf⟩ := h
  exact open_cellsC (tb := 4) (tn := 2) Try.underlying37 Try.underlying50 (by kernel_rfl) (by kernel_rfl) rfl rfl Try.underlying4 Try.underlying2 (by simpa [Value.cells] using hf)
section
variable {H : Type} {enc : TypeId × Value → H} {P : Program} {w : World} {base : Nat} {held : Bool}
theorem open_cellsW {t e tb tn : TypeId} {f0 f1 : Field} {fuel : Nat} {v : Value} {x : DataW H × List MemPlace} (ht : P.underlying t = some (.slice e)) (he : P.underlying e = some (.struct #[f0, f1]))
    (hone : oneCellFields P #[f0, f1] = true) (hC : P.cellsOf e = 2) (h0 : f0.type = tb) (h1 : f1.type = tn)
    (u0 : P.underlying tb = some .bool) (u1 : P.underlying tn = some .string)
    (h : DataW.trod enc P w base (fun _ => true) held fuel t [v] = some x) : ∃ (A : Option Addr) (n c : Nat) (T : List (Bool × List UInt8)), v = .slice A n c ∧ n ≤ c ∧ c ≤ maxLen ∧ Cls sv w A n T ∧ ∀ (k : Nat) (t : Bool × List UInt8), T[k]? = some t → t.2.length ≤ maxLen := by
  rcases open_slice ht h with ⟨hcs, _⟩ | ⟨a, len, cap, m, n, D, Pl, hcs, _, hl, hm, hmm, _, hi⟩
  · injection hcs with hcs
    exact ⟨none, 0, 0, [], hcs, Nat.le_refl _, Nat.zero_le _, Cls.nil _ _, fun k t h => by simp at h⟩
  · injection hcs with hcs
    simp at hmm
    subst hmm
    rw [hC] at hi
    have hplain : 0 < len → a = ⟨a.block, a.off, none⟩ := by
      intro hlen
      obtain ⟨cs', hc, _⟩ := hi 0 (by omega)
      obtain ⟨_, _, hat⟩ := World.cells?_some hc
      obtain ⟨bb, oo, spot⟩ := a
      have hcell := hat 0 (by omega)
      have hl4 : cs'.length = 2 := by obtain ⟨_, h, _⟩ := World.cells?_some hc; exact h
      rw [List.getElem?_eq_getElem (by omega)] at hcell
      have hspot : spot = none := by simpa [Addr.add] using World.cell?_spot hcell
      subst hspot
      rfl
    obtain ⟨l, hll, hlp⟩ := choose_list len (fun i (x : Bool × List UInt8) => w.cell? ⟨a.block, a.off + i * 2, none⟩ = some (.bool x.1) ∧ w.cell? ⟨a.block, a.off + i * 2 + 1, none⟩ = some (sv x.2) ∧ x.2.length ≤ maxLen) (fun i hil => by
      obtain ⟨cs', hc, ht'⟩ := hi i (by omega)
      obtain ⟨_, hcl, hat⟩ := World.cells?_some hc
      have ha := hplain (by omega)
      have hadd : ∀ j, (a.add (i * 2)).add j = ⟨a.block, a.off + i * 2 + j, none⟩ := by
        intro j
        rw [ha]
        simp [Addr.add_lit]
      match cs', hcl with
      | [v0, v1], _ =>
        obtain ⟨xs, k, _, _, _, hxl, hf⟩ := DataW.trod_struct he ht'
        obtain ⟨o0, k0⟩ := hone_of hone 0 f0 rfl
        obtain ⟨o1, k1⟩ := hone_of hone 1 f1 rfl
        match xs, hxl with
        | [y0, y1], _ =>
          have g0 : DataW.trod enc P w base (fun _ => true) held k tb [v0] = some y0 := by have := hf 0 f0 rfl; rw [o0, k0, h0] at this; simpa using this
          have g1 : DataW.trod enc P w base (fun _ => true) held k tn [v1] = some y1 := by have := hf 1 f1 rfl; rw [o1, k1, h1] at this; simpa using this
          obtain ⟨n0, e0, _⟩ := DataW.trod_bool u0 g0
          simp at e0
          subst e0
          obtain ⟨n1, e1, _, q1⟩ := DataW.trod_string u1 g1
          simp at e1
          subst e1
          refine ⟨(n0, n1.data.toList), ?_, ?_, q1⟩
          · have := hat 0 (by omega)
            rw [hadd] at this
            simpa using this
          · have := hat 1 (by omega)
            rw [hadd] at this
            show _ = some (Value.string (txt n1.data.toList))
            rw [txt_data]
            simpa using this)
    refine ⟨some a, len, m, l, hcs, hl, hm, ⟨hll, fun k t hk => ?_⟩, fun k t hk => ?_⟩
    · have hkl := (List.getElem?_eq_some_iff.1 hk).1
      obtain ⟨h1, h2, _⟩ := hlp k t hk
      exact ⟨a.block, a.off, by rw [← hplain (by omega)], (World.block_lt_of_cell? w ⟨a.block, a.off + k * 2, none⟩ h1 : a.block < w.heap.size), h1, h2⟩
    · exact (hlp k t hk).2.2
end
end Go.Proofs.Ytcoohjjjiakdjaa
