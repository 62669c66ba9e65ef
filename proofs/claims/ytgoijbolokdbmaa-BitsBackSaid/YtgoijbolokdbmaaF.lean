/-
  A slice of acts, read; 'long'.
-/
import Derived.Test.YtgoijbolokdbmaaE
import Derived.Test.YtgoijbolokdbmaaR
import Derived.Deep.Slices
import Derived.Deep.Fields
namespace Go.Proofs.Ytgoijbolokdbmaa
open Go.ChangeShapes Go.WideShapes Go.RowKit Go.Deep BitsM Mem

/-- an act, as its cells hold it -/
structure ActD where
  d : Nat
  N : Int
  X : Nat
  A : Option Addr
  n : Nat
  c : Nat
  B : List UInt8

/-- the cells of an act -/
structure ActAt (w : World) (b o : Nat) (x : ActD) : Prop where
  c0 : w.cell? ⟨b, o, none⟩ = some (.int .u8 (x.d : Int))
  c1 : w.cell? ⟨b, o + 1, none⟩ = some (.int .i64 x.N)
  c2 : w.cell? ⟨b, o + 2, none⟩ = some (.int .u64 (x.X : Int))
  c3 : w.cell? ⟨b, o + 3, none⟩ = some (.slice x.A x.n x.c)
  d : x.d < 256
  N0 : -9223372036854775808 ≤ x.N
  N1 : x.N ≤ 9223372036854775807
  X : x.X < 18446744073709551616
  r : Rd w x.A x.n (x.B.map bytec)
  nc : x.n ≤ x.c
  cm : x.c ≤ maxLen

def Acts (w : World) (A : Option Addr) (n : Nat) (l : List ActD) : Prop :=
  l.length = n ∧ (0 < n → ∃ b o, A = some ⟨b, o, none⟩ ∧ ∀ i x, l[i]? = some x → ActAt w b (o + i * 4) x)

theorem ActAt.fr {w w' : World} {b o : Nat} {x : ActD} (h : ActAt w b o x) (hf : Fr (fun _ => False) w w') : ActAt w' b o x :=
  ⟨hf.cell h.c0 (fun h => h), hf.cell h.c1 (fun h => h), hf.cell h.c2 (fun h => h), hf.cell h.c3 (fun h => h), h.d, h.N0, h.N1, h.X, h.r.fr hf (fun _ _ h => h), h.nc, h.cm⟩
theorem Acts.fr {w w' : World} {A : Option Addr} {n : Nat} {l : List ActD} (h : Acts w A n l) (hf : Fr (fun _ => False) w w') : Acts w' A n l :=
  ⟨h.1, fun hn => by
    obtain ⟨b, o, hA, hx⟩ := h.2 hn
    exact ⟨b, o, hA, fun i x hi => (hx i x hi).fr hf⟩⟩
theorem Acts.at_ {w : World} {A : Option Addr} {n : Nat} {l : List ActD} (h : Acts w A n l) {k : Nat} (hk : k < n) : ∃ b o x, A = some ⟨b, o, none⟩ ∧ l[k]? = some x ∧ ActAt w b (o + k * 4) x := by
  obtain ⟨b, o, hA, hx⟩ := h.2 (by omega)
  have hl : k < l.length := by rw [h.1]; exact hk
  exact ⟨b, o, l[k], hA, List.getElem?_eq_getElem hl, hx k _ (List.getElem?_eq_getElem hl)⟩

theorem choose_list {α : Type} (n : Nat) (p : Nat → α → Prop) (h : ∀ i, i < n → ∃ x, p i x) : ∃ l : List α, l.length = n ∧ ∀ i x, l[i]? = some x → p i x := by
  induction n with
  | zero => exact ⟨[], rfl, fun i x hx => by simp at hx⟩
  | succ n ih =>
    obtain ⟨l, hl, hp⟩ := ih (fun i hi => h i (by omega))
    obtain ⟨x, hx⟩ := h n (by omega)
    refine ⟨l ++ [x], by simp [hl], fun i y hy => ?_⟩
    by_cases hi : i < n
    · rw [List.getElem?_append_left (by omega)] at hy
      exact hp i y hy
    · have hlt := (List.getElem?_eq_some_iff.1 hy).1
      simp at hlt
      obtain rfl : i = n := by omega
      rw [List.getElem?_append_right (by omega), hl, Nat.sub_self] at hy
      simp at hy
      subst hy
      exact hx

section
variable {H : Type} {enc : TypeId × Value → H} {P : Program} {w : World} {base : Nat} {held : Bool}
/-- a []uint8 -/
theorem open_u8s {t e : TypeId} {fuel : Nat} {v : Value} {x : DataW H × List MemPlace} (ht : P.underlying t = some (.slice e)) (he : P.underlying e = some (.int .u8)) (hc : P.cellsOf e = 1)
    (h : DataW.trod enc P w base (fun _ => true) held fuel t [v] = some x) : ∃ (A : Option Addr) (n c : Nat) (B : List UInt8), v = .slice A n c ∧ n ≤ c ∧ c ≤ maxLen ∧ Rd w A n (B.map bytec) := by
  rcases open_ints ht he hc h with ⟨hcs, _⟩ | ⟨a, len, cap, zs, hcs, _, hl, hm, hz, _, hcell, hw⟩
  · injection hcs with hcs
    exact ⟨none, 0, 0, [], hcs, Nat.le_refl _, Nat.zero_le _, Rd.nil w none⟩
  · injection hcs with hcs
    simp at hz
    refine ⟨some a, len, cap, (zs.take len).map (fun z => UInt8.ofNat z.toNat), hcs, hl, hm, ?_, fun hn => ⟨a, rfl, fun j u hu => ?_⟩⟩
    · simp; omega
    · have hj := (List.getElem?_eq_some_iff.1 hu).1
      simp at hj
      rw [hcell j (by omega)]
      rw [← hu]
      simp only [List.map_map, List.getElem?_map]
      rw [List.getElem?_take, if_pos (by omega), List.getElem?_eq_getElem (by omega)]
      have hb := bounds_u8 (hw zs[j] (List.getElem_mem (by omega)))
      simp [bytec, List.getElem?_eq_getElem (show j < zs.length by omega)]
      omega

theorem open_acts {t e tu tn tx tb : TypeId} {f0 f1 f2 f3 : Field} {fuel : Nat} {v : Value} {x : DataW H × List MemPlace} (ht : P.underlying t = some (.slice e)) (he : P.underlying e = some (.struct #[f0, f1, f2, f3]))
    (hone : oneCellFields P #[f0, f1, f2, f3] = true) (hC : P.cellsOf e = 4) (h0 : f0.type = tu) (h1 : f1.type = tn) (h2 : f2.type = tx) (h3 : f3.type = tb)
    (u0 : P.underlying tu = some (.int .u8)) (u1 : P.underlying tn = some (.int .i64)) (u2 : P.underlying tx = some (.int .u64)) (u3 : P.underlying tb = some (.slice tu)) (hc1 : P.cellsOf tu = 1)
    (h : DataW.trod enc P w base (fun _ => true) held fuel t [v] = some x) : ∃ (A : Option Addr) (n c : Nat) (l : List ActD), v = .slice A n c ∧ n ≤ c ∧ c ≤ maxLen ∧ Acts w A n l := by
  rcases open_slice ht h with ⟨hcs, _⟩ | ⟨a, len, cap, m, n, D, Pl, hcs, _, hl, hm, hmm, _, hi⟩
  · injection hcs with hcs
    exact ⟨none, 0, 0, [], hcs, Nat.le_refl _, Nat.zero_le _, rfl, fun h => absurd h (by omega)⟩
  · injection hcs with hcs
    simp at hmm
    subst hmm
    rw [hC] at hi
    have hplain : 0 < len → a = ⟨a.block, a.off, none⟩ := by
      intro hlen
      obtain ⟨cs', hc, _⟩ := hi 0 (by omega)
      obtain ⟨_, _, hat⟩ := World.cells?_some hc
      obtain ⟨bb, oo, spot⟩ := a
      have hcell := hat 0 (by omega)
      have hl4 : cs'.length = 4 := by obtain ⟨_, h, _⟩ := World.cells?_some hc; exact h
      rw [List.getElem?_eq_getElem (by omega)] at hcell
      have hspot : spot = none := by simpa [Addr.add] using World.cell?_spot hcell
      subst hspot
      rfl
    obtain ⟨l, hll, hlp⟩ := choose_list len (fun i x => ActAt w a.block (a.off + i * 4) x) (fun i hil => by
      obtain ⟨cs', hc, ht'⟩ := hi i (by omega)
      obtain ⟨_, hcl, hat⟩ := World.cells?_some hc
      have ha := hplain (by omega)
      have hadd : ∀ j, (a.add (i * 4)).add j = ⟨a.block, a.off + i * 4 + j, none⟩ := by
        intro j
        rw [ha]
        simp [Addr.add_lit]
      match cs', hcl with
      | [v0, v1, v2, v3], _ =>
        obtain ⟨xs, k, _, _, _, hxl, hf⟩ := DataW.trod_struct he ht'
        obtain ⟨o0, k0⟩ := hone_of hone 0 f0 rfl
        obtain ⟨o1, k1⟩ := hone_of hone 1 f1 rfl
        obtain ⟨o2, k2⟩ := hone_of hone 2 f2 rfl
        obtain ⟨o3, k3⟩ := hone_of hone 3 f3 rfl
        match xs, hxl with
        | [y0, y1, y2, y3], _ =>
          have g0 : DataW.trod enc P w base (fun _ => true) held k tu [v0] = some y0 := by have := hf 0 f0 rfl; rw [o0, k0, h0] at this; simpa using this
          have g1 : DataW.trod enc P w base (fun _ => true) held k tn [v1] = some y1 := by have := hf 1 f1 rfl; rw [o1, k1, h1] at this; simpa using this
          have g2 : DataW.trod enc P w base (fun _ => true) held k tx [v2] = some y2 := by have := hf 2 f2 rfl; rw [o2, k2, h2] at this; simpa using this
          have g3 : DataW.trod enc P w base (fun _ => true) held k tb [v3] = some y3 := by have := hf 3 f3 rfl; rw [o3, k3, h3] at this; simpa using this
          obtain ⟨n0, e0, _, q0⟩ := DataW.trod_int u0 g0
          obtain ⟨n1, e1, _, q1⟩ := DataW.trod_int u1 g1
          obtain ⟨n2, e2, _, q2⟩ := DataW.trod_int u2 g2
          obtain ⟨A3, m3, c3, B3, e3, hn3, hm3, hr3⟩ := open_u8s u3 u0 hc1 g3
          simp at e0 e1 e2
          subst e0 e1 e2 e3
          have b0 := bounds_u8 q0
          have b1 := bounds_i64 q1
          have b2 := bounds_u64 q2
          refine ⟨⟨n0.toNat, n1, n2.toNat, A3, m3, c3, B3⟩, ?_, ?_, ?_, ?_, by simp; omega, b1.1, b1.2, by simp; omega, hr3, hn3, hm3⟩
          · have := hat 0 (by omega)
            rw [hadd] at this
            simpa [Int.toNat_of_nonneg b0.1] using this
          · have := hat 1 (by omega)
            rw [hadd] at this
            simpa using this
          · have := hat 2 (by omega)
            rw [hadd] at this
            simpa [Int.toNat_of_nonneg b2.1] using this
          · have := hat 3 (by omega)
            rw [hadd] at this
            simpa using this)
    exact ⟨some a, len, m, l, hcs, hl, hm, hll, fun hn => ⟨a.block, a.off, by rw [← hplain hn], hlp⟩⟩
end

theorem acts_arg {H : Type} {enc : TypeId × Value → H} {W : World} {r : Reach} {b0 : Nat} {v : Value} {d : DataW H} {p : List MemPlace} (hv : Value.okWide Try.prog W r b0 22 v)
    (h : DataW.Trod enc Try.prog W 0 (fun _ => true) true 22 v d p) : ∃ (A : Option Addr) (n c : Nat) (l : List ActD), v = .slice A n c ∧ n ≤ c ∧ c ≤ maxLen ∧ Acts W A n l := by
  obtain ⟨a0, len, cap, rfl⟩ := okWide_slice Try.underlying22 hv
  obtain ⟨fuel, hf⟩ := h
  exact open_acts (tu := 5) (tn := 3) (tx := 28) (tb := 25) Try.underlying22 Try.underlying30 (by kernel_rfl) (by kernel_rfl) rfl rfl rfl rfl Try.underlying5 Try.underlying3 Try.underlying28 Try.underlying25 (by kernel_rfl) (by simpa [Value.cells] using hf)
theorem bytes_arg {H : Type} {enc : TypeId × Value → H} {W : World} {r : Reach} {b0 : Nat} {v : Value} {d : DataW H} {p : List MemPlace} (hv : Value.okWide Try.prog W r b0 25 v)
    (h : DataW.Trod enc Try.prog W 0 (fun _ => true) true 25 v d p) : ∃ (A : Option Addr) (n c : Nat) (B : List UInt8), v = .slice A n c ∧ n ≤ c ∧ c ≤ maxLen ∧ Rd W A n (B.map bytec) := by
  obtain ⟨a0, len, cap, rfl⟩ := okWide_slice Try.underlying25 hv
  obtain ⟨fuel, hf⟩ := h
  exact open_u8s Try.underlying25 Try.underlying5 (by kernel_rfl) (by simpa [Value.cells] using hf)

/-- is there more than is looked at? -/
def longB (l : List ActD) : Bool := decide (300 < l.length) || l.any fun x => decide (100 < x.n)

set_option maxHeartbeats 400000 in
theorem long_any (A : Option Addr) (n c : Nat) (l : List ActD) (w : World) (hl : Acts w A n l) (_hc : n ≤ c) (_hm : c ≤ maxLen) :
    Calls Try.prog 9 #[.slice A n c] w fun e w' => e = .returned (.bool (longB l)) ∧ w = w' := by
  have hm := _hm
  unfold maxLen at hm
  by_cases hbig : 300 < n
  · have hb : longB l = true := by simp [longB, hl.1, hbig]
    rw [hb]
    go_enter Try.func9, Try.ntmps9
    go_wp2
    go_ret
    exact ⟨rfl, rfl⟩
  · have hb : longB l = l.any fun x => decide (100 < x.n) := by simp [longB, hl.1, hbig]
    rw [hb]
    clear hb
    have HL := Lib.hid hl
    clear hl
    go_enter Try.func9, Try.ntmps9
    go_wp2
    go_loop [3] (fun i => ∃ k : Nat, k ≤ n ∧ i = .int .i64 k ∧ Hid ((l.take k).any (fun x => decide (100 < x.n)) = false)) (fun i => n - (intOf i).toNat)
    case atStart => exact ⟨0, by omega, rfl, rfl⟩
    case round =>
      obtain ⟨k, hk, rfl, Hk⟩ := hrel
      by_cases hlt : k < n
      · obtain ⟨b, o, x, rfl, hx, hat⟩ := HL.out.at_ hlt
        have h3 := hat.c3
        have hxc := hat.nc
        have hxm := hat.cm
        unfold maxLen at hxm
        have Hx := Lib.hid hx
        clear hx hat
        by_cases h100 : 100 < x.n
        · go_wp2
          go_ret
          refine ⟨?_, rfl⟩
          have : l.any (fun x => decide (100 < x.n)) = true := List.any_eq_true.2 ⟨x, List.mem_of_getElem? Hx.out, by simpa using h100⟩
          rw [this]
          rfl
        · go_wp2
          go_round
          case rel =>
            refine ⟨k + 1, by omega, by go_num, ?_⟩
            show _ = _
            rw [List.take_add_one, Hx.out, List.any_append, Hk.out]
            simp; omega
          case measure => simp [intOf] <;> omega
      · go_wp2
        go_ret
        have h := Hk.out
        rw [List.take_of_length_le (by have := HL.out.1; omega)] at h
        rw [h]
        exact ⟨rfl, rfl⟩

theorem longB_len {l : List ActD} (h : longB l = false) : l.length ≤ 300 := by
  simp only [longB, Bool.or_eq_false_iff, decide_eq_false_iff_not] at h
  omega
theorem longB_at {l : List ActD} (h : longB l = false) {k : Nat} {x : ActD} (hx : l[k]? = some x) : x.n ≤ 100 := by
  simp only [longB, Bool.or_eq_false_iff, List.any_eq_false, decide_eq_true_eq] at h
  have := h.2 x (List.mem_of_getElem? hx)
  omega
end Go.Proofs.Ytgoijbolokdbmaa
