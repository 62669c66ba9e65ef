/-
  Layer 20's rows: an argument that is a change, read.
  Layer 20: ops that speak of a table's actors.
-/
import Derived.Test.YtbnkahjmeobblaaHeN
import Derived.Test.YtbnkahjmeobblaaZm45
import Derived.OpenShut
namespace Go.Proofs.Ytbnkahjmeobblaa
open Go.ChangeShapes Go.WideShapes Go.RowKit Go.Deep Mem LebM UtfM VaM OpM AcM HeM
set_option linter.unusedVariables false
set_option maxRecDepth 100000

section
variable {H : Type} {enc : TypeId × Value → H} {w : World} {base : Nat} {held : Bool}
theorem ce_u8 : Try.prog.cellsOf 5 = 1 := by kernel_rfl
theorem ce_hash : Try.prog.cellsOf 60 = 32 := by kernel_rfl
theorem ce_hashes : Try.prog.cellsOf 22 = 1 := by kernel_rfl
theorem ce_ops : Try.prog.cellsOf 23 = 1 := by kernel_rfl
theorem ce_ch : Try.prog.cellsOf 25 = 7 := by kernel_rfl
theorem at_hash {k : Nat} {cs : List Value} {x : DataW H × List MemPlace} (h : DataW.trod enc Try.prog w base (fun _ => true) held k 60 cs = some x) : ∃ y : Tx, cs = y.map bytec ∧ y.length = 32 := by
  obtain ⟨xs, m, _, _, hl, hxl, hx⟩ := DataW.trod_array Try.underlying60 h
  rw [ce_hash] at hl
  rw [ce_u8] at hx
  obtain ⟨y, hy, hp⟩ := pick_list 32 (fun i (b : UInt8) => cs[i]? = some (bytec b)) (fun i hi => by
    have h1 := hx i hi
    rw [Nat.mul_one] at h1
    have hci : cs[i]? = some (cs[i]'(by omega)) := List.getElem?_eq_getElem (by omega)
    have hcut : (cs.drop i).take 1 = [cs[i]'(by omega)] := by
      rw [List.drop_eq_getElem_cons (by omega)]
      rfl
    have hxi : xs[i]? = some (xs[i]'(by omega)) := List.getElem?_eq_getElem (by omega)
    rw [hcut, hxi] at h1
    obtain ⟨n, e, _, q⟩ := DataW.trod_int Try.underlying5 h1
    have b := bounds_u8 q
    injection e with e
    obtain ⟨u, rfl⟩ := Int.eq_ofNat_of_zero_le b.1
    refine ⟨UInt8.ofNat u, ?_⟩
    rw [hci, e]
    have hu : (UInt8.ofNat u).toNat = u := LebM.ofNat_toNat (by omega)
    unfold bytec
    rw [hu])
  refine ⟨y, ?_, hy⟩
  refine List.ext_getElem? fun i => ?_
  by_cases hi : i < 32
  · obtain ⟨b, hb⟩ : ∃ b, y[i]? = some b := ⟨_, List.getElem?_eq_getElem (by omega)⟩
    rw [hp i b hb, List.getElem?_map, hb]
    rfl
  · rw [List.getElem?_eq_none (by omega), List.getElem?_eq_none (by rw [List.length_map]; omega)]
theorem plain_of32 {a : Addr} {u : Value} (h : w.cell? ((a.add (0 * 32)).add 0) = some u) : a = ⟨a.block, a.off, none⟩ := by
  obtain ⟨bb, oo, spot⟩ := a
  have hspot : spot = none := World.cell?_spot h
  subst hspot
  rfl
theorem at_hashes {k : Nat} {cs : List Value} {x : DataW H × List MemPlace} (h : DataW.trod enc Try.prog w base (fun _ => true) held k 22 cs = some x) : ∃ (A : Option Addr) (n c : Nat) (L : List Tx), cs = [.slice A n c] ∧ n ≤ c ∧ c ≤ maxLen ∧ Hsh w A n L := by
  rcases open_slice Try.underlying22 h with ⟨hcs, _⟩ | ⟨a, len, cap, m, n, D, Pl, hcs, _, hl, hm, hmm, _, hi⟩
  · exact ⟨none, 0, 0, [], hcs, Nat.le_refl _, Nat.zero_le _, Hsh.nil _ _⟩
  · simp at hmm
    subst hmm
    rw [ce_hash] at hi
    have hplain : 0 < len → a = ⟨a.block, a.off, none⟩ := fun h0 => by
      obtain ⟨cs', hc, ht⟩ := hi 0 (by omega)
      obtain ⟨_, hat⟩ := cells_at hc
      obtain ⟨y, rfl, hy⟩ := at_hash ht
      have h1 := hat 0 (by omega)
      obtain ⟨b, hb⟩ : ∃ b, y[0]? = some b := ⟨_, List.getElem?_eq_getElem (by omega)⟩
      rw [List.getElem?_map, hb] at h1
      exact plain_of32 h1
    obtain ⟨L, hL, hp⟩ := pick_list len (fun i (y : Tx) => (∃ g o, some a = some ⟨g, o, none⟩ ∧ g < w.heap.size ∧ w.rangeAt g (o + i * 32) (y.map bytec)) ∧ y.length = 32) (fun i hil => by
      obtain ⟨cs', hc, ht⟩ := hi i (by omega)
      obtain ⟨_, hat⟩ := cells_at hc
      obtain ⟨y, rfl, hy⟩ := at_hash ht
      have hpl := hplain (by omega)
      have hr : w.rangeAt a.block (a.off + i * 32) (y.map bytec) := fun j v hv => by
        have hj : j < 32 := by have := (List.getElem?_eq_some_iff.1 hv).1; rwa [List.length_map, hy] at this
        have h1 := hat j hj
        rw [hpl, hv] at h1
        simp only [Addr.add_lit] at h1
        exact h1
      obtain ⟨b, hb⟩ : ∃ b, y[0]? = some b := ⟨_, List.getElem?_eq_getElem (by omega)⟩
      have h0 := hr 0 (bytec b) (by rw [List.getElem?_map, hb]; rfl)
      exact ⟨y, ⟨a.block, a.off, by rw [← hpl], World.block_lt_of_cell? w ⟨a.block, a.off + i * 32 + 0, none⟩ h0, hr⟩, hy⟩)
    refine ⟨some a, len, m, L, hcs, hl, hm, hL, fun y hy => ?_, fun i y hy => (hp i y hy).1⟩
    obtain ⟨i, hi⟩ := List.getElem?_of_mem hy
    exact (hp i y hi).2
end
theorem change_arg {H : Type} {enc : TypeId × Value → H} {W : World} {r : Reach} {b0 : Nat} {v : Value} {d : DataW H} {p : List MemPlace} (hv : Value.okWide Try.prog W r b0 25 v)
    (h : DataW.Trod enc Try.prog W 0 (fun _ => true) true 25 v d p) : ∃ (ch : Ch) (A : Option Addr) (k : Nat) (A6 : Option Addr) (n6 k6 : Nat) (L : List Om), v = chc ch A k A6 n6 k6 ∧ ChOk W ch A A6 n6 L := by
  obtain ⟨cs, rfl, _⟩ := okWide_struct Try.underlying25 hv
  obtain ⟨fuel, hf⟩ := h
  have hf : DataW.trod enc Try.prog W 0 (fun _ => true) true fuel 25 cs.toList = some (d, p) := by simpa [Value.cells] using hf
  obtain ⟨xs, n, _, _, hl, hxl, hx⟩ := DataW.trod_struct Try.underlying25 hf
  rw [ce_ch] at hl
  obtain ⟨cs⟩ := cs
  match cs, hl, xs, hxl with
  | [c0, c1, c2, c3, c4, c5, c6], _, [y0, y1, y2, y3, y4, y5, y6], _ =>
    have h0 : DataW.trod enc Try.prog W 0 (fun _ => true) true n 9 (([c0, c1, c2, c3, c4, c5, c6].drop 0).take (Try.prog.cellsOf 9)) = some y0 := hx 0 _ rfl
    have h1 : DataW.trod enc Try.prog W 0 (fun _ => true) true n 2 (([c0, c1, c2, c3, c4, c5, c6].drop 1).take (Try.prog.cellsOf 2)) = some y1 := hx 1 _ rfl
    have h2 : DataW.trod enc Try.prog W 0 (fun _ => true) true n 2 (([c0, c1, c2, c3, c4, c5, c6].drop 2).take (Try.prog.cellsOf 2)) = some y2 := hx 2 _ rfl
    have h3 : DataW.trod enc Try.prog W 0 (fun _ => true) true n 2 (([c0, c1, c2, c3, c4, c5, c6].drop 3).take (Try.prog.cellsOf 2)) = some y3 := hx 3 _ rfl
    have h4 : DataW.trod enc Try.prog W 0 (fun _ => true) true n 9 (([c0, c1, c2, c3, c4, c5, c6].drop 4).take (Try.prog.cellsOf 9)) = some y4 := hx 4 _ rfl
    have h5 : DataW.trod enc Try.prog W 0 (fun _ => true) true n 22 (([c0, c1, c2, c3, c4, c5, c6].drop 5).take (Try.prog.cellsOf 22)) = some y5 := hx 5 _ rfl
    have h6 : DataW.trod enc Try.prog W 0 (fun _ => true) true n 23 (([c0, c1, c2, c3, c4, c5, c6].drop 6).take (Try.prog.cellsOf 23)) = some y6 := hx 6 _ rfl
    rw [ce_str] at h0 h4
    rw [ce_int] at h1 h2 h3
    rw [ce_hashes] at h5
    rw [ce_ops] at h6
    obtain ⟨a, e0, l0⟩ := at_str (x := y0) (by simpa using h0)
    obtain ⟨q, e1, _⟩ := at_int (x := y1) (by simpa using h1)
    obtain ⟨s, e2, _⟩ := at_int (x := y2) (by simpa using h2)
    obtain ⟨t, e3, t0, t1⟩ := at_int (x := y3) (by simpa using h3)
    obtain ⟨m, e4, l4⟩ := at_str (x := y4) (by simpa using h4)
    obtain ⟨A, nd, k, D, e5, hk, hkm, hD⟩ := at_hashes (x := y5) (by simpa using h5)
    obtain ⟨A6, n6, k6, L, e6, h61, h62, h63, h64⟩ := at_ops (x := y6) (by simpa using h6)
    simp only [List.cons.injEq, and_true] at e0 e1 e2 e3 e4 e5 e6
    have hnd := hD.1
    subst hnd
    refine ⟨⟨a, q, s, t, m, D⟩, A, k, A6, n6, k6, L, ?_, hD, ⟨h63, fun y hy => (h64 y hy).2.2⟩, ?_, ?_, ?_, ?_, fun y hy => (h64 y hy).1, t0, t1⟩
    · unfold chc
      rw [e0, e1, e2, e3, e4, e5, e6]
    · exact l0
    · exact l4
    · exact Nat.le_trans hk hkm
    · exact Nat.le_trans h61 h62
end Go.Proofs.Ytbnkahjmeobblaa
namespace Go.Proofs.Ytbnkahjmeobblaa
open Go.RowKit Mem Go.Lib LebM UtfM VaM AcM OpM HeM
set_option linter.unusedVariables false

/-- an op that speaks of one actor -/
def opOf (x : Tx) : Om := ⟨⟨⟨1, x⟩, [], false, zeroN, false, 0, zeroV, []⟩, none, 0⟩
theorem names_opOf (O : List Tx) : namesM (O.map opOf) = O.map (fun x => ⟨1, x⟩) := by
  induction O with
  | nil => rfl
  | cons x O ih =>
    have h1 : zeroB ⟨1, x⟩ = false := by simp [zeroB, zeroN, eqN]
    have h2 : zeroB zeroN = true := by simp [zeroB, zeroN, eqN]
    have e : namesO (opOf x).o = [⟨1, x⟩] := by
      show List.filter (fun x => !zeroB x) [⟨1, x⟩, zeroN] = [⟨1, x⟩]
      simp [h1, h2]
    show namesO (opOf x).o ++ namesM (O.map opOf) = _
    rw [e, ih]
    rfl
theorem tab_opOf {a : Tx} {O : List Tx} (hr : Rise O) (ha : a ∉ O) : tabA a (namesM (O.map opOf)) = a :: O := by
  rw [names_opOf]
  unfold tabA
  rw [← others_uniq hr (a := a) (N := O.map (fun x => (⟨1, x⟩ : Nm))) (fun z => ?_)]
  constructor
  · intro hz
    exact ⟨fun e => ha (e ▸ hz), ⟨1, z⟩, List.mem_map.2 ⟨z, hz, rfl⟩, rfl⟩
  · rintro ⟨_, y, hy, rfl⟩
    obtain ⟨x, hx, rfl⟩ := List.mem_map.1 hy
    exact hx
theorem opOf_ok {O : List Tx} (hl : ∀ x ∈ O, 1 ≤ x.length ∧ x.length ≤ 16) : ∀ y ∈ O.map opOf, y.short ∧ y.o.pr.length ≤ 1000 := by
  intro y hy
  obtain ⟨x, hx, rfl⟩ := List.mem_map.1 hy
  have := hl x hx
  refine ⟨⟨?_, ?_, ?_, ?_, ?_, fun z hz => by cases hz⟩, Nat.zero_le _⟩
  · show x.length ≤ _; omega
  · exact Nat.zero_le _
  · exact Nat.zero_le _
  · exact Nat.zero_le _
  · exact Nat.zero_le _
theorem opOf_prd (w : World) (O : List Tx) : ∀ y ∈ O.map opOf, Prd w y := by
  intro y hy
  obtain ⟨x, hx, rfl⟩ := List.mem_map.1 hy
  exact ⟨Prs.nil _ _, Nat.le_refl _, Nat.zero_le _⟩
theorem OwnO.frS20 {S : Nat → Prop} {w w' : World} {base c : Nat} {A : Option Addr} {L : List Om} (h : OwnO w base A c L) (hf : Fr S w w') (hS : ∀ k, base ≤ k → ¬ S k) : OwnO w' base A c L := hf.own h (fun k hk => hS k (h.lt k hk).1)
theorem one_ge (O : List Tx) : O.length ≤ (O.flatMap oneA).length := by
  induction O with
  | nil => exact Nat.le_refl _
  | cons x O ih =>
    rw [List.length_cons, List.flatMap_cons, List.length_append]
    have : 1 ≤ (oneA x).length := by
      unfold oneA
      have := u_pos x.length
      rw [List.length_append]
      omega
    omega
theorem put_ge (ch : Ch) (O : List Tx) : O.length ≤ (putH ch (ch.a :: O)).length := by
  have h := one_ge O
  unfold putH
  rw [put_tab]
  simp only [List.length_append]
  omega
end Go.Proofs.Ytbnkahjmeobblaa
