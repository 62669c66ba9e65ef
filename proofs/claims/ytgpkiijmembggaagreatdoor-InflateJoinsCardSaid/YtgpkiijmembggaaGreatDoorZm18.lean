/-
  Contract of layer 5's reference Lengths, out of that of once.
  The library's sort at numbers: two pieces of a row change places (swapRange).
  The library's sort at numbers: two pieces that lie side by side change places (rotate); the comparison of two symbols' lengths.
  The comparison that orders symbols by their lengths.
-/
import Derived.Test.YtgpkiijmembggaaGreatDoorZm17
import Derived.Deep.DrawnRows
import Derived.StillTailTactics
import Derived.IntWalk
import Derived.Test.YtgpkiijmembggaaGreatDoorZm08
import Derived.Test.YtgpkiijmembggaaGreatDoorZm05
import Derived.Test.YtgpkiijmembggaaGreatDoorZm12
import Derived.BigRegion
import Derived.BigQuiet
import Derived.Deep.QuietTactic
namespace Go.Proofs.YtgpkiijmembggaaGreatDoor
open Go.RowKit HuffM Mem Go.Lib
attribute [local go_sem ↓] Go.wp_at_zero Go.wp_at_succ

theorem intT : ElemTy Tryz.prog 60 3 (.int .i64 0) 8 := ⟨Tryz.underlying60, by kernel_rfl, rfl⟩
theorem natc_one (l : List Nat) : ∀ u ∈ l.map natc, u.oneCell' = true := by
  intro u hu
  obtain ⟨b, _, rfl⟩ := List.mem_map.1 hu
  rfl
/-- the sum of a slice's numbers, as a measure -/
def rsumW (v : Value) (w : World) : Nat := match v with
  | .slice (some ad) n _ => ((List.range n).map fun i => (intOf ((w.cell? (ad.add i)).getD undef)).toNat).sum
  | _ => 0
theorem rsum_of {w : World} {A : Option Addr} {n c : Nat} {V : List Nat} (h : Rd w A n (V.map natc)) : rsumW (.slice A n c) w = V.sum := by
  have hl : V.length = n := by simpa using h.1
  cases A with
  | none =>
    rcases Nat.eq_zero_or_pos n with h0 | h0
    · subst h0
      rw [List.eq_nil_of_length_eq_zero hl]
      rfl
    · obtain ⟨ad, e, _⟩ := h.2 h0
      cases e
  | some ad =>
    show ((List.range n).map fun i => (intOf ((w.cell? (ad.add i)).getD undef)).toNat).sum = V.sum
    congr 1
    apply List.ext_getElem
    · simp [hl]
    · intro i h1 h2
      obtain ⟨ad', e, hc⟩ := h.2 (by omega)
      injection e with e
      subst e
      rw [List.getElem_map, List.getElem_range, hc i (natc V[i]) (by rw [List.getElem?_map, List.getElem?_eq_getElem h2]; rfl)]
      simp [natc, intOf]
theorem own_setI {w : World} {base : Nat} {e : TypeId} {g n c : Nat} {xs : List Value} (h : w.ownsRow base e 1 (.slice (some ⟨g, 0, none⟩) n c) n xs) (i : Nat) (hi : i < n) (u : Value) :
    (w.setCell ⟨g, i, none⟩ u).ownsRow base e 1 (.slice (some ⟨g, 0, none⟩) n c) n (xs.set i u) := by
  refine ⟨by simpa using h.1, ?_⟩
  rcases h.2 with ⟨hv, rfl⟩ | ⟨g', cap, cur, hv, hb, hg, hnc, hm, hcs, ht⟩
  · omega
  · injection hv with hA h1 h2
    injection hA with hA
    injection hA with hA
    subst hA h2
    refine .inr ⟨g, c, cur.setIfInBounds i u, rfl, hb, set_k hg i u, hnc, hm, by simpa using hcs, ?_⟩
    rw [← ht]
    simp only [Array.toList_setIfInBounds, Nat.mul_one]
    rw [List.take_set]
theorem half_at {V : List Nat} {k x : Nat} (h : V[k]? = some x) : ((half V).take k ++ V.drop k).set k (x / 2 + x % 2) = (half V).take (k + 1) ++ V.drop (k + 1) := by
  have hk : k < V.length := (List.getElem?_eq_some_iff.1 h).1
  have hl : ((half V).take k).length = k := by rw [List.length_take, half_len]; omega
  have hh : (half V)[k]? = some (x / 2 + x % 2) := by unfold half; rw [List.getElem?_map, h]; rfl
  rw [List.set_append_right _ _ (by omega), hl, Nat.sub_self, take_snoc hh, List.append_assoc, List.drop_eq_getElem_cons hk]
  rfl
theorem half_get {V : List Nat} {k x : Nat} (h : V[k]? = some x) : ((half V).take k ++ V.drop k)[k]? = some x := by
  have hk : k < V.length := (List.getElem?_eq_some_iff.1 h).1
  have hl : ((half V).take k).length = k := by rw [List.length_take, half_len]; omega
  rw [List.getElem?_append_right (by omega), hl, Nat.sub_self, List.getElem?_drop]
  simpa using h

end Go.Proofs.YtgpkiijmembggaaGreatDoor
namespace Go.Proofs.YtgpkiijmembggaaGreatDoor
open Go.RowKit HuffM Mem Go.Lib

/-- block g holds these numbers, and whatever behind them -/
def Col (w : World) (g : Nat) (d : List Nat) : Prop := ∃ rest, Row w g 3 (d.map natc ++ rest)
section
variable {w w' : World} {g : Nat} {d : List Nat} {S : Nat → Prop}
theorem Col.fr (h : Col w g d) (hf : Fr S w w') (hg : ¬ S g) : Col w' g d := by obtain ⟨r, h⟩ := h; exact ⟨r, h.fr hf hg⟩
theorem Col.drew (h : Col w g d) : Col w.drew g d := h
theorem Col.drewN (h : Col w g d) (n : Nat) : Col (w.drewN n) g d := h
theorem Col.cell (h : Col w g d) {i x : Nat} (hi : d[i]? = some x) : w.cell? ⟨g, i, none⟩ = some (.int .i64 (x : Int)) := by
  obtain ⟨r, h⟩ := h
  refine h.cell ?_
  have hl := (List.getElem?_eq_some_iff.1 hi).1
  rw [List.getElem?_append_left (by simpa using hl), List.getElem?_map, hi]
  rfl
theorem Col.free (h : Col w g d) (i : Nat) : w.frozen? ⟨g, i, none⟩ = false := by obtain ⟨r, h⟩ := h; exact h.free i
theorem Col.lt (h : Col w g d) : g < w.heap.size := by obtain ⟨r, h⟩ := h; exact h.lt
theorem Col.set (h : Col w g d) {i : Nat} (hi : i < d.length) (x : Nat) : Col (w.setCell ⟨g, i, none⟩ (.int .i64 (x : Int))) g (d.set i x) := by
  obtain ⟨r, h⟩ := h
  refine ⟨r, ?_⟩
  have := h.set i (.int .i64 (x : Int))
  rw [List.set_append_left _ _ (by simpa using hi)] at this
  rw [List.map_set]
  exact this
theorem Col.swap (h : Col w g d) {i j x y : Nat} (hi : d[i]? = some x) (hj : d[j]? = some y) :
    Col ((w.setCell ⟨g, i, none⟩ (.int .i64 (y : Int))).setCell ⟨g, j, none⟩ (.int .i64 (x : Int))).drew g (swp d i j) := by
  have hil := (List.getElem?_eq_some_iff.1 hi).1
  have hjl := (List.getElem?_eq_some_iff.1 hj).1
  have e1 : d.getD j 0 = y := by rw [List.getD_eq_getElem?_getD, hj]; rfl
  have e2 : d.getD i 0 = x := by rw [List.getD_eq_getElem?_getD, hi]; rfl
  unfold swp
  rw [e1, e2]
  exact (h.set hil y).set (by simpa using hjl) x
theorem fr_swap (w : World) (g i j : Nat) (u v : Value) : Fr (fun b => b = g) w ((w.setCell ⟨g, i, none⟩ u).setCell ⟨g, j, none⟩ v).drew :=
  (((Fr.refl (fun b => b = g) w).setCell (p := ⟨g, i, none⟩) (fun _ => rfl) u).setCell (p := ⟨g, j, none⟩) (fun _ => rfl) v).drew
theorem Col.second (h : Col w g d) {i j x y : Nat} (hi : d[i]? = some x) (hj : d[j]? = some y) : ∃ u, (w.setCell ⟨g, i, none⟩ (.int .i64 (y : Int))).cell? ⟨g, j, none⟩ = some u := by
  by_cases e : i = j
  · subst e; exact ⟨_, World.cell?_setCell_same _ _ _ (h.cell hi)⟩
  · exact ⟨_, (World.cell?_setCell_other _ _ _ _ (by intro e'; simp only [Addr.mk.injEq] at e'; omega)).trans (h.cell hj)⟩
end

set_option maxRecDepth 1000000 in
set_option maxHeartbeats 3200000 in
theorem swapRange_any (g n c a b m : Nat) (fv : Value) (P X M Y S : List Nat) (w : World) (hc : Col w g (P ++ (X ++ (M ++ (Y ++ S))))) (hn : n = P.length + X.length + M.length + Y.length + S.length) (hn1 : n ≤ 1000)
    (ha : a = P.length) (hb : b = P.length + X.length + M.length) (hx : X.length = m) (hy : Y.length = m) :
    Calls Tryz.prog 114 #[.slice (some ⟨g, 0, none⟩) n c, .int .i64 (a : Int), .int .i64 (b : Int), .int .i64 (m : Int), fv] w fun e w' =>
      e = .returned (.tuple #[]) ∧ Col w' g (P ++ (Y ++ (M ++ (X ++ S)))) ∧ Fr (fun b => b = g) w w' := by
  have HC := Lib.hid hc
  have HN := Lib.hid hn
  have HA := Lib.hid ha
  have HB := Lib.hid hb
  have HX := Lib.hid hx
  have HY := Lib.hid hy
  have han : a + m ≤ n := by omega
  have hbn : b + m ≤ n := by omega
  clear hc hn ha hb hx hy
  go_enter Tryz.func114, Tryz.ntmps114
  go_wp2
  go_loopw [10] (fun i wr => ∃ (k : Nat) (X1 X2 Y1 Y2 : List Nat), k ≤ m ∧ i = .int .i64 (k : Int) ∧ Hid (X = X1 ++ X2) ∧ Hid (Y = Y1 ++ Y2) ∧ Hid (X1.length = k ∧ Y1.length = k) ∧ Hid (Col wr g (P ++ (Y1 ++ (X2 ++ (M ++ (X1 ++ (Y2 ++ S))))))) ∧ Fr (fun b => b = g) w wr)
    (fun i _ => m - (intOf i).toNat)
  case atStart => exact ⟨0, [], X, [], Y, by omega, rfl, rfl, rfl, ⟨rfl, rfl⟩, HC, Fr.refl _ _⟩
  case round =>
    obtain ⟨k, X1, X2, Y1, Y2, hk, rfl, HX1, HY1, HK, HCk, hfr⟩ := hrel
    by_cases hlt : k < m
    · obtain ⟨x, X3, hX2⟩ : ∃ x X3, X2 = x :: X3 := by
        cases X2 with
        | nil => have h1 := HX.out; rw [HX1.out] at h1; have h2 := HK.out.1; simp at h1; omega
        | cons x X3 => exact ⟨x, X3, rfl⟩
      obtain ⟨y, Y3, hY2⟩ : ∃ y Y3, Y2 = y :: Y3 := by
        cases Y2 with
        | nil => have h1 := HY.out; rw [HY1.out] at h1; have h2 := HK.out.2; simp at h1; omega
        | cons y Y3 => exact ⟨y, Y3, rfl⟩
      subst hX2 hY2
      obtain ⟨ia, hia⟩ : ∃ ia, ia = a + k := ⟨_, rfl⟩
      obtain ⟨ib, hib⟩ : ∃ ib, ib = b + k := ⟨_, rfl⟩
      have e0 : P ++ (Y1 ++ (x :: X3 ++ (M ++ (X1 ++ (y :: Y3 ++ S))))) = (P ++ Y1) ++ x :: ((X3 ++ (M ++ X1)) ++ y :: (Y3 ++ S)) := by simp
      have hcol := HCk.out
      rw [e0] at hcol
      have l1 : ia = (P ++ Y1).length := by rw [List.length_append, hia, HA.out, HK.out.2]
      have l2 : ib = (P ++ Y1).length + 1 + (X3 ++ (M ++ X1)).length := by
        have h1 := HX.out
        rw [HX1.out] at h1
        have h2 := HK.out.1
        have h3 := HK.out.2
        have h4 := HB.out
        rw [HX1.out] at h4
        simp at h1 h4 ⊢
        omega
      have g1 : ((P ++ Y1) ++ x :: ((X3 ++ (M ++ X1)) ++ y :: (Y3 ++ S)))[ia]? = some x := getE_at _ _ _ _ l1
      have g2 : ((P ++ Y1) ++ x :: ((X3 ++ (M ++ X1)) ++ y :: (Y3 ++ S)))[ib]? = some y := by
        have := getE_at ((P ++ Y1) ++ x :: (X3 ++ (M ++ X1))) y (Y3 ++ S) ib (by simp; simp at l2; omega)
        simpa using this
      have ca := hcol.cell g1
      have cb := hcol.cell g2
      have fa := hcol.free ia
      have fb := hcol.free ib
      obtain ⟨u, cc⟩ := hcol.second g1 g2
      have hsw := hcol.swap g1 g2
      rw [swp_at _ _ _ _ _ _ _ l1 l2] at hsw
      have HSW := Lib.hid hsw
      have HFR := Lib.hid (hfr.trans (fr_swap wr g ia ib (.int .i64 (y : Int)) (.int .i64 (x : Int))) (fun _ _ h => h))
      have ra : IntKind.i64.wrap ((a : Int) + (k : Int)) = (ia : Int) := by rw [IntKind.wrap_i64]; omega
      have rb : IntKind.i64.wrap ((b : Int) + (k : Int)) = (ib : Int) := by rw [IntKind.wrap_i64]; omega
      have pa : ia < n := by omega
      have pb : ib < n := by omega
      have HL := Lib.hid hlt
      clear hcol e0 l1 l2 g1 g2 hsw hfr HCk hia hib
      go_wp2_with fail
      go_big_region
      generalize ((wr.setCell ⟨g, ia, none⟩ (Value.int IntKind.i64 (y : Int))).setCell ⟨g, ib, none⟩ (Value.int IntKind.i64 (x : Int))).drew = w3 at HSW HFR ⊢
      clear ca cb fa fb cc ra rb pa pb
      go_wp2
      go_roundw
      case rel =>
        refine ⟨k + 1, X1 ++ [x], X3, Y1 ++ [y], Y3, HL.out, by go_num, ?_, ?_, ?_, ?_, HFR.out⟩
        · show _ = _
          rw [HX1.out]; simp
        · show _ = _
          rw [HY1.out]; simp
        · exact ⟨by rw [List.length_append, HK.out.1]; rfl, by rw [List.length_append, HK.out.2]; rfl⟩
        · have h := HSW.out
          simp only [List.append_assoc, List.cons_append, List.nil_append] at h ⊢
          exact h
      case measure => have := HL.out; simp [intOf]; omega
    · obtain rfl : k = m := by omega
      have e1 : X2 = [] := by
        have h1 := HX.out
        rw [HX1.out, List.length_append, HK.out.1] at h1
        exact List.eq_nil_of_length_eq_zero (by omega)
      have e2 : Y2 = [] := by
        have h1 := HY.out
        rw [HY1.out, List.length_append, HK.out.2] at h1
        exact List.eq_nil_of_length_eq_zero (by omega)
      subst e1 e2
      have h := HCk.out
      rw [List.append_nil] at HX1 HY1
      have HE := Lib.hid (And.intro HX1.out HY1.out)
      have hcol : Col wr g (P ++ (Y ++ (M ++ (X ++ S)))) := by
        rw [HE.out.1, HE.out.2]
        simpa using h
      have HF := Lib.hid hcol
      clear h hcol HX1 HY1 HCk
      go_wp2
      go_end0
      exact ⟨rfl, HF.out, hfr⟩
end Go.Proofs.YtgpkiijmembggaaGreatDoor
namespace Go.Proofs.YtgpkiijmembggaaGreatDoor
open Go.RowKit HuffM Mem Go.Lib

set_option maxRecDepth 1000000 in
set_option maxHeartbeats 3200000 in
theorem rotate_any (g n c a m b : Nat) (fv : Value) (P X Y S : List Nat) (w : World) (hc : Col w g (P ++ (X ++ (Y ++ S)))) (hn : n = P.length + X.length + Y.length + S.length) (hn1 : n ≤ 1000)
    (ha : a = P.length) (hm : m = P.length + X.length) (hb : b = P.length + X.length + Y.length) (hx : 1 ≤ X.length) (hy : 1 ≤ Y.length) :
    Calls Tryz.prog 113 #[.slice (some ⟨g, 0, none⟩) n c, .int .i64 (a : Int), .int .i64 (m : Int), .int .i64 (b : Int), fv] w fun e w' =>
      e = .returned (.tuple #[]) ∧ Col w' g (P ++ (Y ++ (X ++ S))) ∧ Fr (fun b => b = g) w w' := by
  have HC := Lib.hid hc
  obtain ⟨i0, hi0⟩ : ∃ i0, i0 = X.length := ⟨_, rfl⟩
  obtain ⟨j0, hj0⟩ : ∃ j0, j0 = Y.length := ⟨_, rfl⟩
  obtain ⟨T, hT⟩ : ∃ T, T = P ++ (Y ++ (X ++ S)) := ⟨_, rfl⟩
  have e1 : (m : Int) - (a : Int) = (i0 : Int) := by omega
  have e2 : (b : Int) - (m : Int) = (j0 : Int) := by omega
  have hmi : m = P.length + i0 := by omega
  have hmn : m + j0 ≤ n := by omega
  have b1 : 1 ≤ i0 := by omega
  have b2 : 1 ≤ j0 := by omega
  rw [← hT]
  have HL0 := Lib.hid (show X.length = i0 ∧ Y.length = j0 ∧ m = P.length + i0 ∧ n = P.length + X.length + Y.length + S.length ∧ P ++ (Y ++ (X ++ S)) = T from ⟨hi0.symm, hj0.symm, hmi, hn, hT.symm⟩)
  clear hc hn ha hm hb hx hy hi0 hj0 hT hmi
  go_enter Tryz.func113, Tryz.ntmps113
  go_wp2
  clear e1 e2
  go_loopw [10, 11] (fun vi vj wr => ∃ (i j : Nat) (P' X' Y' S' : List Nat), vi = .int .i64 (i : Int) ∧ vj = .int .i64 (j : Int) ∧ 1 ≤ i ∧ 1 ≤ j ∧ i ≤ m ∧ m + j ≤ n ∧ Hid (X'.length = i ∧ Y'.length = j ∧ m = P'.length + i ∧ n = P'.length + X'.length + Y'.length + S'.length ∧ P' ++ (Y' ++ (X' ++ S')) = T) ∧
      Hid (Col wr g (P' ++ (X' ++ (Y' ++ S')))) ∧ Fr (fun b => b = g) w wr) (fun vi vj _ => (intOf vi).toNat + (intOf vj).toNat)
  case atStart => exact ⟨i0, j0, P, X, Y, S, rfl, rfl, b1, b2, by have := HL0.out; omega, hmn, HL0, HC, Fr.refl _ _⟩
  case round =>
    clear HC HL0 b1 b2 hmn
    obtain ⟨i, j, P', X', Y', S', rfl, rfl, hi, hj, him, hjn, HL, HCk, hfr⟩ := hrel
    obtain ⟨q, hq⟩ : ∃ q, q = m - i := ⟨_, rfl⟩
    have eq1 : (m : Int) - (i : Int) = (q : Int) := by omega
    have EQ : Hid (q = P'.length) := by
      show _ = _
      have := HL.out
      omega
    rcases Nat.lt_trichotomy i j with hlt | heq | hgt
    · -- the last of Y come ahead
      obtain ⟨q2, hq2⟩ : ∃ q2, q2 = m + j - i := ⟨_, rfl⟩
      have eq2 : (m : Int) + (j : Int) - (i : Int) = (q2 : Int) := by omega
      obtain ⟨Y1, hY1⟩ : ∃ Y1, Y1 = Y'.take (j - i) := ⟨_, rfl⟩
      obtain ⟨Y2, hY2⟩ : ∃ Y2, Y2 = Y'.drop (j - i) := ⟨_, rfl⟩
      have hY : Y' = Y1 ++ Y2 := by rw [hY1, hY2, List.take_append_drop]
      have l1 : Y1.length = j - i := by rw [hY1, List.length_take, HL.out.2.1]; omega
      have l2 : Y2.length = i := by rw [hY2, List.length_drop, HL.out.2.1]; omega
      clear hY1 hY2
      subst hY
      have hcall := swapRange_any g n c q q2 i fv P' X' Y1 Y2 S' wr (by have h := HCk.out; simp only [List.append_assoc] at h; exact h) (by have := HL.out.2.2.2.1; rw [List.length_append] at this; omega) hn1 EQ.out (by rw [hq2, l1]; have := HL.out; omega) HL.out.1 l2
      have HCALL := Lib.hid hcall
      have LL := Lib.hid (And.intro l1 l2)
      have t1 : ((i : Int) != (j : Int)) = true := by simp; omega
      have t2 : decide (j < i) = false := by simp; omega
      have s1 : (j : Int) - (i : Int) = ((j - i : Nat) : Int) := by omega
      clear hcall l1 l2 hq hq2
      go_wp2_with fail
      refine HCALL.out.mono ?_
      rintro e w2 ⟨rfl, hc2, hf2⟩
      have HC2 := Lib.hid hc2
      have HF2 := Lib.hid (hfr.trans hf2 (fun _ _ h => h))
      clear hc2 hf2 hfr HCALL HCk eq1 eq2
      go_wp2
      go_roundw
      case rel =>
        refine ⟨i, j - i, P', Y2, Y1, X' ++ S', rfl, by first | rfl | go_num | (congr 1; omega), hi, by omega, him, by omega, ?_, ?_, HF2.out⟩
        · have h := HL.out
          have h2 := LL.out
          refine ⟨h2.2, h2.1, h.2.2.1, ?_, ?_⟩
          · rw [h.2.2.2.1, List.length_append, List.length_append]; omega
          · rw [← h.2.2.2.2]; simp
        · exact HC2.out
      case measure => simp [intOf]; omega
    · subst heq
      have hcall := swapRange_any g n c q m i fv P' X' [] Y' S' wr HCk.out (by have := HL.out.2.2.2.1; simp; omega) hn1 EQ.out (by simp; have := HL.out; omega) HL.out.1 HL.out.2.1
      have HCALL := Lib.hid hcall
      have t1 : ((i : Int) != (i : Int)) = false := by simp
      clear hcall hq
      go_wp2_with fail
      refine HCALL.out.mono ?_
      rintro e w2 ⟨rfl, hc2, hf2⟩
      have HC2 : Hid (Col w2 g T) := by
        have h := HL.out.2.2.2.2
        show Col w2 g T
        rw [← h]
        exact hc2
      have HF2 := Lib.hid (hfr.trans hf2 (fun _ _ h => h))
      clear hc2 hf2 hfr HCALL HCk eq1
      go_wp2
      go_end0
      exact ⟨rfl, HC2.out, HF2.out⟩
    · -- the first of X go behind
      obtain ⟨X1, hX1⟩ : ∃ X1, X1 = X'.take j := ⟨_, rfl⟩
      obtain ⟨X2, hX2⟩ : ∃ X2, X2 = X'.drop j := ⟨_, rfl⟩
      have hX : X' = X1 ++ X2 := by rw [hX1, hX2, List.take_append_drop]
      have l1 : X1.length = j := by rw [hX1, List.length_take, HL.out.1]; omega
      have l2 : X2.length = i - j := by rw [hX2, List.length_drop, HL.out.1]
      clear hX1 hX2
      subst hX
      have hcall := swapRange_any g n c q m j fv P' X1 X2 Y' S' wr (by have h := HCk.out; simp only [List.append_assoc] at h; exact h) (by have := HL.out.2.2.2.1; rw [List.length_append] at this; omega) hn1 EQ.out (by rw [l1, l2]; have := HL.out; omega) l1 HL.out.2.1
      have HCALL := Lib.hid hcall
      have LL := Lib.hid (And.intro l1 l2)
      have t1 : ((i : Int) != (j : Int)) = true := by simp; omega
      have t2 : decide (j < i) = true := by simp; omega
      have s1 : (i : Int) - (j : Int) = ((i - j : Nat) : Int) := by omega
      clear hcall l1 l2 hq
      go_wp2_with fail
      refine HCALL.out.mono ?_
      rintro e w2 ⟨rfl, hc2, hf2⟩
      have HC2 := Lib.hid hc2
      have HF2 := Lib.hid (hfr.trans hf2 (fun _ _ h => h))
      clear hc2 hf2 hfr HCALL HCk eq1
      go_wp2
      go_roundw
      case rel =>
        refine ⟨i - j, j, P' ++ Y', X2, X1, S', by first | rfl | go_num | (congr 1; omega), rfl, by omega, hj, by omega, hjn, ?_, ?_, HF2.out⟩
        · have h := HL.out
          have h2 := LL.out
          refine ⟨h2.2, h2.1, ?_, ?_, ?_⟩
          · rw [List.length_append, h.2.1]; omega
          · rw [h.2.2.2.1, List.length_append, List.length_append]; omega
          · rw [← h.2.2.2.2]; simp
        · show Col _ _ _
          have h := HC2.out
          simpa using h
      case measure => simp [intOf]; omega
end Go.Proofs.YtgpkiijmembggaaGreatDoor
namespace Go.Proofs.YtgpkiijmembggaaGreatDoor
open Go.RowKit HuffM Mem Go.Lib
attribute [local go_sem ↓] Go.wp_at_zero Go.wp_at_succ


set_option maxRecDepth 100000 in
set_option maxHeartbeats 1600000 in
theorem cmp_any (bx n c x y : Nat) (A : Option Addr) (L : List Int) (w : World) (hb : w.cell? ⟨bx, 0, none⟩ = some (.slice A n c)) (hr : Rd w A n (L.map intc)) (hx : x < n) (hy : y < n) (hL : ∀ x ∈ L, inR x = true) :
    Calls Tryz.prog 85 #[.int .i64 (x : Int), .int .i64 (y : Int), .pointer (some ⟨bx, 0, none⟩)] w fun e w' => e = .returned (.int .i64 ((kl L x : Int) - (kl L y : Int))) ∧ ∃ q, w' = w.drewN q := by
  have hln : L.length = n := by simpa using hr.1
  have one : ∀ z, z < n → ∃ ad k : Nat → Addr, True := fun _ _ => ⟨fun _ => default, fun _ => default, trivial⟩
  clear one
  have at_ : ∀ z, z < n → ∃ ad, A = some ad ∧ w.cell? (ad.add z) = some (.int .i64 (kl L z : Int)) ∧ kl L z ≤ 15 := by
    intro z hz
    obtain ⟨ad, u, h1, h2, h3⟩ := hr.at_ hz
    have hx : L[z]? = some L[z] := List.getElem?_eq_getElem (by omega)
    rw [List.getElem?_map, hx] at h2
    have hin := hL _ (List.getElem_mem (show z < L.length by omega))
    have h0 : 0 ≤ L[z] ∧ L[z] ≤ 15 := by simpa [inR] using hin
    have hk : kl L z = L[z].toNat := by unfold kl; rw [List.getD_eq_getElem?_getD, hx]; rfl
    refine ⟨ad, h1, ?_, by omega⟩
    rw [h3, ← h2, hk, Int.toNat_of_nonneg h0.1]
    rfl
  obtain ⟨ad, rfl, c1, b1⟩ := at_ x hx
  obtain ⟨ad', e, c2, b2⟩ := at_ y hy
  injection e with e
  subst e
  obtain ⟨p, hp⟩ : ∃ p, p = kl L x := ⟨_, rfl⟩
  obtain ⟨q, hq⟩ : ∃ q, q = kl L y := ⟨_, rfl⟩
  rw [← hp] at c1 b1 ⊢
  rw [← hq] at c2 b2 ⊢
  have rw1 : IntKind.i64.wrap ((p : Int) - (q : Int)) = (p : Int) - (q : Int) := by rw [IntKind.wrap_i64]; omega
  clear at_ hln hr hL hp hq
  go_enter Tryz.func85, Tryz.ntmps85
  go_wp2_with fail
  go_still (by kernel_rfl)
  go_wp2
  go_ret
  exact ⟨rfl, 1, rfl⟩

/-- two symbols can be compared, in every world that the sort comes through -/
structure CmpK (g bx : Nat) (key : Nat → Nat) (N : Nat) (w0 : World) : Prop where
  call : ∀ w x y, Fr (fun b => b = g) w0 w → x < N → y < N → Calls Tryz.prog 85 #[.int .i64 (x : Int), .int .i64 (y : Int), .pointer (some ⟨bx, 0, none⟩)] w fun e w' => e = .returned (.int .i64 ((key x : Int) - (key y : Int))) ∧ ∃ q, w' = w.drewN q
  few : ∀ x, key x ≤ 1000
theorem CmpK.fr {g bx N : Nat} {key : Nat → Nat} {w0 w1 : World} (K : CmpK g bx key N w0) (hf : Fr (fun b => b = g) w0 w1) : CmpK g bx key N w1 := ⟨fun w x y h => K.call w x y (hf.trans h (fun _ _ h => h)), K.few⟩
theorem cmpK_of (g bx n c : Nat) (A : Option Addr) (L : List Int) (w : World) (hb : w.cell? ⟨bx, 0, none⟩ = some (.slice A n c)) (hr : Rd w A n (L.map intc)) (hL : ∀ x ∈ L, inR x = true) (h1 : bx ≠ g) (h2 : ∀ ad, A = some ad → ad.block ≠ g) : CmpK g bx (kl L) n w where
  call := fun w' x y hf hx hy => cmp_any bx n c x y A L w' (hf.cell hb h1) (hr.fr hf h2) hx hy hL
  few := fun x => by
    unfold kl
    rw [List.getD_eq_getElem?_getD]
    cases h : L[x]? with
    | none => decide
    | some z =>
      have h0 : 0 ≤ z ∧ z ≤ 15 := by simpa [inR] using hL z (List.mem_of_getElem? h)
      simp
      omega
end Go.Proofs.YtgpkiijmembggaaGreatDoor
