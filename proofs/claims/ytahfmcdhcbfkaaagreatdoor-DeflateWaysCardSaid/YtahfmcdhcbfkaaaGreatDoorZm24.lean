/-
  The library's sort at numbers: two pieces of a row change places (swapRange).
  The library's sort at numbers: two pieces that lie side by side change places (rotate); the comparison of two symbols' lengths.
  Plain mathematics of layer 5's codes: the symbols that have codes, by their lengths, then by their numbers; codes are counted up in that order. Nothing of any program here.
  The comparison that orders symbols by their lengths.
-/
import Derived.Test.YtahfmcdhcbfkaaaGreatDoorZm23
import Derived.Test.YtahfmcdhcbfkaaaGreatDoorHuffU
import Derived.Test.YtahfmcdhcbfkaaaGreatDoorZm04
import Derived.Test.YtahfmcdhcbfkaaaGreatDoorZm08
import Derived.BigRegion
import Derived.BigQuiet
import Derived.Deep.QuietTactic
import Derived.Deep.DrawnRows
namespace Go.Proofs.YtahfmcdhcbfkaaaGreatDoor
open Go.RowKit HuffM Mem Go.Lib

/-- block g holds these numbers, and whatever behind them -/
def Col (w : World) (g : Nat) (d : List Nat) : Prop := ∃ rest, Row w g 3 (d.map natc ++ rest)
section
variable {w w' : World} {g : Nat} {d : List Nat} {S : Nat → Prop}
theorem Col.fr (h : Col w g d) (hf : Fr S w w') (hg : ¬ S g) : Col w' g d := by obtain ⟨r, h⟩ := h; exact ⟨r, h.fr hf hg⟩
theorem Col.drew (h : Col w g d) : Col w.drew g d := h
theorem Col.drewN (h : Col w g d) (n : Nat) : Col (w.drewN n) g d := h
theorem Col.cell (h : Col w g d) {i x : Nat} (hi : d[i]? = some x) : w.cell? ⟨g, i, none⟩ = some (.int .i64 (x : Int)) := by
  obtain ⟨r, h⟩ := h
  refine h.cell ?_
  have hl := (List.getElem?_eq_some_iff.1 hi).1
  rw [List.getElem?_append_left (by simpa using hl), List.getElem?_map, hi]
  rfl
theorem Col.free (h : Col w g d) (i : Nat) : w.frozen? ⟨g, i, none⟩ = false := by obtain ⟨r, h⟩ := h; exact h.free i
theorem Col.lt (h : Col w g d) : g < w.heap.size := by obtain ⟨r, h⟩ := h; exact h.lt
theorem Col.set (h : Col w g d) {i : Nat} (hi : i < d.length) (x : Nat) : Col (w.setCell ⟨g, i, none⟩ (.int .i64 (x : Int))) g (d.set i x) := by
  obtain ⟨r, h⟩ := h
  refine ⟨r, ?_⟩
  have := h.set i (.int .i64 (x : Int))
  rw [List.set_append_left _ _ (by simpa using hi)] at this
  rw [List.map_set]
  exact this
theorem Col.swap (h : Col w g d) {i j x y : Nat} (hi : d[i]? = some x) (hj : d[j]? = some y) :
    Col ((w.setCell ⟨g, i, none⟩ (.int .i64 (y : Int))).setCell ⟨g, j, none⟩ (.int .i64 (x : Int))).drew g (swp d i j) := by
  have hil := (List.getElem?_eq_some_iff.1 hi).1
  have hjl := (List.getElem?_eq_some_iff.1 hj).1
  have e1 : d.getD j 0 = y := by rw [List.getD_eq_getElem?_getD, hj]; rfl
  have e2 : d.getD i 0 = x := by rw [List.getD_eq_getElem?_getD, hi]; rfl
  unfold swp
  rw [e1, e2]
  exact (h.set hil y).set (by simpa using hjl) x
theorem fr_swap (w : World) (g i j : Nat) (u v : Value) : Fr (fun b => b = g) w ((w.setCell ⟨g, i, none⟩ u).setCell ⟨g, j, none⟩ v).drew :=
  (((Fr.refl (fun b => b = g) w).setCell (p := ⟨g, i, none⟩) (fun _ => rfl) u).setCell (p := ⟨g, j, none⟩) (fun _ => rfl) v).drew
theorem Col.second (h : Col w g d) {i j x y : Nat} (hi : d[i]? = some x) (hj : d[j]? = some y) : ∃ u, (w.setCell ⟨g, i, none⟩ (.int .i64 (y : Int))).cell? ⟨g, j, none⟩ = some u := by
  by_cases e : i = j
  · subst e; exact ⟨_, World.cell?_setCell_same _ _ _ (h.cell hi)⟩
  · exact ⟨_, (World.cell?_setCell_other _ _ _ _ (by intro e'; simp only [Addr.mk.injEq] at e'; omega)).trans (h.cell hj)⟩
end

set_option maxRecDepth 1000000 in
set_option maxHeartbeats 3200000 in
theorem swapRange_any (g n c a b m : Nat) (fv : Value) (P X M Y S : List Nat) (w : World) (hc : Col w g (P ++ (X ++ (M ++ (Y ++ S))))) (hn : n = P.length + X.length + M.length + Y.length + S.length) (hn1 : n ≤ 1000)
    (ha : a = P.length) (hb : b = P.length + X.length + M.length) (hx : X.length = m) (hy : Y.length = m) :
    Calls Tryz.prog 98 #[.slice (some ⟨g, 0, none⟩) n c, .int .i64 (a : Int), .int .i64 (b : Int), .int .i64 (m : Int), fv] w fun e w' =>
      e = .returned (.tuple #[]) ∧ Col w' g (P ++ (Y ++ (M ++ (X ++ S)))) ∧ Fr (fun b => b = g) w w' := by
  have HC := Lib.hid hc
  have HN := Lib.hid hn
  have HA := Lib.hid ha
  have HB := Lib.hid hb
  have HX := Lib.hid hx
  have HY := Lib.hid hy
  have han : a + m ≤ n := by omega
  have hbn : b + m ≤ n := by omega
  clear hc hn ha hb hx hy
  go_enter Tryz.func98, Tryz.ntmps98
  go_wp2
  go_loopw [10] (fun i wr => ∃ (k : Nat) (X1 X2 Y1 Y2 : List Nat), k ≤ m ∧ i = .int .i64 (k : Int) ∧ Hid (X = X1 ++ X2) ∧ Hid (Y = Y1 ++ Y2) ∧ Hid (X1.length = k ∧ Y1.length = k) ∧ Hid (Col wr g (P ++ (Y1 ++ (X2 ++ (M ++ (X1 ++ (Y2 ++ S))))))) ∧ Fr (fun b => b = g) w wr)
    (fun i _ => m - (intOf i).toNat)
  case atStart => exact ⟨0, [], X, [], Y, by omega, rfl, rfl, rfl, ⟨rfl, rfl⟩, HC, Fr.refl _ _⟩
  case round =>
    obtain ⟨k, X1, X2, Y1, Y2, hk, rfl, HX1, HY1, HK, HCk, hfr⟩ := hrel
    by_cases hlt : k < m
    · obtain ⟨x, X3, hX2⟩ : ∃ x X3, X2 = x :: X3 := by
        cases X2 with
        | nil => have h1 := HX.out; rw [HX1.out] at h1; have h2 := HK.out.1; simp at h1; omega
        | cons x X3 => exact ⟨x, X3, rfl⟩
      obtain ⟨y, Y3, hY2⟩ : ∃ y Y3, Y2 = y :: Y3 := by
        cases Y2 with
        | nil => have h1 := HY.out; rw [HY1.out] at h1; have h2 := HK.out.2; simp at h1; omega
        | cons y Y3 => exact ⟨y, Y3, rfl⟩
      subst hX2 hY2
      obtain ⟨ia, hia⟩ : ∃ ia, ia = a + k := ⟨_, rfl⟩
      obtain ⟨ib, hib⟩ : ∃ ib, ib = b + k := ⟨_, rfl⟩
      have e0 : P ++ (Y1 ++ (x :: X3 ++ (M ++ (X1 ++ (y :: Y3 ++ S))))) = (P ++ Y1) ++ x :: ((X3 ++ (M ++ X1)) ++ y :: (Y3 ++ S)) := by simp
      have hcol := HCk.out
      rw [e0] at hcol
      have l1 : ia = (P ++ Y1).length := by rw [List.length_append, hia, HA.out, HK.out.2]
      have l2 : ib = (P ++ Y1).length + 1 + (X3 ++ (M ++ X1)).length := by
        have h1 := HX.out
        rw [HX1.out] at h1
        have h2 := HK.out.1
        have h3 := HK.out.2
        have h4 := HB.out
        rw [HX1.out] at h4
        simp at h1 h4 ⊢
        omega
      have g1 : ((P ++ Y1) ++ x :: ((X3 ++ (M ++ X1)) ++ y :: (Y3 ++ S)))[ia]? = some x := getE_at _ _ _ _ l1
      have g2 : ((P ++ Y1) ++ x :: ((X3 ++ (M ++ X1)) ++ y :: (Y3 ++ S)))[ib]? = some y := by
        have := getE_at ((P ++ Y1) ++ x :: (X3 ++ (M ++ X1))) y (Y3 ++ S) ib (by simp; simp at l2; omega)
        simpa using this
      have ca := hcol.cell g1
      have cb := hcol.cell g2
      have fa := hcol.free ia
      have fb := hcol.free ib
      obtain ⟨u, cc⟩ := hcol.second g1 g2
      have hsw := hcol.swap g1 g2
      rw [swp_at _ _ _ _ _ _ _ l1 l2] at hsw
      have HSW := Lib.hid hsw
      have HFR := Lib.hid (hfr.trans (fr_swap wr g ia ib (.int .i64 (y : Int)) (.int .i64 (x : Int))) (fun _ _ h => h))
      have ra : IntKind.i64.wrap ((a : Int) + (k : Int)) = (ia : Int) := by rw [IntKind.wrap_i64]; omega
      have rb : IntKind.i64.wrap ((b : Int) + (k : Int)) = (ib : Int) := by rw [IntKind.wrap_i64]; omega
      have pa : ia < n := by omega
      have pb : ib < n := by omega
      have HL := Lib.hid hlt
      clear hcol e0 l1 l2 g1 g2 hsw hfr HCk hia hib
      go_wp2_with fail
      go_big_region
      generalize ((wr.setCell ⟨g, ia, none⟩ (Value.int IntKind.i64 (y : Int))).setCell ⟨g, ib, none⟩ (Value.int IntKind.i64 (x : Int))).drew = w3 at HSW HFR ⊢
      clear ca cb fa fb cc ra rb pa pb
      go_wp2
      go_roundw
      case rel =>
        refine ⟨k + 1, X1 ++ [x], X3, Y1 ++ [y], Y3, HL.out, by go_num, ?_, ?_, ?_, ?_, HFR.out⟩
        · show _ = _
          rw [HX1.out]; simp
        · show _ = _
          rw [HY1.out]; simp
        · exact ⟨by rw [List.length_append, HK.out.1]; rfl, by rw [List.length_append, HK.out.2]; rfl⟩
        · have h := HSW.out
          simp only [List.append_assoc, List.cons_append, List.nil_append] at h ⊢
          exact h
      case measure => have := HL.out; simp [intOf]; omega
    · obtain rfl : k = m := by omega
      have e1 : X2 = [] := by
        have h1 := HX.out
        rw [HX1.out, List.length_append, HK.out.1] at h1
        exact List.eq_nil_of_length_eq_zero (by omega)
      have e2 : Y2 = [] := by
        have h1 := HY.out
        rw [HY1.out, List.length_append, HK.out.2] at h1
        exact List.eq_nil_of_length_eq_zero (by omega)
      subst e1 e2
      have h := HCk.out
      rw [List.append_nil] at HX1 HY1
      have HE := Lib.hid (And.intro HX1.out HY1.out)
      have hcol : Col wr g (P ++ (Y ++ (M ++ (X ++ S)))) := by
        rw [HE.out.1, HE.out.2]
        simpa using h
      have HF := Lib.hid hcol
      clear h hcol HX1 HY1 HCk
      go_wp2
      go_end0
      exact ⟨rfl, HF.out, hfr⟩
end Go.Proofs.YtahfmcdhcbfkaaaGreatDoor
namespace Go.Proofs.YtahfmcdhcbfkaaaGreatDoor
open Go.RowKit HuffM Mem Go.Lib

set_option maxRecDepth 1000000 in
set_option maxHeartbeats 3200000 in
theorem rotate_any (g n c a m b : Nat) (fv : Value) (P X Y S : List Nat) (w : World) (hc : Col w g (P ++ (X ++ (Y ++ S)))) (hn : n = P.length + X.length + Y.length + S.length) (hn1 : n ≤ 1000)
    (ha : a = P.length) (hm : m = P.length + X.length) (hb : b = P.length + X.length + Y.length) (hx : 1 ≤ X.length) (hy : 1 ≤ Y.length) :
    Calls Tryz.prog 97 #[.slice (some ⟨g, 0, none⟩) n c, .int .i64 (a : Int), .int .i64 (m : Int), .int .i64 (b : Int), fv] w fun e w' =>
      e = .returned (.tuple #[]) ∧ Col w' g (P ++ (Y ++ (X ++ S))) ∧ Fr (fun b => b = g) w w' := by
  have HC := Lib.hid hc
  obtain ⟨i0, hi0⟩ : ∃ i0, i0 = X.length := ⟨_, rfl⟩
  obtain ⟨j0, hj0⟩ : ∃ j0, j0 = Y.length := ⟨_, rfl⟩
  obtain ⟨T, hT⟩ : ∃ T, T = P ++ (Y ++ (X ++ S)) := ⟨_, rfl⟩
  have e1 : (m : Int) - (a : Int) = (i0 : Int) := by omega
  have e2 : (b : Int) - (m : Int) = (j0 : Int) := by omega
  have hmi : m = P.length + i0 := by omega
  have hmn : m + j0 ≤ n := by omega
  have b1 : 1 ≤ i0 := by omega
  have b2 : 1 ≤ j0 := by omega
  rw [← hT]
  have HL0 := Lib.hid (show X.length = i0 ∧ Y.length = j0 ∧ m = P.length + i0 ∧ n = P.length + X.length + Y.length + S.length ∧ P ++ (Y ++ (X ++ S)) = T from ⟨hi0.symm, hj0.symm, hmi, hn, hT.symm⟩)
  clear hc hn ha hm hb hx hy hi0 hj0 hT hmi
  go_enter Tryz.func97, Tryz.ntmps97
  go_wp2
  clear e1 e2
  go_loopw [10, 11] (fun vi vj wr => ∃ (i j : Nat) (P' X' Y' S' : List Nat), vi = .int .i64 (i : Int) ∧ vj = .int .i64 (j : Int) ∧ 1 ≤ i ∧ 1 ≤ j ∧ i ≤ m ∧ m + j ≤ n ∧ Hid (X'.length = i ∧ Y'.length = j ∧ m = P'.length + i ∧ n = P'.length + X'.length + Y'.length + S'.length ∧ P' ++ (Y' ++ (X' ++ S')) = T) ∧
      Hid (Col wr g (P' ++ (X' ++ (Y' ++ S')))) ∧ Fr (fun b => b = g) w wr) (fun vi vj _ => (intOf vi).toNat + (intOf vj).toNat)
  case atStart => exact ⟨i0, j0, P, X, Y, S, rfl, rfl, b1, b2, by have := HL0.out; omega, hmn, HL0, HC, Fr.refl _ _⟩
  case round =>
    clear HC HL0 b1 b2 hmn
    obtain ⟨i, j, P', X', Y', S', rfl, rfl, hi, hj, him, hjn, HL, HCk, hfr⟩ := hrel
    obtain ⟨q, hq⟩ : ∃ q, q = m - i := ⟨_, rfl⟩
    have eq1 : (m : Int) - (i : Int) = (q : Int) := by omega
    have EQ : Hid (q = P'.length) := by
      show _ = _
      have := HL.out
      omega
    rcases Nat.lt_trichotomy i j with hlt | heq | hgt
    · -- the last of Y come ahead
      obtain ⟨q2, hq2⟩ : ∃ q2, q2 = m + j - i := ⟨_, rfl⟩
      have eq2 : (m : Int) + (j : Int) - (i : Int) = (q2 : Int) := by omega
      obtain ⟨Y1, hY1⟩ : ∃ Y1, Y1 = Y'.take (j - i) := ⟨_, rfl⟩
      obtain ⟨Y2, hY2⟩ : ∃ Y2, Y2 = Y'.drop (j - i) := ⟨_, rfl⟩
      have hY : Y' = Y1 ++ Y2 := by rw [hY1, hY2, List.take_append_drop]
      have l1 : Y1.length = j - i := by rw [hY1, List.length_take, HL.out.2.1]; omega
      have l2 : Y2.length = i := by rw [hY2, List.length_drop, HL.out.2.1]; omega
      clear hY1 hY2
      subst hY
      have hcall := swapRange_any g n c q q2 i fv P' X' Y1 Y2 S' wr (by have h := HCk.out; simp only [List.append_assoc] at h; exact h) (by have := HL.out.2.2.2.1; rw [List.length_append] at this; omega) hn1 EQ.out (by rw [hq2, l1]; have := HL.out; omega) HL.out.1 l2
      have HCALL := Lib.hid hcall
      have LL := Lib.hid (And.intro l1 l2)
      have t1 : ((i : Int) != (j : Int)) = true := by simp; omega
      have t2 : decide (j < i) = false := by simp; omega
      have s1 : (j : Int) - (i : Int) = ((j - i : Nat) : Int) := by omega
      clear hcall l1 l2 hq hq2
      go_wp2_with fail
      refine HCALL.out.mono ?_
      rintro e w2 ⟨rfl, hc2, hf2⟩
      have HC2 := Lib.hid hc2
      have HF2 := Lib.hid (hfr.trans hf2 (fun _ _ h => h))
      clear hc2 hf2 hfr HCALL HCk eq1 eq2
      go_wp2
      go_roundw
      case rel =>
        refine ⟨i, j - i, P', Y2, Y1, X' ++ S', rfl, by first | rfl | go_num | (congr 1; omega), hi, by omega, him, by omega, ?_, ?_, HF2.out⟩
        · have h := HL.out
          have h2 := LL.out
          refine ⟨h2.2, h2.1, h.2.2.1, ?_, ?_⟩
          · rw [h.2.2.2.1, List.length_append, List.length_append]; omega
          · rw [← h.2.2.2.2]; simp
        · exact HC2.out
      case measure => simp [intOf]; omega
    · subst heq
      have hcall := swapRange_any g n c q m i fv P' X' [] Y' S' wr HCk.out (by have := HL.out.2.2.2.1; simp; omega) hn1 EQ.out (by simp; have := HL.out; omega) HL.out.1 HL.out.2.1
      have HCALL := Lib.hid hcall
      have t1 : ((i : Int) != (i : Int)) = false := by simp
      clear hcall hq
      go_wp2_with fail
      refine HCALL.out.mono ?_
      rintro e w2 ⟨rfl, hc2, hf2⟩
      have HC2 : Hid (Col w2 g T) := by
        have h := HL.out.2.2.2.2
        show Col w2 g T
        rw [← h]
        exact hc2
      have HF2 := Lib.hid (hfr.trans hf2 (fun _ _ h => h))
      clear hc2 hf2 hfr HCALL HCk eq1
      go_wp2
      go_end0
      exact ⟨rfl, HC2.out, HF2.out⟩
    · -- the first of X go behind
      obtain ⟨X1, hX1⟩ : ∃ X1, X1 = X'.take j := ⟨_, rfl⟩
      obtain ⟨X2, hX2⟩ : ∃ X2, X2 = X'.drop j := ⟨_, rfl⟩
      have hX : X' = X1 ++ X2 := by rw [hX1, hX2, List.take_append_drop]
      have l1 : X1.length = j := by rw [hX1, List.length_take, HL.out.1]; omega
      have l2 : X2.length = i - j := by rw [hX2, List.length_drop, HL.out.1]
      clear hX1 hX2
      subst hX
      have hcall := swapRange_any g n c q m j fv P' X1 X2 Y' S' wr (by have h := HCk.out; simp only [List.append_assoc] at h; exact h) (by have := HL.out.2.2.2.1; rw [List.length_append] at this; omega) hn1 EQ.out (by rw [l1, l2]; have := HL.out; omega) l1 HL.out.2.1
      have HCALL := Lib.hid hcall
      have LL := Lib.hid (And.intro l1 l2)
      have t1 : ((i : Int) != (j : Int)) = true := by simp; omega
      have t2 : decide (j < i) = true := by simp; omega
      have s1 : (i : Int) - (j : Int) = ((i - j : Nat) : Int) := by omega
      clear hcall l1 l2 hq
      go_wp2_with fail
      refine HCALL.out.mono ?_
      rintro e w2 ⟨rfl, hc2, hf2⟩
      have HC2 := Lib.hid hc2
      have HF2 := Lib.hid (hfr.trans hf2 (fun _ _ h => h))
      clear hc2 hf2 hfr HCALL HCk eq1
      go_wp2
      go_roundw
      case rel =>
        refine ⟨i - j, j, P' ++ Y', X2, X1, S', by first | rfl | go_num | (congr 1; omega), rfl, by omega, hj, by omega, hjn, ?_, ?_, HF2.out⟩
        · have h := HL.out
          have h2 := LL.out
          refine ⟨h2.2, h2.1, ?_, ?_, ?_⟩
          · rw [List.length_append, h.2.1]; omega
          · rw [h.2.2.2.1, List.length_append, List.length_append]; omega
          · rw [← h.2.2.2.2]; simp
        · show Col _ _ _
          have h := HC2.out
          simpa using h
      case measure => simp [intOf]; omega
end Go.Proofs.YtahfmcdhcbfkaaaGreatDoor
namespace Go.Proofs.YtahfmcdhcbfkaaaGreatDoor.HuffM

/-- the length of a symbol's code -/
def kl (L : List Int) (x : Nat) : Nat := (L.getD x 0).toNat
/-- of the first k symbols those that have codes -/
def syms (L : List Int) (k : Nat) : List Nat := (List.range k).filter fun s => decide (0 < L.getD s 0)
theorem syms_succ (L : List Int) (k : Nat) : syms L (k + 1) = if 0 < L.getD k 0 then syms L k ++ [k] else syms L k := by
  unfold syms
  rw [List.range_succ, List.filter_append]
  by_cases h : 0 < L.getD k 0
  · rw [if_pos h]; simp only [List.filter_cons, List.filter_nil]; rw [if_pos (by simpa using h)]
  · rw [if_neg h]; simp only [List.filter_cons, List.filter_nil]; rw [if_neg (by simpa using h), List.append_nil]
theorem syms_mem {L : List Int} {k s : Nat} : s ∈ syms L k ↔ s < k ∧ 0 < L.getD s 0 := by simp [syms]
theorem syms_le (L : List Int) (k : Nat) : (syms L k).length ≤ k := by
  have := List.length_filter_le (fun s => decide (0 < L.getD s 0)) (List.range k)
  rwa [List.length_range] at this
theorem syms_sta (key : Nat → Nat) (L : List Int) (k : Nat) : Sta key (syms L k) := by
  unfold syms Sta
  exact ((List.pairwise_lt_range (n := k)).filter _).imp (R := fun x y => x < y) (S := fun x y => key x = key y → x < y) (fun h _ => h)
/-- the symbols whose codes have k bits -/
def blk (L : List Int) (k n : Nat) : List Nat := (List.range n).filter fun s => decide (L.getD s 0 = (k : Int))
def cod (L : List Int) : Nat → List Nat
  | 0 => []
  | k + 1 => cod L k ++ blk L (k + 1) L.length
/-- all of them, by rising codes -/
def codedL (L : List Int) : List Nat := cod L 15
theorem blk_mem {L : List Int} {k n s : Nat} : s ∈ blk L k n ↔ s < n ∧ L.getD s 0 = (k : Int) := by simp [blk]
theorem cod_mem {L : List Int} {k s : Nat} : s ∈ cod L k ↔ s < L.length ∧ 0 < L.getD s 0 ∧ L.getD s 0 ≤ (k : Int) := by
  induction k with
  | zero =>
    constructor
    · intro h; simp [cod] at h
    · rintro ⟨_, h1, h2⟩; omega
  | succ k ih =>
    rw [cod, List.mem_append, ih, blk_mem]
    constructor
    · rintro (⟨h1, h2, h3⟩ | ⟨h1, h2⟩)
      · exact ⟨h1, h2, by omega⟩
      · exact ⟨h1, by omega, by omega⟩
    · rintro ⟨h1, h2, h3⟩
      by_cases h : L.getD s 0 = ((k + 1 : Nat) : Int)
      · exact .inr ⟨h1, h⟩
      · exact .inl ⟨h1, h2, by omega⟩
theorem cod_srt (L : List Int) (k : Nat) : Srt (kl L) (cod L k) := by
  induction k with
  | zero => exact List.Pairwise.nil
  | succ k ih =>
    refine srt_app.2 ⟨ih, ?_, ?_⟩
    · unfold blk Srt
      refine List.Pairwise.imp_of_mem ?_ ((List.pairwise_lt_range (n := L.length)).filter _)
      intro x y hx hy h
      have h1 := (blk_mem (k := k + 1)).1 hx
      have h2 := (blk_mem (k := k + 1)).1 hy
      right
      unfold kl
      rw [h1.2, h2.2]
      exact ⟨rfl, h⟩
    · intro x hx y hy
      have h1 := cod_mem.1 hx
      have h2 := blk_mem.1 hy
      left
      unfold kl
      rw [h2.2]
      omega
theorem srt_mem_eq {key : Nat → Nat} {A B : List Nat} (hA : Srt key A) (hB : Srt key B) (hm : ∀ x, x ∈ A ↔ x ∈ B) : A = B := by
  induction A generalizing B with
  | nil =>
    cases B with
    | nil => rfl
    | cons y B => have := (hm y).2 (List.mem_cons_self ..); simp at this
  | cons x A ih =>
    cases B with
    | nil => have := (hm x).1 (List.mem_cons_self ..); simp at this
    | cons y B =>
      have hA' := List.pairwise_cons.1 hA
      have hB' := List.pairwise_cons.1 hB
      have e : x = y := by
        rcases List.mem_cons.1 ((hm x).1 (List.mem_cons_self ..)) with h | h
        · exact h
        · rcases List.mem_cons.1 ((hm y).2 (List.mem_cons_self ..)) with h' | h'
          · exact h'.symm
          · exact (lx_asymm (hB'.1 x h) (hA'.1 y h')).elim
      subst e
      have irr : ∀ z, ¬ lx key z z := fun z h => lx_asymm h h
      rw [ih hA'.2 hB'.2 fun z => ?_]
      constructor
      · intro h
        rcases List.mem_cons.1 ((hm z).1 (List.mem_cons_of_mem _ h)) with h' | h'
        · subst h'; exact (irr _ (hA'.1 z h)).elim
        · exact h'
      · intro h
        rcases List.mem_cons.1 ((hm z).2 (List.mem_cons_of_mem _ h)) with h' | h'
        · subst h'; exact (irr _ (hB'.1 z h)).elim
        · exact h'
/-- what a sort by lengths makes of the symbols that have codes -/
theorem coded_eq {L : List Int} (hL : ∀ x ∈ L, inR x = true) {C : List Nat} (hp : C.Perm (syms L L.length)) (hs : Srt (kl L) C) : C = codedL L := by
  refine srt_mem_eq hs (cod_srt L 15) fun x => ?_
  rw [hp.mem_iff, syms_mem, show codedL L = cod L 15 from rfl, cod_mem]
  constructor
  · rintro ⟨h1, h2⟩
    have h := hL _ (List.getElem_mem h1)
    have h0 : 0 ≤ L[x] ∧ L[x] ≤ 15 := by simpa [inR] using h
    have e : L.getD x 0 = L[x] := by rw [List.getD_eq_getElem?_getD, List.getElem?_eq_getElem h1]; rfl
    exact ⟨h1, h2, by rw [e]; exact h0.2⟩
  · rintro ⟨h1, h2, _⟩
    exact ⟨h1, h2⟩
theorem right_in {L : List Int} (h : rightB L = true) : ∀ x ∈ L, inR x = true := by
  unfold rightB at h
  rw [Bool.and_eq_true] at h
  exact List.all_eq_true.1 h.1
theorem right_some {L : List Int} (h : rightB L = true) : 0 < (syms L L.length).length := by
  rcases Nat.eq_zero_or_pos (syms L L.length).length with h0 | h0
  · exfalso
    have hno : ∀ x ∈ L, ¬ 0 < x := by
      intro x hx hp
      obtain ⟨i, hi, rfl⟩ := List.getElem_of_mem hx
      have : i ∈ syms L L.length := syms_mem.2 ⟨hi, by rw [List.getD_eq_getElem?_getD, List.getElem?_eq_getElem hi]; exact hp⟩
      rw [List.eq_nil_of_length_eq_zero h0] at this
      simp at this
    have hm : many L = 0 := by
      unfold many
      rw [List.countP_eq_zero]
      intro x hx
      simpa using hno x hx
    have hs : rsum L = 0 := by
      clear h h0 hm
      induction L with
      | nil => rfl
      | cons x L ih =>
        show kr x + rsum L = 0
        rw [ih (fun y hy => hno y (List.mem_cons_of_mem _ hy)), kr, if_neg (hno x (List.mem_cons_self ..))]
    unfold rightB at h
    rw [hs, hm] at h
    simp at h
  · exact h0
/-- one more code -/
def cst (L : List Int) (c : CS) (s : Nat) : CS := ⟨nextCode (kl L s) c, kl L s, c.out.set s (nextCode (kl L s) c)⟩
theorem crow_blk (L : List Int) (k n : Nat) (c : CS) : crow L k c n = (blk L k n).foldl (cst L) c := by
  induction n with
  | zero => rfl
  | succ n ih =>
    rw [crow, ih, cstep]
    unfold blk
    rw [List.range_succ, List.filter_append, List.foldl_append]
    by_cases h : L.getD n 0 = (k : Int)
    · rw [if_pos h]
      simp only [List.filter_cons, List.filter_nil]
      rw [if_pos (by simpa using h)]
      have e : kl L n = k := by unfold kl; rw [h]; rfl
      show _ = cst L _ n
      unfold cst
      rw [e]
    · rw [if_neg h]
      simp only [List.filter_cons, List.filter_nil]
      rw [if_neg (by simpa using h)]
      rfl
theorem call_cod (L : List Int) (k : Nat) : call L k = (cod L k).foldl (cst L) ⟨0, 0, List.replicate L.length 0⟩ := by
  induction k with
  | zero => rfl
  | succ k ih => rw [call, crow_blk, ih, cod, List.foldl_append]
/-- the state behind the first k of them -/
def cs (L : List Int) (k : Nat) : CS := ((codedL L).take k).foldl (cst L) ⟨0, 0, List.replicate L.length 0⟩
theorem cs_succ {L : List Int} {k s : Nat} (h : (codedL L)[k]? = some s) : cs L (k + 1) = cst L (cs L k) s := by
  unfold cs
  rw [take_snoc h, List.foldl_append]
  rfl
theorem cs_end (L : List Int) : (cs L (codedL L).length).out = codesL L := by
  unfold cs codesL
  rw [List.take_length, call_cod]
  rfl
end Go.Proofs.YtahfmcdhcbfkaaaGreatDoor.HuffM
namespace Go.Proofs.YtahfmcdhcbfkaaaGreatDoor
open Go.RowKit HuffM Mem Go.Lib
attribute [local go_sem ↓] Go.wp_at_zero Go.wp_at_succ


set_option maxRecDepth 100000 in
set_option maxHeartbeats 1600000 in
theorem cmp_any (bx n c x y : Nat) (A : Option Addr) (L : List Int) (w : World) (hb : w.cell? ⟨bx, 0, none⟩ = some (.slice A n c)) (hr : Rd w A n (L.map intc)) (hx : x < n) (hy : y < n) (hL : ∀ x ∈ L, inR x = true) :
    Calls Tryz.prog 87 #[.int .i64 (x : Int), .int .i64 (y : Int), .pointer (some ⟨bx, 0, none⟩)] w fun e w' => e = .returned (.int .i64 ((kl L x : Int) - (kl L y : Int))) ∧ ∃ q, w' = w.drewN q := by
  have hln : L.length = n := by simpa using hr.1
  have one : ∀ z, z < n → ∃ ad k : Nat → Addr, True := fun _ _ => ⟨fun _ => default, fun _ => default, trivial⟩
  clear one
  have at_ : ∀ z, z < n → ∃ ad, A = some ad ∧ w.cell? (ad.add z) = some (.int .i64 (kl L z : Int)) ∧ kl L z ≤ 15 := by
    intro z hz
    obtain ⟨ad, u, h1, h2, h3⟩ := hr.at_ hz
    have hx : L[z]? = some L[z] := List.getElem?_eq_getElem (by omega)
    rw [List.getElem?_map, hx] at h2
    have hin := hL _ (List.getElem_mem (show z < L.length by omega))
    have h0 : 0 ≤ L[z] ∧ L[z] ≤ 15 := by simpa [inR] using hin
    have hk : kl L z = L[z].toNat := by unfold kl; rw [List.getD_eq_getElem?_getD, hx]; rfl
    refine ⟨ad, h1, ?_, by omega⟩
    rw [h3, ← h2, hk, Int.toNat_of_nonneg h0.1]
    rfl
  obtain ⟨ad, rfl, c1, b1⟩ := at_ x hx
  obtain ⟨ad', e, c2, b2⟩ := at_ y hy
  injection e with e
  subst e
  obtain ⟨p, hp⟩ : ∃ p, p = kl L x := ⟨_, rfl⟩
  obtain ⟨q, hq⟩ : ∃ q, q = kl L y := ⟨_, rfl⟩
  rw [← hp] at c1 b1 ⊢
  rw [← hq] at c2 b2 ⊢
  have rw1 : IntKind.i64.wrap ((p : Int) - (q : Int)) = (p : Int) - (q : Int) := by rw [IntKind.wrap_i64]; omega
  clear at_ hln hr hL hp hq
  go_enter Tryz.func87, Tryz.ntmps87
  go_wp2_with fail
  go_still (by kernel_rfl)
  go_wp2
  go_ret
  exact ⟨rfl, 1, rfl⟩

/-- two symbols can be compared, in every world that the sort comes through -/
structure CmpK (g bx : Nat) (key : Nat → Nat) (N : Nat) (w0 : World) : Prop where
  call : ∀ w x y, Fr (fun b => b = g) w0 w → x < N → y < N → Calls Tryz.prog 87 #[.int .i64 (x : Int), .int .i64 (y : Int), .pointer (some ⟨bx, 0, none⟩)] w fun e w' => e = .returned (.int .i64 ((key x : Int) - (key y : Int))) ∧ ∃ q, w' = w.drewN q
  few : ∀ x, key x ≤ 1000
theorem CmpK.fr {g bx N : Nat} {key : Nat → Nat} {w0 w1 : World} (K : CmpK g bx key N w0) (hf : Fr (fun b => b = g) w0 w1) : CmpK g bx key N w1 := ⟨fun w x y h => K.call w x y (hf.trans h (fun _ _ h => h)), K.few⟩
theorem cmpK_of (g bx n c : Nat) (A : Option Addr) (L : List Int) (w : World) (hb : w.cell? ⟨bx, 0, none⟩ = some (.slice A n c)) (hr : Rd w A n (L.map intc)) (hL : ∀ x ∈ L, inR x = true) (h1 : bx ≠ g) (h2 : ∀ ad, A = some ad → ad.block ≠ g) : CmpK g bx (kl L) n w where
  call := fun w' x y hf hx hy => cmp_any bx n c x y A L w' (hf.cell hb h1) (hr.fr hf h2) hx hy hL
  few := fun x => by
    unfold kl
    rw [List.getD_eq_getElem?_getD]
    cases h : L[x]? with
    | none => decide
    | some z =>
      have h0 : 0 ≤ z ∧ z ≤ 15 := by simpa [inR] using hL z (List.mem_of_getElem? h)
      simp
      omega
end Go.Proofs.YtahfmcdhcbfkaaaGreatDoor
