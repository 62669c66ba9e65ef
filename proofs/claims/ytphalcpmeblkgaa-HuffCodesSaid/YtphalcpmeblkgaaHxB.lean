/-
  The library's sort at numbers: two pieces of a row change places (swapRange).
-/
import Derived.Test.YtphalcpmeblkgaaPl
import Derived.Test.YtphalcpmeblkgaaHuffU
import Derived.Test.YtphalcpmeblkgaaMg
import Derived.Test.YtphalcpmeblkgaaCut
import Derived.BigRegion
import Derived.BigQuiet
import Derived.Deep.QuietTactic
import Derived.Deep.DrawnRows
namespace Go.Proofs.Ytphalcpmeblkgaa
open Go.RowKit HuffM Mem Go.Lib

/-- block g holds these numbers, and whatever behind them -/
def Col (w : World) (g : Nat) (d : List Nat) : Prop := ∃ rest, Row w g 3 (d.map natc ++ rest)
section
variable {w w' : World} {g : Nat} {d : List Nat} {S : Nat → Prop}
theorem Col.fr (h : Col w g d) (hf : Fr S w w') (hg : ¬ S g) : Col w' g d := by obtain ⟨r, h⟩ := h; exact ⟨r, h.fr hf hg⟩
theorem Col.drew (h : Col w g d) : Col w.drew g d := h
theorem Col.drewN (h : Col w g d) (n : Nat) : Col (w.drewN n) g d := h
theorem Col.cell (h : Col w g d) {i x : Nat} (hi : d[i]? = some x) : w.cell? ⟨g, i, none⟩ = some (.int .i64 (x : Int)) := by
  obtain ⟨r, h⟩ := h
  refine h.cell ?_
  have hl := (List.getElem?_eq_some_iff.1 hi).1
  rw [List.getElem?_append_left (by simpa using hl), List.getElem?_map, hi]
  rfl
theorem Col.free (h : Col w g d) (i : Nat) : w.frozen? ⟨g, i, none⟩ = false := by obtain ⟨r, h⟩ := h; exact h.free i
theorem Col.lt (h : Col w g d) : g < w.heap.size := by obtain ⟨r, h⟩ := h; exact h.lt
theorem Col.set (h : Col w g d) {i : Nat} (hi : i < d.length) (x : Nat) : Col (w.setCell ⟨g, i, none⟩ (.int .i64 (x : Int))) g (d.set i x) := by
  obtain ⟨r, h⟩ := h
  refine ⟨r, ?_⟩
  have := h.set i (.int .i64 (x : Int))
  rw [List.set_append_left _ _ (by simpa using hi)] at this
  rw [List.map_set]
  exact this
theorem Col.swap (h : Col w g d) {i j x y : Nat} (hi : d[i]? = some x) (hj : d[j]? = some y) :
    Col ((w.setCell ⟨g, i, none⟩ (.int .i64 (y : Int))).setCell ⟨g, j, none⟩ (.int .i64 (x : Int))).drew g (swp d i j) := by
  have hil := (List.getElem?_eq_some_iff.1 hi).1
  have hjl := (List.getElem?_eq_some_iff.1 hj).1
  have e1 : d.getD j 0 = y := by rw [List.getD_eq_getElem?_getD, hj]; rfl
  have e2 : d.getD i 0 = x := by rw [List.getD_eq_getElem?_getD, hi]; rfl
  unfold swp
  rw [e1, e2]
  exact (h.set hil y).set (by simpa using hjl) x
theorem fr_swap (w : World) (g i j : Nat) (u v : Value) : Fr (fun b => b = g) w ((w.setCell ⟨g, i, none⟩ u).setCell ⟨g, j, none⟩ v).drew :=
  (((Fr.refl (fun b => b = g) w).setCell (p := ⟨g, i, none⟩) (fun _ => rfl) u).setCell (p := ⟨g, j, none⟩) (fun _ => rfl) v).drew
theorem Col.second (h : Col w g d) {i j x y : Nat} (hi : d[i]? = some x) (hj : d[j]? = some y) : ∃ u, (w.setCell ⟨g, i, none⟩ (.int .i64 (y : Int))).cell? ⟨g, j, none⟩ = some u := by
  by_cases e : i = j
  · subst e; exact ⟨_, World.cell?_setCell_same _ _ _ (h.cell hi)⟩
  · exact ⟨_, (World.cell?_setCell_other _ _ _ _ (by intro e'; simp only [Addr.mk.injEq] at e'; omega)).trans (h.cell hj)⟩
end

set_option maxRecDepth 1000000 in
set_option maxHeartbeats 3200000 in
theorem swapRange_any (g n c a b m : Nat) (fv : Value) (P X M Y S : List Nat) (w : World) (hc : Col w g (P ++ (X ++ (M ++ (Y ++ S))))) (hn : n = P.length + X.length + M.length + Y.length + S.length) (hn1 : n ≤ 1000)
    (ha : a = P.length) (hb : b = P.length + X.length + M.length) (hx : X.length = m) (hy : Y.length = m) :
    Calls Try.prog 45 #[.slice (some ⟨g, 0, none⟩) n c, .int .i64 (a : Int), .int .i64 (b : Int), .int .i64 (m : Int), fv] w fun e w' =>
      e = .returned (.tuple #[]) ∧ Col w' g (P ++ (Y ++ (M ++ (X ++ S)))) ∧ Fr (fun b => b = g) w w' := by
  have HC := Lib.hid hc
  have HN := Lib.hid hn
  have HA := Lib.hid ha
  have HB := Lib.hid hb
  have HX := Lib.hid hx
  have HY := Lib.hid hy
  have han : a + m ≤ n := by omega
  have hbn : b + m ≤ n := by omega
  clear hc hn ha hb hx hy
  go_enter Try.func45, Try.ntmps45
  go_wp2
  go_loopw [10] (fun i wr => ∃ (k : Nat) (X1 X2 Y1 Y2 : List Nat), k ≤ m ∧ i = .int .i64 (k : Int) ∧ Hid (X = X1 ++ X2) ∧ Hid (Y = Y1 ++ Y2) ∧ Hid (X1.length = k ∧ Y1.length = k) ∧ Hid (Col wr g (P ++ (Y1 ++ (X2 ++ (M ++ (X1 ++ (Y2 ++ S))))))) ∧ Fr (fun b => b = g) w wr)
    (fun i _ => m - (intOf i).toNat)
  case atStart => exact ⟨0, [], X, [], Y, by omega, rfl, rfl, rfl, ⟨rfl, rfl⟩, HC, Fr.refl _ _⟩
  case round =>
    obtain ⟨k, X1, X2, Y1, Y2, hk, rfl, HX1, HY1, HK, HCk, hfr⟩ := hrel
    by_cases hlt : k < m
    · obtain ⟨x, X3, hX2⟩ : ∃ x X3, X2 = x :: X3 := by
        cases X2 with
        | nil => have h1 := HX.out; rw [HX1.out] at h1; have h2 := HK.out.1; simp at h1; omega
        | cons x X3 => exact ⟨x, X3, rfl⟩
      obtain ⟨y, Y3, hY2⟩ : ∃ y Y3, Y2 = y :: Y3 := by
        cases Y2 with
        | nil => have h1 := HY.out; rw [HY1.out] at h1; have h2 := HK.out.2; simp at h1; omega
        | cons y Y3 => exact ⟨y, Y3, rfl⟩
      subst hX2 hY2
      obtain ⟨ia, hia⟩ : ∃ ia, ia = a + k := ⟨_, rfl⟩
      obtain ⟨ib, hib⟩ : ∃ ib, ib = b + k := ⟨_, rfl⟩
      have e0 : P ++ (Y1 ++ (x :: X3 ++ (M ++ (X1 ++ (y :: Y3 ++ S))))) = (P ++ Y1) ++ x :: ((X3 ++ (M ++ X1)) ++ y :: (Y3 ++ S)) := by simp
      have hcol := HCk.out
      rw [e0] at hcol
      have l1 : ia = (P ++ Y1).length := by rw [List.length_append, hia, HA.out, HK.out.2]
      have l2 : ib = (P ++ Y1).length + 1 + (X3 ++ (M ++ X1)).length := by
        have h1 := HX.out
        rw [HX1.out] at h1
        have h2 := HK.out.1
        have h3 := HK.out.2
        have h4 := HB.out
        rw [HX1.out] at h4
        simp at h1 h4 ⊢
        omega
      have g1 : ((P ++ Y1) ++ x :: ((X3 ++ (M ++ X1)) ++ y :: (Y3 ++ S)))[ia]? = some x := getE_at _ _ _ _ l1
      have g2 : ((P ++ Y1) ++ x :: ((X3 ++ (M ++ X1)) ++ y :: (Y3 ++ S)))[ib]? = some y := by
        have := getE_at ((P ++ Y1) ++ x :: (X3 ++ (M ++ X1))) y (Y3 ++ S) ib (by simp; simp at l2; omega)
        simpa using this
      have ca := hcol.cell g1
      have cb := hcol.cell g2
      have fa := hcol.free ia
      have fb := hcol.free ib
      obtain ⟨u, cc⟩ := hcol.second g1 g2
      have hsw := hcol.swap g1 g2
      rw [swp_at _ _ _ _ _ _ _ l1 l2] at hsw
      have HSW := Lib.hid hsw
      have HFR := Lib.hid (hfr.trans (fr_swap wr g ia ib (.int .i64 (y : Int)) (.int .i64 (x : Int))) (fun _ _ h => h))
      have ra : IntKind.i64.wrap ((a : Int) + (k : Int)) = (ia : Int) := by rw [IntKind.wrap_i64]; omega
      have rb : IntKind.i64.wrap ((b : Int) + (k : Int)) = (ib : Int) := by rw [IntKind.wrap_i64]; omega
      have pa : ia < n := by omega
      have pb : ib < n := by omega
      have HL := Lib.hid hlt
      clear hcol e0 l1 l2 g1 g2 hsw hfr HCk hia hib
      go_wp2_with fail
      go_big_region
      generalize ((wr.setCell ⟨g, ia, none⟩ (Value.int IntKind.i64 (y : Int))).setCell ⟨g, ib, none⟩ (Value.int IntKind.i64 (x : Int))).drew = w3 at HSW HFR ⊢
      clear ca cb fa fb cc ra rb pa pb
      go_wp2
      go_roundw
      case rel =>
        refine ⟨k + 1, X1 ++ [x], X3, Y1 ++ [y], Y3, HL.out, by go_num, ?_, ?_, ?_, ?_, HFR.out⟩
        · show _ = _
          rw [HX1.out]; simp
        · show _ = _
          rw [HY1.out]; simp
        · exact ⟨by rw [List.length_append, HK.out.1]; rfl, by rw [List.length_append, HK.out.2]; rfl⟩
        · have h := HSW.out
          simp only [List.append_assoc, List.cons_append, List.nil_append] at h ⊢
          exact h
      case measure => have := HL.out; simp [intOf]; omega
    · obtain rfl : k = m := by omega
      have e1 : X2 = [] := by
        have h1 := HX.out
        rw [HX1.out, List.length_append, HK.out.1] at h1
        exact List.eq_nil_of_length_eq_zero (by omega)
      have e2 : Y2 = [] := by
        have h1 := HY.out
        rw [HY1.out, List.length_append, HK.out.2] at h1
        exact List.eq_nil_of_length_eq_zero (by omega)
      subst e1 e2
      have h := HCk.out
      rw [List.append_nil] at HX1 HY1
      have HE := Lib.hid (And.intro HX1.out HY1.out)
      have hcol : Col wr g (P ++ (Y ++ (M ++ (X ++ S)))) := by
        rw [HE.out.1, HE.out.2]
        simpa using h
      have HF := Lib.hid hcol
      clear h hcol HX1 HY1 HCk
      go_wp2
      go_end0
      exact ⟨rfl, HF.out, hfr⟩
end Go.Proofs.Ytphalcpmeblkgaa
