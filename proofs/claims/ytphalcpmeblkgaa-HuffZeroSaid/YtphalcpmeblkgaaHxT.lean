/-
  The methods of the program's nodes: Less, Swap.
-/
import Derived.Test.YtphalcpmeblkgaaPl
import Derived.Test.YtphalcpmeblkgaaHuffZ
import Derived.Test.YtphalcpmeblkgaaMg
import Derived.BigRegion
import Derived.BigQuiet
import Derived.Deep.QuietTactic
namespace Go.Proofs.Ytphalcpmeblkgaa
open Go.RowKit HuffM Mem Go.Lib
attribute [local go_sem ↓] Go.wp_at_zero Go.wp_at_succ

def cellsN (l : List Nd) : List Value := l.flatMap fun p => [natc p.1, natc p.2]
theorem cellsN_len (l : List Nd) : (cellsN l).length = l.length * 2 := by
  induction l with
  | nil => rfl
  | cons p l ih => simp only [cellsN, List.flatMap_cons, List.length_append, List.length_cons, List.length_nil] at ih ⊢; omega
theorem cellsN_app (l m : List Nd) : cellsN (l ++ m) = cellsN l ++ cellsN m := by simp [cellsN]
theorem cellsN_at {l : List Nd} {i : Nat} {p : Nd} (h : l[i]? = some p) : (cellsN l)[i * 2]? = some (natc p.1) ∧ (cellsN l)[i * 2 + 1]? = some (natc p.2) := by
  obtain ⟨hi, e⟩ := List.getElem?_eq_some_iff.1 h
  have hs : l = l.take i ++ p :: l.drop (i + 1) := by
    conv => lhs; rw [← List.take_append_drop i l, List.drop_eq_getElem_cons hi, e]
  have hl : (cellsN (l.take i)).length = i * 2 := by rw [cellsN_len, List.length_take]; omega
  rw [hs, cellsN_app]
  show (cellsN (l.take i) ++ natc p.1 :: natc p.2 :: cellsN (l.drop (i + 1)))[i * 2]? = _ ∧ _
  constructor
  · rw [List.getElem?_append_right (by omega), hl, Nat.sub_self]; rfl
  · show (cellsN (l.take i) ++ natc p.1 :: natc p.2 :: cellsN (l.drop (i + 1)))[i * 2 + 1]? = _
    rw [List.getElem?_append_right (by omega), hl, Nat.add_sub_cancel_left]; rfl
theorem cellsN_set (l : List Nd) (i : Nat) (p : Nd) (h : i < l.length) : cellsN (l.set i p) = ((cellsN l).set (i * 2) (natc p.1)).set (i * 2 + 1) (natc p.2) := by
  have hs : l = l.take i ++ l[i] :: l.drop (i + 1) := by
    conv => lhs; rw [← List.take_append_drop i l, List.drop_eq_getElem_cons h]
  have ht : (l.take i).length = i := by rw [List.length_take]; omega
  have hl : (cellsN (l.take i)).length = i * 2 := by rw [cellsN_len, ht]
  have e1 : l.set i p = l.take i ++ p :: l.drop (i + 1) := by
    conv => lhs; rw [hs]
    rw [List.set_append_right _ _ (by omega), ht, Nat.sub_self, List.set_cons_zero]
  have e2 : cellsN l = cellsN (l.take i) ++ natc l[i].1 :: natc l[i].2 :: cellsN (l.drop (i + 1)) := by
    conv => lhs; rw [hs, cellsN_app]
    rfl
  rw [e1, e2, cellsN_app, List.set_append_right _ _ (by omega), hl, Nat.sub_self, List.set_cons_zero, List.set_append_right _ _ (by omega), hl, Nat.add_sub_cancel_left]
  rfl
/-- nodes in block g, which has room for c -/
def Nods (w : World) (g c : Nat) (l : List Nd) : Prop := ∃ rest, Row w g 59 (cellsN l ++ rest) ∧ l.length * 2 + rest.length = c * 2 ∧ c ≤ maxLen
section
variable {w w' : World} {g c : Nat} {l : List Nd} {S : Nat → Prop}
theorem Nods.fr (h : Nods w g c l) (hf : Fr S w w') (hg : ¬ S g) : Nods w' g c l := by obtain ⟨r, h, h2⟩ := h; exact ⟨r, h.fr hf hg, h2⟩
theorem Nods.cap (h : Nods w g c l) : l.length ≤ c := by obtain ⟨r, h, h2, _⟩ := h; omega
theorem Nods.cell (h : Nods w g c l) {i : Nat} {p : Nd} (hi : l[i]? = some p) : w.cell? ⟨g, i * 2, none⟩ = some (.int .i64 (p.1 : Int)) ∧ w.cell? ⟨g, i * 2 + 1, none⟩ = some (.int .i64 (p.2 : Int)) := by
  obtain ⟨r, h, _⟩ := h
  have hl := (List.getElem?_eq_some_iff.1 hi).1
  obtain ⟨h1, h2⟩ := cellsN_at hi
  exact ⟨h.cell (by rw [List.getElem?_append_left (by rw [cellsN_len]; omega)]; exact h1), h.cell (by rw [List.getElem?_append_left (by rw [cellsN_len]; omega)]; exact h2)⟩
theorem Nods.free (h : Nods w g c l) (i : Nat) : w.frozen? ⟨g, i, none⟩ = false := by obtain ⟨r, h, _⟩ := h; exact h.free i
theorem Nods.lt (h : Nods w g c l) : g < w.heap.size := by obtain ⟨r, h, _⟩ := h; exact h.lt
theorem Nods.set (h : Nods w g c l) {i : Nat} (hi : i < l.length) (p : Nd) : Nods ((w.setCell ⟨g, i * 2, none⟩ (.int .i64 (p.1 : Int))).setCell ⟨g, i * 2 + 1, none⟩ (.int .i64 (p.2 : Int))) g c (l.set i p) := by
  obtain ⟨r, h, h2⟩ := h
  refine ⟨r, ?_, by rw [List.length_set]; exact h2⟩
  have := (h.set (i * 2) (.int .i64 (p.1 : Int))).set (i * 2 + 1) (.int .i64 (p.2 : Int))
  rw [List.set_append_left _ _ (by rw [cellsN_len]; omega), List.set_append_left _ _ (by rw [List.length_set, cellsN_len]; omega)] at this
  rw [cellsN_set l i p hi]
  exact this
theorem own_of_nods (h : Nods w g c l) {base : Nat} (hb : base ≤ g) : w.ownsRow base 59 2 (.slice (some ⟨g, 0, none⟩) l.length c) l.length (cellsN l) := by
  have hc := h.cap
  obtain ⟨r, h1, h2, h3⟩ := h
  exact ⟨cellsN_len l, .inr ⟨g, c, (cellsN l ++ r).toArray, rfl, hb, h1, hc, h3, by simp [cellsN_len]; omega, by simp [cellsN_len]⟩⟩
theorem nods_of_own {base : Nat} {A : Option Addr} (h : w.ownsRow base 59 2 (.slice A l.length c) l.length (cellsN l)) (hl : 0 < l.length) : ∃ g, A = some ⟨g, 0, none⟩ ∧ base ≤ g ∧ Nods w g c l := by
  rcases h.2 with ⟨hv, h0⟩ | ⟨g, cap, cur, hv, hb, hg, hnc, hm, hcs, ht⟩
  · omega
  · injection hv with hA _ hc
    subst hc
    refine ⟨g, hA, hb, cur.toList.drop (l.length * 2), ?_, by simp; omega, hm⟩
    unfold Row
    rw [← ht, List.take_append_drop]
    exact hg
end

set_option maxRecDepth 100000 in
set_option maxHeartbeats 1600000 in
theorem less_any (g n c i j : Nat) (l : List Nd) (w : World) (h : Nods w g c l) (hn : l.length = n) (hi : i < n) (hj : j < n) :
    Calls Try.prog 63 #[.slice (some ⟨g, 0, none⟩) n c, .int .i64 (i : Int), .int .i64 (j : Int)] w fun e w' => e = .returned (.bool (ltb (gn l i) (gn l j))) ∧ ∃ q, w' = w.drewN q := by
  obtain ⟨a1, a2⟩ := h.cell (gn_at (show i < l.length by omega))
  obtain ⟨b1, b2⟩ := h.cell (gn_at (show j < l.length by omega))
  obtain ⟨x, hx⟩ : ∃ x, x = gn l i := ⟨_, rfl⟩
  obtain ⟨y, hy⟩ : ∃ y, y = gn l j := ⟨_, rfl⟩
  rw [← hx] at a1 a2 ⊢
  rw [← hy] at b1 b2 ⊢
  obtain ⟨x1, x2⟩ := x
  obtain ⟨y1, y2⟩ := y
  unfold ltb
  simp only at a1 a2 b1 b2 ⊢
  clear h hx hy hn
  by_cases e : x1 = y1
  · have t1 : ((x1 : Int) != (y1 : Int)) = false := by simp; omega
    have t2 : (x1 != y1) = false := by simpa using e
    rw [t2, cond_false]
    obtain ⟨v, hv⟩ : ∃ v, v = decide (x2 < y2) := ⟨_, rfl⟩
    rw [← hv]
    have HV := Lib.hid hv
    have hvd : decide (x2 < y2) = v := hv.symm
    clear e t2 hv
    go_enter Try.func63, Try.ntmps63
    go_wp2_with fail
    go_still (by kernel_rfl)
    change Exit.then _ _ _ _ w.drew
    obtain ⟨w1, hw1⟩ : ∃ w1, w1 = w.drew := ⟨_, rfl⟩
    rw [← hw1]
    replace a1 : w1.cell? ⟨g, i * 2, none⟩ = some (.int .i64 (x1 : Int)) := by rw [hw1]; exact a1
    replace a2 : w1.cell? ⟨g, i * 2 + 1, none⟩ = some (.int .i64 (x2 : Int)) := by rw [hw1]; exact a2
    replace b1 : w1.cell? ⟨g, j * 2, none⟩ = some (.int .i64 (y1 : Int)) := by rw [hw1]; exact b1
    replace b2 : w1.cell? ⟨g, j * 2 + 1, none⟩ = some (.int .i64 (y2 : Int)) := by rw [hw1]; exact b2
    have HW := Lib.hid hw1
    clear hw1
    go_wp2_with fail
    go_still (by kernel_rfl)
    change Exit.then _ _ _ _ w1.drew
    go_wp2
    go_ret
    exact ⟨rfl, 2, by rw [HW.out]; rfl⟩
  · have t1 : ((x1 : Int) != (y1 : Int)) = true := by simp; omega
    have t2 : (x1 != y1) = true := by simpa using e
    rw [t2, cond_true]
    obtain ⟨v, hv⟩ : ∃ v, v = decide (x1 < y1) := ⟨_, rfl⟩
    rw [← hv]
    have HV := Lib.hid hv
    have hvd : decide (x1 < y1) = v := hv.symm
    clear e t2 hv
    go_enter Try.func63, Try.ntmps63
    go_wp2_with fail
    go_still (by kernel_rfl)
    change Exit.then _ _ _ _ w.drew
    obtain ⟨w1, hw1⟩ : ∃ w1, w1 = w.drew := ⟨_, rfl⟩
    rw [← hw1]
    replace a1 : w1.cell? ⟨g, i * 2, none⟩ = some (.int .i64 (x1 : Int)) := by rw [hw1]; exact a1
    replace a2 : w1.cell? ⟨g, i * 2 + 1, none⟩ = some (.int .i64 (x2 : Int)) := by rw [hw1]; exact a2
    replace b1 : w1.cell? ⟨g, j * 2, none⟩ = some (.int .i64 (y1 : Int)) := by rw [hw1]; exact b1
    replace b2 : w1.cell? ⟨g, j * 2 + 1, none⟩ = some (.int .i64 (y2 : Int)) := by rw [hw1]; exact b2
    have HW := Lib.hid hw1
    clear hw1
    go_wp2_with fail
    go_still (by kernel_rfl)
    change Exit.then _ _ _ _ w1.drew
    go_wp2
    go_ret
    exact ⟨rfl, 2, by rw [HW.out]; rfl⟩

set_option maxRecDepth 100000 in
set_option maxHeartbeats 3200000 in
theorem swap_any (g n c i j : Nat) (l : List Nd) (w : World) (h : Nods w g c l) (hn : l.length = n) (hi : i < n) (hj : j < n) :
    Calls Try.prog 64 #[.slice (some ⟨g, 0, none⟩) n c, .int .i64 (i : Int), .int .i64 (j : Int)] w fun e w' => e = .returned (.tuple #[]) ∧ Nods w' g c (swn l i j) ∧ Fr (fun b => b = g) w w' := by
  have gi := gn_at (show i < l.length by omega)
  have gj := gn_at (show j < l.length by omega)
  obtain ⟨a1, a2⟩ := h.cell gi
  obtain ⟨b1, b2⟩ := h.cell gj
  obtain ⟨x, hx⟩ : ∃ x, x = gn l i := ⟨_, rfl⟩
  obtain ⟨y, hy⟩ : ∃ y, y = gn l j := ⟨_, rfl⟩
  rw [← hx] at a1 a2 gi
  rw [← hy] at b1 b2 gj
  have H1 := h.set (show i < l.length by omega) y
  have gj1 : (l.set i y)[j]? = some y := by
    rw [List.getElem?_set]
    by_cases e : i = j
    · rw [if_pos e, if_pos (by omega)]
    · rw [if_neg e]; exact gj
  obtain ⟨c1, c2⟩ := H1.cell gj1
  have H2 := H1.set (show j < (l.set i y).length by rw [List.length_set]; omega) x
  have e2 : (l.set i y).set j x = swn l i j := by unfold swn; rw [hx, hy]
  rw [e2] at H2
  have HF := Fr.refl (fun b => b = g) w
  have HF2 := (((HF.setCell (p := ⟨g, i * 2, none⟩) (fun _ => rfl) (.int .i64 (y.1 : Int))).setCell (p := ⟨g, i * 2 + 1, none⟩) (fun _ => rfl) (.int .i64 (y.2 : Int))).setCell (p := ⟨g, j * 2, none⟩) (fun _ => rfl) (.int .i64 (x.1 : Int))).setCell (p := ⟨g, j * 2 + 1, none⟩) (fun _ => rfl) (.int .i64 (x.2 : Int))
  have f1 := h.free (i * 2)
  have f2 := h.free (i * 2 + 1)
  have f3 := h.free (j * 2)
  have f4 := h.free (j * 2 + 1)
  obtain ⟨x1, x2⟩ := x
  obtain ⟨y1, y2⟩ := y
  simp only at a1 a2 b1 b2 c1 c2 H2 HF2
  have HE := Lib.hid (And.intro H2 HF2)
  clear h hx hy hn gi gj H1 gj1 H2 e2 HF HF2
  go_enter Try.func64, Try.ntmps64
  go_wp2_with fail
  go_big_region
  clear a1 a2 b1 b2 c1 c2 f1 f2 f3 f4
  go_wp2
  go_end0
  exact ⟨rfl, HE.out.1, HE.out.2.drew⟩
end Go.Proofs.Ytphalcpmeblkgaa
