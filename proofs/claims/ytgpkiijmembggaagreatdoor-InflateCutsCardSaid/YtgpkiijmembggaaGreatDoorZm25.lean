/-
  The loop of layer 5's reference once that leaves the rest (written by gen_once.py).
  The methods of the program's nodes: Less, Swap.
  The library's heap over the program's nodes: how a method is reached; sifting down.
  The library's heap over the program's nodes: sifting down.
-/
import Derived.Test.YtgpkiijmembggaaGreatDoorZm24
import Derived.Test.YtgpkiijmembggaaGreatDoorZm05
import Derived.BigRegion
import Derived.BigQuiet
import Derived.Deep.QuietTactic
namespace Go.Proofs.YtgpkiijmembggaaGreatDoor
open Go.RowKit HuffM Mem Go.Lib
attribute [local go_sem ↓] Go.wp_at_zero Go.wp_at_succ
set_option linter.unusedVariables false

theorem cells2_snoc (E : List (Grp × Value)) (p : Grp × Value) : cells2 (E ++ [p]) = cells2 E ++ [natc p.1.w, p.2] := by simp [cells2]
theorem gs_snoc (E : List (Grp × Value)) (p : Grp × Value) : gs (E ++ [p]) = gs E ++ [p.1] := by simp [gs]
theorem one_pair {x : Nat} {A : Option Addr} {n c : Nat} : ∀ u ∈ [natc x, Value.slice A n c], u.oneCell' = true := by
  intro u hu
  simp at hu
  rcases hu with rfl | rfl <;> rfl
theorem fr_row {w wr w' : World} {A : Option Addr} {n c : Nat} {e : TypeId} {size m : Nat} {xs : List Value} (hfr : Fr (fun _ => False) w wr) (h : wr.ownsRow w.heap.size e size (.slice A n c) m xs) {wx : World} (hx : Fr (fun _ => False) wr wx)
    (h' : Fr (fun k => (Value.slice A n c).ownBlock = some k) wx w') : Fr (fun _ => False) w w' :=
  (hfr.trans hx (fun _ _ h => h)).trans h' (fun b hb hs => by have := (h.lt b hs).1; omega)

end Go.Proofs.YtgpkiijmembggaaGreatDoor
namespace Go.Proofs.YtgpkiijmembggaaGreatDoor
open Go.RowKit HuffM Mem Go.Lib
attribute [local go_sem ↓] Go.wp_at_zero Go.wp_at_succ

def cellsN (l : List Nd) : List Value := l.flatMap fun p => [natc p.1, natc p.2]
theorem cellsN_len (l : List Nd) : (cellsN l).length = l.length * 2 := by
  induction l with
  | nil => rfl
  | cons p l ih => simp only [cellsN, List.flatMap_cons, List.length_append, List.length_cons, List.length_nil] at ih ⊢; omega
theorem cellsN_app (l m : List Nd) : cellsN (l ++ m) = cellsN l ++ cellsN m := by simp [cellsN]
theorem cellsN_at {l : List Nd} {i : Nat} {p : Nd} (h : l[i]? = some p) : (cellsN l)[i * 2]? = some (natc p.1) ∧ (cellsN l)[i * 2 + 1]? = some (natc p.2) := by
  obtain ⟨hi, e⟩ := List.getElem?_eq_some_iff.1 h
  have hs : l = l.take i ++ p :: l.drop (i + 1) := by
    conv => lhs; rw [← List.take_append_drop i l, List.drop_eq_getElem_cons hi, e]
  have hl : (cellsN (l.take i)).length = i * 2 := by rw [cellsN_len, List.length_take]; omega
  rw [hs, cellsN_app]
  show (cellsN (l.take i) ++ natc p.1 :: natc p.2 :: cellsN (l.drop (i + 1)))[i * 2]? = _ ∧ _
  constructor
  · rw [List.getElem?_append_right (by omega), hl, Nat.sub_self]; rfl
  · show (cellsN (l.take i) ++ natc p.1 :: natc p.2 :: cellsN (l.drop (i + 1)))[i * 2 + 1]? = _
    rw [List.getElem?_append_right (by omega), hl, Nat.add_sub_cancel_left]; rfl
theorem cellsN_set (l : List Nd) (i : Nat) (p : Nd) (h : i < l.length) : cellsN (l.set i p) = ((cellsN l).set (i * 2) (natc p.1)).set (i * 2 + 1) (natc p.2) := by
  have hs : l = l.take i ++ l[i] :: l.drop (i + 1) := by
    conv => lhs; rw [← List.take_append_drop i l, List.drop_eq_getElem_cons h]
  have ht : (l.take i).length = i := by rw [List.length_take]; omega
  have hl : (cellsN (l.take i)).length = i * 2 := by rw [cellsN_len, ht]
  have e1 : l.set i p = l.take i ++ p :: l.drop (i + 1) := by
    conv => lhs; rw [hs]
    rw [List.set_append_right _ _ (by omega), ht, Nat.sub_self, List.set_cons_zero]
  have e2 : cellsN l = cellsN (l.take i) ++ natc l[i].1 :: natc l[i].2 :: cellsN (l.drop (i + 1)) := by
    conv => lhs; rw [hs, cellsN_app]
    rfl
  rw [e1, e2, cellsN_app, List.set_append_right _ _ (by omega), hl, Nat.sub_self, List.set_cons_zero, List.set_append_right _ _ (by omega), hl, Nat.add_sub_cancel_left]
  rfl
/-- nodes in block g, which has room for c -/
def Nods (w : World) (g c : Nat) (l : List Nd) : Prop := ∃ rest, Row w g 125 (cellsN l ++ rest) ∧ l.length * 2 + rest.length = c * 2 ∧ c ≤ maxLen
section
variable {w w' : World} {g c : Nat} {l : List Nd} {S : Nat → Prop}
theorem Nods.fr (h : Nods w g c l) (hf : Fr S w w') (hg : ¬ S g) : Nods w' g c l := by obtain ⟨r, h, h2⟩ := h; exact ⟨r, h.fr hf hg, h2⟩
theorem Nods.cap (h : Nods w g c l) : l.length ≤ c := by obtain ⟨r, h, h2, _⟩ := h; omega
theorem Nods.cell (h : Nods w g c l) {i : Nat} {p : Nd} (hi : l[i]? = some p) : w.cell? ⟨g, i * 2, none⟩ = some (.int .i64 (p.1 : Int)) ∧ w.cell? ⟨g, i * 2 + 1, none⟩ = some (.int .i64 (p.2 : Int)) := by
  obtain ⟨r, h, _⟩ := h
  have hl := (List.getElem?_eq_some_iff.1 hi).1
  obtain ⟨h1, h2⟩ := cellsN_at hi
  exact ⟨h.cell (by rw [List.getElem?_append_left (by rw [cellsN_len]; omega)]; exact h1), h.cell (by rw [List.getElem?_append_left (by rw [cellsN_len]; omega)]; exact h2)⟩
theorem Nods.free (h : Nods w g c l) (i : Nat) : w.frozen? ⟨g, i, none⟩ = false := by obtain ⟨r, h, _⟩ := h; exact h.free i
theorem Nods.lt (h : Nods w g c l) : g < w.heap.size := by obtain ⟨r, h, _⟩ := h; exact h.lt
theorem Nods.set (h : Nods w g c l) {i : Nat} (hi : i < l.length) (p : Nd) : Nods ((w.setCell ⟨g, i * 2, none⟩ (.int .i64 (p.1 : Int))).setCell ⟨g, i * 2 + 1, none⟩ (.int .i64 (p.2 : Int))) g c (l.set i p) := by
  obtain ⟨r, h, h2⟩ := h
  refine ⟨r, ?_, by rw [List.length_set]; exact h2⟩
  have := (h.set (i * 2) (.int .i64 (p.1 : Int))).set (i * 2 + 1) (.int .i64 (p.2 : Int))
  rw [List.set_append_left _ _ (by rw [cellsN_len]; omega), List.set_append_left _ _ (by rw [List.length_set, cellsN_len]; omega)] at this
  rw [cellsN_set l i p hi]
  exact this
theorem own_of_nods (h : Nods w g c l) {base : Nat} (hb : base ≤ g) : w.ownsRow base 125 2 (.slice (some ⟨g, 0, none⟩) l.length c) l.length (cellsN l) := by
  have hc := h.cap
  obtain ⟨r, h1, h2, h3⟩ := h
  exact ⟨cellsN_len l, .inr ⟨g, c, (cellsN l ++ r).toArray, rfl, hb, h1, hc, h3, by simp [cellsN_len]; omega, by simp [cellsN_len]⟩⟩
theorem nods_of_own {base : Nat} {A : Option Addr} (h : w.ownsRow base 125 2 (.slice A l.length c) l.length (cellsN l)) (hl : 0 < l.length) : ∃ g, A = some ⟨g, 0, none⟩ ∧ base ≤ g ∧ Nods w g c l := by
  rcases h.2 with ⟨hv, h0⟩ | ⟨g, cap, cur, hv, hb, hg, hnc, hm, hcs, ht⟩
  · omega
  · injection hv with hA _ hc
    subst hc
    refine ⟨g, hA, hb, cur.toList.drop (l.length * 2), ?_, by simp; omega, hm⟩
    unfold Row
    rw [← ht, List.take_append_drop]
    exact hg
end

set_option maxRecDepth 100000 in
set_option maxHeartbeats 1600000 in
theorem less_any (g n c i j : Nat) (l : List Nd) (w : World) (h : Nods w g c l) (hn : l.length = n) (hi : i < n) (hj : j < n) :
    Calls Tryz.prog 131 #[.slice (some ⟨g, 0, none⟩) n c, .int .i64 (i : Int), .int .i64 (j : Int)] w fun e w' => e = .returned (.bool (ltb (gn l i) (gn l j))) ∧ ∃ q, w' = w.drewN q := by
  obtain ⟨a1, a2⟩ := h.cell (gn_at (show i < l.length by omega))
  obtain ⟨b1, b2⟩ := h.cell (gn_at (show j < l.length by omega))
  obtain ⟨x, hx⟩ : ∃ x, x = gn l i := ⟨_, rfl⟩
  obtain ⟨y, hy⟩ : ∃ y, y = gn l j := ⟨_, rfl⟩
  rw [← hx] at a1 a2 ⊢
  rw [← hy] at b1 b2 ⊢
  obtain ⟨x1, x2⟩ := x
  obtain ⟨y1, y2⟩ := y
  unfold ltb
  simp only at a1 a2 b1 b2 ⊢
  clear h hx hy hn
  by_cases e : x1 = y1
  · have t1 : ((x1 : Int) != (y1 : Int)) = false := by simp; omega
    have t2 : (x1 != y1) = false := by simpa using e
    rw [t2, cond_false]
    obtain ⟨v, hv⟩ : ∃ v, v = decide (x2 < y2) := ⟨_, rfl⟩
    rw [← hv]
    have HV := Lib.hid hv
    have hvd : decide (x2 < y2) = v := hv.symm
    clear e t2 hv
    go_enter Tryz.func131, Tryz.ntmps131
    go_wp2_with fail
    go_still (by kernel_rfl)
    change Exit.then _ _ _ _ w.drew
    obtain ⟨w1, hw1⟩ : ∃ w1, w1 = w.drew := ⟨_, rfl⟩
    rw [← hw1]
    replace a1 : w1.cell? ⟨g, i * 2, none⟩ = some (.int .i64 (x1 : Int)) := by rw [hw1]; exact a1
    replace a2 : w1.cell? ⟨g, i * 2 + 1, none⟩ = some (.int .i64 (x2 : Int)) := by rw [hw1]; exact a2
    replace b1 : w1.cell? ⟨g, j * 2, none⟩ = some (.int .i64 (y1 : Int)) := by rw [hw1]; exact b1
    replace b2 : w1.cell? ⟨g, j * 2 + 1, none⟩ = some (.int .i64 (y2 : Int)) := by rw [hw1]; exact b2
    have HW := Lib.hid hw1
    clear hw1
    go_wp2_with fail
    go_still (by kernel_rfl)
    change Exit.then _ _ _ _ w1.drew
    go_wp2
    go_ret
    exact ⟨rfl, 2, by rw [HW.out]; rfl⟩
  · have t1 : ((x1 : Int) != (y1 : Int)) = true := by simp; omega
    have t2 : (x1 != y1) = true := by simpa using e
    rw [t2, cond_true]
    obtain ⟨v, hv⟩ : ∃ v, v = decide (x1 < y1) := ⟨_, rfl⟩
    rw [← hv]
    have HV := Lib.hid hv
    have hvd : decide (x1 < y1) = v := hv.symm
    clear e t2 hv
    go_enter Tryz.func131, Tryz.ntmps131
    go_wp2_with fail
    go_still (by kernel_rfl)
    change Exit.then _ _ _ _ w.drew
    obtain ⟨w1, hw1⟩ : ∃ w1, w1 = w.drew := ⟨_, rfl⟩
    rw [← hw1]
    replace a1 : w1.cell? ⟨g, i * 2, none⟩ = some (.int .i64 (x1 : Int)) := by rw [hw1]; exact a1
    replace a2 : w1.cell? ⟨g, i * 2 + 1, none⟩ = some (.int .i64 (x2 : Int)) := by rw [hw1]; exact a2
    replace b1 : w1.cell? ⟨g, j * 2, none⟩ = some (.int .i64 (y1 : Int)) := by rw [hw1]; exact b1
    replace b2 : w1.cell? ⟨g, j * 2 + 1, none⟩ = some (.int .i64 (y2 : Int)) := by rw [hw1]; exact b2
    have HW := Lib.hid hw1
    clear hw1
    go_wp2_with fail
    go_still (by kernel_rfl)
    change Exit.then _ _ _ _ w1.drew
    go_wp2
    go_ret
    exact ⟨rfl, 2, by rw [HW.out]; rfl⟩

set_option maxRecDepth 100000 in
set_option maxHeartbeats 3200000 in
theorem swap_any (g n c i j : Nat) (l : List Nd) (w : World) (h : Nods w g c l) (hn : l.length = n) (hi : i < n) (hj : j < n) :
    Calls Tryz.prog 132 #[.slice (some ⟨g, 0, none⟩) n c, .int .i64 (i : Int), .int .i64 (j : Int)] w fun e w' => e = .returned (.tuple #[]) ∧ Nods w' g c (swn l i j) ∧ Fr (fun b => b = g) w w' := by
  have gi := gn_at (show i < l.length by omega)
  have gj := gn_at (show j < l.length by omega)
  obtain ⟨a1, a2⟩ := h.cell gi
  obtain ⟨b1, b2⟩ := h.cell gj
  obtain ⟨x, hx⟩ : ∃ x, x = gn l i := ⟨_, rfl⟩
  obtain ⟨y, hy⟩ : ∃ y, y = gn l j := ⟨_, rfl⟩
  rw [← hx] at a1 a2 gi
  rw [← hy] at b1 b2 gj
  have H1 := h.set (show i < l.length by omega) y
  have gj1 : (l.set i y)[j]? = some y := by
    rw [List.getElem?_set]
    by_cases e : i = j
    · rw [if_pos e, if_pos (by omega)]
    · rw [if_neg e]; exact gj
  obtain ⟨c1, c2⟩ := H1.cell gj1
  have H2 := H1.set (show j < (l.set i y).length by rw [List.length_set]; omega) x
  have e2 : (l.set i y).set j x = swn l i j := by unfold swn; rw [hx, hy]
  rw [e2] at H2
  have HF := Fr.refl (fun b => b = g) w
  have HF2 := (((HF.setCell (p := ⟨g, i * 2, none⟩) (fun _ => rfl) (.int .i64 (y.1 : Int))).setCell (p := ⟨g, i * 2 + 1, none⟩) (fun _ => rfl) (.int .i64 (y.2 : Int))).setCell (p := ⟨g, j * 2, none⟩) (fun _ => rfl) (.int .i64 (x.1 : Int))).setCell (p := ⟨g, j * 2 + 1, none⟩) (fun _ => rfl) (.int .i64 (x.2 : Int))
  have f1 := h.free (i * 2)
  have f2 := h.free (i * 2 + 1)
  have f3 := h.free (j * 2)
  have f4 := h.free (j * 2 + 1)
  obtain ⟨x1, x2⟩ := x
  obtain ⟨y1, y2⟩ := y
  simp only at a1 a2 b1 b2 c1 c2 H2 HF2
  have HE := Lib.hid (And.intro H2 HF2)
  clear h hx hy hn gi gj H1 gj1 H2 e2 HF HF2
  go_enter Tryz.func132, Tryz.ntmps132
  go_wp2_with fail
  go_big_region
  clear a1 a2 b1 b2 c1 c2 f1 f2 f3 f4
  go_wp2
  go_end0
  exact ⟨rfl, HE.out.1, HE.out.2.drew⟩
end Go.Proofs.YtgpkiijmembggaaGreatDoor
namespace Go.Proofs.YtgpkiijmembggaaGreatDoor
open Go.RowKit HuffM Mem Go.Lib
attribute [local go_sem ↓] Go.wp_at_zero Go.wp_at_succ

theorem wrapnil (x t : TypeId) (a : Addr) (s u : ByteArray) : Builtin.ssaWrapNilChk_ #[x] t #[.pointer (some a), .string s, .string u] = pure (.pointer (some a)) := rfl
noncomputable def meth? (nm : String) : Option (Option (Option (FuncId × Bool) × Nat)) := (Tryz.prog.info? 127).map fun i => (i.methods.find? (·.name == nm)).map fun m => (m.func, m.path.size)
set_option maxRecDepth 100000 in
theorem meth_val (fuel : Nat) (nm : String) (f : FuncId) (hi : meth? nm = some (some (some (f, false), 0))) (b n c : Nat) (A : Option Addr) (w : World) (h : w.cell? ⟨b, 0, none⟩ = some (.slice A n c)) :
    Sem.run Tryz.prog (method (fuel + 1) 127 (.pointer (some ⟨b, 0, none⟩)) nm) w = .ok (f, .slice A n c) w := by
  unfold meth? at hi
  cases hq : Tryz.prog.info? 127 with
  | none => rw [hq] at hi; simp at hi
  | some i =>
    rw [hq] at hi
    cases hm : i.methods.find? (·.name == nm) with
    | none => simp [hm] at hi
    | some m =>
      simp [hm] at hi
      obtain ⟨h1, h2⟩ := hi
      unfold method
      simp [typeInfo, hq, hm, h1, h2, follow, receiverAt, run_underlying Tryz.underlying127, Place.get, strVal, wrapnil, go_sem, h]
set_option maxRecDepth 100000 in
theorem meth_ptr (fuel : Nat) (nm : String) (f : FuncId) (hi : meth? nm = some (some (some (f, true), 0))) (b : Nat) (w : World) :
    Sem.run Tryz.prog (method (fuel + 1) 127 (.pointer (some ⟨b, 0, none⟩)) nm) w = .ok (f, .pointer (some ⟨b, 0, none⟩)) w := by
  unfold meth? at hi
  cases hq : Tryz.prog.info? 127 with
  | none => rw [hq] at hi; simp at hi
  | some i =>
    rw [hq] at hi
    cases hm : i.methods.find? (·.name == nm) with
    | none => simp [hm] at hi
    | some m =>
      simp [hm] at hi
      obtain ⟨h1, h2⟩ := hi
      unfold method
      simp [typeInfo, hq, hm, h1, h2, follow, receiverAt, run_underlying Tryz.underlying127, Place.get, go_sem]
set_option maxRecDepth 100000 in
theorem i_len : meth? "Len" = some (some (some (72, false), 0)) := by kernel_rfl
set_option maxRecDepth 100000 in
theorem i_less : meth? "Less" = some (some (some (131, false), 0)) := by kernel_rfl
set_option maxRecDepth 100000 in
theorem i_swap : meth? "Swap" = some (some (some (132, false), 0)) := by kernel_rfl
set_option maxRecDepth 100000 in
theorem i_pop : meth? "Pop" = some (some (some (133, true), 0)) := by kernel_rfl
set_option maxRecDepth 100000 in
theorem i_push : meth? "Push" = some (some (some (134, true), 0)) := by kernel_rfl

/-- the heap's variable lies in block b, its nodes in a row of one's own, in a block of G -/
def Hs (w : World) (b : Nat) (G : Nat → Prop) (l : List Nd) : Prop := ¬ G b ∧ ∃ A c, w.heap[b]? = some (.cells #[.slice A l.length c] 122 (0, 0)) ∧ w.ownsRow 0 125 2 (.slice A l.length c) l.length (cellsN l) ∧ ∀ k, (Value.slice A l.length c).ownBlock = some k → G k
theorem Hs.fr {S : Nat → Prop} {w w' : World} {b : Nat} {G : Nat → Prop} {l : List Nd} (h : Hs w b G l) (hf : Fr S w w') (hb : ¬ S b) (hS : ∀ k, G k → ¬ S k) : Hs w' b G l := by
  obtain ⟨h0, A, c, h1, h2, h3⟩ := h
  exact ⟨h0, A, c, hf.blk h1 hb, hf.own h2 (fun k hk => hS k (h3 k hk)), h3⟩
theorem Hs.mono {w : World} {b : Nat} {G H : Nat → Prop} {l : List Nd} (h : Hs w b G l) (hG : ∀ k, k < w.heap.size → G k → H k) (hb : ¬ H b) : Hs w b H l := by
  obtain ⟨_, A, c, h1, h2, h3⟩ := h
  exact ⟨hb, A, c, h1, h2, fun k hk => hG k (h2.lt k hk).2 (h3 k hk)⟩
theorem Hs.lt {w : World} {b : Nat} {G : Nat → Prop} {l : List Nd} (h : Hs w b G l) : b < w.heap.size := by
  obtain ⟨_, A, c, h1, _⟩ := h
  exact lt_of_heap h1
theorem Hs.draw {w : World} {b : Nat} {G : Nat → Prop} {l : List Nd} (h : Hs w b G l) (q : Nat) : Hs (w.drewN q) b G l := h
theorem Hs.row {w : World} {b : Nat} {G : Nat → Prop} {l : List Nd} (h : Hs w b G l) (hl : 0 < l.length) : ∃ g c, G g ∧ b ≠ g ∧ w.heap[b]? = some (.cells #[.slice (some ⟨g, 0, none⟩) l.length c] 122 (0, 0)) ∧ Nods w g c l := by
  obtain ⟨h0, A, c, h1, h2, h3⟩ := h
  obtain ⟨g, rfl, hb, hn⟩ := nods_of_own h2 hl
  have hg := h3 g rfl
  exact ⟨g, c, hg, fun e => h0 (e ▸ hg), h1, hn⟩
theorem Hs.mk {w : World} {b g c n : Nat} {G : Nat → Prop} {l : List Nd} (hb : G g) (h0 : ¬ G b) (hn : n = l.length) (h1 : w.heap[b]? = some (.cells #[.slice (some ⟨g, 0, none⟩) n c] 122 (0, 0))) (h2 : Nods w g c l) : Hs w b G l := by
  subst hn
  exact ⟨h0, _, c, h1, own_of_nods h2 (Nat.zero_le _), fun k hk => by
    obtain rfl : g = k := by simpa [Value.ownBlock] using hk
    exact hb⟩
end Go.Proofs.YtgpkiijmembggaaGreatDoor
namespace Go.Proofs.YtgpkiijmembggaaGreatDoor
open Go.RowKit HuffM Mem Go.Lib
attribute [local go_sem ↓] Go.wp_at_zero Go.wp_at_succ
set_option linter.unusedVariables false

set_option maxRecDepth 100000 in
set_option maxHeartbeats 3200000 in
theorem down_any (b i0 n : Nat) (G : Nat → Prop) (l : List Nd) (w : World) (hs : Hs w b G l) (hn : n ≤ l.length) (hl : l.length ≤ 1000) (hi : i0 ≤ 1000) (hp : Hp l n (i0 + 1)) :
    Calls Tryz.prog 86 #[.iface 127 (.pointer (some ⟨b, 0, none⟩)), .int .i64 (i0 : Int), .int .i64 (n : Int)] w fun e w' =>
      ∃ v l', e = .returned (.bool v) ∧ l'.Perm l ∧ Hp l' n i0 ∧ (∀ k, n ≤ k → gn l' k = gn l k) ∧ Hs w' b G l' ∧ Fr (G) w w' := by
  have HS := Lib.hid hs
  have HP := Lib.hid hp
  clear hs hp
  go_enter Tryz.func86, Tryz.ntmps86
  go_wp2
  go_loopw [7] (fun v wr => ∃ (i : Nat) (d : List Nd), v = .int .i64 (i : Int) ∧ i0 ≤ i ∧ i ≤ 1000 ∧ (i = i0 ∨ i < n) ∧ Hid (d.Perm l ∧ ∀ k, n ≤ k → gn d k = gn l k) ∧ Hid (Dn d n i0 i) ∧ Hid (Hs wr b G d) ∧ Fr (G) w wr)
    (fun v _ => n - (intOf v).toNat)
  case atStart => exact ⟨i0, l, rfl, Nat.le_refl _, hi, .inl rfl, ⟨List.Perm.refl _, fun _ _ => rfl⟩, Dn.start HP.out, HS, Fr.refl _ _⟩
  case round =>
    clear HS HP
    obtain ⟨i, d, rfl, hii, hi1, hin, HD, HDn, HSd, hfr⟩ := hrel
    by_cases h1 : n ≤ 2 * i + 1
    · have t1 : (n : Int) ≤ 2 * (i : Int) + 1 := by omega
      have HPP := Lib.hid (HDn.out.leaf h1)
      clear h1
      go_wp2
      go_ret
      exact ⟨_, d, rfl, HD.out.1, HPP.out, HD.out.2, HSd.out, hfr⟩
    · have t1 : ¬ (n : Int) ≤ 2 * (i : Int) + 1 := by omega
      have hdl := HD.out.1.length_eq
      obtain ⟨g, c, hg, hbg, hblk, hnod⟩ := HSd.out.row (by omega)
      have hcs : wr.cell? ⟨b, 0, none⟩ = some (.slice (some ⟨g, 0, none⟩) d.length c) := by rw [cell_of hblk 0]; rfl
      have ml := fun fuel => meth_val fuel "Less" _ i_less b _ _ _ wr hcs
      obtain ⟨j1, hj1⟩ : ∃ j1, j1 = 2 * i + 1 := ⟨_, rfl⟩
      have e1 : 2 * (i : Int) + 1 = (j1 : Int) := by omega
      have b1 : j1 ≤ 3000 := by omega
      have t2 : ¬ n ≤ j1 := by omega
      obtain ⟨j2, hj2⟩ : ∃ j2, j2 = j1 + 1 := ⟨_, rfl⟩
      have e2 : (j1 : Int) + 1 = (j2 : Int) := by omega
      have b2 : j2 ≤ 3000 := by omega
      have HJ1 := Lib.hid (And.intro hj1 hj2)
      have HDL := Lib.hid hdl
      have HHwr := Lib.hid (And.intro hblk hnod)
      have HSwr := HSd
      have HFwr := Lib.hid hfr
      clear hj1 hj2 hdl hblk hnod hcs hfr HSd
      clear t1
      by_cases h2 : j2 < n
      · cases hv : ltb (gn d j2) (gn d j1) with
        | true =>
          have hl1 := less_any g d.length c j2 j1 d wr HHwr.out.2 rfl (by have := HDL.out; omega) (by have := HDL.out; omega)
          rw [hv] at hl1
          have HL1 := Lib.hid hl1
          have HV := Lib.hid hv
          clear hl1 hv
          go_wp2_with fail
          refine HL1.out.mono ?_
          rintro e w2x ⟨rfl, q, hq⟩
          subst hq
          obtain ⟨w2, hww2⟩ : ∃ x, x = wr.drewN q := ⟨_, rfl⟩
          rw [← hww2]
          have HHw2 : Hid (w2.heap[b]? = some (.cells #[.slice (some ⟨g, 0, none⟩) d.length c] 122 (0, 0)) ∧ Nods w2 g c d) := by rw [hww2]; exact HHwr
          have HSw2 : Hid (Hs w2 b G d) := by rw [hww2]; exact HSwr
          have HFw2 : Hid (Fr (G) w w2) := by rw [hww2]; exact HFwr.out.drewN q
          have hcsw2 : w2.cell? ⟨b, 0, none⟩ = some (.slice (some ⟨g, 0, none⟩) d.length c) := by rw [cell_of HHw2.out.1 0]; rfl
          clear hww2 HL1 ml
          have ml := fun fuel => meth_val fuel "Less" _ i_less b _ _ _ w2 hcsw2
          clear hcsw2
          have HLC : Hid (Lc d n i j2) := by
            refine ⟨by have := HJ1.out; omega, by omega, fun k h1 h2 h3 => ?_⟩
            have hk := (ltb_iff _ _).1 HV.out
            by_cases e : k = j2
            · subst e; exact fun h => ltn_asymm h h
            · obtain rfl : k = j1 := by have := HJ1.out; omega
              exact ltn_asymm hk
          cases hu : ltb (gn d j2) (gn d i) with
          | false =>
            have hl2 := less_any g d.length c j2 i d w2 HHw2.out.2 rfl (by have := HDL.out; omega) (by have := HDL.out; omega)
            rw [hu] at hl2
            have HL2 := Lib.hid hl2
            have HPP := Lib.hid (HDn.out.stop HLC.out ((ltb_no _ _).1 hu))
            clear hl2 hu
            go_wp2_with fail
            refine HL2.out.mono ?_
            rintro e w3x ⟨rfl, q3, hq⟩
            subst hq
            have HS3 : Hid (Hs (w2.drewN q3) b G d) := HSw2
            have HF3 := Lib.hid (HFw2.out.drewN q3)
            generalize w2.drewN q3 = w3 at HS3 HF3 ⊢
            go_wp2
            go_ret
            exact ⟨_, d, rfl, HD.out.1, HPP.out, HD.out.2, HS3.out, HF3.out⟩
          | true =>
            have hl2 := less_any g d.length c j2 i d w2 HHw2.out.2 rfl (by have := HDL.out; omega) (by have := HDL.out; omega)
            rw [hu] at hl2
            have HL2 := Lib.hid hl2
            have HDD := Lib.hid (HDn.out.go hii HLC.out ((ltb_iff _ _).1 hu) (by have := HDL.out; omega))
            clear hl2 hu
            go_wp2_with fail
            refine HL2.out.mono ?_
            rintro e w3x ⟨rfl, q3, hq⟩
            subst hq
            obtain ⟨w3, hww3⟩ : ∃ x, x = w2.drewN q3 := ⟨_, rfl⟩
            rw [← hww3]
            have HHw3 : Hid (w3.heap[b]? = some (.cells #[.slice (some ⟨g, 0, none⟩) d.length c] 122 (0, 0)) ∧ Nods w3 g c d) := by rw [hww3]; exact HHw2
            have HSw3 : Hid (Hs w3 b G d) := by rw [hww3]; exact HSw2
            have HFw3 : Hid (Fr (G) w w3) := by rw [hww3]; exact HFw2.out.drewN q3
            have hcsw3 : w3.cell? ⟨b, 0, none⟩ = some (.slice (some ⟨g, 0, none⟩) d.length c) := by rw [cell_of HHw3.out.1 0]; rfl
            have ms := fun fuel => meth_val fuel "Swap" _ i_swap b _ _ _ w3 hcsw3
            have hsw := swap_any g d.length c i j2 d w3 HHw3.out.2 rfl (by have := HDL.out; omega) (by have := HDL.out; omega)
            have HSW := Lib.hid hsw
            clear hsw hcsw3 hww3 ml
            go_wp2_with fail
            refine HSW.out.mono ?_
            rintro e w4 ⟨rfl, hn4, hf4⟩
            have HS4 : Hid (Hs w4 b G (swn d i j2)) := Hs.mk hg HSw3.out.1 (swn_len d i j2).symm (hf4.blk HHw3.out.1 hbg) hn4
            have HF4 := Lib.hid (HFw3.out.trans hf4 (fun k _ h => by rw [h]; exact hg))
            clear hn4 hf4 HSW ms
            go_wp2
            go_roundw
            case rel =>
              refine ⟨j2, swn d i j2, rfl, by have := HJ1.out; omega, by omega, .inr (by omega), ⟨?_, ?_⟩, HDD, HS4, HF4.out⟩
              · exact (swn_perm d (by have := HDL.out; omega) (by have := HDL.out; omega)).trans HD.out.1
              · intro k hk
                rw [swn_at d (by have := HDL.out; omega) (by have := HDL.out; omega), if_neg (by omega), if_neg (by have := HJ1.out; omega)]
                exact HD.out.2 k hk
            case measure => have := HJ1.out; simp [intOf]; omega
        | false =>
          have hl1 := less_any g d.length c j2 j1 d wr HHwr.out.2 rfl (by have := HDL.out; omega) (by have := HDL.out; omega)
          rw [hv] at hl1
          have HL1 := Lib.hid hl1
          have HV := Lib.hid hv
          clear hl1 hv
          go_wp2_with fail
          refine HL1.out.mono ?_
          rintro e w2x ⟨rfl, q, hq⟩
          subst hq
          obtain ⟨w2, hww2⟩ : ∃ x, x = wr.drewN q := ⟨_, rfl⟩
          rw [← hww2]
          have HHw2 : Hid (w2.heap[b]? = some (.cells #[.slice (some ⟨g, 0, none⟩) d.length c] 122 (0, 0)) ∧ Nods w2 g c d) := by rw [hww2]; exact HHwr
          have HSw2 : Hid (Hs w2 b G d) := by rw [hww2]; exact HSwr
          have HFw2 : Hid (Fr (G) w w2) := by rw [hww2]; exact HFwr.out.drewN q
          have hcsw2 : w2.cell? ⟨b, 0, none⟩ = some (.slice (some ⟨g, 0, none⟩) d.length c) := by rw [cell_of HHw2.out.1 0]; rfl
          clear hww2 HL1 ml
          have ml := fun fuel => meth_val fuel "Less" _ i_less b _ _ _ w2 hcsw2
          clear hcsw2
          have HLC : Hid (Lc d n i j1) := by
            refine ⟨by have := HJ1.out; omega, by omega, fun k h1 h2 h3 => ?_⟩
            have hk := (ltb_no _ _).1 HV.out
            by_cases e : k = j1
            · subst e; exact fun h => ltn_asymm h h
            · obtain rfl : k = j2 := by have := HJ1.out; omega
              exact hk
          cases hu : ltb (gn d j1) (gn d i) with
          | false =>
            have hl2 := less_any g d.length c j1 i d w2 HHw2.out.2 rfl (by have := HDL.out; omega) (by have := HDL.out; omega)
            rw [hu] at hl2
            have HL2 := Lib.hid hl2
            have HPP := Lib.hid (HDn.out.stop HLC.out ((ltb_no _ _).1 hu))
            clear hl2 hu
            go_wp2_with fail
            refine HL2.out.mono ?_
            rintro e w3x ⟨rfl, q3, hq⟩
            subst hq
            have HS3 : Hid (Hs (w2.drewN q3) b G d) := HSw2
            have HF3 := Lib.hid (HFw2.out.drewN q3)
            generalize w2.drewN q3 = w3 at HS3 HF3 ⊢
            go_wp2
            go_ret
            exact ⟨_, d, rfl, HD.out.1, HPP.out, HD.out.2, HS3.out, HF3.out⟩
          | true =>
            have hl2 := less_any g d.length c j1 i d w2 HHw2.out.2 rfl (by have := HDL.out; omega) (by have := HDL.out; omega)
            rw [hu] at hl2
            have HL2 := Lib.hid hl2
            have HDD := Lib.hid (HDn.out.go hii HLC.out ((ltb_iff _ _).1 hu) (by have := HDL.out; omega))
            clear hl2 hu
            go_wp2_with fail
            refine HL2.out.mono ?_
            rintro e w3x ⟨rfl, q3, hq⟩
            subst hq
            obtain ⟨w3, hww3⟩ : ∃ x, x = w2.drewN q3 := ⟨_, rfl⟩
            rw [← hww3]
            have HHw3 : Hid (w3.heap[b]? = some (.cells #[.slice (some ⟨g, 0, none⟩) d.length c] 122 (0, 0)) ∧ Nods w3 g c d) := by rw [hww3]; exact HHw2
            have HSw3 : Hid (Hs w3 b G d) := by rw [hww3]; exact HSw2
            have HFw3 : Hid (Fr (G) w w3) := by rw [hww3]; exact HFw2.out.drewN q3
            have hcsw3 : w3.cell? ⟨b, 0, none⟩ = some (.slice (some ⟨g, 0, none⟩) d.length c) := by rw [cell_of HHw3.out.1 0]; rfl
            have ms := fun fuel => meth_val fuel "Swap" _ i_swap b _ _ _ w3 hcsw3
            have hsw := swap_any g d.length c i j1 d w3 HHw3.out.2 rfl (by have := HDL.out; omega) (by have := HDL.out; omega)
            have HSW := Lib.hid hsw
            clear hsw hcsw3 hww3 ml
            go_wp2_with fail
            refine HSW.out.mono ?_
            rintro e w4 ⟨rfl, hn4, hf4⟩
            have HS4 : Hid (Hs w4 b G (swn d i j1)) := Hs.mk hg HSw3.out.1 (swn_len d i j1).symm (hf4.blk HHw3.out.1 hbg) hn4
            have HF4 := Lib.hid (HFw3.out.trans hf4 (fun k _ h => by rw [h]; exact hg))
            clear hn4 hf4 HSW ms
            go_wp2
            go_roundw
            case rel =>
              refine ⟨j1, swn d i j1, rfl, by have := HJ1.out; omega, by omega, .inr (by omega), ⟨?_, ?_⟩, HDD, HS4, HF4.out⟩
              · exact (swn_perm d (by have := HDL.out; omega) (by have := HDL.out; omega)).trans HD.out.1
              · intro k hk
                rw [swn_at d (by have := HDL.out; omega) (by have := HDL.out; omega), if_neg (by omega), if_neg (by have := HJ1.out; omega)]
                exact HD.out.2 k hk
            case measure => have := HJ1.out; simp [intOf]; omega
      · skip
        have HLC : Hid (Lc d n i j1) := by
          refine ⟨by have := HJ1.out; omega, by omega, fun k h1 h2 h3 => ?_⟩
          obtain rfl : k = j1 := by have := HJ1.out; omega
          exact fun h => ltn_asymm h h
        cases hu : ltb (gn d j1) (gn d i) with
        | false =>
          have hl2 := less_any g d.length c j1 i d wr HHwr.out.2 rfl (by have := HDL.out; omega) (by have := HDL.out; omega)
          rw [hu] at hl2
          have HL2 := Lib.hid hl2
          have HPP := Lib.hid (HDn.out.stop HLC.out ((ltb_no _ _).1 hu))
          clear hl2 hu
          go_wp2_with fail
          refine HL2.out.mono ?_
          rintro e w3x ⟨rfl, q3, hq⟩
          subst hq
          have HS3 : Hid (Hs (wr.drewN q3) b G d) := HSwr
          have HF3 := Lib.hid (HFwr.out.drewN q3)
          generalize wr.drewN q3 = w3 at HS3 HF3 ⊢
          go_wp2
          go_ret
          exact ⟨_, d, rfl, HD.out.1, HPP.out, HD.out.2, HS3.out, HF3.out⟩
        | true =>
          have hl2 := less_any g d.length c j1 i d wr HHwr.out.2 rfl (by have := HDL.out; omega) (by have := HDL.out; omega)
          rw [hu] at hl2
          have HL2 := Lib.hid hl2
          have HDD := Lib.hid (HDn.out.go hii HLC.out ((ltb_iff _ _).1 hu) (by have := HDL.out; omega))
          clear hl2 hu
          go_wp2_with fail
          refine HL2.out.mono ?_
          rintro e w3x ⟨rfl, q3, hq⟩
          subst hq
          obtain ⟨w3, hww3⟩ : ∃ x, x = wr.drewN q3 := ⟨_, rfl⟩
          rw [← hww3]
          have HHw3 : Hid (w3.heap[b]? = some (.cells #[.slice (some ⟨g, 0, none⟩) d.length c] 122 (0, 0)) ∧ Nods w3 g c d) := by rw [hww3]; exact HHwr
          have HSw3 : Hid (Hs w3 b G d) := by rw [hww3]; exact HSwr
          have HFw3 : Hid (Fr (G) w w3) := by rw [hww3]; exact HFwr.out.drewN q3
          have hcsw3 : w3.cell? ⟨b, 0, none⟩ = some (.slice (some ⟨g, 0, none⟩) d.length c) := by rw [cell_of HHw3.out.1 0]; rfl
          have ms := fun fuel => meth_val fuel "Swap" _ i_swap b _ _ _ w3 hcsw3
          have hsw := swap_any g d.length c i j1 d w3 HHw3.out.2 rfl (by have := HDL.out; omega) (by have := HDL.out; omega)
          have HSW := Lib.hid hsw
          clear hsw hcsw3 hww3 ml
          go_wp2_with fail
          refine HSW.out.mono ?_
          rintro e w4 ⟨rfl, hn4, hf4⟩
          have HS4 : Hid (Hs w4 b G (swn d i j1)) := Hs.mk hg HSw3.out.1 (swn_len d i j1).symm (hf4.blk HHw3.out.1 hbg) hn4
          have HF4 := Lib.hid (HFw3.out.trans hf4 (fun k _ h => by rw [h]; exact hg))
          clear hn4 hf4 HSW ms
          go_wp2
          go_roundw
          case rel =>
            refine ⟨j1, swn d i j1, rfl, by have := HJ1.out; omega, by omega, .inr (by omega), ⟨?_, ?_⟩, HDD, HS4, HF4.out⟩
            · exact (swn_perm d (by have := HDL.out; omega) (by have := HDL.out; omega)).trans HD.out.1
            · intro k hk
              rw [swn_at d (by have := HDL.out; omega) (by have := HDL.out; omega), if_neg (by omega), if_neg (by have := HJ1.out; omega)]
              exact HD.out.2 k hk
          case measure => have := HJ1.out; simp [intOf]; omega
end Go.Proofs.YtgpkiijmembggaaGreatDoor
