/-
  The methods of the program's nodes: Less, Swap.
  The library's heap over the program's nodes: how a method is reached; sifting down.
-/
import Derived.Test.YtahfmcdhcbfkaaaGreatDoorZm37
import Derived.Test.YtahfmcdhcbfkaaaGreatDoorZm19
import Derived.Test.YtahfmcdhcbfkaaaGreatDoorZm04
import Derived.BigRegion
import Derived.BigQuiet
import Derived.Deep.QuietTactic
namespace Go.Proofs.YtahfmcdhcbfkaaaGreatDoor
open Go.RowKit HuffM Mem Go.Lib
attribute [local go_sem ↓] Go.wp_at_zero Go.wp_at_succ

def cellsN (l : List Nd) : List Value := l.flatMap fun p => [natc p.1, natc p.2]
theorem cellsN_len (l : List Nd) : (cellsN l).length = l.length * 2 := by
  induction l with
  | nil => rfl
  | cons p l ih => simp only [cellsN, List.flatMap_cons, List.length_append, List.length_cons, List.length_nil] at ih ⊢; omega
theorem cellsN_app (l m : List Nd) : cellsN (l ++ m) = cellsN l ++ cellsN m := by simp [cellsN]
theorem cellsN_at {l : List Nd} {i : Nat} {p : Nd} (h : l[i]? = some p) : (cellsN l)[i * 2]? = some (natc p.1) ∧ (cellsN l)[i * 2 + 1]? = some (natc p.2) := by
  obtain ⟨hi, e⟩ := List.getElem?_eq_some_iff.1 h
  have hs : l = l.take i ++ p :: l.drop (i + 1) := by
    conv => lhs; rw [← List.take_append_drop i l, List.drop_eq_getElem_cons hi, e]
  have hl : (cellsN (l.take i)).length = i * 2 := by rw [cellsN_len, List.length_take]; omega
  rw [hs, cellsN_app]
  show (cellsN (l.take i) ++ natc p.1 :: natc p.2 :: cellsN (l.drop (i + 1)))[i * 2]? = _ ∧ _
  constructor
  · rw [List.getElem?_append_right (by omega), hl, Nat.sub_self]; rfl
  · show (cellsN (l.take i) ++ natc p.1 :: natc p.2 :: cellsN (l.drop (i + 1)))[i * 2 + 1]? = _
    rw [List.getElem?_append_right (by omega), hl, Nat.add_sub_cancel_left]; rfl
theorem cellsN_set (l : List Nd) (i : Nat) (p : Nd) (h : i < l.length) : cellsN (l.set i p) = ((cellsN l).set (i * 2) (natc p.1)).set (i * 2 + 1) (natc p.2) := by
  have hs : l = l.take i ++ l[i] :: l.drop (i + 1) := by
    conv => lhs; rw [← List.take_append_drop i l, List.drop_eq_getElem_cons h]
  have ht : (l.take i).length = i := by rw [List.length_take]; omega
  have hl : (cellsN (l.take i)).length = i * 2 := by rw [cellsN_len, ht]
  have e1 : l.set i p = l.take i ++ p :: l.drop (i + 1) := by
    conv => lhs; rw [hs]
    rw [List.set_append_right _ _ (by omega), ht, Nat.sub_self, List.set_cons_zero]
  have e2 : cellsN l = cellsN (l.take i) ++ natc l[i].1 :: natc l[i].2 :: cellsN (l.drop (i + 1)) := by
    conv => lhs; rw [hs, cellsN_app]
    rfl
  rw [e1, e2, cellsN_app, List.set_append_right _ _ (by omega), hl, Nat.sub_self, List.set_cons_zero, List.set_append_right _ _ (by omega), hl, Nat.add_sub_cancel_left]
  rfl
/-- nodes in block g, which has room for c -/
def Nods (w : World) (g c : Nat) (l : List Nd) : Prop := ∃ rest, Row w g 117 (cellsN l ++ rest) ∧ l.length * 2 + rest.length = c * 2 ∧ c ≤ maxLen
section
variable {w w' : World} {g c : Nat} {l : List Nd} {S : Nat → Prop}
theorem Nods.fr (h : Nods w g c l) (hf : Fr S w w') (hg : ¬ S g) : Nods w' g c l := by obtain ⟨r, h, h2⟩ := h; exact ⟨r, h.fr hf hg, h2⟩
theorem Nods.cap (h : Nods w g c l) : l.length ≤ c := by obtain ⟨r, h, h2, _⟩ := h; omega
theorem Nods.cell (h : Nods w g c l) {i : Nat} {p : Nd} (hi : l[i]? = some p) : w.cell? ⟨g, i * 2, none⟩ = some (.int .i64 (p.1 : Int)) ∧ w.cell? ⟨g, i * 2 + 1, none⟩ = some (.int .i64 (p.2 : Int)) := by
  obtain ⟨r, h, _⟩ := h
  have hl := (List.getElem?_eq_some_iff.1 hi).1
  obtain ⟨h1, h2⟩ := cellsN_at hi
  exact ⟨h.cell (by rw [List.getElem?_append_left (by rw [cellsN_len]; omega)]; exact h1), h.cell (by rw [List.getElem?_append_left (by rw [cellsN_len]; omega)]; exact h2)⟩
theorem Nods.free (h : Nods w g c l) (i : Nat) : w.frozen? ⟨g, i, none⟩ = false := by obtain ⟨r, h, _⟩ := h; exact h.free i
theorem Nods.lt (h : Nods w g c l) : g < w.heap.size := by obtain ⟨r, h, _⟩ := h; exact h.lt
theorem Nods.set (h : Nods w g c l) {i : Nat} (hi : i < l.length) (p : Nd) : Nods ((w.setCell ⟨g, i * 2, none⟩ (.int .i64 (p.1 : Int))).setCell ⟨g, i * 2 + 1, none⟩ (.int .i64 (p.2 : Int))) g c (l.set i p) := by
  obtain ⟨r, h, h2⟩ := h
  refine ⟨r, ?_, by rw [List.length_set]; exact h2⟩
  have := (h.set (i * 2) (.int .i64 (p.1 : Int))).set (i * 2 + 1) (.int .i64 (p.2 : Int))
  rw [List.set_append_left _ _ (by rw [cellsN_len]; omega), List.set_append_left _ _ (by rw [List.length_set, cellsN_len]; omega)] at this
  rw [cellsN_set l i p hi]
  exact this
theorem own_of_nods (h : Nods w g c l) {base : Nat} (hb : base ≤ g) : w.ownsRow base 117 2 (.slice (some ⟨g, 0, none⟩) l.length c) l.length (cellsN l) := by
  have hc := h.cap
  obtain ⟨r, h1, h2, h3⟩ := h
  exact ⟨cellsN_len l, .inr ⟨g, c, (cellsN l ++ r).toArray, rfl, hb, h1, hc, h3, by simp [cellsN_len]; omega, by simp [cellsN_len]⟩⟩
theorem nods_of_own {base : Nat} {A : Option Addr} (h : w.ownsRow base 117 2 (.slice A l.length c) l.length (cellsN l)) (hl : 0 < l.length) : ∃ g, A = some ⟨g, 0, none⟩ ∧ base ≤ g ∧ Nods w g c l := by
  rcases h.2 with ⟨hv, h0⟩ | ⟨g, cap, cur, hv, hb, hg, hnc, hm, hcs, ht⟩
  · omega
  · injection hv with hA _ hc
    subst hc
    refine ⟨g, hA, hb, cur.toList.drop (l.length * 2), ?_, by simp; omega, hm⟩
    unfold Row
    rw [← ht, List.take_append_drop]
    exact hg
end

set_option maxRecDepth 100000 in
set_option maxHeartbeats 1600000 in
theorem less_any (g n c i j : Nat) (l : List Nd) (w : World) (h : Nods w g c l) (hn : l.length = n) (hi : i < n) (hj : j < n) :
    Calls Tryz.prog 115 #[.slice (some ⟨g, 0, none⟩) n c, .int .i64 (i : Int), .int .i64 (j : Int)] w fun e w' => e = .returned (.bool (ltb (gn l i) (gn l j))) ∧ ∃ q, w' = w.drewN q := by
  obtain ⟨a1, a2⟩ := h.cell (gn_at (show i < l.length by omega))
  obtain ⟨b1, b2⟩ := h.cell (gn_at (show j < l.length by omega))
  obtain ⟨x, hx⟩ : ∃ x, x = gn l i := ⟨_, rfl⟩
  obtain ⟨y, hy⟩ : ∃ y, y = gn l j := ⟨_, rfl⟩
  rw [← hx] at a1 a2 ⊢
  rw [← hy] at b1 b2 ⊢
  obtain ⟨x1, x2⟩ := x
  obtain ⟨y1, y2⟩ := y
  unfold ltb
  simp only at a1 a2 b1 b2 ⊢
  clear h hx hy hn
  by_cases e : x1 = y1
  · have t1 : ((x1 : Int) != (y1 : Int)) = false := by simp; omega
    have t2 : (x1 != y1) = false := by simpa using e
    rw [t2, cond_false]
    obtain ⟨v, hv⟩ : ∃ v, v = decide (x2 < y2) := ⟨_, rfl⟩
    rw [← hv]
    have HV := Lib.hid hv
    have hvd : decide (x2 < y2) = v := hv.symm
    clear e t2 hv
    go_enter Tryz.func115, Tryz.ntmps115
    go_wp2_with fail
    go_still (by kernel_rfl)
    change Exit.then _ _ _ _ w.drew
    obtain ⟨w1, hw1⟩ : ∃ w1, w1 = w.drew := ⟨_, rfl⟩
    rw [← hw1]
    replace a1 : w1.cell? ⟨g, i * 2, none⟩ = some (.int .i64 (x1 : Int)) := by rw [hw1]; exact a1
    replace a2 : w1.cell? ⟨g, i * 2 + 1, none⟩ = some (.int .i64 (x2 : Int)) := by rw [hw1]; exact a2
    replace b1 : w1.cell? ⟨g, j * 2, none⟩ = some (.int .i64 (y1 : Int)) := by rw [hw1]; exact b1
    replace b2 : w1.cell? ⟨g, j * 2 + 1, none⟩ = some (.int .i64 (y2 : Int)) := by rw [hw1]; exact b2
    have HW := Lib.hid hw1
    clear hw1
    go_wp2_with fail
    go_still (by kernel_rfl)
    change Exit.then _ _ _ _ w1.drew
    go_wp2
    go_ret
    exact ⟨rfl, 2, by rw [HW.out]; rfl⟩
  · have t1 : ((x1 : Int) != (y1 : Int)) = true := by simp; omega
    have t2 : (x1 != y1) = true := by simpa using e
    rw [t2, cond_true]
    obtain ⟨v, hv⟩ : ∃ v, v = decide (x1 < y1) := ⟨_, rfl⟩
    rw [← hv]
    have HV := Lib.hid hv
    have hvd : decide (x1 < y1) = v := hv.symm
    clear e t2 hv
    go_enter Tryz.func115, Tryz.ntmps115
    go_wp2_with fail
    go_still (by kernel_rfl)
    change Exit.then _ _ _ _ w.drew
    obtain ⟨w1, hw1⟩ : ∃ w1, w1 = w.drew := ⟨_, rfl⟩
    rw [← hw1]
    replace a1 : w1.cell? ⟨g, i * 2, none⟩ = some (.int .i64 (x1 : Int)) := by rw [hw1]; exact a1
    replace a2 : w1.cell? ⟨g, i * 2 + 1, none⟩ = some (.int .i64 (x2 : Int)) := by rw [hw1]; exact a2
    replace b1 : w1.cell? ⟨g, j * 2, none⟩ = some (.int .i64 (y1 : Int)) := by rw [hw1]; exact b1
    replace b2 : w1.cell? ⟨g, j * 2 + 1, none⟩ = some (.int .i64 (y2 : Int)) := by rw [hw1]; exact b2
    have HW := Lib.hid hw1
    clear hw1
    go_wp2_with fail
    go_still (by kernel_rfl)
    change Exit.then _ _ _ _ w1.drew
    go_wp2
    go_ret
    exact ⟨rfl, 2, by rw [HW.out]; rfl⟩

set_option maxRecDepth 100000 in
set_option maxHeartbeats 3200000 in
theorem swap_any (g n c i j : Nat) (l : List Nd) (w : World) (h : Nods w g c l) (hn : l.length = n) (hi : i < n) (hj : j < n) :
    Calls Tryz.prog 116 #[.slice (some ⟨g, 0, none⟩) n c, .int .i64 (i : Int), .int .i64 (j : Int)] w fun e w' => e = .returned (.tuple #[]) ∧ Nods w' g c (swn l i j) ∧ Fr (fun b => b = g) w w' := by
  have gi := gn_at (show i < l.length by omega)
  have gj := gn_at (show j < l.length by omega)
  obtain ⟨a1, a2⟩ := h.cell gi
  obtain ⟨b1, b2⟩ := h.cell gj
  obtain ⟨x, hx⟩ : ∃ x, x = gn l i := ⟨_, rfl⟩
  obtain ⟨y, hy⟩ : ∃ y, y = gn l j := ⟨_, rfl⟩
  rw [← hx] at a1 a2 gi
  rw [← hy] at b1 b2 gj
  have H1 := h.set (show i < l.length by omega) y
  have gj1 : (l.set i y)[j]? = some y := by
    rw [List.getElem?_set]
    by_cases e : i = j
    · rw [if_pos e, if_pos (by omega)]
    · rw [if_neg e]; exact gj
  obtain ⟨c1, c2⟩ := H1.cell gj1
  have H2 := H1.set (show j < (l.set i y).length by rw [List.length_set]; omega) x
  have e2 : (l.set i y).set j x = swn l i j := by unfold swn; rw [hx, hy]
  rw [e2] at H2
  have HF := Fr.refl (fun b => b = g) w
  have HF2 := (((HF.setCell (p := ⟨g, i * 2, none⟩) (fun _ => rfl) (.int .i64 (y.1 : Int))).setCell (p := ⟨g, i * 2 + 1, none⟩) (fun _ => rfl) (.int .i64 (y.2 : Int))).setCell (p := ⟨g, j * 2, none⟩) (fun _ => rfl) (.int .i64 (x.1 : Int))).setCell (p := ⟨g, j * 2 + 1, none⟩) (fun _ => rfl) (.int .i64 (x.2 : Int))
  have f1 := h.free (i * 2)
  have f2 := h.free (i * 2 + 1)
  have f3 := h.free (j * 2)
  have f4 := h.free (j * 2 + 1)
  obtain ⟨x1, x2⟩ := x
  obtain ⟨y1, y2⟩ := y
  simp only at a1 a2 b1 b2 c1 c2 H2 HF2
  have HE := Lib.hid (And.intro H2 HF2)
  clear h hx hy hn gi gj H1 gj1 H2 e2 HF HF2
  go_enter Tryz.func116, Tryz.ntmps116
  go_wp2_with fail
  go_big_region
  clear a1 a2 b1 b2 c1 c2 f1 f2 f3 f4
  go_wp2
  go_end0
  exact ⟨rfl, HE.out.1, HE.out.2.drew⟩
end Go.Proofs.YtahfmcdhcbfkaaaGreatDoor
namespace Go.Proofs.YtahfmcdhcbfkaaaGreatDoor
open Go.RowKit HuffM Mem Go.Lib
attribute [local go_sem ↓] Go.wp_at_zero Go.wp_at_succ

theorem wrapnil (x t : TypeId) (a : Addr) (s u : ByteArray) : Builtin.ssaWrapNilChk_ #[x] t #[.pointer (some a), .string s, .string u] = pure (.pointer (some a)) := rfl
noncomputable def meth? (nm : String) : Option (Option (Option (FuncId × Bool) × Nat)) := (Tryz.prog.info? 119).map fun i => (i.methods.find? (·.name == nm)).map fun m => (m.func, m.path.size)
set_option maxRecDepth 100000 in
theorem meth_val (fuel : Nat) (nm : String) (f : FuncId) (hi : meth? nm = some (some (some (f, false), 0))) (b n c : Nat) (A : Option Addr) (w : World) (h : w.cell? ⟨b, 0, none⟩ = some (.slice A n c)) :
    Sem.run Tryz.prog (method (fuel + 1) 119 (.pointer (some ⟨b, 0, none⟩)) nm) w = .ok (f, .slice A n c) w := by
  unfold meth? at hi
  cases hq : Tryz.prog.info? 119 with
  | none => rw [hq] at hi; simp at hi
  | some i =>
    rw [hq] at hi
    cases hm : i.methods.find? (·.name == nm) with
    | none => simp [hm] at hi
    | some m =>
      simp [hm] at hi
      obtain ⟨h1, h2⟩ := hi
      unfold method
      simp [typeInfo, hq, hm, h1, h2, follow, receiverAt, run_underlying Tryz.underlying119, Place.get, strVal, wrapnil, go_sem, h]
set_option maxRecDepth 100000 in
theorem meth_ptr (fuel : Nat) (nm : String) (f : FuncId) (hi : meth? nm = some (some (some (f, true), 0))) (b : Nat) (w : World) :
    Sem.run Tryz.prog (method (fuel + 1) 119 (.pointer (some ⟨b, 0, none⟩)) nm) w = .ok (f, .pointer (some ⟨b, 0, none⟩)) w := by
  unfold meth? at hi
  cases hq : Tryz.prog.info? 119 with
  | none => rw [hq] at hi; simp at hi
  | some i =>
    rw [hq] at hi
    cases hm : i.methods.find? (·.name == nm) with
    | none => simp [hm] at hi
    | some m =>
      simp [hm] at hi
      obtain ⟨h1, h2⟩ := hi
      unfold method
      simp [typeInfo, hq, hm, h1, h2, follow, receiverAt, run_underlying Tryz.underlying119, Place.get, go_sem]
set_option maxRecDepth 100000 in
theorem i_len : meth? "Len" = some (some (some (80, false), 0)) := by kernel_rfl
set_option maxRecDepth 100000 in
theorem i_less : meth? "Less" = some (some (some (115, false), 0)) := by kernel_rfl
set_option maxRecDepth 100000 in
theorem i_swap : meth? "Swap" = some (some (some (116, false), 0)) := by kernel_rfl
set_option maxRecDepth 100000 in
theorem i_pop : meth? "Pop" = some (some (some (117, true), 0)) := by kernel_rfl
set_option maxRecDepth 100000 in
theorem i_push : meth? "Push" = some (some (some (118, true), 0)) := by kernel_rfl

/-- the heap's variable lies in block b, its nodes in a row of one's own, in a block of G -/
def Hs (w : World) (b : Nat) (G : Nat → Prop) (l : List Nd) : Prop := ¬ G b ∧ ∃ A c, w.heap[b]? = some (.cells #[.slice A l.length c] 114 (0, 0)) ∧ w.ownsRow 0 117 2 (.slice A l.length c) l.length (cellsN l) ∧ ∀ k, (Value.slice A l.length c).ownBlock = some k → G k
theorem Hs.fr {S : Nat → Prop} {w w' : World} {b : Nat} {G : Nat → Prop} {l : List Nd} (h : Hs w b G l) (hf : Fr S w w') (hb : ¬ S b) (hS : ∀ k, G k → ¬ S k) : Hs w' b G l := by
  obtain ⟨h0, A, c, h1, h2, h3⟩ := h
  exact ⟨h0, A, c, hf.blk h1 hb, hf.own h2 (fun k hk => hS k (h3 k hk)), h3⟩
theorem Hs.mono {w : World} {b : Nat} {G H : Nat → Prop} {l : List Nd} (h : Hs w b G l) (hG : ∀ k, k < w.heap.size → G k → H k) (hb : ¬ H b) : Hs w b H l := by
  obtain ⟨_, A, c, h1, h2, h3⟩ := h
  exact ⟨hb, A, c, h1, h2, fun k hk => hG k (h2.lt k hk).2 (h3 k hk)⟩
theorem Hs.lt {w : World} {b : Nat} {G : Nat → Prop} {l : List Nd} (h : Hs w b G l) : b < w.heap.size := by
  obtain ⟨_, A, c, h1, _⟩ := h
  exact lt_of_heap h1
theorem Hs.draw {w : World} {b : Nat} {G : Nat → Prop} {l : List Nd} (h : Hs w b G l) (q : Nat) : Hs (w.drewN q) b G l := h
theorem Hs.row {w : World} {b : Nat} {G : Nat → Prop} {l : List Nd} (h : Hs w b G l) (hl : 0 < l.length) : ∃ g c, G g ∧ b ≠ g ∧ w.heap[b]? = some (.cells #[.slice (some ⟨g, 0, none⟩) l.length c] 114 (0, 0)) ∧ Nods w g c l := by
  obtain ⟨h0, A, c, h1, h2, h3⟩ := h
  obtain ⟨g, rfl, hb, hn⟩ := nods_of_own h2 hl
  have hg := h3 g rfl
  exact ⟨g, c, hg, fun e => h0 (e ▸ hg), h1, hn⟩
theorem Hs.mk {w : World} {b g c n : Nat} {G : Nat → Prop} {l : List Nd} (hb : G g) (h0 : ¬ G b) (hn : n = l.length) (h1 : w.heap[b]? = some (.cells #[.slice (some ⟨g, 0, none⟩) n c] 114 (0, 0))) (h2 : Nods w g c l) : Hs w b G l := by
  subst hn
  exact ⟨h0, _, c, h1, own_of_nods h2 (Nat.zero_le _), fun k hk => by
    obtain rfl : g = k := by simpa [Value.ownBlock] using hk
    exact hb⟩
end Go.Proofs.YtahfmcdhcbfkaaaGreatDoor
