/-
  Layer 17's laws: awake; Right of one op, of two; what Few tells.
  Layer 17's rows: arguments that are names, ops, slices of ops, read.
-/
import Derived.Test.YtohbcepbodcapaaZm50
import Derived.Test.YtohbcepbodcapaaZm21
import Derived.Test.YtohbcepbodcapaaZm00
import Derived.Deep.Slices
import Derived.Deep.Fields
import Derived.ChangeMaps5
namespace Go.Proofs.Ytohbcepbodcapaa
open Go.RowKit Mem Go.Lib LebM UtfM VaM OpM
attribute [local go_sem ↓] Go.wp_at_zero Go.wp_at_succ
set_option linter.unusedVariables false

def Om.lens (x : Om) : Prop := x.o.obj.a.length ≤ 9223372036854775807 ∧ x.o.elem.a.length ≤ 9223372036854775807 ∧ x.o.key.length ≤ 9223372036854775807 ∧ x.o.val.s.length ≤ 9223372036854775807 ∧ x.o.pr.length ≤ 9223372036854775807 ∧ ∀ y ∈ x.o.pr, y.a.length ≤ 9223372036854775807
theorem few_short {L : List Om} (h : fewB L = true) : ∀ x ∈ L, x.short ∧ x.o.pr.length ≤ 40 := by
  intro x hx
  have h1 := List.all_eq_true.1 h x hx
  unfold fewO at h1
  simp only [Bool.and_eq_true, decide_eq_true_eq, List.all_eq_true] at h1
  obtain ⟨⟨⟨⟨⟨h1, h2⟩, h3⟩, h4⟩, h5⟩, h6⟩ := h1
  exact ⟨⟨by omega, by omega, by omega, by omega, by omega, fun y hy => by have := h6 y hy; omega⟩, h1⟩
theorem prd_nil (w : World) (o : O) (h : o.pr = []) : Prd w ⟨o, none, 0⟩ := by
  unfold Prd
  rw [h]
  exact ⟨Prs.nil _ _, Nat.le_refl _, Nat.zero_le _⟩
theorem ops1 {w : World} {q : Nat} {x : Om} (h : Row w q 41 (ols x)) (hx : Prd w x) : Ops w (some ⟨q, 0, none⟩) 1 [x] :=
  Ops.row (L := [x]) (by simpa using h) (fun z hz => by rw [List.mem_singleton.1 hz]; exact hx)
theorem ops2 {w : World} {q : Nat} {x y : Om} (h : Row w q 41 (ols x ++ ols y)) (hx : Prd w x) (hy : Prd w y) : Ops w (some ⟨q, 0, none⟩) 2 [x, y] :=
  Ops.row (L := [x, y]) (by simpa using h) (fun z hz => by
    rcases List.mem_cons.1 hz with rfl | hz
    · exact hx
    · rw [List.mem_singleton.1 hz]; exact hy)
theorem few1 {L : List Om} {n m : Nat} (h : (decide (n ≤ m) && fewB L) = true) : n ≤ m ∧ fewB L = true := by
  rw [Bool.and_eq_true, decide_eq_true_eq] at h
  exact h
/-- Few of two ops, out of the argument's row that was just made -/
theorem rfew2 (x y : Om) (w : World) {k : Nat} (hk : k = w.heap.size) (hx : Prd w x) (hy : Prd w y) (lx : x.lens) (ly : y.lens) :
    Calls Try.prog 5 #[.slice (some ⟨k, 0, none⟩) 2 2, .int .i64 2] (w.alloc (.cells #[.int .i64 x.o.obj.c, .string (txt x.o.obj.a), .string (txt x.o.key), .bool x.o.keyed, .int .i64 x.o.elem.c, .string (txt x.o.elem.a), .bool x.o.ins, .int .i64 x.o.act, .int .i64 x.o.val.k, .int .u64 (x.o.val.u : Int), .int .i64 x.o.val.n, .string (txt x.o.val.s), .slice x.A x.o.pr.length x.c, .int .i64 y.o.obj.c, .string (txt y.o.obj.a), .string (txt y.o.key), .bool y.o.keyed, .int .i64 y.o.elem.c, .string (txt y.o.elem.a), .bool y.o.ins, .int .i64 y.o.act, .int .i64 y.o.val.k, .int .u64 (y.o.val.u : Int), .int .i64 y.o.val.n, .string (txt y.o.val.s), .slice y.A y.o.pr.length y.c] 41)) fun e w' => e = .returned (.bool (fewB [x, y])) ∧ Fr (fun _ => False) w w' := by
  subst hk
  have hf : Fr (fun _ => False) w (w.alloc (.cells (ols x ++ ols y).toArray 41)) := (Fr.refl _ _).alloc _
  have hr : Row (w.alloc (.cells (ols x ++ ols y).toArray 41)) w.heap.size 41 (ols x ++ ols y) := Row.new w _ _
  have h := rfew_any (some ⟨w.heap.size, 0, none⟩) 2 2 [x, y] 2 _ (ops2 hr (hx.fr0 hf) (hy.fr0 hf)) (by omega) (by omega) (fun z hz => by
    rcases List.mem_cons.1 hz with rfl | hz
    · exact lx
    · rw [List.mem_singleton.1 hz]; exact ly)
  refine h.mono ?_
  rintro e w' ⟨rfl, rfl⟩
  exact ⟨by simp, hf⟩
def exA : Om := ⟨⟨zeroN, [97], true, zeroN, false, 0, zeroV, []⟩, none, 0⟩
def exB : Om := ⟨⟨zeroN, [97], false, zeroN, false, 0, zeroV, []⟩, none, 0⟩
theorem wh_1 : wh [97] = 1 := by
  rw [wh_pos (by decide)]
  show 1 + wh [] = 1
  rw [wh_nil]
theorem exA_right : rightO exA.o = true := by
  have h : keyB exA.o = true := by
    unfold keyB exA
    simp only [if_true, wh_1]
    rfl
  unfold rightO
  rw [h]
  rfl
theorem exB_right : rightO exB.o = false := rfl
theorem zeroO_right : rightO zeroM.o = true := rfl
theorem zeroV_ok : zeroV.ok := ⟨⟨by decide, by decide⟩, by decide, by decide, by decide⟩
theorem ex_short (k : List UInt8) (b : Bool) (hk : k.length ≤ 10) : (⟨⟨zeroN, k, b, zeroN, false, 0, zeroV, []⟩, none, 0⟩ : Om).short := by
  refine ⟨?_, ?_, ?_, ?_, ?_, fun y hy => by cases hy⟩
  · show (0 : Nat) ≤ _; omega
  · show (0 : Nat) ≤ _; omega
  · show k.length ≤ _; omega
  · show (0 : Nat) ≤ _; omega
  · show (0 : Nat) ≤ _; omega
end Go.Proofs.Ytohbcepbodcapaa
namespace Go.Proofs.Ytohbcepbodcapaa
open Go.ChangeShapes Go.WideShapes Go.RowKit Go.Deep Mem LebM UtfM VaM OpM
set_option linter.unusedVariables false
set_option maxRecDepth 100000

theorem pick_list {α : Type} (n : Nat) (p : Nat → α → Prop) (h : ∀ i, i < n → ∃ x, p i x) : ∃ l : List α, l.length = n ∧ ∀ i x, l[i]? = some x → p i x := by
  induction n with
  | zero => exact ⟨[], rfl, fun i x hx => by simp at hx⟩
  | succ n ih =>
    obtain ⟨l, hl, hp⟩ := ih (fun i hi => h i (by omega))
    obtain ⟨x, hx⟩ := h n (by omega)
    refine ⟨l ++ [x], by simp [hl], fun i y hy => ?_⟩
    by_cases hi : i < n
    · rw [List.getElem?_append_left (by omega)] at hy
      exact hp i y hy
    · have hlt := (List.getElem?_eq_some_iff.1 hy).1
      simp at hlt
      obtain rfl : i = n := by omega
      rw [List.getElem?_append_right (by omega), hl, Nat.sub_self] at hy
      injection hy with hy
      rw [← hy]
      exact hx
section
variable {H : Type} {enc : TypeId × Value → H} {w : World} {base : Nat} {held : Bool}
theorem at_int {k : Nat} {cs : List Value} {x : DataW H × List MemPlace} (h : DataW.trod enc Try.prog w base (fun _ => true) held k 2 cs = some x) : ∃ n : Int, cs = [.int .i64 n] ∧ -9223372036854775808 ≤ n ∧ n < 9223372036854775808 := by
  obtain ⟨n, e, _, q⟩ := DataW.trod_int Try.underlying2 h
  have b := bounds_i64 q
  exact ⟨n, e, b.1, by have := b.2; omega⟩
theorem at_str {k : Nat} {cs : List Value} {x : DataW H × List MemPlace} (h : DataW.trod enc Try.prog w base (fun _ => true) held k 9 cs = some x) : ∃ B : List UInt8, cs = [.string (txt B)] ∧ B.length ≤ maxLen := by
  obtain ⟨s, e, _, q⟩ := DataW.trod_string Try.underlying9 h
  refine ⟨s.data.toList, ?_, q⟩
  rw [e, show txt s.data.toList = s from by cases s; simp [txt]]
theorem at_bool {k : Nat} {cs : List Value} {x : DataW H × List MemPlace} (h : DataW.trod enc Try.prog w base (fun _ => true) held k 4 cs = some x) : ∃ b : Bool, cs = [.bool b] := by
  obtain ⟨b, e, _⟩ := DataW.trod_bool Try.underlying4 h
  exact ⟨b, e⟩
theorem ce_int : Try.prog.cellsOf 2 = 1 := by kernel_rfl
theorem ce_in : Try.prog.cellsOf 3 = 1 := by kernel_rfl
theorem ce_u64 : Try.prog.cellsOf 36 = 1 := by kernel_rfl
theorem ce_str : Try.prog.cellsOf 9 = 1 := by kernel_rfl
theorem ce_bool : Try.prog.cellsOf 4 = 1 := by kernel_rfl
theorem ce_nm : Try.prog.cellsOf 35 = 2 := by kernel_rfl
theorem ce_val : Try.prog.cellsOf 38 = 4 := by kernel_rfl
theorem ce_nms : Try.prog.cellsOf 39 = 1 := by kernel_rfl
theorem ce_op : Try.prog.cellsOf 41 = 13 := by kernel_rfl
theorem at_nm {k : Nat} {cs : List Value} {x : DataW H × List MemPlace} (h : DataW.trod enc Try.prog w base (fun _ => true) held k 35 cs = some x) : ∃ y : Nm, cs = nls y ∧ y.ok ∧ y.a.length ≤ maxLen := by
  obtain ⟨xs, n, _, _, hl, hxl, hf⟩ := DataW.trod_struct Try.underlying35 h
  rw [ce_nm] at hl
  match cs, hl, xs, hxl with
  | [c0, c1], _, [y0, y1], _ =>
    have h0 : DataW.trod enc Try.prog w base (fun _ => true) held n 2 (([c0, c1].drop 0).take (Try.prog.cellsOf 2)) = some y0 := hf 0 _ rfl
    have h1 : DataW.trod enc Try.prog w base (fun _ => true) held n 9 (([c0, c1].drop 1).take (Try.prog.cellsOf 9)) = some y1 := hf 1 _ rfl
    rw [ce_int] at h0
    rw [ce_str] at h1
    obtain ⟨c, e0, b0⟩ := at_int (x := y0) (by simpa using h0)
    obtain ⟨a, e1, b1⟩ := at_str (x := y1) (by simpa using h1)
    injection e0 with e0
    injection e1 with e1
    exact ⟨⟨c, a⟩, by rw [e0, e1]; rfl, b0, b1⟩
theorem at_val {k : Nat} {cs : List Value} {x : DataW H × List MemPlace} (h : DataW.trod enc Try.prog w base (fun _ => true) held k 38 cs = some x) : ∃ v : V, cs = vls v ∧ v.ok ∧ v.s.length ≤ maxLen := by
  obtain ⟨xs, n, _, _, hl, hxl, hf⟩ := DataW.trod_struct Try.underlying38 h
  rw [ce_val] at hl
  match cs, hl, xs, hxl with
  | [c0, c1, c2, c3], _, [y0, y1, y2, y3], _ =>
    have h0 : DataW.trod enc Try.prog w base (fun _ => true) held n 3 (([c0, c1, c2, c3].drop 0).take (Try.prog.cellsOf 3)) = some y0 := hf 0 _ rfl
    have h1 : DataW.trod enc Try.prog w base (fun _ => true) held n 36 (([c0, c1, c2, c3].drop 1).take (Try.prog.cellsOf 36)) = some y1 := hf 1 _ rfl
    have h2 : DataW.trod enc Try.prog w base (fun _ => true) held n 2 (([c0, c1, c2, c3].drop 2).take (Try.prog.cellsOf 2)) = some y2 := hf 2 _ rfl
    have h3 : DataW.trod enc Try.prog w base (fun _ => true) held n 9 (([c0, c1, c2, c3].drop 3).take (Try.prog.cellsOf 9)) = some y3 := hf 3 _ rfl
    rw [ce_in] at h0
    rw [ce_u64] at h1
    rw [ce_int] at h2
    rw [ce_str] at h3
    have g0 : DataW.trod enc Try.prog w base (fun _ => true) held n 3 [c0] = some y0 := by simpa using h0
    have g1 : DataW.trod enc Try.prog w base (fun _ => true) held n 36 [c1] = some y1 := by simpa using h1
    obtain ⟨n0, e0, _, q0⟩ := DataW.trod_int Try.underlying3 g0
    obtain ⟨n1, e1, _, q1⟩ := DataW.trod_int Try.underlying36 g1
    obtain ⟨n2, e2, b2⟩ := at_int (x := y2) (by simpa using h2)
    obtain ⟨s, e3, b3⟩ := at_str (x := y3) (by simpa using h3)
    injection e0 with e0
    injection e1 with e1
    injection e2 with e2
    injection e3 with e3
    have b0 := bounds_i64 q0
    have b1 := bounds_u64 q1
    obtain ⟨u, rfl⟩ := Int.eq_ofNat_of_zero_le b1.1
    exact ⟨⟨n0, u, n2, s⟩, by rw [e0, e1, e2, e3]; rfl, ⟨⟨b0.1, by have := b0.2; show n0 < _; omega⟩, by have := b1.2; show u < _; omega, b2⟩, b3⟩
/-- cells of a block, where they can be read -/
theorem cells_at {a : Addr} {m : Nat} {cs : List Value} (h : w.cells? base a m = some cs) : cs.length = m ∧ ∀ j, j < m → w.cell? (a.add j) = cs[j]? := by
  obtain ⟨_, h1, h2⟩ := World.cells?_some h
  exact ⟨h1, h2⟩
theorem plain_of {a : Addr} {u : Value} (h : w.cell? ((a.add (0 * 2)).add 0) = some u) : a = ⟨a.block, a.off, none⟩ := by
  obtain ⟨bb, oo, spot⟩ := a
  have hspot : spot = none := World.cell?_spot h
  subst hspot
  rfl
theorem plain_of13 {a : Addr} {u : Value} (h : w.cell? ((a.add (0 * 13)).add 0) = some u) : a = ⟨a.block, a.off, none⟩ := by
  obtain ⟨bb, oo, spot⟩ := a
  have hspot : spot = none := World.cell?_spot h
  subst hspot
  rfl
theorem at_nms {k : Nat} {cs : List Value} {x : DataW H × List MemPlace} (h : DataW.trod enc Try.prog w base (fun _ => true) held k 39 cs = some x) : ∃ (A : Option Addr) (n c : Nat) (L : List Nm), cs = [.slice A n c] ∧ n ≤ c ∧ c ≤ maxLen ∧ Nms w A n L ∧ (∀ y ∈ L, y.ok ∧ y.a.length ≤ maxLen) := by
  rcases open_slice Try.underlying39 h with ⟨hcs, _⟩ | ⟨a, len, cap, m, n, D, Pl, hcs, _, hl, hm, hmm, _, hi⟩
  · exact ⟨none, 0, 0, [], hcs, Nat.le_refl _, Nat.zero_le _, Prs.nil _ _, fun y hy => by cases hy⟩
  · simp at hmm
    subst hmm
    rw [ce_nm] at hi
    have hplain : 0 < len → a = ⟨a.block, a.off, none⟩ := fun h0 => by
      obtain ⟨cs', hc, ht⟩ := hi 0 (by omega)
      obtain ⟨_, hat⟩ := cells_at hc
      obtain ⟨y, rfl, _, _⟩ := at_nm ht
      exact plain_of (hat 0 (by omega))
    obtain ⟨L, hL, hp⟩ := pick_list len (fun i (y : Nm) => (∃ g o, some a = some ⟨g, o, none⟩ ∧ g < w.heap.size ∧ w.cell? ⟨g, o + i * 2, none⟩ = some (ncc y) ∧ w.cell? ⟨g, o + i * 2 + 1, none⟩ = some (nac y)) ∧ y.ok ∧ y.a.length ≤ maxLen) (fun i hil => by
      obtain ⟨cs', hc, ht⟩ := hi i (by omega)
      obtain ⟨_, hat⟩ := cells_at hc
      obtain ⟨y, rfl, hok, hyl⟩ := at_nm ht
      have h0 := hat 0 (by omega)
      have h1 := hat 1 (by omega)
      have hpl := hplain (by omega)
      rw [hpl] at h0 h1
      simp only [Addr.add_lit] at h0 h1
      refine ⟨y, ⟨a.block, a.off, by rw [← hpl], World.block_lt_of_cell? w ⟨a.block, a.off + i * 2 + 0, none⟩ h0, h0, h1⟩, hok, hyl⟩)
    refine ⟨some a, len, m, L, hcs, hl, hm, ⟨hL, fun i y hy => (hp i y hy).1⟩, fun y hy => ?_⟩
    obtain ⟨i, hi⟩ := List.getElem?_of_mem hy
    exact (hp i y hi).2
/-- what is known of an op's cells that can be read -/
def Om.good (w : World) (x : Om) : Prop := x.lens ∧ x.o.val.ok ∧ Nms w x.A x.o.pr.length x.o.pr ∧ x.o.pr.length ≤ x.c ∧ x.c ≤ maxLen
theorem at_op {k : Nat} {cs : List Value} {x : DataW H × List MemPlace} (h : DataW.trod enc Try.prog w base (fun _ => true) held k 41 cs = some x) : ∃ y : Om, cs = ols y ∧ y.good w := by
  obtain ⟨xs, n, _, _, hl, hxl, hf⟩ := DataW.trod_struct Try.underlying41 h
  rw [ce_op] at hl
  match cs, hl, xs, hxl with
  | [c0, c1, c2, c3, c4, c5, c6, c7, c8, c9, c10, c11, c12], _, [y0, y1, y2, y3, y4, y5, y6, y7], _ =>
    have h0 : DataW.trod enc Try.prog w base (fun _ => true) held n 35 (([c0, c1, c2, c3, c4, c5, c6, c7, c8, c9, c10, c11, c12].drop 0).take (Try.prog.cellsOf 35)) = some y0 := hf 0 _ rfl
    have h1 : DataW.trod enc Try.prog w base (fun _ => true) held n 9 (([c0, c1, c2, c3, c4, c5, c6, c7, c8, c9, c10, c11, c12].drop 2).take (Try.prog.cellsOf 9)) = some y1 := hf 1 _ rfl
    have h2 : DataW.trod enc Try.prog w base (fun _ => true) held n 4 (([c0, c1, c2, c3, c4, c5, c6, c7, c8, c9, c10, c11, c12].drop 3).take (Try.prog.cellsOf 4)) = some y2 := hf 2 _ rfl
    have h3 : DataW.trod enc Try.prog w base (fun _ => true) held n 35 (([c0, c1, c2, c3, c4, c5, c6, c7, c8, c9, c10, c11, c12].drop 4).take (Try.prog.cellsOf 35)) = some y3 := hf 3 _ rfl
    have h4 : DataW.trod enc Try.prog w base (fun _ => true) held n 4 (([c0, c1, c2, c3, c4, c5, c6, c7, c8, c9, c10, c11, c12].drop 6).take (Try.prog.cellsOf 4)) = some y4 := hf 4 _ rfl
    have h5 : DataW.trod enc Try.prog w base (fun _ => true) held n 2 (([c0, c1, c2, c3, c4, c5, c6, c7, c8, c9, c10, c11, c12].drop 7).take (Try.prog.cellsOf 2)) = some y5 := hf 5 _ rfl
    have h6 : DataW.trod enc Try.prog w base (fun _ => true) held n 38 (([c0, c1, c2, c3, c4, c5, c6, c7, c8, c9, c10, c11, c12].drop 8).take (Try.prog.cellsOf 38)) = some y6 := hf 6 _ rfl
    have h7 : DataW.trod enc Try.prog w base (fun _ => true) held n 39 (([c0, c1, c2, c3, c4, c5, c6, c7, c8, c9, c10, c11, c12].drop 12).take (Try.prog.cellsOf 39)) = some y7 := hf 7 _ rfl
    rw [ce_nm] at h0 h3
    rw [ce_str] at h1
    rw [ce_bool] at h2 h4
    rw [ce_int] at h5
    rw [ce_val] at h6
    rw [ce_nms] at h7
    obtain ⟨ob, e0, k0, l0⟩ := at_nm (x := y0) (by simpa using h0)
    obtain ⟨ke, e1, l1⟩ := at_str (x := y1) (by simpa using h1)
    obtain ⟨kd, e2⟩ := at_bool (x := y2) (by simpa using h2)
    obtain ⟨el, e3, k3, l3⟩ := at_nm (x := y3) (by simpa using h3)
    obtain ⟨is, e4⟩ := at_bool (x := y4) (by simpa using h4)
    obtain ⟨ac, e5, k5⟩ := at_int (x := y5) (by simpa using h5)
    obtain ⟨va, e6, k6, l6⟩ := at_val (x := y6) (by simpa using h6)
    obtain ⟨A, m, c, L, e7, hnc, hcm, hr, hok⟩ := at_nms (x := y7) (by simpa using h7)
    obtain rfl : L.length = m := hr.1
    unfold nls at e0 e3
    unfold vls at e6
    simp only [List.cons.injEq, and_true] at e0 e1 e2 e3 e4 e5 e6 e7
    refine ⟨⟨⟨ob, ke, kd, el, is, ac, va, L⟩, A, c⟩, ?_, ⟨l0, l3, l1, l6, Nat.le_trans hnc hcm, fun y hy => (hok y hy).2⟩, k6, hr, hnc, hcm⟩
    unfold ols
    rw [e0.1, e0.2, e1, e2, e3.1, e3.2, e4, e5, e6.1, e6.2.1, e6.2.2.1, e6.2.2.2, e7]
/-- a slice of ops -/
theorem at_ops {k : Nat} {cs : List Value} {x : DataW H × List MemPlace} (h : DataW.trod enc Try.prog w base (fun _ => true) held k 22 cs = some x) : ∃ (A : Option Addr) (n c : Nat) (L : List Om), cs = [.slice A n c] ∧ n ≤ c ∧ c ≤ maxLen ∧ (L.length = n ∧ ∀ k x, L[k]? = some x → ∃ b o, A = some ⟨b, o, none⟩ ∧ b < w.heap.size ∧ Oat w b (o + k * 13) x) ∧ (∀ y ∈ L, y.good w) := by
  rcases open_slice Try.underlying22 h with ⟨hcs, _⟩ | ⟨a, len, cap, m, n, D, Pl, hcs, _, hl, hm, hmm, _, hi⟩
  · exact ⟨none, 0, 0, [], hcs, Nat.le_refl _, Nat.zero_le _, ⟨rfl, fun k x h => by simp at h⟩, fun y hy => by cases hy⟩
  · simp at hmm
    subst hmm
    rw [ce_op] at hi
    have hplain : 0 < len → a = ⟨a.block, a.off, none⟩ := fun h0 => by
      obtain ⟨cs', hc, ht⟩ := hi 0 (by omega)
      obtain ⟨_, hat⟩ := cells_at hc
      obtain ⟨y, rfl, _⟩ := at_op ht
      exact plain_of13 (hat 0 (by omega))
    obtain ⟨L, hL, hp⟩ := pick_list len (fun i (y : Om) => (∃ b o, some a = some ⟨b, o, none⟩ ∧ b < w.heap.size ∧ Oat w b (o + i * 13) y) ∧ y.good w) (fun i hil => by
      obtain ⟨cs', hc, ht⟩ := hi i (by omega)
      obtain ⟨_, hat⟩ := cells_at hc
      obtain ⟨y, rfl, hg⟩ := at_op ht
      have hpl := hplain (by omega)
      have hj : ∀ j u, (ols y)[j]? = some u → w.cell? ⟨a.block, a.off + i * 13 + j, none⟩ = some u := fun j u hu => by
        have h1 := hat j (List.getElem?_eq_some_iff.1 hu).1
        rw [hpl, hu] at h1
        simp only [Addr.add_lit] at h1
        exact h1
      have h0 := oat_of hj
      exact ⟨y, ⟨a.block, a.off, by rw [← hpl], World.block_lt_of_cell? w ⟨a.block, a.off + i * 13, none⟩ h0.1, h0⟩, hg⟩)
    refine ⟨some a, len, m, L, hcs, hl, hm, ⟨hL, fun i y hy => (hp i y hy).1⟩, fun y hy => ?_⟩
    obtain ⟨i, hi⟩ := List.getElem?_of_mem hy
    exact (hp i y hi).2
end
theorem nm_arg {H : Type} {enc : TypeId × Value → H} {W : World} {r : Reach} {b0 : Nat} {v : Value} {d : DataW H} {p : List MemPlace} (hv : Value.okWide Try.prog W r b0 35 v)
    (h : DataW.Trod enc Try.prog W 0 (fun _ => true) true 35 v d p) : ∃ y : Nm, v = nmc y ∧ y.a.length ≤ 9223372036854775807 := by
  obtain ⟨cs, rfl, _⟩ := okWide_struct Try.underlying35 hv
  obtain ⟨fuel, hf⟩ := h
  obtain ⟨y, e, _, hl⟩ := at_nm (cs := cs.toList) (by simpa [Value.cells] using hf)
  exact ⟨y, by rw [show cs = (nls y).toArray from Array.ext' (by simpa using e)]; rfl, hl⟩
theorem op_arg {H : Type} {enc : TypeId × Value → H} {W : World} {r : Reach} {b0 : Nat} {v : Value} {d : DataW H} {p : List MemPlace} (hv : Value.okWide Try.prog W r b0 41 v)
    (h : DataW.Trod enc Try.prog W 0 (fun _ => true) true 41 v d p) : ∃ y : Om, v = opc y ∧ y.lens ∧ y.o.val.ok ∧ Prd W y := by
  obtain ⟨cs, rfl, _⟩ := okWide_struct Try.underlying41 hv
  obtain ⟨fuel, hf⟩ := h
  obtain ⟨y, e, hg⟩ := at_op (cs := cs.toList) (by simpa [Value.cells] using hf)
  exact ⟨y, by rw [show cs = (ols y).toArray from Array.ext' (by simpa using e)]; rfl, hg.1, hg.2.1, hg.2.2⟩
theorem ops_arg {H : Type} {enc : TypeId × Value → H} {W : World} {r : Reach} {b0 : Nat} {v : Value} {d : DataW H} {p : List MemPlace} (hv : Value.okWide Try.prog W r b0 22 v)
    (h : DataW.Trod enc Try.prog W 0 (fun _ => true) true 22 v d p) : ∃ (A : Option Addr) (n c : Nat) (L : List Om), v = .slice A n c ∧ n ≤ 9223372036854775807 ∧ Ops W A n L ∧ (∀ y ∈ L, y.lens) ∧ ∀ y ∈ L, y.o.val.ok := by
  obtain ⟨a0, len, cap, rfl⟩ := okWide_slice Try.underlying22 hv
  obtain ⟨fuel, hf⟩ := h
  obtain ⟨A, n, c, L, e, h1, h2, h3, h4⟩ := at_ops (cs := [.slice a0 len cap]) (by simpa [Value.cells] using hf)
  injection e with e
  exact ⟨A, n, c, L, e, Nat.le_trans h1 h2, ⟨h3, fun y hy => (h4 y hy).2.2⟩, fun y hy => (h4 y hy).1, fun y hy => (h4 y hy).2.1⟩
theorem str_arg {H : Type} {enc : TypeId × Value → H} {W : World} {r : Reach} {b0 : Nat} {v : Value} {d : DataW H} {p : List MemPlace} (hv : Value.okWide Try.prog W r b0 9 v)
    (h : DataW.Trod enc Try.prog W 0 (fun _ => true) true 9 v d p) : ∃ B : List UInt8, v = .string (txt B) ∧ B.length ≤ 9223372036854775807 := by
  obtain ⟨s, rfl, _, _, ws⟩ := Go.ChangeMaps.open_string Try.underlying9 hv h
  exact ⟨s.data.toList, by rw [show txt s.data.toList = s from by cases s; simp [txt]], ws⟩
end Go.Proofs.Ytohbcepbodcapaa
