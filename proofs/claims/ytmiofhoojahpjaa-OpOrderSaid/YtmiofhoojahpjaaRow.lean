/-
  A block that is known whole, as a list of cells: stores of one cell, of a piece; loads of a piece. Nothing of any program here.
-/
import Derived.Test.YtmiofhoojahpjaaMem
import Derived.Laws.CopyOwn
import Derived.Deep.MidRow
namespace Go.Proofs.Ytmiofhoojahpjaa.Mem
open Go Go.RowKit

/-- block g holds the cells L -/
def Row (w : World) (g : Nat) (t : TypeId) (L : List Value) : Prop := w.heap[g]? = some (.cells L.toArray t (0, 0))
section
variable {S : Nat → Prop} {w w' : World} {g : Nat} {t : TypeId} {L : List Value}
theorem Row.fr (h : Row w g t L) (hf : Fr S w w') (hg : ¬ S g) : Row w' g t L := hf.blk h hg
theorem Row.cell (h : Row w g t L) {i : Nat} {u : Value} (hi : L[i]? = some u) : w.cell? ⟨g, i, none⟩ = some u := by
  rw [cell_of_row w g i L.toArray t (0, 0) h]
  simpa using hi
theorem Row.free (h : Row w g t L) (i : Nat) : w.frozen? ⟨g, i, none⟩ = false := by
  have h' : w.heap[g]? = _ := h
  simp [World.frozen?, h']
theorem Row.lt (h : Row w g t L) : g < w.heap.size := lt_of_heap h
theorem Row.set (h : Row w g t L) (i : Nat) (u : Value) : Row (w.setCell ⟨g, i, none⟩ u) g t (L.set i u) := by
  have h' : w.heap[g]? = _ := h
  unfold Row
  simp [World.setCell, Array.getElem?_modify, h']
theorem Row.new (w : World) (t : TypeId) (L : List Value) : Row (w.alloc (.cells L.toArray t)) w.heap.size t L := heap_alloc_new w _
theorem Row.drew (h : Row w g t L) : Row w.drew g t L := h
theorem Row.alloc (h : Row w g t L) (o : Obj) : Row (w.alloc o) g t L := (Fr.refl (fun _ => False) w).alloc o |>.blk h (fun h => h)
theorem Row.other {g' i : Nat} (h : Row w g t L) (hne : g ≠ g') (u : Value) : Row (w.setCell ⟨g', i, none⟩ u) g t L :=
  ((Fr.refl (fun b => b = g') w).setCell (p := ⟨g', i, none⟩) (fun _ => rfl) u).blk h hne
theorem Fr.set1 (w : World) (g i : Nat) (u : Value) : Fr (fun b => b = g) w (w.setCell ⟨g, i, none⟩ u) := (Fr.refl (fun b => b = g) w).setCell (p := ⟨g, i, none⟩) (fun _ => rfl) u
theorem Rd.frp {A : Option Addr} {n : Nat} {xs : List Value} (h : Rd w A n xs) (hf : Fr S w w') (hp : 0 < n → ∀ ad, A = some ad → ¬ S ad.block) : Rd w' A n xs :=
  ⟨h.1, fun hn => by
    obtain ⟨ad, e, hc⟩ := h.2 hn
    exact ⟨ad, e, fun j u hu => hf.cell (hc j u hu) (by rw [add_block]; exact hp hn ad e)⟩⟩
theorem Rd.lt {A : Option Addr} {n : Nat} {xs : List Value} (h : Rd w A n xs) (hn : 0 < n) (ad : Addr) (e : A = some ad) : ad.block < w.heap.size := by
  obtain ⟨ad', e', hc⟩ := h.2 hn
  rw [e] at e'
  injection e' with e'
  subst e'
  have hl : 0 < xs.length := by rw [h.1]; exact hn
  have := World.block_lt_of_cell? w _ (hc 0 _ (List.getElem?_eq_getElem hl))
  rwa [add_block] at this
/-- a piece of a block, read as a slice -/
theorem Row.rd (h : Row w g t L) (o n : Nat) (ho : o + n ≤ L.length) : Rd w (some ⟨g, o, none⟩) n ((L.drop o).take n) := by
  refine ⟨by simp; omega, fun _ => ⟨_, rfl, fun j u hu => ?_⟩⟩
  rw [Addr.add_mid]
  refine h.cell ?_
  have hj := (List.getElem?_eq_some_iff.1 hu).1
  rw [List.length_take] at hj
  rw [← hu, List.getElem?_take, if_pos (by omega), List.getElem?_drop]
theorem Row.range (h : Row w g t L) (o : Nat) (M : List Value) (hM : ∀ j v, M[j]? = some v → L[o + j]? = some v) : w.rangeAt g o M := fun j v hv => h.cell (hM j v hv)
theorem splice_head {α : Type} (L : List α) (p : Nat) (v : α) (C : List α) (hp : p < L.length) : (splice L (p + 1) C).set p v = splice L p (v :: C) := by
  unfold splice
  rw [List.take_add_one, List.getElem?_eq_getElem hp, Option.toList_some, List.append_assoc, List.set_append_right _ _ (by simp; omega)]
  rw [List.length_take, Nat.min_eq_left (by omega), Nat.sub_self, List.singleton_append, List.set_cons_zero, List.cons_append, List.length_cons, Nat.add_right_comm, Nat.add_assoc]
theorem splice_nil {α : Type} (L : List α) (p : Nat) : splice L p [] = L := by simp [splice]
end
/-- a block that was just made, as a row of one's own, full -/
theorem own_full {w : World} {base k : Nat} (hk : k = w.heap.size) (hb : base ≤ k) (e : TypeId) (xs : List Value) (hx : xs.length ≤ maxLen) : (w.alloc (.cells xs.toArray e)).ownsRow base e 1 (.slice (some ⟨k, 0, none⟩) xs.length xs.length) xs.length xs := by
  subst hk
  exact ⟨by simp, .inr ⟨w.heap.size, xs.length, xs.toArray, rfl, hb, heap_alloc_new w _, Nat.le_refl _, hx, by simp, by simp⟩⟩
section
variable {P : Program}
/-- copy into a block that is known whole -/
theorem wpList_copy_row {w : World} {ops : Array Oper} {rest : List Oper} {o : Oper} {a : Act} {Q : Exit → Act → World → Prop} (hgd : o.guard = none) (d s : Operand) (dT sT : TypeId)
    (ho : o.op = .call { callee := .builtin .copy, args := #[d, s], argTypes := #[dT, sT] }) (elem : TypeId) (hu : P.underlying dT = some (.slice elem)) (hsz : (P.info? elem).map (·.size) = some 1)
    (g off dLen dCap : Nat) (A : Option Addr) (sLen sCap : Nat) (hd : a.eval d = .slice (some ⟨g, off, none⟩) dLen dCap) (hs : a.eval s = .slice A sLen sCap)
    (t : TypeId) (L xs : List Value) (hr : Row w g t L) (hx : Rd w A sLen xs) (cs : List Value) (hc : cs = xs.take dLen) (j : Nat) (hj : j = cs.length) (hfit : off + j ≤ L.length) (h1 : ∀ v ∈ cs, v.oneCell' = true)
    (h : ∀ w', Row w' g t (splice L off cs) → Fr (fun b => b = g) w w' → wpList P ops Q rest (a.put o.dst (.int .i64 (j : Int))) w') : wpList P ops Q (o :: rest) a w := by
  have hl : cs.length = Nat.min sLen dLen := by rw [hc, List.length_take, hx.1, Nat.min_comm]
  have e0 : goInt cs.length = .int .i64 (j : Int) := by rw [hj]; rfl
  rcases Nat.eq_zero_or_pos cs.length with h0 | hpos
  · have hcs : cs = [] := List.eq_nil_of_length_eq_zero h0
    refine wpList_copy_nothing hgd d s dT sT ho elem hu hsz _ _ _ _ _ _ hd hs (by omega) ?_
    have e1 : goInt 0 = .int .i64 (j : Int) := by rw [h0] at e0; exact e0
    rw [e1]
    exact h w (by rw [hcs, splice_nil]; exact hr) (Fr.refl _ _)
  · have hsl : 0 < sLen := by
      have : Nat.min sLen dLen ≤ sLen := Nat.min_le_left _ _
      omega
    obtain ⟨ad, rfl, hcell⟩ := hx.2 hsl
    refine wpList_copy_own hgd d s dT sT ho elem hu hsz g off dLen dCap ad sLen sCap hd hs L.toArray t hr cs hl (fun i v hv => hcell i v ?_) (by simp; omega) h1 ?_
    · rw [hc, List.getElem?_take] at hv
      split at hv
      · exact hv
      · cases hv
    · rw [e0]
      exact h _ (setRow_heap w g L.toArray _ t (0, 0) hr) ⟨rfl, rfl, rfl, by simp [World.setRow], fun b _ hs => setRow_other w g b _ hs⟩
/-- a whole block is written, at a step of a region that draws its order -/
theorem step_store_whole {ty : TypeId} {n : Nat} (hs : (P.info? ty).map (·.size) = some n) {ops : Array Oper} {op : Oper} {a : Act} {w : World} {K : Act → World → Prop} {Q : Exit → Act → World → Prop} {E : Prop} (hgd : op.guard = none) (x y : Operand) (ho : op.op = .store ty x y)
    (g : Nat) (hx : a.eval x = .pointer (some ⟨g, 0, none⟩)) (C : Array Value) (hy : a.eval y = .agg C) (old : Array Value) (t : TypeId) (hb : w.heap[g]? = some (.cells old t (0, 0))) (hn : C.size = n) (ho2 : old.size = n) (h1 : C.all (·.oneCell') = true)
    (h : ∀ w', w'.heap[g]? = some (.cells C t (0, 0)) → Fr (fun b => b = g) w w' → K (a.put op.dst undef) w') : if Region.wanted op (yielded ops a.tmps) = true then Oper.wp P op a w K Q else E := by
  have hw : Region.wanted op (yielded ops a.tmps) = true := by simp [Region.wanted, hgd]
  rw [if_pos hw]
  unfold Oper.wp execOp
  simp only [ho, hx, hy, Instr.storeAt, Instr.sureAddr, Sem.run_bind, Sem.run_pure, Result.andThen_ok, run_storeVar_row w g t ty old C hb (by rw [hs, hn]) (by rw [ho2, hn]) h1]
  exact h _ (setRow_heap w g old C t (0, 0) hb) ⟨rfl, rfl, rfl, by simp [World.setRow], fun b _ hs => setRow_other w g b _ hs⟩
end
end Go.Proofs.Ytmiofhoojahpjaa.Mem
