/-
  Arrays by value that are a whole block: loads, stores, results. Nothing of any program here.
-/
import Derived.Test.YtamcgenjlndfjaaDoorMem
import Derived.Laws.Rows
import Derived.Laws.Tables
import Derived.OrdersHeld
namespace Go.Proofs.YtamcgenjlndfjaaDoor.Mem
open Go Go.RowKit

section
variable {P : Program}
/-- a whole block, read as a slice -/
theorem rd_blk {w : World} {g : Nat} {xs : List Value} {t : TypeId} (h : w.heap[g]? = some (.cells xs.toArray t (0, 0))) : Rd w (some ⟨g, 0, none⟩) xs.length xs := by
  refine ⟨rfl, fun _ => ⟨_, rfl, fun j x hx => ?_⟩⟩
  have hadd : (⟨g, 0, none⟩ : Addr).add j = ⟨g, j, none⟩ := by unfold Addr.add; split <;> simp_all
  rw [hadd, cell_of_row w g j xs.toArray t (0, 0) h]
  simpa using hx
/-- an array type whose values are rows of n cells -/
structure RowTy (P : Program) (ty : TypeId) (n : Nat) : Prop where
  und : ∃ m e, P.underlying ty = some (.array m e)
  size : (P.info? ty).map (·.size) = some n
theorem wpList_load_blk {ty : TypeId} {n : Nat} (hT : RowTy P ty n) {ops : Array Oper} {rest : List Oper} {op : Oper} {a : Act} {w : World} {Q : Exit → Act → World → Prop} (hgd : op.guard = none) (x : Operand) (ho : op.op = .load ty x)
    (g : Nat) (hx : a.eval x = .pointer (some ⟨g, 0, none⟩)) (C : Array Value) (t : TypeId) (hb : w.heap[g]? = some (.cells C t (0, 0))) (hn : C.size = n)
    (h : wpList P ops Q rest (a.put op.dst (.agg C)) w) : wpList P ops Q (op :: rest) a w := by
  obtain ⟨m, e, hu⟩ := hT.und
  refine wpList_plain hgd fun K hK => ?_
  unfold Oper.wp execOp
  simp only [ho, hx, Instr.loadAt, Instr.sureAddr, Sem.run_bind, Sem.run_pure, Result.andThen_ok, run_loadVar_row w g t ty C (0, 0) (.array m e) hb hu rfl (by rw [hT.size, hn])]
  exact hK _ _ h
theorem wpList_store_blk {ty : TypeId} {n : Nat} (hT : RowTy P ty n) {ops : Array Oper} {rest : List Oper} {op : Oper} {a : Act} {w : World} {Q : Exit → Act → World → Prop} (hgd : op.guard = none) (x y : Operand) (ho : op.op = .store ty x y)
    (g : Nat) (hx : a.eval x = .pointer (some ⟨g, 0, none⟩)) (C : Array Value) (hy : a.eval y = .agg C) (old : Array Value) (t : TypeId) (hb : w.heap[g]? = some (.cells old t (0, 0))) (hn : C.size = n) (ho2 : old.size = n) (h1 : C.all (·.oneCell') = true)
    (h : ∀ w', w'.heap[g]? = some (.cells C t (0, 0)) → Fr (fun b => b = g) w w' → wpList P ops Q rest (a.put op.dst undef) w') : wpList P ops Q (op :: rest) a w := by
  refine wpList_plain hgd fun K hK => ?_
  unfold Oper.wp execOp
  simp only [ho, hx, hy, Instr.storeAt, Instr.sureAddr, Sem.run_bind, Sem.run_pure, Result.andThen_ok, run_storeVar_row w g t ty old C hb (by rw [hT.size, hn]) (by rw [ho2, hn]) h1]
  exact hK _ _ (h _ (setRow_heap w g old C t (0, 0) hb) ⟨rfl, rfl, rfl, by simp [World.setRow], fun b _ hs => setRow_other w g b C hs⟩)
/-- the function's one result lies in a block of its own -/
theorem results_blk {ty : TypeId} {n : Nat} (hT : RowTy P ty n) {fn : Func} {s : Tmp} {tmps : Array Value} {w : World} (hr : fn.results = #[.cell s ty]) (g : Nat) (hs : tmps.getD s undef = .pointer (some ⟨g, 0, none⟩))
    (C : Array Value) (t : TypeId) (hb : w.heap[g]? = some (.cells C t (0, 0))) (hn : C.size = n) : (results fn tmps).run P w = .ok (.agg C) w := by
  obtain ⟨m, e, hu⟩ := hT.und
  have hl := run_loadVar_row (P := P) w g t ty C (0, 0) (.array m e) hb hu rfl (by rw [hT.size, hn])
  have hs' : tmps[s]?.getD undef = .pointer (some ⟨g, 0, none⟩) := by rw [← hs]; simp
  unfold results
  rw [hr]
  simp [hs', asAddr, hl]
/-- a whole block, read in a region that draws its order, under a condition that gives it -/
theorem yields_blk {ty : TypeId} {n : Nat} (hT : RowTy P ty n) {ops : Array Oper} {S : World → Prop} {op : Oper} {a : Act} (hw : Region.wanted op (yielded ops a.tmps) = true) (x : Operand) (ho : op.op = .load ty x)
    (g : Nat) (hx : a.eval x = .pointer (some ⟨g, 0, none⟩)) (C : Array Value) (t : TypeId) (hS : ∀ w, S w → w.heap[g]? = some (.cells C t (0, 0))) (hn : C.size = n) : YieldsIf P ops S op (.agg C) a := by
  obtain ⟨m, e, hu⟩ := hT.und
  exact .inl ⟨hw, fun w hw' => by
    unfold execOp
    simp only [ho, hx, Instr.loadAt, Instr.sureAddr, Sem.run_bind, Sem.run_pure, Result.andThen_ok, run_loadVar_row w g t ty C (0, 0) (.array m e) (hS w hw') hu rfl (by rw [hT.size, hn])]⟩
/-- 'x[i]' of an array by value, of elements of one cell -/
theorem run_index_agg {ty e : TypeId} {n : Nat} {d : TypeDesc} (hu : P.underlying ty = some (.array n e)) (he : P.underlying e = some d) (hd : (match d with | .struct _ | .array _ _ => false | _ => true) = true) (hs : (P.info? e).map (·.size) = some 1)
    (cs : Array Value) (k : IntKind) (i : Nat) (v : Value) (hi : i < n) (hv : cs[i]? = some v) (w : World) : (Instr.index ty (.agg cs) (.int k (i : Int))).run P w = .ok v w := by
  have h0 : (0 : Int) ≤ (i : Int) ∧ (i : Int) < (n : Int) := by omega
  have hagg : (isAgg e).run P w = .ok false w := by
    unfold isAgg
    rw [Sem.run_bind, run_underlying he w]
    cases d <;> simp_all
  cases hq : P.info? e with
  | none => simp [hq] at hs
  | some inf =>
    have hs1 : inf.size = 1 := by simpa [hq] using hs
    simp [Instr.index, asIntOf, run_underlying hu, sizeOf, typeInfo, hq, hs1, part, hagg, hv, hi]
end
end Go.Proofs.YtamcgenjlndfjaaDoor.Mem
