/-
  A whole struct is stored into a variable of its own.
  Layer 8's program: its tables; spanOf.
-/
import Derived.Test.YtjghcacepneipaaDoorZm01
import Derived.Test.YtjghcacepneipaaDoorZm05
import Derived.Test.YtjghcacepneipaaDoorZm03
import Derived.Test.YtjghcacepneipaaDoorZm08
import Derived.StillTailTactics
import Derived.Deep.DeepCutAuto
import Derived.Deep.QuietTactic
import Derived.BigQuiet
namespace Go.Proofs.YtjghcacepneipaaDoor
open Go.RowKit Mem Go.Lib
set_option linter.unusedVariables false

theorem store_st {P : Program} {ty : TypeId} {n : Nat} (hs : (P.info? ty).map (·.size) = some n) {ops : Array Oper} {rest : List Oper} {op : Oper} {a : Act} {w : World} {Q : Exit → Act → World → Prop} (hgd : op.guard = none) (x y : Operand) (ho : op.op = .store ty x y)
    (g : Nat) (hx : a.eval x = .pointer (some ⟨g, 0, none⟩)) (L : List Value) (hy : a.eval y = .agg L.toArray) (old : Array Value) (t : TypeId) (hb : w.heap[g]? = some (.cells old t (0, 0))) (hn : L.length = n) (ho2 : old.size = n) (h1 : L.toArray.all (·.oneCell') = true)
    (h : ∀ w', Row w' g t L → Fr (fun b => b = g) w w' → wpList P ops Q rest (a.put op.dst undef) w') : wpList P ops Q (op :: rest) a w := by
  refine wpList_plain hgd fun K hK => ?_
  unfold Oper.wp execOp
  simp only [ho, hx, hy, Instr.storeAt, Instr.sureAddr, Sem.run_bind, Sem.run_pure, Result.andThen_ok, run_storeVar_row w g t ty old L.toArray hb (by rw [hs]; simp [hn]) (by rw [ho2]; simp [hn]) h1]
  exact hK _ _ (h _ (setRow_heap w g old L.toArray t (0, 0) hb) ⟨rfl, rfl, rfl, by simp [World.setRow], fun b _ hs => setRow_other w g b _ hs⟩)
end Go.Proofs.YtjghcacepneipaaDoor
namespace Go.Proofs.YtjghcacepneipaaDoor
open Go.RowKit CoM Mem Go.Lib
attribute [local go_sem ↓] Go.wp_at_zero Go.wp_at_succ
set_option linter.unusedVariables false

/-- how often an item tells a length: least, most, bits -/
def spn : List (Nat × Nat × Nat) := [(3, 6, 2), (3, 10, 3), (11, 138, 7)]
/-- how often each tells lies in its variable -/
def GlS (w : World) : Prop := ∀ i a b c : Nat, spn[i]? = some (a, b, c) → w.cell? ⟨1, i * 3, none⟩ = some (.int .i64 (a : Int)) ∧ w.cell? ⟨1, i * 3 + 1, none⟩ = some (.int .i64 (b : Int)) ∧ w.cell? ⟨1, i * 3 + 2, none⟩ = some (.int .i64 (c : Int))
theorem GlS.fr {S : Nat → Prop} {w w' : World} (h : GlS w) (hf : Fr S w w') (hS : ¬ S 1) : GlS w' :=
  fun i a b c hx => ⟨hf.cell (h i a b c hx).1 hS, hf.cell (h i a b c hx).2.1 hS, hf.cell (h i a b c hx).2.2 hS⟩
theorem GlS.fr0 {w w' : World} (h : GlS w) (hf : Fr (fun _ => False) w w') : GlS w' := h.fr hf (fun h => h)
theorem GlS.size {w : World} (h : GlS w) : 2 ≤ w.heap.size := by
  have : (⟨1, 0, none⟩ : Addr).block < w.heap.size := World.block_lt_of_cell? w ⟨1, 0, none⟩ (h 0 3 6 2 rfl).1
  simp at this
  omega
/-- the order of the items' lengths lies in its variable, too -/
def Gl8 (w : World) : Prop := (∀ i x : Nat, ord[i]? = some x → w.cell? ⟨0, i, none⟩ = some (.int .i64 (x : Int))) ∧ GlS w
theorem Gl8.fr {S : Nat → Prop} {w w' : World} (h : Gl8 w) (hf : Fr S w w') (hS : ∀ k, S k → 2 ≤ k) : Gl8 w' :=
  ⟨fun i x hx => hf.cell (h.1 i x hx) (fun h => by have := hS _ h; simp at this), h.2.fr hf (fun h => by have := hS _ h; omega)⟩
theorem Gl8.fr0 {w w' : World} (h : Gl8 w) (hf : Fr (fun _ => False) w w') : Gl8 w' := h.fr hf (fun _ h => h.elim)
theorem Gl8.size {w : World} (h : Gl8 w) : 2 ≤ w.heap.size := h.2.size

theorem spanSz : (Tryd.prog.info? 77).map (·.size) = some 3 := by kernel_rfl
theorem spv_one (a b c : Nat) : [Value.int .i64 (a : Int), .int .i64 (b : Int), .int .i64 (c : Int)].toArray.all (·.oneCell') = true := by simp [Value.oneCell']
def spv (a b c : Nat) : Value := .agg #[.int .i64 (a : Int), .int .i64 (b : Int), .int .i64 (c : Int)]
set_option maxRecDepth 100000 in
set_option maxHeartbeats 1600000 in
theorem spanOf_any (s k a b c : Nat) (hk : s = 16 + k) (h : spn[k]? = some (a, b, c)) (w : World) (hG : GlS w) :
    Calls Tryd.prog 46 #[.int .i64 (s : Int)] w fun e w' => e = .returned (spv a b c) ∧ Fr (fun _ => False) w w' := by
  have hk3 : k < 3 := (List.getElem?_eq_some_iff.1 h).1
  have HSZ := Lib.hid hG.size
  have hki : (k : Int) < 3 := by omega
  have hsk : (s : Int) - 16 = (k : Int) := by omega
  have hsw : IntKind.i64.wrap ((s : Int) - 16) = (k : Int) := by rw [IntKind.wrap_i64]; omega
  have HG := Lib.hid hG
  have HX := Lib.hid h
  unfold spv
  clear hG h hk hk3
  go_enter Tryd.func46, Tryd.ntmps46
  go_upto_region 1 with fail
  obtain ⟨w1, hw1⟩ : ∃ w1, w1 = w.alloc (.cells #[Value.int .i64 0, .int .i64 0, .int .i64 0] 77) := ⟨_, rfl⟩
  have hr1 : Row w1 w.heap.size 77 [Value.int .i64 0, .int .i64 0, .int .i64 0] := by rw [hw1]; exact Row.new w _ _
  have hf1 : Fr (fun _ => False) w w1 := by rw [hw1]; exact (Fr.refl _ w).alloc _
  obtain ⟨h0, h1, h2⟩ := (HG.out.fr0 hf1) k a b c HX.out
  obtain ⟨r, hr⟩ : ∃ r, r = w.heap.size := ⟨_, rfl⟩
  rw [← hw1]
  rw [← hr] at hr1 ⊢
  have HF1 := Lib.hid hf1
  have HR1 := Lib.hid hr1
  have HRW : Hid (w.heap.size ≤ r) := Lib.hid (by omega)
  clear hw1 hf1 hr1 hr
  go_wp2_with (refine store_st spanSz rfl (.tmp 2) (.tmp 6) rfl r (by rfl) [.int .i64 (a : Int), .int .i64 (b : Int), .int .i64 (c : Int)] (by rfl) _ _ HR1.out rfl rfl (spv_one a b c) ?_)
  intro w4 hr4 hf4
  have HF4 := Lib.hid (HF1.out.trans hf4 (fun b hb h => by have := HRW.out; omega))
  have d0 : w4.cell? ⟨r, 0, none⟩ = some (.int .i64 (a : Int)) := hr4.cell rfl
  have d1 : w4.cell? ⟨r, 1, none⟩ = some (.int .i64 (b : Int)) := hr4.cell rfl
  have d2 : w4.cell? ⟨r, 2, none⟩ = some (.int .i64 (c : Int)) := hr4.cell rfl
  clear hr4 hf4
  go_wp2_with fail
  exact bodyPost_ret (v := .agg #[.int .i64 (a : Int), .int .i64 (b : Int), .int .i64 (c : Int)]) (by simp [results, Tryd.results46, go_sem, d0, d1, d2]) rfl ⟨rfl, HF4.out⟩
end Go.Proofs.YtjghcacepneipaaDoor
