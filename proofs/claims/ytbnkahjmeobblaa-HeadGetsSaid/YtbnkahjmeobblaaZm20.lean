/-
  Layer 14, the program: Right; slices of values. THE CONTRACTS as one word.
  Layer 17: names and ops in memory; names by == and !=.
  Arrays by value that are a whole block: loads, stores, results. Nothing of any program here.
-/
import Derived.Test.YtbnkahjmeobblaaVaI
import Derived.Test.YtbnkahjmeobblaaOpM
import Derived.Test.YtbnkahjmeobblaaZm11
import Derived.Test.YtbnkahjmeobblaaZm18
import Derived.Test.YtbnkahjmeobblaaZm00
import Derived.Laws.Rows
import Derived.Laws.Tables
import Derived.OrdersHeld
namespace Go.Proofs.Ytbnkahjmeobblaa
open Go.RowKit Mem Go.Lib VaM LebM UtfM
attribute [local go_sem ↓] Go.wp_at_zero Go.wp_at_succ
set_option linter.unusedVariables false

/-- a slice reads as these values -/
def Vls (w : World) (A : Option Addr) (n : Nat) (L : List V) : Prop := L.length = n ∧ ∀ k v, L[k]? = some v → ∃ b o, A = some ⟨b, o, none⟩ ∧ b < w.heap.size ∧
  w.cell? ⟨b, o + k * 4, none⟩ = some (.int .i64 v.k) ∧ w.cell? ⟨b, o + k * 4 + 1, none⟩ = some (.int .u64 (v.u : Int)) ∧ w.cell? ⟨b, o + k * 4 + 2, none⟩ = some (.int .i64 v.n) ∧ w.cell? ⟨b, o + k * 4 + 3, none⟩ = some (.string (txt v.s))
theorem Vls.fr {S : Nat → Prop} {w w' : World} {A : Option Addr} {n : Nat} {L : List V} (h : Vls w A n L) (hf : Fr S w w') (hS : ∀ ad, A = some ad → ¬ S ad.block) : Vls w' A n L :=
  ⟨h.1, fun k v hk => by
    obtain ⟨b, o, e, hb, h0, h1, h2, h3⟩ := h.2 k v hk
    exact ⟨b, o, e, Nat.lt_of_lt_of_le hb hf.size, hf.cell h0 (hS ⟨b, o, none⟩ e), hf.cell h1 (hS ⟨b, o, none⟩ e), hf.cell h2 (hS ⟨b, o, none⟩ e), hf.cell h3 (hS ⟨b, o, none⟩ e)⟩⟩
theorem Vls.nil (w : World) (A : Option Addr) : Vls w A 0 [] := ⟨rfl, fun k t h => by simp at h⟩
theorem v_flat : ∀ (T : List V) (k : Nat) (t : V), T[k]? = some t → ∀ j, j < 4 → (T.flatMap vls)[k * 4 + j]? = (vls t)[j]?
  | [], k, t, h, j, hj => by simp at h
  | s :: T, 0, t, h, j, hj => by
    simp at h
    subst h
    rw [List.flatMap_cons, List.getElem?_append_left (by show _ < 4; omega), Nat.zero_mul, Nat.zero_add]
  | s :: T, k + 1, t, h, j, hj => by
    rw [List.flatMap_cons, List.getElem?_append_right (by show 4 ≤ _; omega), show (k + 1) * 4 + j - (vls s).length = k * 4 + j by show (k + 1) * 4 + j - 4 = _; omega]
    exact v_flat T k t (by simpa using h) j hj
/-- a block of values -/
theorem Vls.row {w : World} {b : Nat} {L : List V} (h : Row w b 47 (L.flatMap vls)) : Vls w (some ⟨b, 0, none⟩) L.length L := by
  refine ⟨rfl, fun k v hk => ⟨b, 0, rfl, h.lt, ?_, ?_, ?_, ?_⟩⟩
  all_goals rw [Nat.zero_add]
  · exact h.cell (v_flat L k v hk 0 (by omega))
  · exact h.cell (v_flat L k v hk 1 (by omega))
  · exact h.cell (v_flat L k v hk 2 (by omega))
  · exact h.cell (v_flat L k v hk 3 (by omega))

end Go.Proofs.Ytbnkahjmeobblaa
namespace Go.Proofs.Ytbnkahjmeobblaa
open Go.RowKit Mem Go.Lib LebM UtfM VaM OpM
set_option linter.unusedVariables false

def ncc (x : Nm) : Value := .int .i64 x.c
def nac (x : Nm) : Value := .string (txt x.a)
def nls (x : Nm) : List Value := [.int .i64 x.c, .string (txt x.a)]
def nmc (x : Nm) : Value := .agg #[.int .i64 x.c, .string (txt x.a)]
theorem nls_eq (x : Nm) : nls x = pcells ncc nac x := rfl
theorem n_one (x : Nm) : (nls x).toArray.all (·.oneCell') = true := by simp [nls, Value.oneCell']
theorem nSz : (Try.prog.info? 44).map (·.size) = some 2 := by kernel_rfl
theorem oSz : (Try.prog.info? 50).map (·.size) = some 13 := by kernel_rfl
/-- block g holds a name -/
def RowN (w : World) (g : Nat) (x : Nm) : Prop := Row w g 44 (nls x)
theorem RowN.fr {w w' : World} {g : Nat} {x : Nm} {S : Nat → Prop} (h : RowN w g x) (hf : Fr S w w') (hg : ¬ S g) : RowN w' g x := Row.fr h hf hg
theorem RowN.new (w : World) (x : Nm) : RowN (w.alloc (.cells #[.int .i64 x.c, .string (txt x.a)] 44)) w.heap.size x := Row.new w _ _
theorem RowN.lt {w : World} {g : Nat} {x : Nm} (h : RowN w g x) : g < w.heap.size := Row.lt h
theorem RowN.cells {w : World} {g : Nat} {x : Nm} (h : RowN w g x) : w.cell? ⟨g, 0, none⟩ = some (.int .i64 x.c) ∧ w.cell? ⟨g, 1, none⟩ = some (.string (txt x.a)) := ⟨Row.cell h rfl, Row.cell h rfl⟩

/-- a slice reads as these names -/
abbrev Nms (w : World) (A : Option Addr) (n : Nat) (L : List Nm) : Prop := Prs ncc nac w A n L
/-- an op in memory: what it is, and where its names lie -/
structure Om where
  o : O
  A : Option Addr
  c : Nat
def ols (x : Om) : List Value := [.int .i64 x.o.obj.c, .string (txt x.o.obj.a), .string (txt x.o.key), .bool x.o.keyed, .int .i64 x.o.elem.c, .string (txt x.o.elem.a), .bool x.o.ins, .int .i64 x.o.act,
  .int .i64 x.o.val.k, .int .u64 (x.o.val.u : Int), .int .i64 x.o.val.n, .string (txt x.o.val.s), .slice x.A x.o.pr.length x.c]
def opc (x : Om) : Value := .agg #[.int .i64 x.o.obj.c, .string (txt x.o.obj.a), .string (txt x.o.key), .bool x.o.keyed, .int .i64 x.o.elem.c, .string (txt x.o.elem.a), .bool x.o.ins, .int .i64 x.o.act,
  .int .i64 x.o.val.k, .int .u64 (x.o.val.u : Int), .int .i64 x.o.val.n, .string (txt x.o.val.s), .slice x.A x.o.pr.length x.c]
theorem opc_eq (x : Om) : opc x = .agg (ols x).toArray := rfl
theorem o_one (x : Om) : (ols x).toArray.all (·.oneCell') = true := by simp [ols, Value.oneCell']
/-- block g holds an op -/
def RowO (w : World) (g : Nat) (x : Om) : Prop := Row w g 50 (ols x)
theorem RowO.fr {w w' : World} {g : Nat} {x : Om} {S : Nat → Prop} (h : RowO w g x) (hf : Fr S w w') (hg : ¬ S g) : RowO w' g x := Row.fr h hf hg
theorem RowO.new (w : World) (x : Om) : RowO (w.alloc (.cells (ols x).toArray 50)) w.heap.size x := Row.new w _ _
theorem RowO.lt {w : World} {g : Nat} {x : Om} (h : RowO w g x) : g < w.heap.size := Row.lt h
/-- an op's cells, from o on -/
def Oat (w : World) (b o : Nat) (x : Om) : Prop :=
  w.cell? ⟨b, o, none⟩ = some (.int .i64 x.o.obj.c) ∧ w.cell? ⟨b, o + 1, none⟩ = some (.string (txt x.o.obj.a)) ∧ w.cell? ⟨b, o + 2, none⟩ = some (.string (txt x.o.key)) ∧ w.cell? ⟨b, o + 3, none⟩ = some (.bool x.o.keyed) ∧
  w.cell? ⟨b, o + 4, none⟩ = some (.int .i64 x.o.elem.c) ∧ w.cell? ⟨b, o + 5, none⟩ = some (.string (txt x.o.elem.a)) ∧ w.cell? ⟨b, o + 6, none⟩ = some (.bool x.o.ins) ∧ w.cell? ⟨b, o + 7, none⟩ = some (.int .i64 x.o.act) ∧
  w.cell? ⟨b, o + 8, none⟩ = some (.int .i64 x.o.val.k) ∧ w.cell? ⟨b, o + 9, none⟩ = some (.int .u64 (x.o.val.u : Int)) ∧ w.cell? ⟨b, o + 10, none⟩ = some (.int .i64 x.o.val.n) ∧ w.cell? ⟨b, o + 11, none⟩ = some (.string (txt x.o.val.s)) ∧
  w.cell? ⟨b, o + 12, none⟩ = some (.slice x.A x.o.pr.length x.c)
theorem oat_of {w : World} {b o : Nat} {x : Om} (h : ∀ j u, (ols x)[j]? = some u → w.cell? ⟨b, o + j, none⟩ = some u) : Oat w b o x :=
  ⟨h 0 _ rfl, h 1 _ rfl, h 2 _ rfl, h 3 _ rfl, h 4 _ rfl, h 5 _ rfl, h 6 _ rfl, h 7 _ rfl, h 8 _ rfl, h 9 _ rfl, h 10 _ rfl, h 11 _ rfl, h 12 _ rfl⟩
theorem oat_j {w : World} {b o : Nat} {x : Om} (h : Oat w b o x) : ∀ j u, (ols x)[j]? = some u → w.cell? ⟨b, o + j, none⟩ = some u := by
  obtain ⟨h0, h1, h2, h3, h4, h5, h6, h7, h8, h9, h10, h11, h12⟩ := h
  intro j u hu
  match j, hu with
  | 0, hu => injection hu with hu; rw [← hu]; exact h0
  | 1, hu => injection hu with hu; rw [← hu]; exact h1
  | 2, hu => injection hu with hu; rw [← hu]; exact h2
  | 3, hu => injection hu with hu; rw [← hu]; exact h3
  | 4, hu => injection hu with hu; rw [← hu]; exact h4
  | 5, hu => injection hu with hu; rw [← hu]; exact h5
  | 6, hu => injection hu with hu; rw [← hu]; exact h6
  | 7, hu => injection hu with hu; rw [← hu]; exact h7
  | 8, hu => injection hu with hu; rw [← hu]; exact h8
  | 9, hu => injection hu with hu; rw [← hu]; exact h9
  | 10, hu => injection hu with hu; rw [← hu]; exact h10
  | 11, hu => injection hu with hu; rw [← hu]; exact h11
  | 12, hu => injection hu with hu; rw [← hu]; exact h12
  | j + 13, hu => cases hu
theorem Oat.fr {S : Nat → Prop} {w w' : World} {b o : Nat} {x : Om} (h : Oat w b o x) (hf : Fr S w w') (hS : ¬ S b) : Oat w' b o x :=
  oat_of (fun j u hu => hf.cell (oat_j h j u hu) hS)
theorem RowO.cells {w : World} {g : Nat} {x : Om} (h : RowO w g x) : w.cell? ⟨g, 0, none⟩ = some (.int .i64 x.o.obj.c) ∧ w.cell? ⟨g, 1, none⟩ = some (.string (txt x.o.obj.a)) ∧ w.cell? ⟨g, 2, none⟩ = some (.string (txt x.o.key)) ∧ w.cell? ⟨g, 3, none⟩ = some (.bool x.o.keyed) ∧
  w.cell? ⟨g, 4, none⟩ = some (.int .i64 x.o.elem.c) ∧ w.cell? ⟨g, 5, none⟩ = some (.string (txt x.o.elem.a)) ∧ w.cell? ⟨g, 6, none⟩ = some (.bool x.o.ins) ∧ w.cell? ⟨g, 7, none⟩ = some (.int .i64 x.o.act) ∧
  w.cell? ⟨g, 8, none⟩ = some (.int .i64 x.o.val.k) ∧ w.cell? ⟨g, 9, none⟩ = some (.int .u64 (x.o.val.u : Int)) ∧ w.cell? ⟨g, 10, none⟩ = some (.int .i64 x.o.val.n) ∧ w.cell? ⟨g, 11, none⟩ = some (.string (txt x.o.val.s)) ∧
  w.cell? ⟨g, 12, none⟩ = some (.slice x.A x.o.pr.length x.c) :=
  ⟨Row.cell h rfl, Row.cell h rfl, Row.cell h rfl, Row.cell h rfl, Row.cell h rfl, Row.cell h rfl, Row.cell h rfl, Row.cell h rfl, Row.cell h rfl, Row.cell h rfl, Row.cell h rfl, Row.cell h rfl, Row.cell h rfl⟩
/-- the names of an op -/
def Prd (w : World) (x : Om) : Prop := Nms w x.A x.o.pr.length x.o.pr ∧ x.o.pr.length ≤ x.c ∧ x.c ≤ maxLen
theorem Prd.fr0 {w w' : World} {x : Om} (h : Prd w x) (hf : Fr (fun _ => False) w w') : Prd w' x := ⟨h.1.fr hf (fun _ _ h => h), h.2⟩
/-- a slice reads as these ops -/
def Ops (w : World) (A : Option Addr) (n : Nat) (L : List Om) : Prop := (L.length = n ∧ ∀ k x, L[k]? = some x → ∃ b o, A = some ⟨b, o, none⟩ ∧ b < w.heap.size ∧ Oat w b (o + k * 13) x) ∧ ∀ x ∈ L, Prd w x
theorem Ops.len {w : World} {A : Option Addr} {n : Nat} {L : List Om} (h : Ops w A n L) : L.length = n := h.1.1
theorem Ops.fr {w w' : World} {A : Option Addr} {n : Nat} {L : List Om} (h : Ops w A n L) (hf : Fr (fun _ => False) w w') : Ops w' A n L :=
  ⟨⟨h.1.1, fun k x hk => by
    obtain ⟨b, o, e, hb, hc⟩ := h.1.2 k x hk
    exact ⟨b, o, e, Nat.lt_of_lt_of_le hb hf.size, hc.fr hf (fun h => h)⟩⟩, fun x hx => (h.2 x hx).fr0 hf⟩
theorem Ops.nil (w : World) (A : Option Addr) : Ops w A 0 [] := ⟨⟨rfl, fun k x h => by simp at h⟩, fun x h => by cases h⟩
theorem o_flat : ∀ (T : List Om) (k : Nat) (t : Om), T[k]? = some t → ∀ j, j < 13 → (T.flatMap ols)[k * 13 + j]? = (ols t)[j]? := fun T k t h j hj => flat_k ols 13 (fun _ => rfl) T k t h j hj
theorem ols_len (L : List Om) : (L.flatMap ols).length = L.length * 13 := flat_klen _ 13 (fun _ => rfl) L
/-- a block of ops -/
theorem Ops.row {w : World} {b : Nat} {L : List Om} (h : Row w b 50 (L.flatMap ols)) (hp : ∀ x ∈ L, Prd w x) : Ops w (some ⟨b, 0, none⟩) L.length L := by
  refine ⟨⟨rfl, fun k x hk => ⟨b, 0, rfl, h.lt, oat_of (fun j u hu => ?_)⟩⟩, hp⟩
  have hj : j < 13 := (List.getElem?_eq_some_iff.1 hu).1
  rw [Nat.zero_add]
  exact h.cell ((o_flat L k x hk j hj).trans hu)
/-- a block of names -/
theorem Nms.row {w : World} {b : Nat} {L : List Nm} (h : Row w b 44 (L.flatMap nls)) : Nms w (some ⟨b, 0, none⟩) L.length L := by
  refine ⟨rfl, fun k x hk => ⟨b, 0, rfl, h.lt, ?_, ?_⟩⟩
  all_goals rw [Nat.zero_add]
  · exact h.cell (by have := flat_k nls 2 (fun _ => rfl) L k x hk 0 (by omega); simpa [nls, ncc, nac] using this)
  · exact h.cell (by have := flat_k nls 2 (fun _ => rfl) L k x hk 1 (by omega); simpa [nls, ncc, nac] using this)

theorem n_equal (x y : Nm) (w : World) : (Op.equalIn 10000 44 (nmc x) (nmc y)).run Try.prog w = .ok (eqN x y) w := by
  unfold nmc
  have h := run_equalIn_agg (P := Try.prog) w 9999 44 #[.int .i64 x.c, .string (txt x.a)] #[.int .i64 y.c, .string (txt y.a)] (by unfold Program.fieldsOf; rw [Try.underlying44]) (by kernel_rfl)
  rw [h]
  clear h
  unfold Program.fieldsOf
  rw [Try.underlying44]
  go_simp
  have hs : ((txt x.a).toList = (txt y.a).toList) ↔ x.a = y.a := by
    rw [show (txt x.a).toList = x.a from ByteArray.toList_mk _, show (txt y.a).toList = y.a from ByteArray.toList_mk _]
  unfold eqN
  by_cases h1 : x.c = y.c
  · by_cases h4 : x.a = y.a
    · simp [h1, h4]
    · rw [if_pos h1, if_neg (fun h => h4 (hs.1 h))]
      simp [h4]
  · simp [h1]
def EqRuns (op : BinOp) (x y : Value) (b : Bool) : Prop := (∀ (a c : Operand) (w : World), (eqGuard op 44 a c x y).run Try.prog w = .ok () w) ∧ ∀ w : World, (binOp op 44 x y).run Try.prog w = .ok (.bool b) w
theorem n_eql (x y : Nm) : EqRuns .eql (.agg #[.int .i64 x.c, .string (txt x.a)]) (.agg #[.int .i64 y.c, .string (txt y.a)]) (eqN x y) := by
  refine ⟨fun a b w => run_eqGuard_agg w .eql _ a b _ _ (by kernel_rfl), fun w => ?_⟩
  have h := n_equal x y w
  unfold nmc at h
  rw [run_eql_struct, h]
  rfl
theorem n_neq (x y : Nm) : EqRuns .neq (.agg #[.int .i64 x.c, .string (txt x.a)]) (.agg #[.int .i64 y.c, .string (txt y.a)]) (!eqN x y) := by
  refine ⟨fun a b w => run_eqGuard_agg w .neq _ a b _ _ (by kernel_rfl), fun w => ?_⟩
  have h := n_equal x y w
  unfold nmc at h
  rw [run_neq_struct, h]
  rfl
theorem n_eql0 (x : Nm) : EqRuns .eql (.agg #[.int .i64 x.c, .string (txt x.a)]) (.agg #[.int .i64 0, .string ⟨#[]⟩]) (zeroB x) := n_eql x zeroN
theorem n_neq0 (x : Nm) : EqRuns .neq (.agg #[.int .i64 x.c, .string (txt x.a)]) (.agg #[.int .i64 0, .string ⟨#[]⟩]) (!zeroB x) := n_neq x zeroN
theorem txt_e (B : List UInt8) : ((txt B).toList == ([] : List UInt8)) = decide (B = []) := by
  rw [show (txt B).toList = B from ByteArray.toList_mk _]
  cases B <;> simp
end Go.Proofs.Ytbnkahjmeobblaa
namespace Go.Proofs.Ytbnkahjmeobblaa.Mem
open Go Go.RowKit

section
variable {P : Program}
/-- a whole block, read as a slice -/
theorem rd_blk {w : World} {g : Nat} {xs : List Value} {t : TypeId} (h : w.heap[g]? = some (.cells xs.toArray t (0, 0))) : Rd w (some ⟨g, 0, none⟩) xs.length xs := by
  refine ⟨rfl, fun _ => ⟨_, rfl, fun j x hx => ?_⟩⟩
  have hadd : (⟨g, 0, none⟩ : Addr).add j = ⟨g, j, none⟩ := by unfold Addr.add; split <;> simp_all
  rw [hadd, cell_of_row w g j xs.toArray t (0, 0) h]
  simpa using hx
/-- an array type whose values are rows of n cells -/
structure RowTy (P : Program) (ty : TypeId) (n : Nat) : Prop where
  und : ∃ m e, P.underlying ty = some (.array m e)
  size : (P.info? ty).map (·.size) = some n
theorem wpList_load_blk {ty : TypeId} {n : Nat} (hT : RowTy P ty n) {ops : Array Oper} {rest : List Oper} {op : Oper} {a : Act} {w : World} {Q : Exit → Act → World → Prop} (hgd : op.guard = none) (x : Operand) (ho : op.op = .load ty x)
    (g : Nat) (hx : a.eval x = .pointer (some ⟨g, 0, none⟩)) (C : Array Value) (t : TypeId) (hb : w.heap[g]? = some (.cells C t (0, 0))) (hn : C.size = n)
    (h : wpList P ops Q rest (a.put op.dst (.agg C)) w) : wpList P ops Q (op :: rest) a w := by
  obtain ⟨m, e, hu⟩ := hT.und
  refine wpList_plain hgd fun K hK => ?_
  unfold Oper.wp execOp
  simp only [ho, hx, Instr.loadAt, Instr.sureAddr, Sem.run_bind, Sem.run_pure, Result.andThen_ok, run_loadVar_row w g t ty C (0, 0) (.array m e) hb hu rfl (by rw [hT.size, hn])]
  exact hK _ _ h
theorem wpList_store_blk {ty : TypeId} {n : Nat} (hT : RowTy P ty n) {ops : Array Oper} {rest : List Oper} {op : Oper} {a : Act} {w : World} {Q : Exit → Act → World → Prop} (hgd : op.guard = none) (x y : Operand) (ho : op.op = .store ty x y)
    (g : Nat) (hx : a.eval x = .pointer (some ⟨g, 0, none⟩)) (C : Array Value) (hy : a.eval y = .agg C) (old : Array Value) (t : TypeId) (hb : w.heap[g]? = some (.cells old t (0, 0))) (hn : C.size = n) (ho2 : old.size = n) (h1 : C.all (·.oneCell') = true)
    (h : ∀ w', w'.heap[g]? = some (.cells C t (0, 0)) → Fr (fun b => b = g) w w' → wpList P ops Q rest (a.put op.dst undef) w') : wpList P ops Q (op :: rest) a w := by
  refine wpList_plain hgd fun K hK => ?_
  unfold Oper.wp execOp
  simp only [ho, hx, hy, Instr.storeAt, Instr.sureAddr, Sem.run_bind, Sem.run_pure, Result.andThen_ok, run_storeVar_row w g t ty old C hb (by rw [hT.size, hn]) (by rw [ho2, hn]) h1]
  exact hK _ _ (h _ (setRow_heap w g old C t (0, 0) hb) ⟨rfl, rfl, rfl, by simp [World.setRow], fun b _ hs => setRow_other w g b C hs⟩)
/-- the function's one result lies in a block of its own -/
theorem results_blk {ty : TypeId} {n : Nat} (hT : RowTy P ty n) {fn : Func} {s : Tmp} {tmps : Array Value} {w : World} (hr : fn.results = #[.cell s ty]) (g : Nat) (hs : tmps.getD s undef = .pointer (some ⟨g, 0, none⟩))
    (C : Array Value) (t : TypeId) (hb : w.heap[g]? = some (.cells C t (0, 0))) (hn : C.size = n) : (results fn tmps).run P w = .ok (.agg C) w := by
  obtain ⟨m, e, hu⟩ := hT.und
  have hl := run_loadVar_row (P := P) w g t ty C (0, 0) (.array m e) hb hu rfl (by rw [hT.size, hn])
  have hs' : tmps[s]?.getD undef = .pointer (some ⟨g, 0, none⟩) := by rw [← hs]; simp
  unfold results
  rw [hr]
  simp [hs', asAddr, hl]
/-- a whole block, read in a region that draws its order, under a condition that gives it -/
theorem yields_blk {ty : TypeId} {n : Nat} (hT : RowTy P ty n) {ops : Array Oper} {S : World → Prop} {op : Oper} {a : Act} (hw : Region.wanted op (yielded ops a.tmps) = true) (x : Operand) (ho : op.op = .load ty x)
    (g : Nat) (hx : a.eval x = .pointer (some ⟨g, 0, none⟩)) (C : Array Value) (t : TypeId) (hS : ∀ w, S w → w.heap[g]? = some (.cells C t (0, 0))) (hn : C.size = n) : YieldsIf P ops S op (.agg C) a := by
  obtain ⟨m, e, hu⟩ := hT.und
  exact .inl ⟨hw, fun w hw' => by
    unfold execOp
    simp only [ho, hx, Instr.loadAt, Instr.sureAddr, Sem.run_bind, Sem.run_pure, Result.andThen_ok, run_loadVar_row w g t ty C (0, 0) (.array m e) (hS w hw') hu rfl (by rw [hT.size, hn])]⟩
/-- 'x[i]' of an array by value, of elements of one cell -/
theorem run_index_agg {ty e : TypeId} {n : Nat} {d : TypeDesc} (hu : P.underlying ty = some (.array n e)) (he : P.underlying e = some d) (hd : (match d with | .struct _ | .array _ _ => false | _ => true) = true) (hs : (P.info? e).map (·.size) = some 1)
    (cs : Array Value) (k : IntKind) (i : Nat) (v : Value) (hi : i < n) (hv : cs[i]? = some v) (w : World) : (Instr.index ty (.agg cs) (.int k (i : Int))).run P w = .ok v w := by
  have h0 : (0 : Int) ≤ (i : Int) ∧ (i : Int) < (n : Int) := by omega
  have hagg : (isAgg e).run P w = .ok false w := by
    unfold isAgg
    rw [Sem.run_bind, run_underlying he w]
    cases d <;> simp_all
  cases hq : P.info? e with
  | none => simp [hq] at hs
  | some inf =>
    have hs1 : inf.size = 1 := by simpa [hq] using hs
    simp [Instr.index, asIntOf, run_underlying hu, sizeOf, typeInfo, hq, hs1, part, hagg, hv, hi]
end
end Go.Proofs.Ytbnkahjmeobblaa.Mem
