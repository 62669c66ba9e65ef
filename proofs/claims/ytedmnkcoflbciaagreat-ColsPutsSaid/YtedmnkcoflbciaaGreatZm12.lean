/-
  Layer 14: values by == and !=.
  Layer 14, the program: mayBe (written by gen_may.py).
  Layer 14, the program: Right; slices of values. THE CONTRACTS as one word.
  Layer 17: names and ops in memory; names by == and !=.
  Layer 17, the program: Zero, Actor, Id, Compare, rightPoint.
-/
import Derived.Test.YtedmnkcoflbciaaGreatVaG
import Derived.Laws.StructEq
import Derived.Test.YtedmnkcoflbciaaGreatZm04
import Derived.Test.YtedmnkcoflbciaaGreatZm03
import Derived.Test.YtedmnkcoflbciaaGreatZm06
import Derived.Deep.DeepCutAuto
import Derived.Deep.CutRange
namespace Go.Proofs.YtedmnkcoflbciaaGreat
open Go.RowKit Mem Go.Lib VaM LebM UtfM
set_option linter.unusedVariables false

theorem v_equal (x y : V) (w : World) : (Op.equalIn 10000 52 (valc x) (valc y)).run Tryz.prog w = .ok (eqV x y) w := by
  unfold valc
  have h := run_equalIn_agg (P := Tryz.prog) w 9999 52 #[.int .i64 x.k, .int .u64 (x.u : Int), .int .i64 x.n, .string (txt x.s)] #[.int .i64 y.k, .int .u64 (y.u : Int), .int .i64 y.n, .string (txt y.s)] (by unfold Program.fieldsOf; rw [Tryz.underlying52]) (by kernel_rfl)
  rw [h]
  clear h
  unfold Program.fieldsOf
  rw [Tryz.underlying52]
  go_simp
  have hs : ((txt x.s).toList = (txt y.s).toList) ↔ x.s = y.s := by
    rw [show (txt x.s).toList = x.s from ByteArray.toList_mk _, show (txt y.s).toList = y.s from ByteArray.toList_mk _]
  have hu : ((x.u : Int) = (y.u : Int)) ↔ x.u = y.u := by omega
  unfold eqV
  by_cases h1 : x.k = y.k
  · by_cases h2 : x.u = y.u
    · by_cases h3 : x.n = y.n
      · by_cases h4 : x.s = y.s
        · simp [h1, h2, h3, h4]
        · rw [if_pos h1, if_pos (hu.2 h2), if_pos h3, if_neg (fun h => h4 (hs.1 h))]
          simp [h4]
      · simp [h1, h2, h3]
    · rw [if_pos h1, if_neg (fun h => h2 (hu.1 h))]
      simp [h2]
  · simp [h1]
theorem v_eql (x y : V) : (∀ (a b : Operand) (w : World), (eqGuard .eql 52 a b (.agg #[.int .i64 x.k, .int .u64 (x.u : Int), .int .i64 x.n, .string (txt x.s)]) (.agg #[.int .i64 y.k, .int .u64 (y.u : Int), .int .i64 y.n, .string (txt y.s)])).run Tryz.prog w = .ok () w) ∧
    (∀ w : World, (binOp .eql 52 (.agg #[.int .i64 x.k, .int .u64 (x.u : Int), .int .i64 x.n, .string (txt x.s)]) (.agg #[.int .i64 y.k, .int .u64 (y.u : Int), .int .i64 y.n, .string (txt y.s)])).run Tryz.prog w = .ok (.bool (eqV x y)) w) := by
  refine ⟨fun a b w => run_eqGuard_agg w .eql _ a b _ _ (by kernel_rfl), fun w => ?_⟩
  have h := v_equal x y w
  unfold valc at h
  rw [run_eql_struct, h]
  rfl
end Go.Proofs.YtedmnkcoflbciaaGreat
namespace Go.Proofs.YtedmnkcoflbciaaGreat
open Go.RowKit Mem Go.Lib VaM LebM UtfM
attribute [local go_sem ↓] Go.wp_at_zero Go.wp_at_succ
set_option linter.unusedVariables false


theorem RowV.cells {w : World} {g : Nat} {v : V} (h : RowV w g v) : w.cell? ⟨g, 0, none⟩ = some (.int .i64 v.k) ∧ w.cell? ⟨g, 1, none⟩ = some (.int .u64 (v.u : Int)) ∧ w.cell? ⟨g, 2, none⟩ = some (.int .i64 v.n) ∧ w.cell? ⟨g, 3, none⟩ = some (.string (txt v.s)) := ⟨h.c0, h.c1, h.c2, h.c3⟩
end Go.Proofs.YtedmnkcoflbciaaGreat
namespace Go.Proofs.YtedmnkcoflbciaaGreat
open Go.RowKit Mem Go.Lib VaM LebM UtfM
attribute [local go_sem ↓] Go.wp_at_zero Go.wp_at_succ
set_option linter.unusedVariables false

/-- a slice reads as these values -/
def Vls (w : World) (A : Option Addr) (n : Nat) (L : List V) : Prop := L.length = n ∧ ∀ k v, L[k]? = some v → ∃ b o, A = some ⟨b, o, none⟩ ∧ b < w.heap.size ∧
  w.cell? ⟨b, o + k * 4, none⟩ = some (.int .i64 v.k) ∧ w.cell? ⟨b, o + k * 4 + 1, none⟩ = some (.int .u64 (v.u : Int)) ∧ w.cell? ⟨b, o + k * 4 + 2, none⟩ = some (.int .i64 v.n) ∧ w.cell? ⟨b, o + k * 4 + 3, none⟩ = some (.string (txt v.s))
theorem Vls.fr {S : Nat → Prop} {w w' : World} {A : Option Addr} {n : Nat} {L : List V} (h : Vls w A n L) (hf : Fr S w w') (hS : ∀ ad, A = some ad → ¬ S ad.block) : Vls w' A n L :=
  ⟨h.1, fun k v hk => by
    obtain ⟨b, o, e, hb, h0, h1, h2, h3⟩ := h.2 k v hk
    exact ⟨b, o, e, Nat.lt_of_lt_of_le hb hf.size, hf.cell h0 (hS ⟨b, o, none⟩ e), hf.cell h1 (hS ⟨b, o, none⟩ e), hf.cell h2 (hS ⟨b, o, none⟩ e), hf.cell h3 (hS ⟨b, o, none⟩ e)⟩⟩
theorem Vls.nil (w : World) (A : Option Addr) : Vls w A 0 [] := ⟨rfl, fun k t h => by simp at h⟩
theorem v_flat : ∀ (T : List V) (k : Nat) (t : V), T[k]? = some t → ∀ j, j < 4 → (T.flatMap vls)[k * 4 + j]? = (vls t)[j]?
  | [], k, t, h, j, hj => by simp at h
  | s :: T, 0, t, h, j, hj => by
    simp at h
    subst h
    rw [List.flatMap_cons, List.getElem?_append_left (by show _ < 4; omega), Nat.zero_mul, Nat.zero_add]
  | s :: T, k + 1, t, h, j, hj => by
    rw [List.flatMap_cons, List.getElem?_append_right (by show 4 ≤ _; omega), show (k + 1) * 4 + j - (vls s).length = k * 4 + j by show (k + 1) * 4 + j - 4 = _; omega]
    exact v_flat T k t (by simpa using h) j hj
/-- a block of values -/
theorem Vls.row {w : World} {b : Nat} {L : List V} (h : Row w b 52 (L.flatMap vls)) : Vls w (some ⟨b, 0, none⟩) L.length L := by
  refine ⟨rfl, fun k v hk => ⟨b, 0, rfl, h.lt, ?_, ?_, ?_, ?_⟩⟩
  all_goals rw [Nat.zero_add]
  · exact h.cell (v_flat L k v hk 0 (by omega))
  · exact h.cell (v_flat L k v hk 1 (by omega))
  · exact h.cell (v_flat L k v hk 2 (by omega))
  · exact h.cell (v_flat L k v hk 3 (by omega))

end Go.Proofs.YtedmnkcoflbciaaGreat
namespace Go.Proofs.YtedmnkcoflbciaaGreat
open Go.RowKit Mem Go.Lib LebM UtfM VaM OpM
set_option linter.unusedVariables false

def ncc (x : Nm) : Value := .int .i64 x.c
def nac (x : Nm) : Value := .string (txt x.a)
def nls (x : Nm) : List Value := [.int .i64 x.c, .string (txt x.a)]
def nmc (x : Nm) : Value := .agg #[.int .i64 x.c, .string (txt x.a)]
theorem n_one (x : Nm) : (nls x).toArray.all (·.oneCell') = true := by simp [nls, Value.oneCell']
theorem nSz : (Tryz.prog.info? 49).map (·.size) = some 2 := by kernel_rfl
theorem oSz : (Tryz.prog.info? 55).map (·.size) = some 13 := by kernel_rfl
/-- block g holds a name -/
def RowN (w : World) (g : Nat) (x : Nm) : Prop := Row w g 49 (nls x)
theorem RowN.fr {w w' : World} {g : Nat} {x : Nm} {S : Nat → Prop} (h : RowN w g x) (hf : Fr S w w') (hg : ¬ S g) : RowN w' g x := Row.fr h hf hg
theorem RowN.new (w : World) (x : Nm) : RowN (w.alloc (.cells #[.int .i64 x.c, .string (txt x.a)] 49)) w.heap.size x := Row.new w _ _
theorem RowN.lt {w : World} {g : Nat} {x : Nm} (h : RowN w g x) : g < w.heap.size := Row.lt h
theorem RowN.cells {w : World} {g : Nat} {x : Nm} (h : RowN w g x) : w.cell? ⟨g, 0, none⟩ = some (.int .i64 x.c) ∧ w.cell? ⟨g, 1, none⟩ = some (.string (txt x.a)) := ⟨Row.cell h rfl, Row.cell h rfl⟩

/-- a slice reads as these names -/
abbrev Nms (w : World) (A : Option Addr) (n : Nat) (L : List Nm) : Prop := Prs ncc nac w A n L
/-- an op in memory: what it is, and where its names lie -/
structure Om where
  o : O
  A : Option Addr
  c : Nat
def ols (x : Om) : List Value := [.int .i64 x.o.obj.c, .string (txt x.o.obj.a), .string (txt x.o.key), .bool x.o.keyed, .int .i64 x.o.elem.c, .string (txt x.o.elem.a), .bool x.o.ins, .int .i64 x.o.act,
  .int .i64 x.o.val.k, .int .u64 (x.o.val.u : Int), .int .i64 x.o.val.n, .string (txt x.o.val.s), .slice x.A x.o.pr.length x.c]
def opc (x : Om) : Value := .agg #[.int .i64 x.o.obj.c, .string (txt x.o.obj.a), .string (txt x.o.key), .bool x.o.keyed, .int .i64 x.o.elem.c, .string (txt x.o.elem.a), .bool x.o.ins, .int .i64 x.o.act,
  .int .i64 x.o.val.k, .int .u64 (x.o.val.u : Int), .int .i64 x.o.val.n, .string (txt x.o.val.s), .slice x.A x.o.pr.length x.c]
theorem o_one (x : Om) : (ols x).toArray.all (·.oneCell') = true := by simp [ols, Value.oneCell']
/-- block g holds an op -/
def RowO (w : World) (g : Nat) (x : Om) : Prop := Row w g 55 (ols x)
theorem RowO.fr {w w' : World} {g : Nat} {x : Om} {S : Nat → Prop} (h : RowO w g x) (hf : Fr S w w') (hg : ¬ S g) : RowO w' g x := Row.fr h hf hg
theorem RowO.new (w : World) (x : Om) : RowO (w.alloc (.cells (ols x).toArray 55)) w.heap.size x := Row.new w _ _
theorem RowO.lt {w : World} {g : Nat} {x : Om} (h : RowO w g x) : g < w.heap.size := Row.lt h
/-- an op's cells, from o on -/
def Oat (w : World) (b o : Nat) (x : Om) : Prop :=
  w.cell? ⟨b, o, none⟩ = some (.int .i64 x.o.obj.c) ∧ w.cell? ⟨b, o + 1, none⟩ = some (.string (txt x.o.obj.a)) ∧ w.cell? ⟨b, o + 2, none⟩ = some (.string (txt x.o.key)) ∧ w.cell? ⟨b, o + 3, none⟩ = some (.bool x.o.keyed) ∧
  w.cell? ⟨b, o + 4, none⟩ = some (.int .i64 x.o.elem.c) ∧ w.cell? ⟨b, o + 5, none⟩ = some (.string (txt x.o.elem.a)) ∧ w.cell? ⟨b, o + 6, none⟩ = some (.bool x.o.ins) ∧ w.cell? ⟨b, o + 7, none⟩ = some (.int .i64 x.o.act) ∧
  w.cell? ⟨b, o + 8, none⟩ = some (.int .i64 x.o.val.k) ∧ w.cell? ⟨b, o + 9, none⟩ = some (.int .u64 (x.o.val.u : Int)) ∧ w.cell? ⟨b, o + 10, none⟩ = some (.int .i64 x.o.val.n) ∧ w.cell? ⟨b, o + 11, none⟩ = some (.string (txt x.o.val.s)) ∧
  w.cell? ⟨b, o + 12, none⟩ = some (.slice x.A x.o.pr.length x.c)
theorem oat_of {w : World} {b o : Nat} {x : Om} (h : ∀ j u, (ols x)[j]? = some u → w.cell? ⟨b, o + j, none⟩ = some u) : Oat w b o x :=
  ⟨h 0 _ rfl, h 1 _ rfl, h 2 _ rfl, h 3 _ rfl, h 4 _ rfl, h 5 _ rfl, h 6 _ rfl, h 7 _ rfl, h 8 _ rfl, h 9 _ rfl, h 10 _ rfl, h 11 _ rfl, h 12 _ rfl⟩
theorem oat_j {w : World} {b o : Nat} {x : Om} (h : Oat w b o x) : ∀ j u, (ols x)[j]? = some u → w.cell? ⟨b, o + j, none⟩ = some u := by
  obtain ⟨h0, h1, h2, h3, h4, h5, h6, h7, h8, h9, h10, h11, h12⟩ := h
  intro j u hu
  match j, hu with
  | 0, hu => injection hu with hu; rw [← hu]; exact h0
  | 1, hu => injection hu with hu; rw [← hu]; exact h1
  | 2, hu => injection hu with hu; rw [← hu]; exact h2
  | 3, hu => injection hu with hu; rw [← hu]; exact h3
  | 4, hu => injection hu with hu; rw [← hu]; exact h4
  | 5, hu => injection hu with hu; rw [← hu]; exact h5
  | 6, hu => injection hu with hu; rw [← hu]; exact h6
  | 7, hu => injection hu with hu; rw [← hu]; exact h7
  | 8, hu => injection hu with hu; rw [← hu]; exact h8
  | 9, hu => injection hu with hu; rw [← hu]; exact h9
  | 10, hu => injection hu with hu; rw [← hu]; exact h10
  | 11, hu => injection hu with hu; rw [← hu]; exact h11
  | 12, hu => injection hu with hu; rw [← hu]; exact h12
  | j + 13, hu => cases hu
theorem Oat.fr {S : Nat → Prop} {w w' : World} {b o : Nat} {x : Om} (h : Oat w b o x) (hf : Fr S w w') (hS : ¬ S b) : Oat w' b o x :=
  oat_of (fun j u hu => hf.cell (oat_j h j u hu) hS)
theorem RowO.cells {w : World} {g : Nat} {x : Om} (h : RowO w g x) : w.cell? ⟨g, 0, none⟩ = some (.int .i64 x.o.obj.c) ∧ w.cell? ⟨g, 1, none⟩ = some (.string (txt x.o.obj.a)) ∧ w.cell? ⟨g, 2, none⟩ = some (.string (txt x.o.key)) ∧ w.cell? ⟨g, 3, none⟩ = some (.bool x.o.keyed) ∧
  w.cell? ⟨g, 4, none⟩ = some (.int .i64 x.o.elem.c) ∧ w.cell? ⟨g, 5, none⟩ = some (.string (txt x.o.elem.a)) ∧ w.cell? ⟨g, 6, none⟩ = some (.bool x.o.ins) ∧ w.cell? ⟨g, 7, none⟩ = some (.int .i64 x.o.act) ∧
  w.cell? ⟨g, 8, none⟩ = some (.int .i64 x.o.val.k) ∧ w.cell? ⟨g, 9, none⟩ = some (.int .u64 (x.o.val.u : Int)) ∧ w.cell? ⟨g, 10, none⟩ = some (.int .i64 x.o.val.n) ∧ w.cell? ⟨g, 11, none⟩ = some (.string (txt x.o.val.s)) ∧
  w.cell? ⟨g, 12, none⟩ = some (.slice x.A x.o.pr.length x.c) :=
  ⟨Row.cell h rfl, Row.cell h rfl, Row.cell h rfl, Row.cell h rfl, Row.cell h rfl, Row.cell h rfl, Row.cell h rfl, Row.cell h rfl, Row.cell h rfl, Row.cell h rfl, Row.cell h rfl, Row.cell h rfl, Row.cell h rfl⟩
/-- the names of an op -/
def Prd (w : World) (x : Om) : Prop := Nms w x.A x.o.pr.length x.o.pr ∧ x.o.pr.length ≤ x.c ∧ x.c ≤ maxLen
theorem Prd.fr0 {w w' : World} {x : Om} (h : Prd w x) (hf : Fr (fun _ => False) w w') : Prd w' x := ⟨h.1.fr hf (fun _ _ h => h), h.2⟩
/-- a slice reads as these ops -/
def Ops (w : World) (A : Option Addr) (n : Nat) (L : List Om) : Prop := (L.length = n ∧ ∀ k x, L[k]? = some x → ∃ b o, A = some ⟨b, o, none⟩ ∧ b < w.heap.size ∧ Oat w b (o + k * 13) x) ∧ ∀ x ∈ L, Prd w x
theorem Ops.len {w : World} {A : Option Addr} {n : Nat} {L : List Om} (h : Ops w A n L) : L.length = n := h.1.1
theorem Ops.fr {w w' : World} {A : Option Addr} {n : Nat} {L : List Om} (h : Ops w A n L) (hf : Fr (fun _ => False) w w') : Ops w' A n L :=
  ⟨⟨h.1.1, fun k x hk => by
    obtain ⟨b, o, e, hb, hc⟩ := h.1.2 k x hk
    exact ⟨b, o, e, Nat.lt_of_lt_of_le hb hf.size, hc.fr hf (fun h => h)⟩⟩, fun x hx => (h.2 x hx).fr0 hf⟩
theorem Ops.nil (w : World) (A : Option Addr) : Ops w A 0 [] := ⟨⟨rfl, fun k x h => by simp at h⟩, fun x h => by cases h⟩
theorem o_flat : ∀ (T : List Om) (k : Nat) (t : Om), T[k]? = some t → ∀ j, j < 13 → (T.flatMap ols)[k * 13 + j]? = (ols t)[j]? := fun T k t h j hj => flat_k ols 13 (fun _ => rfl) T k t h j hj
/-- a block of ops -/
theorem Ops.row {w : World} {b : Nat} {L : List Om} (h : Row w b 55 (L.flatMap ols)) (hp : ∀ x ∈ L, Prd w x) : Ops w (some ⟨b, 0, none⟩) L.length L := by
  refine ⟨⟨rfl, fun k x hk => ⟨b, 0, rfl, h.lt, oat_of (fun j u hu => ?_)⟩⟩, hp⟩
  have hj : j < 13 := (List.getElem?_eq_some_iff.1 hu).1
  rw [Nat.zero_add]
  exact h.cell ((o_flat L k x hk j hj).trans hu)
/-- a block of names -/
theorem Nms.row {w : World} {b : Nat} {L : List Nm} (h : Row w b 49 (L.flatMap nls)) : Nms w (some ⟨b, 0, none⟩) L.length L := by
  refine ⟨rfl, fun k x hk => ⟨b, 0, rfl, h.lt, ?_, ?_⟩⟩
  all_goals rw [Nat.zero_add]
  · exact h.cell (by have := flat_k nls 2 (fun _ => rfl) L k x hk 0 (by omega); simpa [nls, ncc, nac] using this)
  · exact h.cell (by have := flat_k nls 2 (fun _ => rfl) L k x hk 1 (by omega); simpa [nls, ncc, nac] using this)

theorem n_equal (x y : Nm) (w : World) : (Op.equalIn 10000 49 (nmc x) (nmc y)).run Tryz.prog w = .ok (eqN x y) w := by
  unfold nmc
  have h := run_equalIn_agg (P := Tryz.prog) w 9999 49 #[.int .i64 x.c, .string (txt x.a)] #[.int .i64 y.c, .string (txt y.a)] (by unfold Program.fieldsOf; rw [Tryz.underlying49]) (by kernel_rfl)
  rw [h]
  clear h
  unfold Program.fieldsOf
  rw [Tryz.underlying49]
  go_simp
  have hs : ((txt x.a).toList = (txt y.a).toList) ↔ x.a = y.a := by
    rw [show (txt x.a).toList = x.a from ByteArray.toList_mk _, show (txt y.a).toList = y.a from ByteArray.toList_mk _]
  unfold eqN
  by_cases h1 : x.c = y.c
  · by_cases h4 : x.a = y.a
    · simp [h1, h4]
    · rw [if_pos h1, if_neg (fun h => h4 (hs.1 h))]
      simp [h4]
  · simp [h1]
def EqRuns (op : BinOp) (x y : Value) (b : Bool) : Prop := (∀ (a c : Operand) (w : World), (eqGuard op 49 a c x y).run Tryz.prog w = .ok () w) ∧ ∀ w : World, (binOp op 49 x y).run Tryz.prog w = .ok (.bool b) w
theorem n_eql (x y : Nm) : EqRuns .eql (.agg #[.int .i64 x.c, .string (txt x.a)]) (.agg #[.int .i64 y.c, .string (txt y.a)]) (eqN x y) := by
  refine ⟨fun a b w => run_eqGuard_agg w .eql _ a b _ _ (by kernel_rfl), fun w => ?_⟩
  have h := n_equal x y w
  unfold nmc at h
  rw [run_eql_struct, h]
  rfl
theorem n_neq (x y : Nm) : EqRuns .neq (.agg #[.int .i64 x.c, .string (txt x.a)]) (.agg #[.int .i64 y.c, .string (txt y.a)]) (!eqN x y) := by
  refine ⟨fun a b w => run_eqGuard_agg w .neq _ a b _ _ (by kernel_rfl), fun w => ?_⟩
  have h := n_equal x y w
  unfold nmc at h
  rw [run_neq_struct, h]
  rfl
theorem n_eql0 (x : Nm) : EqRuns .eql (.agg #[.int .i64 x.c, .string (txt x.a)]) (.agg #[.int .i64 0, .string ⟨#[]⟩]) (zeroB x) := n_eql x zeroN
theorem n_neq0 (x : Nm) : EqRuns .neq (.agg #[.int .i64 x.c, .string (txt x.a)]) (.agg #[.int .i64 0, .string ⟨#[]⟩]) (!zeroB x) := n_neq x zeroN
end Go.Proofs.YtedmnkcoflbciaaGreat
namespace Go.Proofs.YtedmnkcoflbciaaGreat
open Go.RowKit Mem Go.Lib LebM UtfM VaM OpM
attribute [local go_sem ↓] Go.wp_at_zero Go.wp_at_succ
set_option linter.unusedVariables false

set_option maxRecDepth 100000 in
set_option maxHeartbeats 1600000 in
theorem zero_any (x : Nm) (w : World) : Calls Tryz.prog 86 #[nmc x] w fun e w' => e = .returned (.bool (zeroB x)) ∧ Fr (fun _ => False) w w' := by
  obtain ⟨b, hb⟩ : ∃ b, zeroB x = b := ⟨_, rfl⟩
  obtain ⟨q1, q2⟩ := n_eql0 x
  rw [hb] at q2 ⊢
  clear hb
  unfold nmc
  go_enter Tryz.func86, Tryz.ntmps86
  go_wp2_with fail
  go_ret
  exact ⟨rfl, (Fr.refl _ _).alloc _⟩
end Go.Proofs.YtedmnkcoflbciaaGreat
