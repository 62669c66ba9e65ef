/-
  Layer 17: append of names onto a row of one's own, whatever slice they come from; rows of names, of ops.
  Layer 17, the program: rightKey, rightPreds.
-/
import Derived.Test.YtohbcepbodcapaaZm17
import Derived.Test.YtohbcepbodcapaaZm18
namespace Go.Proofs.Ytohbcepbodcapaa
open Go Go.RowKit Mem Go.Lib LebM UtfM VaM OpM
set_option linter.unusedVariables false

/-- all the cells of a slice that reads as these pairs -/
theorem Prs.cells {τ : Type} {p q : τ → Value} {w : World} {g o n : Nat} {L : List τ} (h : Prs p q w (some ⟨g, o, none⟩) n L) : ∀ j u, (L.flatMap (pcells p q))[j]? = some u → w.cell? ((⟨g, o, none⟩ : Addr).add j) = some u := by
  intro j u hj
  have hl := (List.getElem?_eq_some_iff.1 hj).1
  rw [flat_klen (pcells p q) 2 (fun _ => rfl)] at hl
  obtain ⟨t, ht⟩ : ∃ t, L[j / 2]? = some t := ⟨_, List.getElem?_eq_getElem (by omega)⟩
  obtain ⟨g', o', e, _, h0, h1⟩ := h.2 _ t ht
  injection e with e
  injection e with e1 e2
  subst e1 e2
  have hf := flat_k (pcells p q) 2 (fun _ => rfl) L (j / 2) t ht (j % 2) (by omega)
  rw [show j / 2 * 2 + j % 2 = j by omega, hj] at hf
  rw [mid_add]
  rcases (show j % 2 = 0 ∨ j % 2 = 1 by omega) with e | e
  · rw [e] at hf
    rw [show o + j = o + j / 2 * 2 by omega, h0]
    exact hf.symm
  · rw [e] at hf
    rw [show o + j = o + j / 2 * 2 + 1 by omega, h1]
    exact hf.symm
theorem nmTS : ElemTyS Try.prog 39 35 (.agg #[.int .i64 0, .string ⟨#[]⟩]) 2 24 := ⟨Try.underlying39, by kernel_rfl, rfl, by decide⟩
theorem opTS : ElemTyS Try.prog 22 41 (opc ⟨zeroO, none, 0⟩) 13 152 := ⟨Try.underlying22, by kernel_rfl, rfl, by decide⟩
theorem ncell_one (L : List Nm) : ∀ u ∈ L.flatMap (pcells ncc nac), u.oneCell' = true := by
  intro u hu
  obtain ⟨c, _, hc⟩ := List.mem_flatMap.1 hu
  simp [pcells, ncc, nac] at hc
  rcases hc with rfl | rfl <;> rfl
theorem ocell_one (L : List Om) : ∀ u ∈ L.flatMap ols, u.oneCell' = true := by
  intro u hu
  obtain ⟨c, _, hc⟩ := List.mem_flatMap.1 hu
  have := Array.all_eq_true'.1 (o_one c) u (by simpa using hc)
  exact this
/-- a row of names of one's own -/
abbrev OwnN (w : World) (base : Nat) (A : Option Addr) (c : Nat) (L : List Nm) : Prop := OwnP ncc nac 35 w base A c L
section
variable {P : Program}
/-- append of nothing -/
theorem run_app0 {t e : TypeId} {z : Value} {size bytes : Nat} (hT : ElemTyS P t e z size bytes) (ty : TypeId) (w : World) (base : Nat) (v : Value) (n : Nat) (xs : List Value) (hown : w.ownsRow base e size v n xs) (A : Option Addr) (c : Nat) :
    (Builtin.append_ #[t, t] ty #[v, .slice A 0 c]).run P w = .ok v w := by
  obtain ⟨i, hi, hz, hs, hb⟩ : ∃ i, P.info? e = some i ∧ i.zero = some z ∧ i.size = size ∧ i.bytes = bytes := by
    have h := hT.info
    cases hq : P.info? e with
    | none => rw [hq] at h; cases h
    | some i =>
      rw [hq] at h
      simp only [Option.map_some, Option.some.injEq, Prod.mk.injEq] at h
      exact ⟨i, rfl, h.1, h.2.1, h.2.2⟩
  cases A with
  | none =>
    rcases hown.2 with ⟨rfl, rfl⟩ | ⟨g, cap, cur, rfl, _, _, hnc, _⟩
    · simp [Builtin.append_, run_underlying hT.und, sizeOf, typeInfo, hi, Builtin.lenOf, Builtin.firstCells]
    · simp [Builtin.append_, run_underlying hT.und, sizeOf, typeInfo, hi, Builtin.lenOf, Builtin.firstCells, hnc, storeCells]
  | some ad =>
    rcases hown.2 with ⟨rfl, rfl⟩ | ⟨g, cap, cur, rfl, _, _, hnc, _⟩
    · simp [Builtin.append_, run_underlying hT.und, sizeOf, typeInfo, hi, Builtin.lenOf, Builtin.firstCells, loadCells, loadCellsFrom]
    · simp [Builtin.append_, run_underlying hT.und, sizeOf, typeInfo, hi, Builtin.lenOf, Builtin.firstCells, hnc, storeCells, loadCells, loadCellsFrom]
end
theorem wpList_appNm {ops : Array Oper} {rest : List Oper} {o : Oper} {a : Act} {Q : Exit → Act → World → Prop} (w : World) (hgd : o.guard = none) (s x : Operand)
    (ho : o.op = .call { callee := .builtin .append, args := #[s, x], argTypes := #[39, 39] })
    (base : Nat) (A : Option Addr) (c : Nat) (L : List Nm) (hs : a.eval s = .slice A L.length c) (hown : OwnN w base A c L)
    (A2 : Option Addr) (m c2 : Nat) (M : List Nm) (hx : a.eval x = .slice A2 m c2) (hr : Nms w A2 m M) (D : List Nm) (hD : D = L ++ M) (h63 : D.length ≤ 1000000000) (hbase : base ≤ w.heap.size)
    (h : ∀ A' c' w', OwnN w' base A' c' D → Fr (fun k => (Value.slice A L.length c).ownBlock = some k) w w' → ((Value.slice A' D.length c').ownBlock = (Value.slice A L.length c).ownBlock ∨ (Value.slice A' D.length c').ownBlock = some w.heap.size) → wpList Try.prog ops Q rest (a.put o.dst (.slice A' D.length c')) w') : wpList Try.prog ops Q (o :: rest) a w := by
  subst hD
  have hml := hr.1
  rcases Nat.eq_zero_or_pos m with rfl | hm
  · obtain rfl : M = [] := List.length_eq_zero_iff.1 hml
    refine wpList_plain hgd fun K hK => ?_
    have hrun := run_app0 nmTS o.type w base _ L.length _ hown A2 c2
    unfold Oper.wp execOp
    simp only [ho, resolve, invoke, builtin, Sem.run_bind, Sem.run_pure, Result.andThen_ok, List.map_toArray, List.map_cons, List.map_nil, hs, hx, hrun]
    have h' := h A c w (by rw [List.append_nil]; exact hown) (Fr.refl _ _) (Or.inl (by rw [List.append_nil]))
    rw [List.append_nil] at h'
    exact hK _ _ h'
  · obtain ⟨y, hy⟩ : ∃ y, M[0]? = some y := ⟨_, List.getElem?_eq_getElem (by omega)⟩
    obtain ⟨g, q, rfl, _, _, _⟩ := hr.2 0 y hy
    refine wpList_appM nmTS w hgd s x ho base _ L.length (L.flatMap (pcells ncc nac)) hs hown ⟨g, q, none⟩ m c2 (M.flatMap (pcells ncc nac)) hx (by rw [pcells_len, hml]) hr.cells (ncell_one M) (L ++ M).length (by rw [List.length_append, hml]) (by unfold maxLen; omega) (by omega) hbase (fun A' c' w' h1 _ h3 h4 => ?_)
    refine h A' c' w' ?_ h3 h4
    unfold OwnN OwnP
    rw [List.flatMap_append]
    exact h1
/-- a row of ops of one's own -/
def OwnO (w : World) (base : Nat) (A : Option Addr) (c : Nat) (L : List Om) : Prop := w.ownsRow base 41 13 (.slice A L.length c) L.length (L.flatMap ols)
theorem OwnO.nil (w : World) (base : Nat) : OwnO w base none 0 [] := World.ownsRow_nil _ _ _ _
theorem OwnO.fr {w w' : World} {base c : Nat} {A : Option Addr} {L : List Om} (h : OwnO w base A c L) (hf : Fr (fun _ => False) w w') : OwnO w' base A c L := hf.own h (fun _ _ h => h)
theorem OwnO.at_ {w : World} {base c : Nat} {A : Option Addr} {L : List Om} (h : OwnO w base A c L) : ∀ k x, L[k]? = some x → ∃ b o, A = some ⟨b, o, none⟩ ∧ b < w.heap.size ∧ Oat w b (o + k * 13) x := by
  intro k x hk
  have hkl := (List.getElem?_eq_some_iff.1 hk).1
  rcases h.2 with ⟨hv, h0⟩ | ⟨g, cap, cur, hv, _⟩
  · injection hv with _ h1 h2
    omega
  · have hA : A = some ⟨g, 0, none⟩ := by injection hv
    subst hA
    have hc := h.cells (g := g) rfl
    have hadd : ∀ j, (⟨g, 0, none⟩ : Addr).add j = ⟨g, j, none⟩ := fun j => by unfold Addr.add; split <;> simp_all
    refine ⟨g, 0, rfl, (h.lt g rfl).2, oat_of (fun j u hu => ?_)⟩
    have hj : j < 13 := (List.getElem?_eq_some_iff.1 hu).1
    rw [Nat.zero_add, ← hadd]
    exact hc _ _ ((o_flat L k x hk j hj).trans hu)
theorem OwnO.ops {w : World} {base c : Nat} {A : Option Addr} {L : List Om} (h : OwnO w base A c L) (hp : ∀ x ∈ L, Prd w x) : Ops w A L.length L := ⟨⟨rfl, h.at_⟩, hp⟩
end Go.Proofs.Ytohbcepbodcapaa
namespace Go.Proofs.Ytohbcepbodcapaa
open Go.RowKit Mem Go.Lib LebM UtfM VaM OpM
attribute [local go_sem ↓] Go.wp_at_zero Go.wp_at_succ
set_option linter.unusedVariables false

/-- an op's texts are no longer than a machine has -/
def Om.short (x : Om) : Prop := x.o.obj.a.length ≤ 1000000 ∧ x.o.elem.a.length ≤ 1000000 ∧ x.o.key.length ≤ 1000000 ∧ x.o.val.s.length ≤ 1000000 ∧ x.o.pr.length ≤ 1000000 ∧ ∀ y ∈ x.o.pr, y.a.length ≤ 1000000
theorem new_ols (w : World) (x : Om) : ∃ g w1, w.heap.size = g ∧ w.alloc (.cells #[.int .i64 x.o.obj.c, .string (txt x.o.obj.a), .string (txt x.o.key), .bool x.o.keyed, .int .i64 x.o.elem.c, .string (txt x.o.elem.a), .bool x.o.ins, .int .i64 x.o.act,
  .int .i64 x.o.val.k, .int .u64 (x.o.val.u : Int), .int .i64 x.o.val.n, .string (txt x.o.val.s), .slice x.A x.o.pr.length x.c] 41) = w1 ∧ RowO w1 g x ∧ Fr (fun _ => False) w w1 := ⟨_, _, rfl, rfl, RowO.new w x, (Fr.refl _ _).alloc _⟩

end Go.Proofs.Ytohbcepbodcapaa
