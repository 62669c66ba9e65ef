/-
  append of one element onto a row of the call's own, at a step of a region that draws its order: what lay in the old row lies there still. Nothing of any program here.
  A block that is known whole, as a list of cells: stores of one cell, of a piece; loads of a piece. Nothing of any program here.
-/
import Derived.Test.YtbnkahjmeobblaaZm00
import Derived.Deep.AppendLies
import Derived.Laws.CopyOwn
import Derived.Deep.MidRow
namespace Go.Proofs.Ytbnkahjmeobblaa.Mem
open Go Go.RowKit

theorem addr_add (g j : Nat) : (⟨g, 0, none⟩ : Addr).add j = ⟨g, j, none⟩ := by unfold Addr.add; split <;> simp_all
section
variable {P : Program}
theorem run_app_keep {t e : TypeId} {z : Value} {bytes : Nat} (hT : ElemTy P t e z bytes) (ty : TypeId) (w : World) (base g n cap : Nat) (xs : List Value) (hown : w.ownsRow base e 1 (.slice (some ⟨g, 0, none⟩) n cap) n xs)
    (ad : Addr) (c : Nat) (u : Value) (hu : w.cell? ad = some u) (h1 : u.oneCell' = true) (h63 : n + 1 ≤ maxLen) (hbytes : (n + 1) * bytes ≤ 140737488355328) (hbase : base ≤ w.heap.size) :
    ∃ A' c' w', (Builtin.append_ #[t, t] ty #[.slice (some ⟨g, 0, none⟩) n cap, .slice (some ad) 1 c]).run P w = .ok (.slice A' (n + 1) c') w' ∧ w'.ownsRow base e 1 (.slice A' (n + 1) c') (n + 1) (xs ++ [u]) ∧
      Fr (fun k => g = k) w w' ∧ ∀ j y, xs[j]? = some y → w'.cell? ⟨g, j, none⟩ = some y := by
  obtain ⟨i, hi, hz, hs, hb⟩ := info_parts hT.info
  have hnews : ∀ j v, [u][j]? = some v → w.cell? (ad.add j) = some v := by
    intro j v hj
    match j, hj with
    | 0, hj => simp at hj; subst hj; simpa [Addr.add] using hu
  have hone : ∀ v ∈ [u], v.oneCell' = true := by intro v hv; simp at hv; subst hv; exact h1
  obtain ⟨v', w', hr, h2, h3, _, h5⟩ := run_append_own_at (P := P) w base t ty e i z 1 bytes hT.und hi hz hs hb hT.one (by omega) _ n xs hown ad 1 c [u] rfl hnews hone h63 hbytes hbase
  obtain ⟨A', c', rfl, _, _⟩ := own_form h2
  have hlt : g < w.heap.size := own_lt hown rfl
  have holds : ∀ j y, xs[j]? = some y → w.cell? ((⟨g, 0, none⟩ : Addr).add j) = some y := hown.cells (g := g) rfl
  refine ⟨A', c', w', hr, h2, ?_, ?_⟩
  · exact (Fr.of_grown h3).mono fun b _ h => by simpa [Value.ownBlock] using h
  · intro j y hj
    rcases hown.2 with ⟨hv, _⟩ | ⟨g', cap', cur, hv, _, hg, hnc, _, hcs, _⟩
    · cases hv
    · obtain ⟨rfl, rfl⟩ : g = g' ∧ cap = cap' := by injection hv with a b c; injection a with a; injection a with a; exact ⟨a, c⟩
      by_cases hroom : n + 1 ≤ cap
      · have hr2 := run_append_room (P := P) w t ty e i hT.und hi g n cap cur hg ad 1 c [u] (by rw [hs]; rfl) hnews hone hroom (by rw [hs]; simp; omega)
        rw [hr] at hr2
        injection hr2 with hv2 _
        injection hv2 with hA _ _
        have hc := h2.cells (g := g) (by rw [hA]; rfl)
        have := hc j y (by rw [List.getElem?_append_left (List.getElem?_eq_some_iff.1 hj).1]; exact hj)
        rwa [addr_add] at this
      · have hr2 := run_append_grow (P := P) w t ty e i z hT.und hi hz ⟨g, 0, none⟩ n cap xs (by rw [hs]; simpa using hown.1) holds ad 1 c [u] (by rw [hs]; rfl) hnews (by omega) (by unfold maxLen at h63; omega) (growslice_fits (by omega) (by rw [hb]; exact hbytes))
        rw [hr] at hr2
        injection hr2 with _ hw
        have hj' := holds j y hj
        rw [addr_add] at hj'
        rw [hw]
        exact (World.cell?_of_block (heap_alloc_old w.drew _ hlt)).trans hj'
/-- at the step, as the tactics leave it -/
theorem step_app_keep {t e : TypeId} {z : Value} {bytes : Nat} (hT : ElemTy P t e z bytes) {ops : Array Oper} {o : Oper} {a : Act} {K : Act → World → Prop} {Q : Exit → Act → World → Prop} {E : Prop} (w : World) (hgd : o.guard = none) (s x : Operand)
    (ho : o.op = .call { callee := .builtin .append, args := #[s, x], argTypes := #[t, t] }) (base g n cap : Nat) (xs : List Value) (hs : a.eval s = .slice (some ⟨g, 0, none⟩) n cap)
    (hown : w.ownsRow base e 1 (.slice (some ⟨g, 0, none⟩) n cap) n xs) (ad : Addr) (c : Nat) (u : Value) (hx : a.eval x = .slice (some ad) 1 c) (hu : w.cell? ad = some u) (h1 : u.oneCell' = true)
    (N : Nat) (hN : N = n + 1) (h63 : N ≤ maxLen) (hbytes : N * bytes ≤ 140737488355328) (hbase : base ≤ w.heap.size)
    (h : ∀ A' c' w', w'.ownsRow base e 1 (.slice A' N c') N (xs ++ [u]) → Fr (fun k => g = k) w w' → (∀ j y, xs[j]? = some y → w'.cell? ⟨g, j, none⟩ = some y) → K (a.put o.dst (.slice A' N c')) w') :
    if Region.wanted o (yielded ops a.tmps) = true then Oper.wp P o a w K Q else E := by
  subst hN
  have hw : Region.wanted o (yielded ops a.tmps) = true := by simp [Region.wanted, hgd]
  rw [if_pos hw]
  obtain ⟨A', c', w', hrun, h2, h3, h4⟩ := run_app_keep hT o.type w base g n cap xs hown ad c u hu h1 h63 hbytes hbase
  unfold Oper.wp execOp
  simp only [ho, resolve, invoke, builtin, Sem.run_bind, Sem.run_pure, Result.andThen_ok, List.map_toArray, List.map_cons, List.map_nil, hs, hx, hrun]
  exact h A' c' w' h2 h3 h4
end

section
variable {P : Program}
/-- append onto a row of the call's own, the source nil or not, at a step of a region that draws its order -/
theorem step_app {t e : TypeId} {z : Value} {bytes : Nat} (hT : ElemTy P t e z bytes) {ops : Array Oper} {o : Oper} {a : Act} {K : Act → World → Prop} {Q : Exit → Act → World → Prop} {E : Prop} (w : World) (hgd : o.guard = none) (s x : Operand)
    (ho : o.op = .call { callee := .builtin .append, args := #[s, x], argTypes := #[t, t] })
    (base : Nat) (v : Value) (n : Nat) (xs : List Value) (hs : a.eval s = v) (hown : w.ownsRow base e 1 v n xs)
    (A : Option Addr) (m c : Nat) (news : List Value) (hx : a.eval x = .slice A m c) (hr : Rd w A m news) (h1 : ∀ u ∈ news, u.oneCell' = true)
    (N : Nat) (hN : N = n + m) (h63 : N ≤ maxLen) (hbytes : N * bytes ≤ 140737488355328) (hbase : base ≤ w.heap.size)
    (h : ∀ A' c' w', N ≤ c' → w'.ownsRow base e 1 (.slice A' N c') N (xs ++ news) → Fr (fun k => v.ownBlock = some k) w w' → K (a.put o.dst (.slice A' N c')) w') :
    if Region.wanted o (yielded ops a.tmps) = true then Oper.wp P o a w K Q else E := by
  subst hN
  have hw : Region.wanted o (yielded ops a.tmps) = true := by simp [Region.wanted, hgd]
  rw [if_pos hw]
  obtain ⟨v', w', hrun, h2, h3, _⟩ := run_app hT o.type w base v n xs hown A m c news hr h1 h63 hbytes hbase
  obtain ⟨A', c', rfl, hc1, _⟩ := own_form h2
  unfold Oper.wp execOp
  simp only [ho, resolve, invoke, builtin, Sem.run_bind, Sem.run_pure, Result.andThen_ok, List.map_toArray, List.map_cons, List.map_nil, hs, hx, hrun]
  exact h A' c' w' hc1 h2 h3
end
/-- a slice type of elements of several cells -/
structure ElemTyS (P : Program) (t e : TypeId) (z : Value) (size bytes : Nat) : Prop where
  und : P.underlying t = some (.slice e)
  info : (P.info? e).map (fun i => (i.zero, i.size, i.bytes)) = some (some z, size, bytes)
  cells : z.cells.size = size
  pos : 0 < size
section
variable {P : Program}
/-- append of one element of several cells onto a row of the call's own -/
theorem wpList_appS {t e : TypeId} {z : Value} {size bytes : Nat} (hT : ElemTyS P t e z size bytes) {ops : Array Oper} {rest : List Oper} {o : Oper} {a : Act} {Q : Exit → Act → World → Prop} (w : World) (hgd : o.guard = none) (s x : Operand)
    (ho : o.op = .call { callee := .builtin .append, args := #[s, x], argTypes := #[t, t] })
    (base : Nat) (v : Value) (n : Nat) (xs : List Value) (hs : a.eval s = v) (hown : w.ownsRow base e size v n xs)
    (ad : Addr) (c : Nat) (news : List Value) (hx : a.eval x = .slice (some ad) 1 c) (hl : news.length = size) (hnews : ∀ j u, news[j]? = some u → w.cell? (ad.add j) = some u) (h1 : ∀ u ∈ news, u.oneCell' = true)
    (N : Nat) (hN : N = n + 1) (h63 : N ≤ maxLen) (hbytes : N * bytes ≤ 140737488355328) (hbase : base ≤ w.heap.size)
    (h : ∀ A' c' w', w'.ownsRow base e size (.slice A' N c') N (xs ++ news) → N ≤ c' → Fr (fun k => v.ownBlock = some k) w w' → wpList P ops Q rest (a.put o.dst (.slice A' N c')) w') : wpList P ops Q (o :: rest) a w := by
  subst hN
  refine wpList_plain hgd fun K hK => ?_
  obtain ⟨i, hi, hz, hsz, hb⟩ : ∃ i, P.info? e = some i ∧ i.zero = some z ∧ i.size = size ∧ i.bytes = bytes := by
    have h := hT.info
    cases hq : P.info? e with
    | none => rw [hq] at h; cases h
    | some i =>
      rw [hq] at h
      simp only [Option.map_some, Option.some.injEq, Prod.mk.injEq] at h
      exact ⟨i, rfl, h.1, h.2.1, h.2.2⟩
  obtain ⟨v', w', hr, h2, h3, _, _⟩ := run_append_own_at (P := P) w base t o.type e i z size bytes hT.und hi hz hsz hb hT.cells hT.pos v n xs hown ad 1 c news (by rw [hl, Nat.one_mul]) hnews h1 h63 hbytes hbase
  obtain ⟨A', c', rfl, hc1, _⟩ := own_form h2
  unfold Oper.wp execOp
  simp only [ho, resolve, invoke, builtin, Sem.run_bind, Sem.run_pure, Result.andThen_ok, List.map_toArray, List.map_cons, List.map_nil, hs, hx, hr]
  exact hK _ _ (h A' c' w' h2 hc1 ((Fr.of_grown h3).mono (fun _ _ h => h)))
/-- the same, at a step of a region that draws its order -/
theorem step_appS {t e : TypeId} {z : Value} {size bytes : Nat} (hT : ElemTyS P t e z size bytes) {ops : Array Oper} {o : Oper} {a : Act} {K : Act → World → Prop} {Q : Exit → Act → World → Prop} {E : Prop} (w : World) (hgd : o.guard = none) (s x : Operand)
    (ho : o.op = .call { callee := .builtin .append, args := #[s, x], argTypes := #[t, t] })
    (base : Nat) (v : Value) (n : Nat) (xs : List Value) (hs : a.eval s = v) (hown : w.ownsRow base e size v n xs)
    (ad : Addr) (c : Nat) (news : List Value) (hx : a.eval x = .slice (some ad) 1 c) (hl : news.length = size) (hnews : ∀ j u, news[j]? = some u → w.cell? (ad.add j) = some u) (h1 : ∀ u ∈ news, u.oneCell' = true)
    (N : Nat) (hN : N = n + 1) (h63 : N ≤ maxLen) (hbytes : N * bytes ≤ 140737488355328) (hbase : base ≤ w.heap.size)
    (h : ∀ A' c' w', w'.ownsRow base e size (.slice A' N c') N (xs ++ news) → N ≤ c' → Fr (fun k => v.ownBlock = some k) w w' → ((Value.slice A' N c').ownBlock = v.ownBlock ∨ (Value.slice A' N c').ownBlock = some w.heap.size) → K (a.put o.dst (.slice A' N c')) w') :
    if Region.wanted o (yielded ops a.tmps) = true then Oper.wp P o a w K Q else E := by
  subst hN
  have hw : Region.wanted o (yielded ops a.tmps) = true := by simp [Region.wanted, hgd]
  rw [if_pos hw]
  obtain ⟨i, hi, hz, hsz, hb⟩ : ∃ i, P.info? e = some i ∧ i.zero = some z ∧ i.size = size ∧ i.bytes = bytes := by
    have h := hT.info
    cases hq : P.info? e with
    | none => rw [hq] at h; cases h
    | some i =>
      rw [hq] at h
      simp only [Option.map_some, Option.some.injEq, Prod.mk.injEq] at h
      exact ⟨i, rfl, h.1, h.2.1, h.2.2⟩
  obtain ⟨v', w', hr, h2, h3, _, h5⟩ := run_append_own_at (P := P) w base t o.type e i z size bytes hT.und hi hz hsz hb hT.cells hT.pos v n xs hown ad 1 c news (by rw [hl, Nat.one_mul]) hnews h1 h63 hbytes hbase
  obtain ⟨A', c', rfl, hc1, _⟩ := own_form h2
  unfold Oper.wp execOp
  simp only [ho, resolve, invoke, builtin, Sem.run_bind, Sem.run_pure, Result.andThen_ok, List.map_toArray, List.map_cons, List.map_nil, hs, hx, hr]
  exact h A' c' w' h2 hc1 ((Fr.of_grown h3).mono (fun _ _ h => h)) h5
theorem news2 {w : World} {k : Nat} (hk : k = w.heap.size) (u v : Value) (t : TypeId) : ∀ j x, [u, v][j]? = some x → (w.alloc (.cells #[u, v] t)).cell? ((⟨k, 0, none⟩ : Addr).add j) = some x := by
  intro j x hx
  obtain ⟨ad, e, h⟩ := (Rd.cells hk [u, v] t).2 (by show 0 < 2; omega)
  injection e with e
  subst e
  exact h j x hx
end
end Go.Proofs.Ytbnkahjmeobblaa.Mem
namespace Go.Proofs.Ytbnkahjmeobblaa.Mem
open Go Go.RowKit

/-- block g holds the cells L -/
def Row (w : World) (g : Nat) (t : TypeId) (L : List Value) : Prop := w.heap[g]? = some (.cells L.toArray t (0, 0))
section
variable {S : Nat → Prop} {w w' : World} {g : Nat} {t : TypeId} {L : List Value}
theorem Row.fr (h : Row w g t L) (hf : Fr S w w') (hg : ¬ S g) : Row w' g t L := hf.blk h hg
theorem Row.cell (h : Row w g t L) {i : Nat} {u : Value} (hi : L[i]? = some u) : w.cell? ⟨g, i, none⟩ = some u := by
  rw [cell_of_row w g i L.toArray t (0, 0) h]
  simpa using hi
theorem Row.free (h : Row w g t L) (i : Nat) : w.frozen? ⟨g, i, none⟩ = false := by
  have h' : w.heap[g]? = _ := h
  simp [World.frozen?, h']
theorem Row.lt (h : Row w g t L) : g < w.heap.size := lt_of_heap h
theorem Row.set (h : Row w g t L) (i : Nat) (u : Value) : Row (w.setCell ⟨g, i, none⟩ u) g t (L.set i u) := by
  have h' : w.heap[g]? = _ := h
  unfold Row
  simp [World.setCell, Array.getElem?_modify, h']
theorem Row.new (w : World) (t : TypeId) (L : List Value) : Row (w.alloc (.cells L.toArray t)) w.heap.size t L := heap_alloc_new w _
theorem Row.drew (h : Row w g t L) : Row w.drew g t L := h
theorem Row.alloc (h : Row w g t L) (o : Obj) : Row (w.alloc o) g t L := (Fr.refl (fun _ => False) w).alloc o |>.blk h (fun h => h)
theorem Row.other {g' i : Nat} (h : Row w g t L) (hne : g ≠ g') (u : Value) : Row (w.setCell ⟨g', i, none⟩ u) g t L :=
  ((Fr.refl (fun b => b = g') w).setCell (p := ⟨g', i, none⟩) (fun _ => rfl) u).blk h hne
theorem Fr.set1 (w : World) (g i : Nat) (u : Value) : Fr (fun b => b = g) w (w.setCell ⟨g, i, none⟩ u) := (Fr.refl (fun b => b = g) w).setCell (p := ⟨g, i, none⟩) (fun _ => rfl) u
theorem Rd.frp {A : Option Addr} {n : Nat} {xs : List Value} (h : Rd w A n xs) (hf : Fr S w w') (hp : 0 < n → ∀ ad, A = some ad → ¬ S ad.block) : Rd w' A n xs :=
  ⟨h.1, fun hn => by
    obtain ⟨ad, e, hc⟩ := h.2 hn
    exact ⟨ad, e, fun j u hu => hf.cell (hc j u hu) (by rw [add_block]; exact hp hn ad e)⟩⟩
theorem Rd.lt {A : Option Addr} {n : Nat} {xs : List Value} (h : Rd w A n xs) (hn : 0 < n) (ad : Addr) (e : A = some ad) : ad.block < w.heap.size := by
  obtain ⟨ad', e', hc⟩ := h.2 hn
  rw [e] at e'
  injection e' with e'
  subst e'
  have hl : 0 < xs.length := by rw [h.1]; exact hn
  have := World.block_lt_of_cell? w _ (hc 0 _ (List.getElem?_eq_getElem hl))
  rwa [add_block] at this
/-- a piece of a block, read as a slice -/
theorem Row.rd (h : Row w g t L) (o n : Nat) (ho : o + n ≤ L.length) : Rd w (some ⟨g, o, none⟩) n ((L.drop o).take n) := by
  refine ⟨by simp; omega, fun _ => ⟨_, rfl, fun j u hu => ?_⟩⟩
  rw [Addr.add_mid]
  refine h.cell ?_
  have hj := (List.getElem?_eq_some_iff.1 hu).1
  rw [List.length_take] at hj
  rw [← hu, List.getElem?_take, if_pos (by omega), List.getElem?_drop]
theorem Row.range (h : Row w g t L) (o : Nat) (M : List Value) (hM : ∀ j v, M[j]? = some v → L[o + j]? = some v) : w.rangeAt g o M := fun j v hv => h.cell (hM j v hv)
theorem splice_head {α : Type} (L : List α) (p : Nat) (v : α) (C : List α) (hp : p < L.length) : (splice L (p + 1) C).set p v = splice L p (v :: C) := by
  unfold splice
  rw [List.take_add_one, List.getElem?_eq_getElem hp, Option.toList_some, List.append_assoc, List.set_append_right _ _ (by simp; omega)]
  rw [List.length_take, Nat.min_eq_left (by omega), Nat.sub_self, List.singleton_append, List.set_cons_zero, List.cons_append, List.length_cons, Nat.add_right_comm, Nat.add_assoc]
theorem splice_nil {α : Type} (L : List α) (p : Nat) : splice L p [] = L := by simp [splice]
end
/-- a block that was just made, as a row of one's own, full -/
theorem own_full {w : World} {base k : Nat} (hk : k = w.heap.size) (hb : base ≤ k) (e : TypeId) (xs : List Value) (hx : xs.length ≤ maxLen) : (w.alloc (.cells xs.toArray e)).ownsRow base e 1 (.slice (some ⟨k, 0, none⟩) xs.length xs.length) xs.length xs := by
  subst hk
  exact ⟨by simp, .inr ⟨w.heap.size, xs.length, xs.toArray, rfl, hb, heap_alloc_new w _, Nat.le_refl _, hx, by simp, by simp⟩⟩
section
variable {P : Program}
/-- copy into a block that is known whole -/
theorem wpList_copy_row {w : World} {ops : Array Oper} {rest : List Oper} {o : Oper} {a : Act} {Q : Exit → Act → World → Prop} (hgd : o.guard = none) (d s : Operand) (dT sT : TypeId)
    (ho : o.op = .call { callee := .builtin .copy, args := #[d, s], argTypes := #[dT, sT] }) (elem : TypeId) (hu : P.underlying dT = some (.slice elem)) (hsz : (P.info? elem).map (·.size) = some 1)
    (g off dLen dCap : Nat) (A : Option Addr) (sLen sCap : Nat) (hd : a.eval d = .slice (some ⟨g, off, none⟩) dLen dCap) (hs : a.eval s = .slice A sLen sCap)
    (t : TypeId) (L xs : List Value) (hr : Row w g t L) (hx : Rd w A sLen xs) (cs : List Value) (hc : cs = xs.take dLen) (j : Nat) (hj : j = cs.length) (hfit : off + j ≤ L.length) (h1 : ∀ v ∈ cs, v.oneCell' = true)
    (h : ∀ w', Row w' g t (splice L off cs) → Fr (fun b => b = g) w w' → wpList P ops Q rest (a.put o.dst (.int .i64 (j : Int))) w') : wpList P ops Q (o :: rest) a w := by
  have hl : cs.length = Nat.min sLen dLen := by rw [hc, List.length_take, hx.1, Nat.min_comm]
  have e0 : goInt cs.length = .int .i64 (j : Int) := by rw [hj]; rfl
  rcases Nat.eq_zero_or_pos cs.length with h0 | hpos
  · have hcs : cs = [] := List.eq_nil_of_length_eq_zero h0
    refine wpList_copy_nothing hgd d s dT sT ho elem hu hsz _ _ _ _ _ _ hd hs (by omega) ?_
    have e1 : goInt 0 = .int .i64 (j : Int) := by rw [h0] at e0; exact e0
    rw [e1]
    exact h w (by rw [hcs, splice_nil]; exact hr) (Fr.refl _ _)
  · have hsl : 0 < sLen := by
      have : Nat.min sLen dLen ≤ sLen := Nat.min_le_left _ _
      omega
    obtain ⟨ad, rfl, hcell⟩ := hx.2 hsl
    refine wpList_copy_own hgd d s dT sT ho elem hu hsz g off dLen dCap ad sLen sCap hd hs L.toArray t hr cs hl (fun i v hv => hcell i v ?_) (by simp; omega) h1 ?_
    · rw [hc, List.getElem?_take] at hv
      split at hv
      · exact hv
      · cases hv
    · rw [e0]
      exact h _ (setRow_heap w g L.toArray _ t (0, 0) hr) ⟨rfl, rfl, rfl, by simp [World.setRow], fun b _ hs => setRow_other w g b _ hs⟩
/-- a whole block is written, at a step of a region that draws its order -/
theorem step_store_whole {ty : TypeId} {n : Nat} (hs : (P.info? ty).map (·.size) = some n) {ops : Array Oper} {op : Oper} {a : Act} {w : World} {K : Act → World → Prop} {Q : Exit → Act → World → Prop} {E : Prop} (hgd : op.guard = none) (x y : Operand) (ho : op.op = .store ty x y)
    (g : Nat) (hx : a.eval x = .pointer (some ⟨g, 0, none⟩)) (C : Array Value) (hy : a.eval y = .agg C) (old : Array Value) (t : TypeId) (hb : w.heap[g]? = some (.cells old t (0, 0))) (hn : C.size = n) (ho2 : old.size = n) (h1 : C.all (·.oneCell') = true)
    (h : ∀ w', w'.heap[g]? = some (.cells C t (0, 0)) → Fr (fun b => b = g) w w' → K (a.put op.dst undef) w') : if Region.wanted op (yielded ops a.tmps) = true then Oper.wp P op a w K Q else E := by
  have hw : Region.wanted op (yielded ops a.tmps) = true := by simp [Region.wanted, hgd]
  rw [if_pos hw]
  unfold Oper.wp execOp
  simp only [ho, hx, hy, Instr.storeAt, Instr.sureAddr, Sem.run_bind, Sem.run_pure, Result.andThen_ok, run_storeVar_row w g t ty old C hb (by rw [hs, hn]) (by rw [ho2, hn]) h1]
  exact h _ (setRow_heap w g old C t (0, 0) hb) ⟨rfl, rfl, rfl, by simp [World.setRow], fun b _ hs => setRow_other w g b _ hs⟩
end
end Go.Proofs.Ytbnkahjmeobblaa.Mem
