/-
  append of one element onto a row of the call's own, at a step of a region that draws its order: what lay in the old row lies there still. Nothing of any program here.
  Contracts of layer 7's reference: Lengths (written by gen_rows.py).
  Contracts of layer 7's reference: Distances (written by gen_rows.py).
  Contract of layer 7's reference: Of.
-/
import Derived.Test.YtahfmcdhcbfkaaaDoorZm04
import Derived.Deep.AppendLies
import Derived.Test.YtahfmcdhcbfkaaaDoorZm03
import Derived.Deep.DrawnRows
import Derived.Deep.QuietTactic
import Derived.BigQuiet
namespace Go.Proofs.YtahfmcdhcbfkaaaDoor.Mem
open Go Go.RowKit

theorem addr_add (g j : Nat) : (⟨g, 0, none⟩ : Addr).add j = ⟨g, j, none⟩ := by unfold Addr.add; split <;> simp_all
section
variable {P : Program}
theorem run_app_keep {t e : TypeId} {z : Value} {bytes : Nat} (hT : ElemTy P t e z bytes) (ty : TypeId) (w : World) (base g n cap : Nat) (xs : List Value) (hown : w.ownsRow base e 1 (.slice (some ⟨g, 0, none⟩) n cap) n xs)
    (ad : Addr) (c : Nat) (u : Value) (hu : w.cell? ad = some u) (h1 : u.oneCell' = true) (h63 : n + 1 ≤ maxLen) (hbytes : (n + 1) * bytes ≤ 140737488355328) (hbase : base ≤ w.heap.size) :
    ∃ A' c' w', (Builtin.append_ #[t, t] ty #[.slice (some ⟨g, 0, none⟩) n cap, .slice (some ad) 1 c]).run P w = .ok (.slice A' (n + 1) c') w' ∧ w'.ownsRow base e 1 (.slice A' (n + 1) c') (n + 1) (xs ++ [u]) ∧
      Fr (fun k => g = k) w w' ∧ ∀ j y, xs[j]? = some y → w'.cell? ⟨g, j, none⟩ = some y := by
  obtain ⟨i, hi, hz, hs, hb⟩ := info_parts hT.info
  have hnews : ∀ j v, [u][j]? = some v → w.cell? (ad.add j) = some v := by
    intro j v hj
    match j, hj with
    | 0, hj => simp at hj; subst hj; simpa [Addr.add] using hu
  have hone : ∀ v ∈ [u], v.oneCell' = true := by intro v hv; simp at hv; subst hv; exact h1
  obtain ⟨v', w', hr, h2, h3, _, h5⟩ := run_append_own_at (P := P) w base t ty e i z 1 bytes hT.und hi hz hs hb hT.one (by omega) _ n xs hown ad 1 c [u] rfl hnews hone h63 hbytes hbase
  obtain ⟨A', c', rfl, _, _⟩ := own_form h2
  have hlt : g < w.heap.size := own_lt hown rfl
  have holds : ∀ j y, xs[j]? = some y → w.cell? ((⟨g, 0, none⟩ : Addr).add j) = some y := hown.cells (g := g) rfl
  refine ⟨A', c', w', hr, h2, ?_, ?_⟩
  · exact (Fr.of_grown h3).mono fun b _ h => by simpa [Value.ownBlock] using h
  · intro j y hj
    rcases hown.2 with ⟨hv, _⟩ | ⟨g', cap', cur, hv, _, hg, hnc, _, hcs, _⟩
    · cases hv
    · obtain ⟨rfl, rfl⟩ : g = g' ∧ cap = cap' := by injection hv with a b c; injection a with a; injection a with a; exact ⟨a, c⟩
      by_cases hroom : n + 1 ≤ cap
      · have hr2 := run_append_room (P := P) w t ty e i hT.und hi g n cap cur hg ad 1 c [u] (by rw [hs]; rfl) hnews hone hroom (by rw [hs]; simp; omega)
        rw [hr] at hr2
        injection hr2 with hv2 _
        injection hv2 with hA _ _
        have hc := h2.cells (g := g) (by rw [hA]; rfl)
        have := hc j y (by rw [List.getElem?_append_left (List.getElem?_eq_some_iff.1 hj).1]; exact hj)
        rwa [addr_add] at this
      · have hr2 := run_append_grow (P := P) w t ty e i z hT.und hi hz ⟨g, 0, none⟩ n cap xs (by rw [hs]; simpa using hown.1) holds ad 1 c [u] (by rw [hs]; rfl) hnews (by omega) (by unfold maxLen at h63; omega) (growslice_fits (by omega) (by rw [hb]; exact hbytes))
        rw [hr] at hr2
        injection hr2 with _ hw
        have hj' := holds j y hj
        rw [addr_add] at hj'
        rw [hw]
        exact (World.cell?_of_block (heap_alloc_old w.drew _ hlt)).trans hj'
/-- at the step, as the tactics leave it -/
theorem step_app_keep {t e : TypeId} {z : Value} {bytes : Nat} (hT : ElemTy P t e z bytes) {ops : Array Oper} {o : Oper} {a : Act} {K : Act → World → Prop} {Q : Exit → Act → World → Prop} {E : Prop} (w : World) (hgd : o.guard = none) (s x : Operand)
    (ho : o.op = .call { callee := .builtin .append, args := #[s, x], argTypes := #[t, t] }) (base g n cap : Nat) (xs : List Value) (hs : a.eval s = .slice (some ⟨g, 0, none⟩) n cap)
    (hown : w.ownsRow base e 1 (.slice (some ⟨g, 0, none⟩) n cap) n xs) (ad : Addr) (c : Nat) (u : Value) (hx : a.eval x = .slice (some ad) 1 c) (hu : w.cell? ad = some u) (h1 : u.oneCell' = true)
    (N : Nat) (hN : N = n + 1) (h63 : N ≤ maxLen) (hbytes : N * bytes ≤ 140737488355328) (hbase : base ≤ w.heap.size)
    (h : ∀ A' c' w', w'.ownsRow base e 1 (.slice A' N c') N (xs ++ [u]) → Fr (fun k => g = k) w w' → (∀ j y, xs[j]? = some y → w'.cell? ⟨g, j, none⟩ = some y) → K (a.put o.dst (.slice A' N c')) w') :
    if Region.wanted o (yielded ops a.tmps) = true then Oper.wp P o a w K Q else E := by
  subst hN
  have hw : Region.wanted o (yielded ops a.tmps) = true := by simp [Region.wanted, hgd]
  rw [if_pos hw]
  obtain ⟨A', c', w', hrun, h2, h3, h4⟩ := run_app_keep hT o.type w base g n cap xs hown ad c u hu h1 h63 hbytes hbase
  unfold Oper.wp execOp
  simp only [ho, resolve, invoke, builtin, Sem.run_bind, Sem.run_pure, Result.andThen_ok, List.map_toArray, List.map_cons, List.map_nil, hs, hx, hrun]
  exact h A' c' w' h2 h3 h4
end

section
variable {P : Program}
/-- append onto a row of the call's own, the source nil or not, at a step of a region that draws its order -/
theorem step_app {t e : TypeId} {z : Value} {bytes : Nat} (hT : ElemTy P t e z bytes) {ops : Array Oper} {o : Oper} {a : Act} {K : Act → World → Prop} {Q : Exit → Act → World → Prop} {E : Prop} (w : World) (hgd : o.guard = none) (s x : Operand)
    (ho : o.op = .call { callee := .builtin .append, args := #[s, x], argTypes := #[t, t] })
    (base : Nat) (v : Value) (n : Nat) (xs : List Value) (hs : a.eval s = v) (hown : w.ownsRow base e 1 v n xs)
    (A : Option Addr) (m c : Nat) (news : List Value) (hx : a.eval x = .slice A m c) (hr : Rd w A m news) (h1 : ∀ u ∈ news, u.oneCell' = true)
    (N : Nat) (hN : N = n + m) (h63 : N ≤ maxLen) (hbytes : N * bytes ≤ 140737488355328) (hbase : base ≤ w.heap.size)
    (h : ∀ A' c' w', N ≤ c' → w'.ownsRow base e 1 (.slice A' N c') N (xs ++ news) → Fr (fun k => v.ownBlock = some k) w w' → K (a.put o.dst (.slice A' N c')) w') :
    if Region.wanted o (yielded ops a.tmps) = true then Oper.wp P o a w K Q else E := by
  subst hN
  have hw : Region.wanted o (yielded ops a.tmps) = true := by simp [Region.wanted, hgd]
  rw [if_pos hw]
  obtain ⟨v', w', hrun, h2, h3, _⟩ := run_app hT o.type w base v n xs hown A m c news hr h1 h63 hbytes hbase
  obtain ⟨A', c', rfl, hc1, _⟩ := own_form h2
  unfold Oper.wp execOp
  simp only [ho, resolve, invoke, builtin, Sem.run_bind, Sem.run_pure, Result.andThen_ok, List.map_toArray, List.map_cons, List.map_nil, hs, hx, hrun]
  exact h A' c' w' hc1 h2 h3
end
/-- a slice type of elements of several cells -/
structure ElemTyS (P : Program) (t e : TypeId) (z : Value) (size bytes : Nat) : Prop where
  und : P.underlying t = some (.slice e)
  info : (P.info? e).map (fun i => (i.zero, i.size, i.bytes)) = some (some z, size, bytes)
  cells : z.cells.size = size
  pos : 0 < size
section
variable {P : Program}
/-- append of one element of several cells onto a row of the call's own -/
theorem wpList_appS {t e : TypeId} {z : Value} {size bytes : Nat} (hT : ElemTyS P t e z size bytes) {ops : Array Oper} {rest : List Oper} {o : Oper} {a : Act} {Q : Exit → Act → World → Prop} (w : World) (hgd : o.guard = none) (s x : Operand)
    (ho : o.op = .call { callee := .builtin .append, args := #[s, x], argTypes := #[t, t] })
    (base : Nat) (v : Value) (n : Nat) (xs : List Value) (hs : a.eval s = v) (hown : w.ownsRow base e size v n xs)
    (ad : Addr) (c : Nat) (news : List Value) (hx : a.eval x = .slice (some ad) 1 c) (hl : news.length = size) (hnews : ∀ j u, news[j]? = some u → w.cell? (ad.add j) = some u) (h1 : ∀ u ∈ news, u.oneCell' = true)
    (N : Nat) (hN : N = n + 1) (h63 : N ≤ maxLen) (hbytes : N * bytes ≤ 140737488355328) (hbase : base ≤ w.heap.size)
    (h : ∀ A' c' w', w'.ownsRow base e size (.slice A' N c') N (xs ++ news) → N ≤ c' → Fr (fun k => v.ownBlock = some k) w w' → wpList P ops Q rest (a.put o.dst (.slice A' N c')) w') : wpList P ops Q (o :: rest) a w := by
  subst hN
  refine wpList_plain hgd fun K hK => ?_
  obtain ⟨i, hi, hz, hsz, hb⟩ : ∃ i, P.info? e = some i ∧ i.zero = some z ∧ i.size = size ∧ i.bytes = bytes := by
    have h := hT.info
    cases hq : P.info? e with
    | none => rw [hq] at h; cases h
    | some i =>
      rw [hq] at h
      simp only [Option.map_some, Option.some.injEq, Prod.mk.injEq] at h
      exact ⟨i, rfl, h.1, h.2.1, h.2.2⟩
  obtain ⟨v', w', hr, h2, h3, _, _⟩ := run_append_own_at (P := P) w base t o.type e i z size bytes hT.und hi hz hsz hb hT.cells hT.pos v n xs hown ad 1 c news (by rw [hl, Nat.one_mul]) hnews h1 h63 hbytes hbase
  obtain ⟨A', c', rfl, hc1, _⟩ := own_form h2
  unfold Oper.wp execOp
  simp only [ho, resolve, invoke, builtin, Sem.run_bind, Sem.run_pure, Result.andThen_ok, List.map_toArray, List.map_cons, List.map_nil, hs, hx, hr]
  exact hK _ _ (h A' c' w' h2 hc1 ((Fr.of_grown h3).mono (fun _ _ h => h)))
/-- the same, at a step of a region that draws its order -/
theorem step_appS {t e : TypeId} {z : Value} {size bytes : Nat} (hT : ElemTyS P t e z size bytes) {ops : Array Oper} {o : Oper} {a : Act} {K : Act → World → Prop} {Q : Exit → Act → World → Prop} {E : Prop} (w : World) (hgd : o.guard = none) (s x : Operand)
    (ho : o.op = .call { callee := .builtin .append, args := #[s, x], argTypes := #[t, t] })
    (base : Nat) (v : Value) (n : Nat) (xs : List Value) (hs : a.eval s = v) (hown : w.ownsRow base e size v n xs)
    (ad : Addr) (c : Nat) (news : List Value) (hx : a.eval x = .slice (some ad) 1 c) (hl : news.length = size) (hnews : ∀ j u, news[j]? = some u → w.cell? (ad.add j) = some u) (h1 : ∀ u ∈ news, u.oneCell' = true)
    (N : Nat) (hN : N = n + 1) (h63 : N ≤ maxLen) (hbytes : N * bytes ≤ 140737488355328) (hbase : base ≤ w.heap.size)
    (h : ∀ A' c' w', w'.ownsRow base e size (.slice A' N c') N (xs ++ news) → N ≤ c' → Fr (fun k => v.ownBlock = some k) w w' → ((Value.slice A' N c').ownBlock = v.ownBlock ∨ (Value.slice A' N c').ownBlock = some w.heap.size) → K (a.put o.dst (.slice A' N c')) w') :
    if Region.wanted o (yielded ops a.tmps) = true then Oper.wp P o a w K Q else E := by
  subst hN
  have hw : Region.wanted o (yielded ops a.tmps) = true := by simp [Region.wanted, hgd]
  rw [if_pos hw]
  obtain ⟨i, hi, hz, hsz, hb⟩ : ∃ i, P.info? e = some i ∧ i.zero = some z ∧ i.size = size ∧ i.bytes = bytes := by
    have h := hT.info
    cases hq : P.info? e with
    | none => rw [hq] at h; cases h
    | some i =>
      rw [hq] at h
      simp only [Option.map_some, Option.some.injEq, Prod.mk.injEq] at h
      exact ⟨i, rfl, h.1, h.2.1, h.2.2⟩
  obtain ⟨v', w', hr, h2, h3, _, h5⟩ := run_append_own_at (P := P) w base t o.type e i z size bytes hT.und hi hz hsz hb hT.cells hT.pos v n xs hown ad 1 c news (by rw [hl, Nat.one_mul]) hnews h1 h63 hbytes hbase
  obtain ⟨A', c', rfl, hc1, _⟩ := own_form h2
  unfold Oper.wp execOp
  simp only [ho, resolve, invoke, builtin, Sem.run_bind, Sem.run_pure, Result.andThen_ok, List.map_toArray, List.map_cons, List.map_nil, hs, hx, hr]
  exact h A' c' w' h2 hc1 ((Fr.of_grown h3).mono (fun _ _ h => h)) h5
theorem news2 {w : World} {k : Nat} (hk : k = w.heap.size) (u v : Value) (t : TypeId) : ∀ j x, [u, v][j]? = some x → (w.alloc (.cells #[u, v] t)).cell? ((⟨k, 0, none⟩ : Addr).add j) = some x := by
  intro j x hx
  obtain ⟨ad, e, h⟩ := (Rd.cells hk [u, v] t).2 (by show 0 < 2; omega)
  injection e with e
  subst e
  exact h j x hx
end
end Go.Proofs.YtahfmcdhcbfkaaaDoor.Mem
namespace Go.Proofs.YtahfmcdhcbfkaaaDoor
open Go.RowKit SyM Mem Go.Lib
set_option linter.unusedVariables false

def rowc (r : Nat × Nat) : List Value := [.int .i64 (r.1 : Int), .int .i64 (r.2 : Int)]
theorem rowT : ElemTyS Tryd.prog 93 98 (.agg #[.int .i64 0, .int .i64 0]) 2 16 := ⟨Tryd.underlying93, by kernel_rfl, rfl, by decide⟩
/-- a slice of one's own holds these rows -/
def OwnR (w : World) (base : Nat) (A : Option Addr) (c : Nat) (R : List (Nat × Nat)) : Prop := w.ownsRow base 98 2 (.slice A R.length c) R.length (R.flatMap rowc)
theorem rows_one (a b : Int) : ∀ v ∈ [Value.int .i64 a, .int .i64 b], v.oneCell' = true := by
  intro v hv
  simp at hv
  rcases hv with rfl | rfl <;> rfl
theorem flatR (R : List (Nat × Nat)) (r : Nat × Nat) : (R ++ [r]).flatMap rowc = R.flatMap rowc ++ rowc r := by rw [List.flatMap_append]; simp
theorem cells_new {w : World} {k : Nat} (hk : k = w.heap.size) (xs : List Value) (t : TypeId) : ∀ j x, xs[j]? = some x → (w.alloc (.cells xs.toArray t)).cell? ((⟨k, 0, none⟩ : Addr).add j) = some x := by
  subst hk
  intro j x hx
  have hl : 0 < xs.length := by have := (List.getElem?_eq_some_iff.1 hx).1; omega
  obtain ⟨ad, e, h⟩ := (Rd.cells rfl xs t).2 hl
  injection e with e
  subst e
  exact h j x hx

/-- the least number of the k-th symbol, as it is reckoned -/
def nl : Nat → Nat
  | 0 => 3
  | k + 1 => nl k + 2 ^ (k / 4 - 1)
theorem nl_is (k : Nat) (hk : k < 28) : nl k ≤ 300 ∧ lens.take (k + 1) = lens.take k ++ [(nl k, k / 4 - 1)] := by
  have h : ∀ k : Fin 28, nl (k : Nat) ≤ 300 ∧ lens.take ((k : Nat) + 1) = lens.take (k : Nat) ++ [(nl (k : Nat), (k : Nat) / 4 - 1)] := by decide +kernel
  exact h ⟨k, hk⟩

set_option maxRecDepth 100000 in
set_option maxHeartbeats 1600000 in
theorem rLens7_any (w : World) : Calls Tryd.prog 63 #[] w fun e w' => ∃ A c, e = .returned (.slice A 29 c) ∧ w'.ownsRow w.heap.size 98 2 (.slice A 29 c) 29 (lens.flatMap rowc) ∧ Fr (fun _ => False) w w' := by
  obtain ⟨base, hbase⟩ : ∃ base, base = w.heap.size := ⟨_, rfl⟩
  have HB := Lib.hid hbase
  rw [← hbase]
  clear hbase
  go_enter Tryd.func63, Tryd.ntmps63
  go_wp2_with fail
  go_loopw [1, 2, 3] (fun s l i wr => ∃ (k : Nat) (A1 : Option Addr) (c1 : Nat), k ≤ 28 ∧ i = .int .i64 (k : Int) ∧ l = .int .i64 (nl k : Int) ∧ s = .slice A1 k c1 ∧ Hid (wr.ownsRow base 98 2 (.slice A1 k c1) k ((lens.take k).flatMap rowc)) ∧ Hid (Fr (fun _ => False) w wr)) (fun _ _ i _ => 28 - (intOf i).toNat)
  case atStart => exact ⟨0, none, 0, by omega, rfl, rfl, rfl, World.ownsRow_nil _ _ _ _, Fr.refl _ _⟩
  case round =>
    obtain ⟨k, A1, c1, hk, rfl, rfl, rfl, HO, HF⟩ := hrel
    rename World => wr
    by_cases hlt : k < 28
    · obtain ⟨h2, h3⟩ := nl_is k hlt
      have hs : nl (k + 1) = nl k + 2 ^ (k / 4 - 1) := rfl
      obtain ⟨x, hx⟩ : ∃ x, x = nl k := ⟨_, rfl⟩
      obtain ⟨y, hy⟩ : ∃ y, y = nl (k + 1) := ⟨_, rfl⟩
      rw [← hx] at h2 h3 hs ⊢
      rw [← hy] at hs
      have HY := Lib.hid hy
      have hbs : base ≤ wr.heap.size := by have := HB.out; have := HF.out.size; omega
      obtain ⟨q, hq⟩ : ∃ q, q = k / 4 := ⟨_, rfl⟩
      have hquo : (k : Int).tdiv 4 = (q : Int) := by rw [Int.tdiv_eq_ediv_of_nonneg (by omega)]; omega
      rw [← hq] at h3 hs
      have hq7 : q ≤ 6 := by omega
      have HQ := Lib.hid hq
      clear hx hy hq
      by_cases hq1 : q = 0
      · subst hq1
        have HTK := Lib.hid h3
        have hy1 : y = x + 1 := hs
        clear h3 hs
        go_wp2_with (at_builtin; refine wpList_appS rowT _ rfl _ _ rfl base _ k ((lens.take k).flatMap rowc) rfl (HO.out.alloc _) ⟨wr.heap.size, 0, none⟩ 1 [.int .i64 (x : Int), .int .i64 0] rfl rfl (cells_new rfl _ _) (rows_one _ _) (k + 1) rfl (by unfold maxLen; omega) (by omega) (by simp; omega) ?_)
        all_goals
          intro A' c' w' hown' hcc hfr'
          have HO4 : Hid (w'.ownsRow base 98 2 (.slice A' (k + 1) c') (k + 1) ((lens.take (k + 1)).flatMap rowc)) := Lib.hid (by
            rw [HTK.out, flatR]
            exact hown')
          have HF4 : Hid (Fr (fun _ => False) w w') := (HF.out.alloc _).trans hfr' (fun b hb h => by have := HO.out.lt _ h; have := HB.out; omega)
          clear hown' hfr'
          go_wp2_with fail
          exact ⟨⟨k + 1, A', c', by omega, by go_num, by rw [← HY.out, hy1]; rfl, rfl, HO4.out, HF4.out⟩, by simp [intOf]; omega⟩
      · obtain ⟨b, hb⟩ : ∃ b, b = q - 1 := ⟨_, rfl⟩
        rw [← hb] at h3 hs
        have hb2 : (q : Int) - 1 = (b : Int) := by omega
        have hb7 : b ≤ 6 := by omega
        obtain ⟨p, hp⟩ : ∃ p, p = 2 ^ b := ⟨_, rfl⟩
        have hpl : p ≤ 2 ^ 6 := by rw [hp]; exact Nat.pow_le_pow_right (by omega) hb7
        have hp2 : (2 : Int) ^ b = (p : Int) := by rw [hp]; simp
        rw [← hp] at hs
        have HTK := Lib.hid h3
        clear h3 hb hp hq1
        go_wp2_with (at_builtin; refine wpList_appS rowT _ rfl _ _ rfl base _ k ((lens.take k).flatMap rowc) rfl (HO.out.alloc _) ⟨wr.heap.size, 0, none⟩ 1 [.int .i64 (x : Int), .int .i64 (b : Int)] rfl rfl (cells_new rfl _ _) (rows_one _ _) (k + 1) rfl (by unfold maxLen; omega) (by omega) (by simp; omega) ?_)
        all_goals
          intro A' c' w' hown' hcc hfr'
          have HO4 : Hid (w'.ownsRow base 98 2 (.slice A' (k + 1) c') (k + 1) ((lens.take (k + 1)).flatMap rowc)) := Lib.hid (by
            rw [HTK.out, flatR]
            exact hown')
          have HF4 : Hid (Fr (fun _ => False) w w') := (HF.out.alloc _).trans hfr' (fun b hb h => by have := HO.out.lt _ h; have := HB.out; omega)
          clear hown' hfr'
          go_wp2_with fail
          exact ⟨⟨k + 1, A', c', by omega, by go_num, by rw [← HY.out, hs]; rfl, rfl, HO4.out, HF4.out⟩, by simp [intOf]; omega⟩
    · obtain rfl : k = 28 := by omega
      have HB2 : base ≤ wr.heap.size := by have := HB.out; have := HF.out.size; omega
      go_wp2_with (at_builtin; refine wpList_appS rowT _ rfl _ _ rfl base _ 28 ((lens.take 28).flatMap rowc) rfl (HO.out.alloc _) ⟨wr.heap.size, 0, none⟩ 1 [.int .i64 258, .int .i64 0] rfl rfl (cells_new rfl _ _) (rows_one _ _) 29 rfl (by unfold maxLen; omega) (by omega) (by simp; omega) ?_)
      all_goals
        intro A' c' w' hown' hcc hfr'
        have HO4 : Hid (w'.ownsRow base 98 2 (.slice A' 29 c') 29 (lens.flatMap rowc)) := Lib.hid (by
          rw [show lens = lens.take 28 ++ [(258, 0)] from rfl, flatR]
          exact hown')
        have HF4 : Hid (Fr (fun _ => False) w w') := (HF.out.alloc _).trans hfr' (fun b hb h => by have := HO.out.lt _ h; have := HB.out; omega)
        clear hown' hfr'
        go_wp2_with fail
        go_ret
        exact ⟨A', c', rfl, HO4.out, HF4.out⟩
end Go.Proofs.YtahfmcdhcbfkaaaDoor
namespace Go.Proofs.YtahfmcdhcbfkaaaDoor
open Go.RowKit SyM Mem Go.Lib
set_option linter.unusedVariables false

/-- the least number of the k-th symbol, as it is reckoned -/
def ml : Nat → Nat
  | 0 => 1
  | k + 1 => ml k + 2 ^ (k / 2 - 1)
theorem ml_is (k : Nat) (hk : k < 30) : ml k ≤ 30000 ∧ dists.take (k + 1) = dists.take k ++ [(ml k, k / 2 - 1)] := by
  have h : ∀ k : Fin 30, ml (k : Nat) ≤ 30000 ∧ dists.take ((k : Nat) + 1) = dists.take (k : Nat) ++ [(ml (k : Nat), (k : Nat) / 2 - 1)] := by decide +kernel
  exact h ⟨k, hk⟩

set_option maxRecDepth 100000 in
set_option maxHeartbeats 1600000 in
theorem rDistances_any (w : World) : Calls Tryd.prog 64 #[] w fun e w' => ∃ A c, e = .returned (.slice A 30 c) ∧ w'.ownsRow w.heap.size 98 2 (.slice A 30 c) 30 (dists.flatMap rowc) ∧ Fr (fun _ => False) w w' := by
  obtain ⟨base, hbase⟩ : ∃ base, base = w.heap.size := ⟨_, rfl⟩
  have HB := Lib.hid hbase
  rw [← hbase]
  clear hbase
  go_enter Tryd.func64, Tryd.ntmps64
  go_wp2_with fail
  go_loopw [1, 2, 3] (fun s l i wr => ∃ (k : Nat) (A1 : Option Addr) (c1 : Nat), k ≤ 30 ∧ i = .int .i64 (k : Int) ∧ l = .int .i64 (ml k : Int) ∧ s = .slice A1 k c1 ∧ Hid (wr.ownsRow base 98 2 (.slice A1 k c1) k ((dists.take k).flatMap rowc)) ∧ Hid (Fr (fun _ => False) w wr)) (fun _ _ i _ => 30 - (intOf i).toNat)
  case atStart => exact ⟨0, none, 0, by omega, rfl, rfl, rfl, World.ownsRow_nil _ _ _ _, Fr.refl _ _⟩
  case round =>
    obtain ⟨k, A1, c1, hk, rfl, rfl, rfl, HO, HF⟩ := hrel
    rename World => wr
    by_cases hlt : k < 30
    · obtain ⟨h2, h3⟩ := ml_is k hlt
      have hs : ml (k + 1) = ml k + 2 ^ (k / 2 - 1) := rfl
      obtain ⟨x, hx⟩ : ∃ x, x = ml k := ⟨_, rfl⟩
      obtain ⟨y, hy⟩ : ∃ y, y = ml (k + 1) := ⟨_, rfl⟩
      rw [← hx] at h2 h3 hs ⊢
      rw [← hy] at hs
      have HY := Lib.hid hy
      have hbs : base ≤ wr.heap.size := by have := HB.out; have := HF.out.size; omega
      obtain ⟨q, hq⟩ : ∃ q, q = k / 2 := ⟨_, rfl⟩
      have hquo : (k : Int).tdiv 2 = (q : Int) := by rw [Int.tdiv_eq_ediv_of_nonneg (by omega)]; omega
      rw [← hq] at h3 hs
      have hq7 : q ≤ 14 := by omega
      have HQ := Lib.hid hq
      clear hx hy hq
      by_cases hq1 : q = 0
      · subst hq1
        have HTK := Lib.hid h3
        have hy1 : y = x + 1 := hs
        clear h3 hs
        go_wp2_with (at_builtin; refine wpList_appS rowT _ rfl _ _ rfl base _ k ((dists.take k).flatMap rowc) rfl (HO.out.alloc _) ⟨wr.heap.size, 0, none⟩ 1 [.int .i64 (x : Int), .int .i64 0] rfl rfl (cells_new rfl _ _) (rows_one _ _) (k + 1) rfl (by unfold maxLen; omega) (by omega) (by simp; omega) ?_)
        all_goals
          intro A' c' w' hown' hcc hfr'
          have HO4 : Hid (w'.ownsRow base 98 2 (.slice A' (k + 1) c') (k + 1) ((dists.take (k + 1)).flatMap rowc)) := Lib.hid (by
            rw [HTK.out, flatR]
            exact hown')
          have HF4 : Hid (Fr (fun _ => False) w w') := (HF.out.alloc _).trans hfr' (fun b hb h => by have := HO.out.lt _ h; have := HB.out; omega)
          clear hown' hfr'
          go_wp2_with fail
          exact ⟨⟨k + 1, A', c', by omega, by go_num, by rw [← HY.out, hy1]; rfl, rfl, HO4.out, HF4.out⟩, by simp [intOf]; omega⟩
      · obtain ⟨b, hb⟩ : ∃ b, b = q - 1 := ⟨_, rfl⟩
        rw [← hb] at h3 hs
        have hb2 : (q : Int) - 1 = (b : Int) := by omega
        have hb7 : b ≤ 14 := by omega
        obtain ⟨p, hp⟩ : ∃ p, p = 2 ^ b := ⟨_, rfl⟩
        have hpl : p ≤ 2 ^ 14 := by rw [hp]; exact Nat.pow_le_pow_right (by omega) hb7
        have hp2 : (2 : Int) ^ b = (p : Int) := by rw [hp]; simp
        rw [← hp] at hs
        have HTK := Lib.hid h3
        clear h3 hb hp hq1
        go_wp2_with (at_builtin; refine wpList_appS rowT _ rfl _ _ rfl base _ k ((dists.take k).flatMap rowc) rfl (HO.out.alloc _) ⟨wr.heap.size, 0, none⟩ 1 [.int .i64 (x : Int), .int .i64 (b : Int)] rfl rfl (cells_new rfl _ _) (rows_one _ _) (k + 1) rfl (by unfold maxLen; omega) (by omega) (by simp; omega) ?_)
        all_goals
          intro A' c' w' hown' hcc hfr'
          have HO4 : Hid (w'.ownsRow base 98 2 (.slice A' (k + 1) c') (k + 1) ((dists.take (k + 1)).flatMap rowc)) := Lib.hid (by
            rw [HTK.out, flatR]
            exact hown')
          have HF4 : Hid (Fr (fun _ => False) w w') := (HF.out.alloc _).trans hfr' (fun b hb h => by have := HO.out.lt _ h; have := HB.out; omega)
          clear hown' hfr'
          go_wp2_with fail
          exact ⟨⟨k + 1, A', c', by omega, by go_num, by rw [← HY.out, hs]; rfl, rfl, HO4.out, HF4.out⟩, by simp [intOf]; omega⟩
    · obtain rfl : k = 30 := by omega
      have HB2 : base ≤ wr.heap.size := by have := HB.out; have := HF.out.size; omega
      go_wp2_with fail
      go_ret
      exact ⟨A1, c1, rfl, HO.out, HF.out⟩
end Go.Proofs.YtahfmcdhcbfkaaaDoor
namespace Go.Proofs.YtahfmcdhcbfkaaaDoor
open Go.RowKit SyM Mem Go.Lib
attribute [local go_sem ↓] Go.wp_at_zero Go.wp_at_succ
set_option linter.unusedVariables false

/-- a slice reads as these rows -/
def Rws (w : World) (A : Option Addr) (n : Nat) (R : List (Nat × Nat)) : Prop := R.length = n ∧ ∀ k r, R[k]? = some r → ∃ g o, A = some ⟨g, o, none⟩ ∧ g < w.heap.size ∧
  w.cell? ⟨g, o + k * 2, none⟩ = some (.int .i64 (r.1 : Int)) ∧ w.cell? ⟨g, o + k * 2 + 1, none⟩ = some (.int .i64 (r.2 : Int))
theorem Rws.fr {S : Nat → Prop} {w w' : World} {A : Option Addr} {n : Nat} {R : List (Nat × Nat)} (h : Rws w A n R) (hf : Fr S w w') (hS : ∀ g, g < w.heap.size → ¬ S g) : Rws w' A n R :=
  ⟨h.1, fun k t hk => by
    obtain ⟨g, o, e, hg, h1, h2⟩ := h.2 k t hk
    exact ⟨g, o, e, Nat.lt_of_lt_of_le hg hf.size, hf.cell h1 (hS g hg), hf.cell h2 (hS g hg)⟩⟩
theorem flatR_at : ∀ (R : List (Nat × Nat)) (k : Nat) (r : Nat × Nat), R[k]? = some r → ∀ j, j < 2 → (R.flatMap rowc)[k * 2 + j]? = (rowc r)[j]?
  | [], k, r, h, j, hj => by simp at h
  | s :: R, 0, r, h, j, hj => by
    simp at h
    subst h
    rw [List.flatMap_cons, List.getElem?_append_left (by simp [rowc]; omega), Nat.zero_mul, Nat.zero_add]
  | s :: R, k + 1, r, h, j, hj => by
    rw [List.flatMap_cons, List.getElem?_append_right (by simp [rowc]; omega)]
    have e : (k + 1) * 2 + j - (rowc s).length = k * 2 + j := by simp [rowc]; omega
    rw [e]
    exact flatR_at R k r (by simpa using h) j hj
theorem rws_of {w : World} {base n c : Nat} {A : Option Addr} {R : List (Nat × Nat)} (hn : R.length = n) (h : w.ownsRow base 98 2 (.slice A n c) n (R.flatMap rowc)) : Rws w A n R := by
  subst hn
  refine ⟨rfl, fun k r hr => ?_⟩
  have hk := (List.getElem?_eq_some_iff.1 hr).1
  rcases h.2 with ⟨hv, h0⟩ | ⟨g, cap, cur, hv, _⟩
  · injection hv with _ h1 h2
    omega
  · have hA : A = some ⟨g, 0, none⟩ := by injection hv
    subst hA
    have hc := h.cells (g := g) rfl
    have hadd : ∀ j, (⟨g, 0, none⟩ : Addr).add j = ⟨g, j, none⟩ := fun j => by unfold Addr.add; split <;> simp_all
    refine ⟨g, 0, rfl, (h.lt g rfl).2, ?_, ?_⟩
    · rw [← hadd]; exact hc _ _ (by have := flatR_at R k r hr 0 (by omega); simpa [rowc] using this)
    · rw [Nat.add_assoc, Nat.zero_add, ← hadd]; exact hc _ _ (by have := flatR_at R k r hr 1 (by omega); simpa [rowc] using this)
theorem Rws.at_ {w : World} {A : Option Addr} {n : Nat} {R : List (Nat × Nat)} (h : Rws w A n R) {k : Nat} (hk : k < n) : ∃ g o, A = some ⟨g, o, none⟩ ∧ g < w.heap.size ∧
    w.cell? ⟨g, o + k * 2, none⟩ = some (.int .i64 (least R k : Int)) ∧ w.cell? ⟨g, o + k * 2 + 1, none⟩ = some (.int .i64 (wid R k : Int)) := by
  have hl : k < R.length := by rw [h.1]; exact hk
  have := h.2 k R[k] (List.getElem?_eq_getElem hl)
  unfold least wid
  rw [getElem!_pos R k hl]
  exact this

set_option maxRecDepth 100000 in
set_option maxHeartbeats 1600000 in
theorem rOf_any (n : Int) (A : Option Addr) (m c : Nat) (R : List (Nat × Nat)) (w : World) (hR : Rws w A m R) (hm : 0 < m) (hm2 : m ≤ 100) (hn0 : 0 ≤ n) (hn : n ≤ 100000) (hl : ∀ k, k < m → least R k ≤ 100000) :
    Calls Tryd.prog 66 #[.int .i64 n, .slice A m c] w fun e w' => e = .returned (.tuple #[.int .i64 (sym n R : Int), .int .i64 (n - (least R (sym n R) : Int))]) ∧ Fr (fun _ => False) w w' := by
  have HRW := Lib.hid hR
  have hln := hR.1
  have HLN := Lib.hid hln
  have HL := Lib.hid hl
  obtain ⟨s, hs⟩ : ∃ s, s = sym n R := ⟨_, rfl⟩
  rw [← hs]
  obtain ⟨x, hx⟩ : ∃ x, x = least R s := ⟨_, rfl⟩
  rw [← hx]
  obtain ⟨d, hd⟩ : ∃ d, d = n - (x : Int) := ⟨_, rfl⟩
  rw [← hd]
  have HSD := Lib.hid (And.intro hs (And.intro hx hd))
  clear hR hln hl hs hx hd
  go_enter Tryd.func66, Tryd.ntmps66
  go_wp2_with fail
  go_loopw [6, 7] (fun a i wr => ∃ k : Nat, k ≤ m ∧ i = .int .i64 (k : Int) ∧ a = .int .i64 (lastLe n R k : Int) ∧ w = wr) (fun _ i _ => m - (intOf i).toNat)
  case atStart => exact ⟨0, Nat.zero_le _, rfl, rfl, rfl⟩
  case round =>
    obtain ⟨k, hk, rfl, rfl, rfl⟩ := hrel
    by_cases hlt : k < m
    · obtain ⟨g, o, rfl, hg, h1, -⟩ := HRW.out.at_ hlt
      obtain ⟨x1, hx⟩ : ∃ x, x = least R k := ⟨_, rfl⟩
      rw [← hx] at h1
      have hstep : lastLe n R (k + 1) = if (x1 : Int) ≤ n then k else lastLe n R k := by rw [hx]; rfl
      obtain ⟨y, hy⟩ : ∃ y, y = lastLe n R k := ⟨_, rfl⟩
      obtain ⟨z, hz⟩ : ∃ z, z = lastLe n R (k + 1) := ⟨_, rfl⟩
      rw [← hy, ← hz] at hstep
      rw [← hy]
      have HZ := Lib.hid hz
      by_cases hc : (x1 : Int) ≤ n
      · rw [if_pos hc] at hstep
        have HST := Lib.hid hstep
        clear hx hy hz hg hstep
        go_wp2_with fail
        exact ⟨⟨k + 1, by omega, by go_num, by rw [← HZ.out, HST.out], trivial⟩, by simp [intOf]; omega⟩
      · rw [if_neg hc] at hstep
        have HST := Lib.hid hstep
        have hc2 : n < (x1 : Int) := by omega
        clear hx hy hz hg hstep hc
        go_wp2_with fail
        exact ⟨⟨k + 1, by omega, by go_num, by rw [← HZ.out, HST.out], trivial⟩, by simp [intOf]; omega⟩
    · obtain rfl : k = m := by omega
      have hs : lastLe n R k = s := by rw [HSD.out.1]; unfold sym; rw [HLN.out]
      rw [hs]
      have hlt2 := sym_lt n R (by rw [HLN.out]; exact hm)
      rw [HLN.out, ← HSD.out.1] at hlt2
      obtain ⟨g, o, rfl, hg, h1, -⟩ := HRW.out.at_ hlt2
      have hb := HL.out s hlt2
      rw [← HSD.out.2.1] at h1 hb
      have hw : IntKind.i64.wrap (n - (x : Int)) = d := by rw [IntKind.wrap_i64, HSD.out.2.2]; omega
      clear hs hg hlt
      go_wp2_with fail
      go_quiet (fail)
      have HF5 := Lib.hid ((Fr.refl (fun _ => False) w).drewN nq)
      go_wp2_with fail
      exact bodyPost_ret (v := .tuple #[.int .i64 (s : Int), .int .i64 d]) (by simp [results, Tryd.results66, go_sem]) rfl ⟨rfl, HF5.out⟩
end Go.Proofs.YtahfmcdhcbfkaaaDoor
