/-
  Memory: what a call may have written ('Fr'), a slice that reads as a list ('Rd'), append of one-cell elements onto a row of the call's own. Nothing of any program here.
  From a law's walk to its row: the argument read as they did, the result is true, nothing that was there has turned.
  Bytes in memory: cells, slices of one's own, conversions to texts, arguments that are bytes or numbers. What every layer shares.
  Plain mathematics of layer 2: a number's bytes, seven bits each, the lowest first. Nothing of any program here.
  Contracts of layer 2: the reference's U, S, Span; the program's U, S, All.
-/
import Derived.WalkKit
import Derived.Maps.AppendAt
import Derived.Laws.CopyOwn
import Derived.Lib.Hide
import Derived.Deep.Draws
import Derived.Test.YtedmnkcoflbciaaGreatRows
import Derived.ProofKit
import Derived.OpenShut
import Derived.WalkSpells
import Derived.WalkLawsBesides
import Derived.Deep.Slices
import Derived.Laws.MakeOwn
import Derived.Lib.Varint
import Derived.BigRegion
import Derived.BigQuiet
import Derived.Deep.QuietTactic
import Derived.Deep.RegionWith
import Derived.StillTailTactics
namespace Go.Proofs.YtedmnkcoflbciaaGreat.Mem
open Go Go.RowKit

/-- from w to w' only blocks in S, and new ones, have turned -/
structure Fr (S : Nat → Prop) (w w' : World) : Prop where
  os : w'.os = w.os
  tape : w'.tape = w.tape
  output : w'.output = w.output
  size : w.heap.size ≤ w'.heap.size
  block : ∀ k, k < w.heap.size → ¬ S k → w'.heap[k]? = w.heap[k]?

section
variable {S T : Nat → Prop} {w w' w'' : World}
theorem Fr.refl (S : Nat → Prop) (w : World) : Fr S w w := ⟨rfl, rfl, rfl, Nat.le_refl _, fun _ _ _ => rfl⟩
theorem Fr.trans (h : Fr S w w') (k : Fr T w' w'') (hT : ∀ b, b < w.heap.size → T b → S b) : Fr S w w'' :=
  ⟨k.os.trans h.os, k.tape.trans h.tape, k.output.trans h.output, Nat.le_trans h.size k.size,
   fun b hb hs => (k.block b (Nat.lt_of_lt_of_le hb h.size) (fun ht => hs (hT b hb ht))).trans (h.block b hb hs)⟩
theorem Fr.mono (h : Fr S w w') (hS : ∀ b, b < w.heap.size → S b → T b) : Fr T w w' :=
  ⟨h.os, h.tape, h.output, h.size, fun b hb ht => h.block b hb (fun hs => ht (hS b hb hs))⟩
theorem Fr.drew (h : Fr S w w') : Fr S w w'.drew := ⟨h.os, h.tape, h.output, h.size, h.block⟩
theorem Fr.drewN (h : Fr S w w') (n : Nat) : Fr S w (w'.drewN n) := ⟨h.os, h.tape, h.output, h.size, h.block⟩
theorem Fr.alloc (h : Fr S w w') (o : Obj) : Fr S w (w'.alloc o) :=
  ⟨h.os, h.tape, h.output, Nat.le_trans h.size (by simp), fun b hb hs => (Below.heap_alloc w' o b (Nat.lt_of_lt_of_le hb h.size)).trans (h.block b hb hs)⟩
theorem Fr.setCell (h : Fr S w w') {p : Addr} (hp : p.block < w.heap.size → S p.block) (u : Value) : Fr S w (w'.setCell p u) :=
  ⟨h.os, h.tape, h.output, by simpa [World.setCell] using h.size, fun b hb hs => (Below.heap_setCell w' p u b (fun e => hs (e ▸ hp (e ▸ hb)))).trans (h.block b hb hs)⟩
theorem Fr.grown (h : Fr S w w') {row : Option Nat} (hg : w'.grownBy w'' row) (hr : ∀ k, k < w.heap.size → row = some k → S k) : Fr S w w'' :=
  ⟨hg.os.trans h.os, hg.tape.trans h.tape, hg.output.trans h.output, Nat.le_trans h.size hg.size,
   fun b hb hs => (hg.block b (Nat.lt_of_lt_of_le hb h.size) (fun e => hs (hr b hb e.symm))).trans (h.block b hb hs)⟩
theorem Fr.of_grown {row : Option Nat} (hg : w.grownBy w' row) : Fr (fun k => row = some k) w w' := (Fr.refl _ w).grown hg (fun _ _ e => e)
theorem Fr.below {B : Nat} (h : Fr S w w') (hS : ∀ k, S k → B ≤ k) (hB : B ≤ w.heap.size) : Below B w w' :=
  ⟨h.os, h.tape, h.output, h.size, fun k hk => h.block k (by omega) (fun hs => by have := hS k hs; omega)⟩
theorem Fr.cell (h : Fr S w w') {p : Addr} {u : Value} (hc : w.cell? p = some u) (hp : ¬ S p.block) : w'.cell? p = some u :=
  (World.cell?_of_block (h.block p.block (World.block_lt_of_cell? w p hc) hp)).trans hc
theorem Fr.blk (h : Fr S w w') {g : Nat} {o : Obj} (hc : w.heap[g]? = some o) (hp : ¬ S g) : w'.heap[g]? = some o :=
  (h.block g (by
    rcases Nat.lt_or_ge g w.heap.size with hl | hl
    · exact hl
    · rw [Array.getElem?_eq_none hl] at hc; cases hc) hp).trans hc
theorem Fr.own (h : Fr S w w') {base : Nat} {e : TypeId} {size : Nat} {v : Value} {n : Nat} {xs : List Value} (ho : w.ownsRow base e size v n xs)
    (hp : ∀ k, v.ownBlock = some k → ¬ S k) : w'.ownsRow base e size v n xs := by
  refine ⟨ho.1, ?_⟩
  rcases ho.2 with h0 | ⟨g, cap, cur, rfl, hb, hg, rest⟩
  · exact .inl h0
  · exact .inr ⟨g, cap, cur, rfl, hb, h.blk hg (hp g rfl), rest⟩
end

theorem lt_of_heap {w : World} {g : Nat} {o : Obj} (h : w.heap[g]? = some o) : g < w.heap.size := by
  rcases Nat.lt_or_ge g w.heap.size with hl | hl
  · exact hl
  · rw [Array.getElem?_eq_none hl] at h; cases h

/-- what is owned may be owned from a lower block on -/
theorem own_base {w : World} {b b' : Nat} {e : TypeId} {size : Nat} {v : Value} {n : Nat} {xs : List Value} (h : w.ownsRow b e size v n xs) (hb : b' ≤ b) : w.ownsRow b' e size v n xs := by
  refine ⟨h.1, ?_⟩
  rcases h.2 with h0 | ⟨g, cap, cur, rfl, hg, rest⟩
  · exact .inl h0
  · exact .inr ⟨g, cap, cur, rfl, Nat.le_trans hb hg, rest⟩
theorem own_cap {w : World} {b : Nat} {e : TypeId} {size : Nat} {A : Option Addr} {n m c : Nat} {xs : List Value} (h : w.ownsRow b e size (.slice A m c) n xs) : n = m ∧ n ≤ c ∧ c ≤ maxLen := by
  rcases h.2 with ⟨hv, rfl⟩ | ⟨g, cap, cur, hv, _, _, h1, h2, _⟩
  · injection hv with _ h1 h2
    subst h1 h2
    exact ⟨rfl, Nat.le_refl _, Nat.zero_le _⟩
  · injection hv with _ h3 h4
    subst h3 h4
    exact ⟨rfl, h1, h2⟩
theorem own_form {w : World} {b : Nat} {e : TypeId} {size : Nat} {v : Value} {n : Nat} {xs : List Value} (h : w.ownsRow b e size v n xs) : ∃ A c, v = .slice A n c ∧ n ≤ c ∧ c ≤ maxLen := by
  rcases h.2 with ⟨rfl, rfl⟩ | ⟨g, cap, cur, rfl, _, _, h1, h2, _⟩
  · exact ⟨none, 0, rfl, Nat.le_refl _, Nat.zero_le _⟩
  · exact ⟨_, cap, rfl, h1, h2⟩
/-- a row and a block of another element type are two -/
theorem own_ne {w : World} {b : Nat} {e e' : TypeId} {size : Nat} {v : Value} {n g : Nat} {xs : List Value} {cs : Array Value} {m : Nat × Nat} (h : w.ownsRow b e size v n xs)
    (hg : w.heap[g]? = some (.cells cs e' m)) (hne : e ≠ e') : v.ownBlock ≠ some g := by
  intro hv
  rcases h.2 with ⟨rfl, _⟩ | ⟨g', cap, cur, rfl, _, hh, _⟩
  · cases hv
  · obtain rfl : g' = g := by simpa [Value.ownBlock] using hv
    rw [hg] at hh
    injection hh with hh
    injection hh with _ ht
    exact hne ht.symm
theorem own_lt {w : World} {b : Nat} {e : TypeId} {size : Nat} {v : Value} {n : Nat} {xs : List Value} (h : w.ownsRow b e size v n xs) {k : Nat} (hk : v.ownBlock = some k) : k < w.heap.size := (h.lt k hk).2

/-- a slice that holds the cells xs, nil let in -/
def Rd (w : World) (A : Option Addr) (n : Nat) (xs : List Value) : Prop :=
  xs.length = n ∧ (0 < n → ∃ ad, A = some ad ∧ ∀ j u, xs[j]? = some u → w.cell? (ad.add j) = some u)

theorem add_block (a : Addr) (n : Nat) : (a.add n).block = a.block := by unfold Addr.add; split <;> rfl
theorem add_add (a : Addr) (i j : Nat) : (a.add i).add j = a.add (i + j) := by
  unfold Addr.add
  by_cases hi : i = 0 <;> by_cases hj : j = 0 <;> simp [hi, hj, Nat.add_assoc]

section
variable {S : Nat → Prop} {w w' : World} {A : Option Addr} {n : Nat} {xs : List Value}
theorem Rd.nil (w : World) (A : Option Addr) : Rd w A 0 [] := ⟨rfl, fun h => absurd h (by omega)⟩
theorem Rd.fr (h : Rd w A n xs) (hf : Fr S w w') (hp : ∀ ad, A = some ad → ¬ S ad.block) : Rd w' A n xs :=
  ⟨h.1, fun hn => by
    obtain ⟨ad, e, hc⟩ := h.2 hn
    exact ⟨ad, e, fun j u hu => hf.cell (hc j u hu) (by rw [add_block]; exact hp ad e)⟩⟩
theorem Rd.drew (h : Rd w A n xs) : Rd w.drew A n xs := h
theorem Rd.drewN (h : Rd w A n xs) (k : Nat) : Rd (w.drewN k) A n xs := h
theorem Rd.at_ (h : Rd w A n xs) {k : Nat} (hk : k < n) : ∃ ad u, A = some ad ∧ xs[k]? = some u ∧ w.cell? (ad.add k) = some u := by
  obtain ⟨ad, e, hc⟩ := h.2 (by omega)
  have hl : k < xs.length := by rw [h.1]; exact hk
  exact ⟨ad, xs[k], e, List.getElem?_eq_getElem hl, hc k _ (List.getElem?_eq_getElem hl)⟩
theorem Rd.of_own {base : Nat} {e : TypeId} {c : Nat} (h : w.ownsRow base e 1 (.slice A n c) n xs) : Rd w A n xs := by
  refine ⟨by simpa using h.1, fun hn => ?_⟩
  rcases h.2 with ⟨hv, rfl⟩ | ⟨g, cap, cur, hv, _⟩
  · omega
  · have hA : A = some ⟨g, 0, none⟩ := by injection hv
    subst hA
    exact ⟨_, rfl, h.cells (g := g) rfl⟩
theorem Rd.one (w : World) (u : Value) (e : TypeId) : Rd (w.alloc (.cells #[u] e)) (some ⟨w.heap.size, 0, none⟩) 1 [u] := by
  refine ⟨rfl, fun _ => ⟨_, rfl, fun j x hx => ?_⟩⟩
  match j, hx with
  | 0, hx => simp at hx; subst hx; simp [Addr.add]
/-- a new block of cells, read as a slice -/
theorem Rd.cells {w : World} {k : Nat} (hk : k = w.heap.size) (us : List Value) (e : TypeId) : Rd (w.alloc (.cells us.toArray e)) (some ⟨k, 0, none⟩) us.length us := by
  subst hk
  refine ⟨rfl, fun _ => ⟨_, rfl, fun j x hx => ?_⟩⟩
  have hadd : (⟨w.heap.size, 0, none⟩ : Addr).add j = ⟨w.heap.size, j, none⟩ := by unfold Addr.add; split <;> simp_all
  rw [hadd, cell_of_row (w.alloc (.cells us.toArray e)) w.heap.size j us.toArray e (0, 0) (heap_alloc_new w _)]
  simpa using hx
/-- a cut 's[k:m]' as the walk leaves it -/
theorem Rd.cut (h : Rd w A n xs) {k m cap : Nat} (hk : k ≤ m) (hm : m ≤ n) (hc : n ≤ cap) : Rd w (if cap = k then A else A.map (·.add k)) (m - k) ((xs.take m).drop k) := by
  refine ⟨by simp [h.1]; omega, fun hn => ?_⟩
  obtain ⟨ad, rfl, hcell⟩ := h.2 (by omega)
  rw [if_neg (by omega)]
  refine ⟨ad.add k, rfl, fun j u hu => ?_⟩
  rw [add_add]
  refine hcell _ u ?_
  rw [← hu, List.getElem?_drop, List.getElem?_take, if_pos]
  have := (List.getElem?_eq_some_iff.1 hu).1
  simp [h.1] at this
  omega
end

/-- a slice type of one-cell elements -/
structure ElemTy (P : Program) (t e : TypeId) (z : Value) (bytes : Nat) : Prop where
  und : P.underlying t = some (.slice e)
  info : (P.info? e).map (fun i => (i.zero, i.size, i.bytes)) = some (some z, 1, bytes)
  one : z.cells.size = 1

section
variable {P : Program}
theorem run_app {t e : TypeId} {z : Value} {bytes : Nat} (hT : ElemTy P t e z bytes) (ty : TypeId) (w : World) (base : Nat) (v : Value) (n : Nat) (xs : List Value) (hown : w.ownsRow base e 1 v n xs)
    (A : Option Addr) (m c : Nat) (news : List Value) (hr : Rd w A m news) (h1 : ∀ u ∈ news, u.oneCell' = true)
    (h63 : n + m ≤ maxLen) (hbytes : (n + m) * bytes ≤ 140737488355328) (hbase : base ≤ w.heap.size) :
    ∃ v' w', (Builtin.append_ #[t, t] ty #[v, .slice A m c]).run P w = .ok v' w' ∧ w'.ownsRow base e 1 v' (n + m) (xs ++ news) ∧ Fr (fun k => v.ownBlock = some k) w w' ∧
      (v'.ownBlock = v.ownBlock ∨ v'.ownBlock = some w.heap.size) := by
  obtain ⟨i, hi, hz, hs, hb⟩ := info_parts hT.info
  by_cases hm : m = 0
  · subst hm
    obtain rfl : news = [] := List.eq_nil_of_length_eq_zero hr.1
    refine ⟨v, w, ?_, by simpa using hown, Fr.refl _ _, .inl rfl⟩
    cases A with
    | none =>
      rcases hown.2 with ⟨rfl, rfl⟩ | ⟨g, cap, cur, rfl, _, _, hnc, _⟩
      · simp [Builtin.append_, run_underlying hT.und, sizeOf, typeInfo, hi, Builtin.lenOf, Builtin.firstCells]
      · simp [Builtin.append_, run_underlying hT.und, sizeOf, typeInfo, hi, Builtin.lenOf, Builtin.firstCells, hnc, storeCells]
    | some ad =>
      rcases hown.2 with ⟨rfl, rfl⟩ | ⟨g, cap, cur, rfl, _, _, hnc, _⟩
      · simp [Builtin.append_, run_underlying hT.und, sizeOf, typeInfo, hi, Builtin.lenOf, Builtin.firstCells, loadCells, loadCellsFrom]
      · simp [Builtin.append_, run_underlying hT.und, sizeOf, typeInfo, hi, Builtin.lenOf, Builtin.firstCells, hnc, storeCells, loadCells, loadCellsFrom]
  · obtain ⟨ad, rfl, hc⟩ := hr.2 (by omega)
    obtain ⟨v', w', hrun, h2, h3, _, h5⟩ := run_append_own_at (P := P) w base t ty e i z 1 bytes hT.und hi hz hs hb hT.one (by omega) v n xs hown ad m c news (by simpa using hr.1) hc h1 h63 hbytes hbase
    exact ⟨v', w', hrun, h2, (Fr.of_grown h3).mono (fun _ _ h => h), h5⟩

/-- append of one-cell elements, the source nil or not, onto a row of the call's own -/
theorem wpList_app {t e : TypeId} {z : Value} {bytes : Nat} (hT : ElemTy P t e z bytes) {ops : Array Oper} {rest : List Oper} {o : Oper} {a : Act} {Q : Exit → Act → World → Prop} (w : World) (hgd : o.guard = none) (s x : Operand)
    (ho : o.op = .call { callee := .builtin .append, args := #[s, x], argTypes := #[t, t] })
    (base : Nat) (v : Value) (n : Nat) (xs : List Value) (hs : a.eval s = v) (hown : w.ownsRow base e 1 v n xs)
    (A : Option Addr) (m c : Nat) (news : List Value) (hx : a.eval x = .slice A m c) (hr : Rd w A m news) (h1 : ∀ u ∈ news, u.oneCell' = true)
    (h63 : n + m ≤ maxLen) (hbytes : (n + m) * bytes ≤ 140737488355328) (hbase : base ≤ w.heap.size)
    (h : ∀ A' c' w', n + m ≤ c' → c' ≤ maxLen → w'.ownsRow base e 1 (.slice A' (n + m) c') (n + m) (xs ++ news) → Fr (fun k => v.ownBlock = some k) w w' →
      ((Value.slice A' (n + m) c').ownBlock = v.ownBlock ∨ (Value.slice A' (n + m) c').ownBlock = some w.heap.size) → wpList P ops Q rest (a.put o.dst (.slice A' (n + m) c')) w') : wpList P ops Q (o :: rest) a w := by
  refine wpList_plain hgd fun K hK => ?_
  obtain ⟨v', w', hrun, h2, h3, h4⟩ := run_app hT o.type w base v n xs hown A m c news hr h1 h63 hbytes hbase
  obtain ⟨A', c', rfl, hc1, hc2⟩ := own_form h2
  unfold Oper.wp execOp
  simp only [ho, resolve, invoke, builtin, Sem.run_bind, Sem.run_pure, Result.andThen_ok, List.map_toArray, List.map_cons, List.map_nil, hs, hx, hrun]
  exact hK _ _ (h A' c' w' hc1 hc2 h2 h3 h4)
/-- the same, the new length under a name of its own -/
theorem wpList_appN {t e : TypeId} {z : Value} {bytes : Nat} (hT : ElemTy P t e z bytes) {ops : Array Oper} {rest : List Oper} {o : Oper} {a : Act} {Q : Exit → Act → World → Prop} (w : World) (hgd : o.guard = none) (s x : Operand)
    (ho : o.op = .call { callee := .builtin .append, args := #[s, x], argTypes := #[t, t] })
    (base : Nat) (v : Value) (n : Nat) (xs : List Value) (hs : a.eval s = v) (hown : w.ownsRow base e 1 v n xs)
    (A : Option Addr) (m c : Nat) (news : List Value) (hx : a.eval x = .slice A m c) (hr : Rd w A m news) (h1 : ∀ u ∈ news, u.oneCell' = true)
    (N : Nat) (hN : N = n + m) (h63 : N ≤ maxLen) (hbytes : N * bytes ≤ 140737488355328) (hbase : base ≤ w.heap.size)
    (h : ∀ A' c' w', N ≤ c' → c' ≤ maxLen → w'.ownsRow base e 1 (.slice A' (N) c') (N) (xs ++ news) → Fr (fun k => v.ownBlock = some k) w w' →
      ((Value.slice A' (N) c').ownBlock = v.ownBlock ∨ (Value.slice A' (N) c').ownBlock = some w.heap.size) → wpList P ops Q rest (a.put o.dst (.slice A' (N) c')) w') : wpList P ops Q (o :: rest) a w := by
  subst hN
  refine wpList_plain hgd fun K hK => ?_
  obtain ⟨v', w', hrun, h2, h3, h4⟩ := run_app hT o.type w base v n xs hown A m c news hr h1 h63 hbytes hbase
  obtain ⟨A', c', rfl, hc1, hc2⟩ := own_form h2
  unfold Oper.wp execOp
  simp only [ho, resolve, invoke, builtin, Sem.run_bind, Sem.run_pure, Result.andThen_ok, List.map_toArray, List.map_cons, List.map_nil, hs, hx, hrun]
  exact hK _ _ (h A' c' w' hc1 hc2 h2 h3 h4)
end
end Go.Proofs.YtedmnkcoflbciaaGreat.Mem
namespace Go.Proofs.YtedmnkcoflbciaaGreat
open Go.ChangeShapes Go.WideShapes Go.ChangeAt Go.RowKit

theorem own_knob : ownKnob Tryz.prog.godebug = none := by kernel_rfl
theorem laid_out : laidOutB Tryz.prog = true := by kernel_rfl

section
variable {H : Type} {enc : TypeId × Value → H} {P : Program}
theorem trodAll_stays (hl : laidOutB P = true) {W W' : World} (hb : Below W.heap.size W W') : ∀ (ts : List TypeId) (vs : List Value) (ds : List (DataW H)) (ps : List MemPlace),
    (∀ t ∈ ts, P.readableRec t = true ∧ t < P.types.size) → DataW.TrodAll enc P W 0 (fun _ => true) true ts vs ds ps → (∀ x ∈ ps, x.block < W.heap.size) →
    DataW.TrodAll enc P W' 0 (fun b => decide (b < W.heap.size)) true ts vs ds ps := by
  intro ts
  induction ts with
  | nil =>
    intro vs ds ps _ h _
    obtain ⟨rfl, rfl, rfl⟩ := trodAll_nil h
    exact trodAll_mk0
  | cons t ts ih =>
    intro vs ds ps hr h hp
    obtain ⟨v, vs', d, ds', p, q, rfl, rfl, rfl, h1, h2⟩ := trodAll_cons h
    have ht := hr t (List.mem_cons_self ..)
    exact trodAll_cons_mk (Below.trod hl ht.1 ht.2 h1 hb (fun x hx => hp x (List.mem_append_left _ hx)))
      (ih vs' ds' q (fun t ht => hr t (List.mem_cons_of_mem _ ht)) h2 (fun x hx => hp x (List.mem_append_right _ hx)))

/-- a law's post: it answered true, and only new memory has turned -/
theorem law_post {f : Func} {s : ChangeSpec} {W W' : World} {args : Array Value} {ds gs : List (DataW H)} {before : List MemPlace} {t : TypeId} (hl : laidOutB P = true)
    (hts : ∀ t ∈ f.params.toList, P.readableRec t = true ∧ t < P.types.size) (hv : s.vars = []) (hW : DataW.Whole enc P f.params.toList s.vars false W args.toList ds gs before)
    (hb : Below W.heap.size W W') (hres : f.resultTypes = #[t]) (ht : P.underlying t = some .bool) (hfn : s.fn H (ds ++ gs) = { results := [.lit (.bool true)], args := ds }) :
    s.post enc P f false true false false W args (.bool true) W' := by
  have hlt : ∀ p ∈ before, p.block < W.heap.size := fun p hp => hW.lt p hp
  have hW0 := hW
  obtain ⟨p, q, hA, hV, rfl, _, _⟩ := hW
  rw [hv] at hV
  obtain ⟨rfl, rfl⟩ := trodVars_none hV
  refine ⟨ds, _, _, [], p, [], hW0, ?_, ?_, ?_, ?_, fun h => by cases h⟩
  · rw [hfn, hres]
    exact trodAll_cons_mk (shut_bool ht _) trodAll_mk0
  · rw [hfn]
    exact trodAll_stays hl hb _ _ _ _ hts hA (fun x hx => hlt x (List.mem_append_left _ hx))
  · rw [hfn, hv]
    rfl
  · exact hb.frame _
end
end Go.Proofs.YtedmnkcoflbciaaGreat
namespace Go.Proofs.YtedmnkcoflbciaaGreat
open Go.ChangeShapes Go.WideShapes Go.RowKit Go.Deep Mem
set_option maxRecDepth 100000

theorem u8T : ElemTy Tryz.prog 34 5 (.int .u8 0) 1 := ⟨Tryz.underlying34, by kernel_rfl, rfl⟩
def bytec (b : UInt8) : Value := .int .u8 (b.toNat : Int)
theorem bytec_one (l : List UInt8) : ∀ u ∈ l.map bytec, u.oneCell' = true := by
  intro u hu
  obtain ⟨b, _, rfl⟩ := List.mem_map.1 hu
  rfl
theorem one_one (k : IntKind) (n : Int) : ∀ u ∈ [Value.int k n], u.oneCell' = true := by
  intro u hu
  simp at hu; subst hu; rfl
theorem bytec_ofNat {n : Nat} (h : n < 256) : bytec (UInt8.ofNat n) = .int .u8 (n : Int) := by
  unfold bytec
  congr 1
  simp
  omega

/-- a slice of one's own holds these bytes -/
def Own (w : World) (base : Nat) (A : Option Addr) (c : Nat) (B : List UInt8) : Prop := w.ownsRow base 5 1 (.slice A B.length c) B.length (B.map bytec)
theorem Own.fr {w w' : World} {base c : Nat} {A : Option Addr} {B : List UInt8} (h : Own w base A c B) (hf : Fr (fun _ => False) w w') : Own w' base A c B := hf.own h (fun _ _ h => h)
theorem Own.base {w : World} {b b' c : Nat} {A : Option Addr} {B : List UInt8} (h : Own w b A c B) (hb : b' ≤ b) : Own w b' A c B := own_base h hb
theorem Own.rd {w : World} {base c : Nat} {A : Option Addr} {B : List UInt8} (h : Own w base A c B) : Rd w A B.length (B.map bytec) := Rd.of_own h
theorem Own.cap {w : World} {base c : Nat} {A : Option Addr} {B : List UInt8} (h : Own w base A c B) : B.length ≤ c ∧ c ≤ maxLen := ⟨(own_cap h).2.1, (own_cap h).2.2⟩
theorem Own.nil (w : World) (base : Nat) : Own w base none 0 [] := World.ownsRow_nil _ _ _ _
/-- a call made these bytes, and turned nothing that was there -/
def Gives (w : World) (B : List UInt8) (e : Ending) (w' : World) : Prop :=
  ∃ A c, e = .returned (.slice A B.length c) ∧ Own w' w.heap.size A c B ∧ Fr (fun _ => False) w w'

/-- 'string(b)' -/
theorem run_str {P : Program} {w : World} {A : Option Addr} {n : Nat} {B : List UInt8} (h : Rd w A n (B.map bytec)) (src dst e : TypeId) (hs : P.underlying src = some (.slice e)) (he : P.underlying e = some (.int .u8))
    (hd : P.underlying dst = some .string) (c : Nat) : (convert src dst (.slice A n c)).run P w = .ok (.string ⟨B.toArray⟩) w := by
  rw [run_convert_bytes_string w src dst e A n c hs he hd]
  have hl : ∀ ad, A = some ad → (loadCells ad n).run P w = .ok ((B.map fun b => (b.toNat : Int)).map (Value.int .u8)).toArray w := by
    intro ad hA
    have := run_loadCells_list (P := P) w ad (B.map bytec) (fun j v hj => by
      have hjl : j < (B.map bytec).length := (List.getElem?_eq_some_iff.1 hj).1
      obtain ⟨ad', h1, h2⟩ := h.2 (by have := h.1; omega)
      rw [hA] at h1
      injection h1 with h1
      subst h1
      exact h2 j v hj)
    rw [h.1] at this
    rw [this]
    congr 2
    rw [List.map_map]
    rfl
  cases A with
  | none =>
    have h0 : n = 0 := by
      rcases Nat.eq_zero_or_pos n with h0 | h0
      · exact h0
      · obtain ⟨ad, h1, _⟩ := h.2 h0
        cases h1
    have hB : B = [] := by have := h.1; simp at this; exact List.eq_nil_of_length_eq_zero (by omega)
    subst hB
    simp [Conv.bytesToString]
    rfl
  | some ad =>
    rw [run_bytesToString w ad n c _ (hl ad rfl), foldl_push_bytes]
    congr 2
    simp [ByteArray.empty, ByteArray.emptyWithCapacity, Function.comp_def]
    rfl
/-- the text of bytes -/
def txt (B : List UInt8) : ByteArray := ⟨B.toArray⟩
theorem str_rd {w : World} {A : Option Addr} {n : Nat} {B : List UInt8} (h : Rd w A n (B.map bytec)) (c : Nat) : (convert 34 9 (.slice A n c)).run Tryz.prog w = .ok (.string (txt B)) w := run_str h 34 9 5 Tryz.underlying34 Tryz.underlying5 Tryz.underlying9 c
theorem Own.str {w : World} {base c : Nat} {A : Option Addr} {B : List UInt8} (h : Own w base A c B) : (convert 34 9 (.slice A B.length c)).run Tryz.prog w = .ok (.string (txt B)) w := str_rd h.rd c
section
variable {H : Type} {enc : TypeId × Value → H} {P : Program} {w : World} {base : Nat} {held : Bool}
/-- a []uint64 -/
def numc (n : Nat) : Value := .int .u64 (n : Int)
end
theorem cell_of {w : World} {g : Nat} {cs : Array Value} {t : TypeId} (h : w.heap[g]? = some (.cells cs t (0, 0))) (i : Nat) : w.cell? ⟨g, i, none⟩ = cs[i]? := cell_of_row w g i cs t (0, 0) h
theorem free_of {w : World} {g : Nat} {cs : Array Value} {t : TypeId} (h : w.heap[g]? = some (.cells cs t (0, 0))) (i : Nat) : w.frozen? ⟨g, i, none⟩ = false := by simp [World.frozen?, h]
theorem own_at {w : World} {base : Nat} {e : TypeId} {A : Option Addr} {n c : Nat} {xs : List Value} (h : w.ownsRow base e 1 (.slice A n c) n xs) {i : Nat} {u : Value} (hi : xs[i]? = some u) :
    ∃ g, A = some ⟨g, 0, none⟩ ∧ w.cell? ⟨g, i, none⟩ = some u ∧ w.frozen? ⟨g, i, none⟩ = false := by
  rcases h.2 with ⟨hv, rfl⟩ | ⟨g, cap, cur, hv, _, hg, hnc, _, hcs, ht⟩
  · have := h.1
    simp at this
    subst this
    simp at hi
  · injection hv with hA
    refine ⟨g, hA, ?_, free_of hg i⟩
    rw [cell_of hg]
    rw [← ht, List.getElem?_take] at hi
    split at hi
    · simpa using hi
    · cases hi
end Go.Proofs.YtedmnkcoflbciaaGreat
namespace Go.Proofs.YtedmnkcoflbciaaGreat.LebM

/-- the bytes of a number without a sign -/
def u (n : Nat) : List UInt8 :=
  if n < 128 then [UInt8.ofNat n] else UInt8.ofNat (128 + n % 128) :: u (n / 128)
termination_by n
decreasing_by omega
/-- the bytes of one with a sign -/
def s (n : Int) : List UInt8 :=
  if -64 ≤ n ∧ n ≤ 63 then [UInt8.ofNat (n % 128).toNat] else UInt8.ofNat (128 + (n % 128).toNat) :: s (n / 128)
termination_by n.natAbs
decreasing_by omega
/-- what bytes tell -/
def val : List UInt8 → Nat
  | [] => 0
  | b :: l => b.toNat % 128 + 128 * val l
def sg (b : Nat) : Int := if b < 64 then (b : Int) else (b : Int) - 128
/-- what bytes tell, the highest bit being the sign -/
def sval : List UInt8 → Int
  | [] => 0
  | b :: l => match l with
    | [] => sg b.toNat
    | c :: l => ((b.toNat % 128 : Nat) : Int) + 128 * sval (c :: l)
/-- all but the last one are 128 or more -/
def Form : List UInt8 → Prop
  | [] => False
  | b :: l => match l with
    | [] => b.toNat < 128
    | c :: l => 128 ≤ b.toNat ∧ Form (c :: l)
def last : List UInt8 → Nat
  | [] => 0
  | b :: l => match l with
    | [] => b.toNat
    | c :: l => last (c :: l)
def ahead : List UInt8 → Nat
  | [] => 0
  | b :: l => match l with
    | [] => 0
    | [_] => b.toNat
    | c :: d :: l => ahead (c :: d :: l)

theorem u_small {n : Nat} (h : n < 128) : u n = [UInt8.ofNat n] := by rw [u, if_pos h]
theorem u_big {n : Nat} (h : ¬ n < 128) : u n = UInt8.ofNat (128 + n % 128) :: u (n / 128) := by rw [u, if_neg h]
theorem s_small {n : Int} (h : -64 ≤ n ∧ n ≤ 63) : s n = [UInt8.ofNat (n % 128).toNat] := by rw [s, if_pos h]
theorem s_big {n : Int} (h : ¬ (-64 ≤ n ∧ n ≤ 63)) : s n = UInt8.ofNat (128 + (n % 128).toNat) :: s (n / 128) := by rw [s, if_neg h]
theorem u_ne (n : Nat) : u n ≠ [] := by
  by_cases h : n < 128
  · rw [u_small h]; simp
  · rw [u_big h]; simp
theorem s_ne (n : Int) : s n ≠ [] := by
  by_cases h : -64 ≤ n ∧ n ≤ 63
  · rw [s_small h]; simp
  · rw [s_big h]; simp
theorem u_pos (n : Nat) : 0 < (u n).length := by cases h : u n with | nil => exact absurd h (u_ne n) | cons => simp
theorem s_pos (n : Int) : 0 < (s n).length := by cases h : s n with | nil => exact absurd h (s_ne n) | cons => simp

theorem ofNat_toNat {n : Nat} (h : n < 256) : (UInt8.ofNat n).toNat = n := by simp; omega
theorem form_cons {b : UInt8} {l : List UInt8} (hb : 128 ≤ b.toNat) (h : Form l) : Form (b :: l) := by
  cases l with
  | nil => exact h.elim
  | cons c l => exact ⟨hb, h⟩
theorem val_cons (b : UInt8) (l : List UInt8) : val (b :: l) = b.toNat % 128 + 128 * val l := rfl
theorem sval_cons (b : UInt8) {l : List UInt8} (h : l ≠ []) : sval (b :: l) = ((b.toNat % 128 : Nat) : Int) + 128 * sval l := by
  cases l with
  | nil => exact absurd rfl h
  | cons c l => rfl
theorem u_form (n : Nat) : Form (u n) := by
  induction n using u.induct with
  | case1 n h => rw [u_small h]; show _ < 128; rw [ofNat_toNat (by omega)]; exact h
  | case2 n h ih => rw [u_big h]; exact form_cons (by rw [ofNat_toNat (by omega)]; omega) ih
theorem u_val (n : Nat) : val (u n) = n := by
  induction n using u.induct with
  | case1 n h => rw [u_small h, val_cons, ofNat_toNat (by omega)]; simp [val]; omega
  | case2 n h ih => rw [u_big h, val_cons, ih, ofNat_toNat (by omega)]; omega
theorem s_val (n : Int) : sval (s n) = n := by
  induction n using s.induct with
  | case1 n h => rw [s_small h]; show sg _ = _; rw [ofNat_toNat (by omega)]; unfold sg; split <;> omega
  | case2 n h ih => rw [s_big h, sval_cons _ (s_ne _), ih, ofNat_toNat (by omega)]; omega
theorem u_len_le (k n : Nat) (h : n < 128 ^ (k + 1)) : (u n).length ≤ k + 1 := by
  induction k generalizing n with
  | zero => rw [u_small (by simpa using h)]; simp
  | succ k ih =>
    by_cases hn : n < 128
    · rw [u_small hn]; simp
    · rw [u_big hn]
      have := ih (n / 128) (by rw [Nat.pow_succ] at h; omega)
      simp; omega
theorem s_len_le (k : Nat) (n : Int) (h1 : -(64 * 128 ^ k) ≤ n) (h2 : n < 64 * 128 ^ k) : (s n).length ≤ k + 1 := by
  induction k generalizing n with
  | zero => rw [s_small (by omega)]; simp
  | succ k ih =>
    by_cases hn : -64 ≤ n ∧ n ≤ 63
    · rw [s_small hn]; simp
    · rw [s_big hn]
      rw [Int.pow_succ] at h1 h2
      have := ih (n / 128) (by omega) (by omega)
      simp; omega
theorem u_len10 {n : Nat} (h : n < 18446744073709551616) : (u n).length ≤ 10 := u_len_le 9 n (by omega)
theorem s_len10 {n : Int} (h1 : -9223372036854775808 ≤ n) (h2 : n < 9223372036854775808) : (s n).length ≤ 10 := s_len_le 9 n (by omega) (by omega)
theorem u_inj {m n : Nat} (h : u m = u n) : m = n := by rw [← u_val m, ← u_val n, h]
theorem s_inj {m n : Int} (h : s m = s n) : m = n := by rw [← s_val m, ← s_val n, h]

/-- no number's bytes begin another one's -/
theorem form_apart {l r l' r' : List UInt8} (h : Form l) (h' : Form l') (e : l ++ r = l' ++ r') : l = l' := by
  induction l generalizing l' with
  | nil => exact h.elim
  | cons b l ih =>
    cases l' with
    | nil => exact h'.elim
    | cons b' l' =>
      simp only [List.cons_append, List.cons.injEq] at e
      obtain ⟨rfl, e⟩ := e
      cases l with
      | nil =>
        cases l' with
        | nil => rfl
        | cons c' l' => have h1 : b.toNat < 128 := h; have h2 := h'.1; omega
      | cons c l =>
        cases l' with
        | nil => have h1 : b.toNat < 128 := h'; have h2 := h.1; omega
        | cons c' l' => rw [ih h.2 h'.2 e]
end Go.Proofs.YtedmnkcoflbciaaGreat.LebM
namespace Go.Proofs.YtedmnkcoflbciaaGreat
open Go.RowKit LebM Mem Go.Lib

theorem or_byte (z : Int) : bits .or .u8 (z % 256) 128 = ((128 + (z % 128).toNat : Nat) : Int) := by
  rw [u8_or128_any _ (by omega) (by omega)]
  omega
theorem not_byte (z : Int) : bits .andNot .u8 (z % 256) 128 = z % 128 := by
  rw [u8_andNot _ _ (by omega) (by omega) (by omega) (by omega)]
  show (((z % 256).toNat &&& 127 : Nat) : Int) = _
  rw [nat_mask7]
  omega

theorem Own.snoc {w : World} {base c : Nat} {A : Option Addr} {D : List UInt8} {x : Int} (h : w.ownsRow base 5 1 (.slice A (D.length + 1) c) (D.length + 1) (D.map bytec ++ [.int .u8 x])) {y : Nat} (hy : y < 256) (hx : x = (y : Int)) :
    Own w base A c (D ++ [UInt8.ofNat y]) := by
  unfold Own
  rw [List.length_append, List.map_append, List.map_singleton, bytec_ofNat hy, ← hx]
  exact h
theorem len_snoc (A : Option Addr) (D : List UInt8) (b : UInt8) (c : Nat) : Value.slice A (D.length + 1) c = Value.slice A (D ++ [b]).length c := by rw [List.length_append]; rfl
theorem Fr.app {w wr w' : World} {c : Nat} {A : Option Addr} {D : List UInt8} {o : Obj} (hfr : Fr (fun _ => False) w wr) (hown : Own wr w.heap.size A c D)
    (hfr' : Fr (fun k => (Value.slice A D.length c).ownBlock = some k) (wr.alloc o) w') : Fr (fun _ => False) w w' :=
  (hfr.alloc _).trans hfr' (fun b hb h => by have := hown.lt _ h; omega)

set_option maxRecDepth 100000 in
set_option maxHeartbeats 400000 in
theorem U_any (n : Nat) (w : World) (hn : n < 18446744073709551616) :
    Calls Tryz.prog 122 #[.int .u64 (n : Int)] w (Gives w (u n)) := by
  have H10 := u_len10 hn
  go_enter Tryz.func122, Tryz.ntmps122
  go_wp2
  go_loopw [0, 3] (fun m v wr => ∃ (D : List UInt8) (z : Nat) (A : Option Addr) (c : Nat), z < 18446744073709551616 ∧ Hid (u n = D ++ u z) ∧ m = .int .u64 (z : Int) ∧ v = .slice A D.length c ∧ Own wr w.heap.size A c D ∧ Fr (fun _ => False) w wr)
    (fun m _ _ => (intOf m).toNat)
  case atStart => exact ⟨[], n, none, 0, hn, rfl, rfl, rfl, Own.nil _ _, Fr.refl _ _⟩
  case round =>
    obtain ⟨D, z, A, c, hz, Hz, rfl, rfl, hown, hfr⟩ := hrel
    have hsz := hfr.size
    have hD : D.length ≤ 9 := by have h1 := congrArg List.length Hz.out; have h2 := u_pos z; rw [List.length_append] at h1; omega
    by_cases h128 : z < 128
    · go_wp2_with (at_builtin; refine wpList_app u8T _ rfl _ _ rfl w.heap.size _ _ _ rfl (hown.alloc _) _ _ _ _ rfl (Rd.one _ _ _) (one_one _ _) (by unfold maxLen; omega) (by omega) (by simp; omega) ?_)
      intro A' c' w' _ _ hown' hfr' _
      go_wp2
      go_ret
      have hu := Hz.out
      rw [u_small h128] at hu
      have ho := Own.snoc hown' (y := z) (by omega) (by omega)
      rw [← hu] at ho
      refine ⟨A', c', ?_, ho, Fr.app hfr hown hfr'⟩
      rw [hu, ← len_snoc]
      rfl
    · go_wp2_with (at_builtin; refine wpList_app u8T _ rfl _ _ rfl w.heap.size _ _ _ rfl (hown.alloc _) _ _ _ _ rfl (Rd.one _ _ _) (one_one _ _) (by unfold maxLen; omega) (by omega) (by simp; omega) ?_)
      intro A' c' w' _ _ hown' hfr' _
      go_wp2
      go_roundw
      case rel =>
        refine ⟨D ++ [UInt8.ofNat (128 + z % 128)], z / 128, A', c', by omega, ?_, by congr 1, len_snoc _ _ _ _, Own.snoc hown' (by omega) (by rw [or_byte]; omega), Fr.app hfr hown hfr'⟩
        show _ = _
        rw [Hz.out, u_big h128, List.append_assoc]
        rfl
      case measure => simp [intOf] <;> omega

set_option maxRecDepth 100000 in
set_option maxHeartbeats 400000 in
theorem S_any (n : Int) (w : World) (h0 : -9223372036854775808 ≤ n) (h1 : n < 9223372036854775808) :
    Calls Tryz.prog 121 #[.int .i64 n] w (Gives w (s n)) := by
  have H10 := s_len10 h0 h1
  go_enter Tryz.func121, Tryz.ntmps121
  go_wp2
  go_loopw [0, 3] (fun m v wr => ∃ (D : List UInt8) (z : Int) (A : Option Addr) (c : Nat), -9223372036854775808 ≤ z ∧ z < 9223372036854775808 ∧ Hid (s n = D ++ s z) ∧ m = .int .i64 z ∧ v = .slice A D.length c ∧ Own wr w.heap.size A c D ∧ Fr (fun _ => False) w wr)
    (fun m _ _ => (intOf m).natAbs)
  case atStart => exact ⟨[], n, none, 0, h0, h1, rfl, rfl, rfl, Own.nil _ _, Fr.refl _ _⟩
  case round =>
    obtain ⟨D, z, A, c, hz0, hz1, Hz, rfl, rfl, hown, hfr⟩ := hrel
    have hsz := hfr.size
    have hD : D.length ≤ 9 := by have h1 := congrArg List.length Hz.out; have h2 := s_pos z; rw [List.length_append] at h1; omega
    by_cases h64 : -64 ≤ z ∧ z ≤ 63
    · obtain ⟨ha, hb⟩ := h64
      have t1 : decide (z < -64) = false := by simp; omega
      have t2 : decide (64 ≤ z) = false := by simp; omega
      go_wp2_with (at_builtin; refine wpList_app u8T _ rfl _ _ rfl w.heap.size _ _ _ rfl (hown.alloc _) _ _ _ _ rfl (Rd.one _ _ _) (one_one _ _) (by unfold maxLen; omega) (by omega) (by simp; omega) ?_)
      intro A' c' w' _ _ hown' hfr' _
      go_wp2
      go_ret
      have hu := Hz.out
      rw [s_small ⟨ha, hb⟩] at hu
      have ho := Own.snoc hown' (y := (z % 128).toNat) (by omega) (by rw [not_byte]; omega)
      rw [← hu] at ho
      refine ⟨A', c', ?_, ho, Fr.app hfr hown hfr'⟩
      rw [hu, ← len_snoc]
      rfl
    · rcases (show z < -64 ∨ 64 ≤ z by omega) with hc | hc
      all_goals
        go_wp2_with (at_builtin; refine wpList_app u8T _ rfl _ _ rfl w.heap.size _ _ _ rfl (hown.alloc _) _ _ _ _ rfl (Rd.one _ _ _) (one_one _ _) (by unfold maxLen; omega) (by omega) (by simp; omega) ?_)
        intro A' c' w' _ _ hown' hfr' _
        go_wp2
        go_roundw
        case rel =>
          refine ⟨D ++ [UInt8.ofNat (128 + (z % 128).toNat)], z / 128, A', c', by omega, by omega, ?_, by congr 1, len_snoc _ _ _ _, Own.snoc hown' (by omega) (or_byte _), Fr.app hfr hown hfr'⟩
          show _ = _
          rw [Hz.out, s_big h64, List.append_assoc]
          rfl
        case measure => simp [intOf] <;> omega

/-- 'append([]byte{b}, bs...)' -/
theorem own_one {w : World} (b : UInt8) (base : Nat) (hb : base ≤ w.heap.size) {k : Nat} (hk : k = w.heap.size) : Own (w.alloc (.cells #[bytec b] 5)) base (some ⟨k, 0, none⟩) 1 [b] := by
  subst hk
  exact World.ownsRow_lit (size := 1) w #[bytec b] 1 hb (by decide) rfl

end Go.Proofs.YtedmnkcoflbciaaGreat
