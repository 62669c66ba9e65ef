/-
  Layer 16, plain: columns side by side, with a directory of them ahead: what is put, what is read, and that these are each other's.
  append of one element onto a row of the call's own, at a step of a region that draws its order: what lay in the old row lies there still. Nothing of any program here.
  A block that is known whole, as a list of cells: stores of one cell, of a piece; loads of a piece. Nothing of any program here.
  Cells, groups in memory: slices that read as them, rows of one's own. Nothing of any program here.
  append of many elements of several cells onto a row of the call's own.
  A whole struct is stored into a variable of its own.
  A region that draws its order, walked by the lone laws: the condition that is kept may be made more on the way. Nothing of any program here.
  Rows of pairs (two cells each) in memory: slices that read as them, rows of one's own; columns, whose second cell is a slice of bytes; append where one wants to know where the row lies.
  A region that draws its order, whose last operations wait for all others: the head in any order, a condition kept there alone; the tail one by one. Nothing of any program here.
  Moves in a region that draws its order, in few words. Nothing of any program here.
  Plain mathematics of the program's utf.Next: what the first byte tells, the number so far; held against nx.
-/
import Derived.Test.YtedmnkcoflbciaaGreatZm03
import Derived.Test.YtedmnkcoflbciaaGreatZm00
import Derived.Deep.AppendLies
import Derived.Laws.CopyOwn
import Derived.Deep.MidRow
import Derived.Laws.OwnMore
import Derived.Lib.AppendStr
import Derived.Deep.RegionHeld3
import Derived.Deep.DrawnRows
import Derived.StillTail
import Derived.Walk
import Derived.WalkKit
namespace Go.Proofs.YtedmnkcoflbciaaGreat
open Go.RowKit Mem LebM
namespace DirM

/-- a column: its number, its bytes -/
abbrev Col := Nat × List UInt8
def full (l : List Col) : List Col := l.filter (fun c => decide (0 < c.2.length))
end DirM
end Go.Proofs.YtedmnkcoflbciaaGreat
namespace Go.Proofs.YtedmnkcoflbciaaGreat.Mem
open Go Go.RowKit

theorem addr_add (g j : Nat) : (⟨g, 0, none⟩ : Addr).add j = ⟨g, j, none⟩ := by unfold Addr.add; split <;> simp_all
section
variable {P : Program}
end

section
variable {P : Program}
/-- append onto a row of the call's own, the source nil or not, at a step of a region that draws its order -/
theorem step_app {t e : TypeId} {z : Value} {bytes : Nat} (hT : ElemTy P t e z bytes) {ops : Array Oper} {o : Oper} {a : Act} {K : Act → World → Prop} {Q : Exit → Act → World → Prop} {E : Prop} (w : World) (hgd : o.guard = none) (s x : Operand)
    (ho : o.op = .call { callee := .builtin .append, args := #[s, x], argTypes := #[t, t] })
    (base : Nat) (v : Value) (n : Nat) (xs : List Value) (hs : a.eval s = v) (hown : w.ownsRow base e 1 v n xs)
    (A : Option Addr) (m c : Nat) (news : List Value) (hx : a.eval x = .slice A m c) (hr : Rd w A m news) (h1 : ∀ u ∈ news, u.oneCell' = true)
    (N : Nat) (hN : N = n + m) (h63 : N ≤ maxLen) (hbytes : N * bytes ≤ 140737488355328) (hbase : base ≤ w.heap.size)
    (h : ∀ A' c' w', N ≤ c' → w'.ownsRow base e 1 (.slice A' N c') N (xs ++ news) → Fr (fun k => v.ownBlock = some k) w w' → K (a.put o.dst (.slice A' N c')) w') :
    if Region.wanted o (yielded ops a.tmps) = true then Oper.wp P o a w K Q else E := by
  subst hN
  have hw : Region.wanted o (yielded ops a.tmps) = true := by simp [Region.wanted, hgd]
  rw [if_pos hw]
  obtain ⟨v', w', hrun, h2, h3, _⟩ := run_app hT o.type w base v n xs hown A m c news hr h1 h63 hbytes hbase
  obtain ⟨A', c', rfl, hc1, _⟩ := own_form h2
  unfold Oper.wp execOp
  simp only [ho, resolve, invoke, builtin, Sem.run_bind, Sem.run_pure, Result.andThen_ok, List.map_toArray, List.map_cons, List.map_nil, hs, hx, hrun]
  exact h A' c' w' hc1 h2 h3
end
/-- a slice type of elements of several cells -/
structure ElemTyS (P : Program) (t e : TypeId) (z : Value) (size bytes : Nat) : Prop where
  und : P.underlying t = some (.slice e)
  info : (P.info? e).map (fun i => (i.zero, i.size, i.bytes)) = some (some z, size, bytes)
  cells : z.cells.size = size
  pos : 0 < size
section
variable {P : Program}
/-- append of one element of several cells onto a row of the call's own -/
theorem wpList_appS {t e : TypeId} {z : Value} {size bytes : Nat} (hT : ElemTyS P t e z size bytes) {ops : Array Oper} {rest : List Oper} {o : Oper} {a : Act} {Q : Exit → Act → World → Prop} (w : World) (hgd : o.guard = none) (s x : Operand)
    (ho : o.op = .call { callee := .builtin .append, args := #[s, x], argTypes := #[t, t] })
    (base : Nat) (v : Value) (n : Nat) (xs : List Value) (hs : a.eval s = v) (hown : w.ownsRow base e size v n xs)
    (ad : Addr) (c : Nat) (news : List Value) (hx : a.eval x = .slice (some ad) 1 c) (hl : news.length = size) (hnews : ∀ j u, news[j]? = some u → w.cell? (ad.add j) = some u) (h1 : ∀ u ∈ news, u.oneCell' = true)
    (N : Nat) (hN : N = n + 1) (h63 : N ≤ maxLen) (hbytes : N * bytes ≤ 140737488355328) (hbase : base ≤ w.heap.size)
    (h : ∀ A' c' w', w'.ownsRow base e size (.slice A' N c') N (xs ++ news) → N ≤ c' → Fr (fun k => v.ownBlock = some k) w w' → wpList P ops Q rest (a.put o.dst (.slice A' N c')) w') : wpList P ops Q (o :: rest) a w := by
  subst hN
  refine wpList_plain hgd fun K hK => ?_
  obtain ⟨i, hi, hz, hsz, hb⟩ : ∃ i, P.info? e = some i ∧ i.zero = some z ∧ i.size = size ∧ i.bytes = bytes := by
    have h := hT.info
    cases hq : P.info? e with
    | none => rw [hq] at h; cases h
    | some i =>
      rw [hq] at h
      simp only [Option.map_some, Option.some.injEq, Prod.mk.injEq] at h
      exact ⟨i, rfl, h.1, h.2.1, h.2.2⟩
  obtain ⟨v', w', hr, h2, h3, _, _⟩ := run_append_own_at (P := P) w base t o.type e i z size bytes hT.und hi hz hsz hb hT.cells hT.pos v n xs hown ad 1 c news (by rw [hl, Nat.one_mul]) hnews h1 h63 hbytes hbase
  obtain ⟨A', c', rfl, hc1, _⟩ := own_form h2
  unfold Oper.wp execOp
  simp only [ho, resolve, invoke, builtin, Sem.run_bind, Sem.run_pure, Result.andThen_ok, List.map_toArray, List.map_cons, List.map_nil, hs, hx, hr]
  exact hK _ _ (h A' c' w' h2 hc1 ((Fr.of_grown h3).mono (fun _ _ h => h)))
/-- the same, at a step of a region that draws its order -/
theorem step_appS {t e : TypeId} {z : Value} {size bytes : Nat} (hT : ElemTyS P t e z size bytes) {ops : Array Oper} {o : Oper} {a : Act} {K : Act → World → Prop} {Q : Exit → Act → World → Prop} {E : Prop} (w : World) (hgd : o.guard = none) (s x : Operand)
    (ho : o.op = .call { callee := .builtin .append, args := #[s, x], argTypes := #[t, t] })
    (base : Nat) (v : Value) (n : Nat) (xs : List Value) (hs : a.eval s = v) (hown : w.ownsRow base e size v n xs)
    (ad : Addr) (c : Nat) (news : List Value) (hx : a.eval x = .slice (some ad) 1 c) (hl : news.length = size) (hnews : ∀ j u, news[j]? = some u → w.cell? (ad.add j) = some u) (h1 : ∀ u ∈ news, u.oneCell' = true)
    (N : Nat) (hN : N = n + 1) (h63 : N ≤ maxLen) (hbytes : N * bytes ≤ 140737488355328) (hbase : base ≤ w.heap.size)
    (h : ∀ A' c' w', w'.ownsRow base e size (.slice A' N c') N (xs ++ news) → N ≤ c' → Fr (fun k => v.ownBlock = some k) w w' → ((Value.slice A' N c').ownBlock = v.ownBlock ∨ (Value.slice A' N c').ownBlock = some w.heap.size) → K (a.put o.dst (.slice A' N c')) w') :
    if Region.wanted o (yielded ops a.tmps) = true then Oper.wp P o a w K Q else E := by
  subst hN
  have hw : Region.wanted o (yielded ops a.tmps) = true := by simp [Region.wanted, hgd]
  rw [if_pos hw]
  obtain ⟨i, hi, hz, hsz, hb⟩ : ∃ i, P.info? e = some i ∧ i.zero = some z ∧ i.size = size ∧ i.bytes = bytes := by
    have h := hT.info
    cases hq : P.info? e with
    | none => rw [hq] at h; cases h
    | some i =>
      rw [hq] at h
      simp only [Option.map_some, Option.some.injEq, Prod.mk.injEq] at h
      exact ⟨i, rfl, h.1, h.2.1, h.2.2⟩
  obtain ⟨v', w', hr, h2, h3, _, h5⟩ := run_append_own_at (P := P) w base t o.type e i z size bytes hT.und hi hz hsz hb hT.cells hT.pos v n xs hown ad 1 c news (by rw [hl, Nat.one_mul]) hnews h1 h63 hbytes hbase
  obtain ⟨A', c', rfl, hc1, _⟩ := own_form h2
  unfold Oper.wp execOp
  simp only [ho, resolve, invoke, builtin, Sem.run_bind, Sem.run_pure, Result.andThen_ok, List.map_toArray, List.map_cons, List.map_nil, hs, hx, hr]
  exact h A' c' w' h2 hc1 ((Fr.of_grown h3).mono (fun _ _ h => h)) h5
end
end Go.Proofs.YtedmnkcoflbciaaGreat.Mem
namespace Go.Proofs.YtedmnkcoflbciaaGreat.Mem
open Go Go.RowKit

/-- block g holds the cells L -/
def Row (w : World) (g : Nat) (t : TypeId) (L : List Value) : Prop := w.heap[g]? = some (.cells L.toArray t (0, 0))
section
variable {S : Nat → Prop} {w w' : World} {g : Nat} {t : TypeId} {L : List Value}
theorem Row.fr (h : Row w g t L) (hf : Fr S w w') (hg : ¬ S g) : Row w' g t L := hf.blk h hg
theorem Row.cell (h : Row w g t L) {i : Nat} {u : Value} (hi : L[i]? = some u) : w.cell? ⟨g, i, none⟩ = some u := by
  rw [cell_of_row w g i L.toArray t (0, 0) h]
  simpa using hi
theorem Row.free (h : Row w g t L) (i : Nat) : w.frozen? ⟨g, i, none⟩ = false := by
  have h' : w.heap[g]? = _ := h
  simp [World.frozen?, h']
theorem Row.lt (h : Row w g t L) : g < w.heap.size := lt_of_heap h
theorem Row.set (h : Row w g t L) (i : Nat) (u : Value) : Row (w.setCell ⟨g, i, none⟩ u) g t (L.set i u) := by
  have h' : w.heap[g]? = _ := h
  unfold Row
  simp [World.setCell, Array.getElem?_modify, h']
theorem Row.new (w : World) (t : TypeId) (L : List Value) : Row (w.alloc (.cells L.toArray t)) w.heap.size t L := heap_alloc_new w _
theorem Row.drew (h : Row w g t L) : Row w.drew g t L := h
theorem Row.alloc (h : Row w g t L) (o : Obj) : Row (w.alloc o) g t L := (Fr.refl (fun _ => False) w).alloc o |>.blk h (fun h => h)
theorem Row.other {g' i : Nat} (h : Row w g t L) (hne : g ≠ g') (u : Value) : Row (w.setCell ⟨g', i, none⟩ u) g t L :=
  ((Fr.refl (fun b => b = g') w).setCell (p := ⟨g', i, none⟩) (fun _ => rfl) u).blk h hne
theorem Fr.set1 (w : World) (g i : Nat) (u : Value) : Fr (fun b => b = g) w (w.setCell ⟨g, i, none⟩ u) := (Fr.refl (fun b => b = g) w).setCell (p := ⟨g, i, none⟩) (fun _ => rfl) u
theorem Rd.frp {A : Option Addr} {n : Nat} {xs : List Value} (h : Rd w A n xs) (hf : Fr S w w') (hp : 0 < n → ∀ ad, A = some ad → ¬ S ad.block) : Rd w' A n xs :=
  ⟨h.1, fun hn => by
    obtain ⟨ad, e, hc⟩ := h.2 hn
    exact ⟨ad, e, fun j u hu => hf.cell (hc j u hu) (by rw [add_block]; exact hp hn ad e)⟩⟩
theorem Rd.lt {A : Option Addr} {n : Nat} {xs : List Value} (h : Rd w A n xs) (hn : 0 < n) (ad : Addr) (e : A = some ad) : ad.block < w.heap.size := by
  obtain ⟨ad', e', hc⟩ := h.2 hn
  rw [e] at e'
  injection e' with e'
  subst e'
  have hl : 0 < xs.length := by rw [h.1]; exact hn
  have := World.block_lt_of_cell? w _ (hc 0 _ (List.getElem?_eq_getElem hl))
  rwa [add_block] at this
/-- a piece of a block, read as a slice -/
theorem Row.rd (h : Row w g t L) (o n : Nat) (ho : o + n ≤ L.length) : Rd w (some ⟨g, o, none⟩) n ((L.drop o).take n) := by
  refine ⟨by simp; omega, fun _ => ⟨_, rfl, fun j u hu => ?_⟩⟩
  rw [Addr.add_mid]
  refine h.cell ?_
  have hj := (List.getElem?_eq_some_iff.1 hu).1
  rw [List.length_take] at hj
  rw [← hu, List.getElem?_take, if_pos (by omega), List.getElem?_drop]
theorem Row.range (h : Row w g t L) (o : Nat) (M : List Value) (hM : ∀ j v, M[j]? = some v → L[o + j]? = some v) : w.rangeAt g o M := fun j v hv => h.cell (hM j v hv)
end
section
variable {P : Program}
end
end Go.Proofs.YtedmnkcoflbciaaGreat.Mem
namespace Go.Proofs.YtedmnkcoflbciaaGreat
open Go.RowKit Mem Go.Lib

/-- a number cell's value, a text cell's value -/
def nv (x : Int) : Value := .int .i64 x
def sv (B : List UInt8) : Value := .string (txt B)
section
variable {β : Type} {f : β → Value}
def ccells (f : β → Value) (c : Bool × β) : List Value := [.bool c.1, f c.2]
def gcells (f : β → Value) (g : (Bool × β) × Nat) : List Value := [.bool g.1.1, f g.1.2, .int .i64 (g.2 : Int)]
/-- a slice reads as these cells, as these groups -/
def Cls (f : β → Value) (w : World) (A : Option Addr) (n : Nat) (L : List (Bool × β)) : Prop := L.length = n ∧ ∀ k t, L[k]? = some t → ∃ g o, A = some ⟨g, o, none⟩ ∧ g < w.heap.size ∧
  w.cell? ⟨g, o + k * 2, none⟩ = some (.bool t.1) ∧ w.cell? ⟨g, o + k * 2 + 1, none⟩ = some (f t.2)
def Grs (f : β → Value) (w : World) (A : Option Addr) (n : Nat) (L : List ((Bool × β) × Nat)) : Prop := L.length = n ∧ ∀ k t, L[k]? = some t → ∃ g o, A = some ⟨g, o, none⟩ ∧ g < w.heap.size ∧
  w.cell? ⟨g, o + k * 3, none⟩ = some (.bool t.1.1) ∧ w.cell? ⟨g, o + k * 3 + 1, none⟩ = some (f t.1.2) ∧ w.cell? ⟨g, o + k * 3 + 2, none⟩ = some (.int .i64 (t.2 : Int))
theorem Cls.fr {S : Nat → Prop} {w w' : World} {A : Option Addr} {n : Nat} {L : List (Bool × β)} (h : Cls f w A n L) (hf : Fr S w w') (hS : ∀ ad, A = some ad → ¬ S ad.block) : Cls f w' A n L :=
  ⟨h.1, fun k t hk => by
    obtain ⟨g, o, e, hg, h1, h2⟩ := h.2 k t hk
    exact ⟨g, o, e, Nat.lt_of_lt_of_le hg hf.size, hf.cell h1 (hS ⟨g, o, none⟩ e), hf.cell h2 (hS ⟨g, o, none⟩ e)⟩⟩
theorem Grs.fr {S : Nat → Prop} {w w' : World} {A : Option Addr} {n : Nat} {L : List ((Bool × β) × Nat)} (h : Grs f w A n L) (hf : Fr S w w') (hS : ∀ ad, A = some ad → ¬ S ad.block) : Grs f w' A n L :=
  ⟨h.1, fun k t hk => by
    obtain ⟨g, o, e, hg, h1, h2, h3⟩ := h.2 k t hk
    exact ⟨g, o, e, Nat.lt_of_lt_of_le hg hf.size, hf.cell h1 (hS ⟨g, o, none⟩ e), hf.cell h2 (hS ⟨g, o, none⟩ e), hf.cell h3 (hS ⟨g, o, none⟩ e)⟩⟩
theorem Cls.nil (w : World) (A : Option Addr) : Cls f w A 0 [] := ⟨rfl, fun k t h => by simp at h⟩
theorem Grs.nil (w : World) (A : Option Addr) : Grs f w A 0 [] := ⟨rfl, fun k t h => by simp at h⟩
theorem mid_add (g o k : Nat) : (⟨g, o, none⟩ : Addr).add k = ⟨g, o + k, none⟩ := by unfold Addr.add; split <;> simp_all
/-- 'l[k:]', 'l[:m]' as the walk leaves them -/
theorem Grs.drop {w : World} {A : Option Addr} {n : Nat} {L : List ((Bool × β) × Nat)} (h : Grs f w A n L) (c k : Nat) (hk : k ≤ n) (hc : n ≤ c) : Grs f w (if c = k then A else A.map (·.add (k * 3))) (n - k) (L.drop k) := by
  refine ⟨by rw [List.length_drop, h.1], fun j t hj => ?_⟩
  have hl := (List.getElem?_eq_some_iff.1 hj).1
  rw [List.length_drop, h.1] at hl
  rw [List.getElem?_drop] at hj
  obtain ⟨g, o, rfl, hg, h1, h2, h3⟩ := h.2 _ t hj
  rw [if_neg (by omega)]
  have e : o + k * 3 + j * 3 = o + (k + j) * 3 := by omega
  exact ⟨g, o + k * 3, by simp [mid_add], hg, by rw [e]; exact h1, by rw [e]; exact h2, by rw [e]; exact h3⟩
theorem Grs.take {w : World} {A : Option Addr} {n : Nat} {L : List ((Bool × β) × Nat)} (h : Grs f w A n L) (k : Nat) (hk : k ≤ n) : Grs f w A k (L.take k) := by
  refine ⟨by rw [List.length_take, h.1]; omega, fun j t hj => h.2 j t ?_⟩
  rw [List.getElem?_take] at hj
  split at hj
  · exact hj
  · cases hj
theorem Cls.drop {w : World} {A : Option Addr} {n : Nat} {L : List (Bool × β)} (h : Cls f w A n L) (c k : Nat) (hk : k ≤ n) (hc : n ≤ c) : Cls f w (if c = k then A else A.map (·.add (k * 2))) (n - k) (L.drop k) := by
  refine ⟨by rw [List.length_drop, h.1], fun j t hj => ?_⟩
  have hl := (List.getElem?_eq_some_iff.1 hj).1
  rw [List.length_drop, h.1] at hl
  rw [List.getElem?_drop] at hj
  obtain ⟨g, o, rfl, hg, h1, h2⟩ := h.2 _ t hj
  rw [if_neg (by omega)]
  have e : o + k * 2 + j * 2 = o + (k + j) * 2 := by omega
  exact ⟨g, o + k * 2, by simp [mid_add], hg, by rw [e]; exact h1, by rw [e]; exact h2⟩
theorem Cls.take {w : World} {A : Option Addr} {n : Nat} {L : List (Bool × β)} (h : Cls f w A n L) (k : Nat) (hk : k ≤ n) : Cls f w A k (L.take k) := by
  refine ⟨by rw [List.length_take, h.1]; omega, fun j t hj => h.2 j t ?_⟩
  rw [List.getElem?_take] at hj
  split at hj
  · exact hj
  · cases hj
/-- a piece of a list of lists of one length -/
theorem flat_k {γ δ : Type} (p : γ → List δ) (m : Nat) (hp : ∀ t, (p t).length = m) : ∀ (T : List γ) (k : Nat) (t : γ), T[k]? = some t → ∀ j, j < m → (T.flatMap p)[k * m + j]? = (p t)[j]?
  | [], k, t, h, j, hj => by simp at h
  | s :: T, 0, t, h, j, hj => by
    simp at h
    subst h
    rw [List.flatMap_cons, List.getElem?_append_left (by rw [hp]; omega), Nat.zero_mul, Nat.zero_add]
  | s :: T, k + 1, t, h, j, hj => by
    have e : (k + 1) * m = k * m + m := by rw [Nat.add_mul, Nat.one_mul]
    rw [List.flatMap_cons, List.getElem?_append_right (by rw [hp, e]; omega), hp, show (k + 1) * m + j - m = k * m + j by rw [e]; omega]
    exact flat_k p m hp T k t (by simpa using h) j hj
theorem flat_klen {γ δ : Type} (p : γ → List δ) (m : Nat) (hp : ∀ t, (p t).length = m) (T : List γ) : (T.flatMap p).length = T.length * m := by
  induction T with
  | nil => simp
  | cons t T ih => rw [List.flatMap_cons, List.length_append, ih, hp, List.length_cons, Nat.add_mul, Nat.one_mul, Nat.add_comm]
/-- rows of one's own, of elements of type T -/
def OwnC (f : β → Value) (T : TypeId) (w : World) (base : Nat) (A : Option Addr) (c : Nat) (L : List (Bool × β)) : Prop := w.ownsRow base T 2 (.slice A L.length c) L.length (L.flatMap (ccells f))
def OwnG (f : β → Value) (T : TypeId) (w : World) (base : Nat) (A : Option Addr) (c : Nat) (L : List ((Bool × β) × Nat)) : Prop := w.ownsRow base T 3 (.slice A L.length c) L.length (L.flatMap (gcells f))
theorem OwnC.nil (T : TypeId) (w : World) (base : Nat) : OwnC f T w base none 0 [] := World.ownsRow_nil _ _ _ _
theorem OwnG.nil (T : TypeId) (w : World) (base : Nat) : OwnG f T w base none 0 [] := World.ownsRow_nil _ _ _ _
theorem own_fr {S : Nat → Prop} {w w' : World} {base : Nat} {e : TypeId} {size : Nat} {A : Option Addr} {n m c : Nat} {xs : List Value} (h : w.ownsRow base e size (.slice A m c) n xs) (hf : Fr S w w') (hS : ∀ ad, A = some ad → ¬ S ad.block) : w'.ownsRow base e size (.slice A m c) n xs :=
  hf.own h (fun k hk => by
    cases A with
    | none => cases hk
    | some ad => have h1 : ad.block = k := by simpa [Value.ownBlock] using hk
                 rw [← h1]; exact hS ad rfl)
theorem OwnC.cls {T : TypeId} {w : World} {base c : Nat} {A : Option Addr} {L : List (Bool × β)} (h : OwnC f T w base A c L) : Cls f w A L.length L := by
  refine ⟨rfl, fun k t ht => ?_⟩
  have hk := (List.getElem?_eq_some_iff.1 ht).1
  rcases h.2 with ⟨hv, h0⟩ | ⟨g, cap, cur, hv, _⟩
  · injection hv with _ h1 h2
    omega
  · have hA : A = some ⟨g, 0, none⟩ := by injection hv
    subst hA
    have hc := h.cells (g := g) rfl
    have hadd : ∀ j, (⟨g, 0, none⟩ : Addr).add j = ⟨g, j, none⟩ := fun j => by unfold Addr.add; split <;> simp_all
    refine ⟨g, 0, rfl, (h.lt g rfl).2, ?_, ?_⟩
    · rw [← hadd]; exact hc _ _ (by have := flat_k (ccells f) 2 (fun _ => rfl) L k t ht 0 (by omega); simpa [ccells] using this)
    · rw [Nat.add_assoc, Nat.zero_add, ← hadd]; exact hc _ _ (by have := flat_k (ccells f) 2 (fun _ => rfl) L k t ht 1 (by omega); simpa [ccells] using this)
theorem OwnG.grs {T : TypeId} {w : World} {base c : Nat} {A : Option Addr} {L : List ((Bool × β) × Nat)} (h : OwnG f T w base A c L) : Grs f w A L.length L := by
  refine ⟨rfl, fun k t ht => ?_⟩
  have hk := (List.getElem?_eq_some_iff.1 ht).1
  rcases h.2 with ⟨hv, h0⟩ | ⟨g, cap, cur, hv, _⟩
  · injection hv with _ h1 h2
    omega
  · have hA : A = some ⟨g, 0, none⟩ := by injection hv
    subst hA
    have hc := h.cells (g := g) rfl
    have hadd : ∀ j, (⟨g, 0, none⟩ : Addr).add j = ⟨g, j, none⟩ := fun j => by unfold Addr.add; split <;> simp_all
    refine ⟨g, 0, rfl, (h.lt g rfl).2, ?_, ?_, ?_⟩
    · rw [← hadd]; exact hc _ _ (by have := flat_k (gcells f) 3 (fun _ => rfl) L k t ht 0 (by omega); simpa [gcells] using this)
    · rw [Nat.add_assoc, Nat.zero_add, ← hadd]; exact hc _ _ (by have := flat_k (gcells f) 3 (fun _ => rfl) L k t ht 1 (by omega); simpa [gcells] using this)
    · rw [Nat.add_assoc, Nat.zero_add, ← hadd]; exact hc _ _ (by have := flat_k (gcells f) 3 (fun _ => rfl) L k t ht 2 (by omega); simpa [gcells] using this)
theorem OwnC.base {T : TypeId} {w : World} {b b' c : Nat} {A : Option Addr} {L : List (Bool × β)} (h : OwnC f T w b A c L) (hb : b' ≤ b) : OwnC f T w b' A c L := own_base h hb
theorem OwnG.base {T : TypeId} {w : World} {b b' c : Nat} {A : Option Addr} {L : List ((Bool × β) × Nat)} (h : OwnG f T w b A c L) (hb : b' ≤ b) : OwnG f T w b' A c L := own_base h hb
theorem OwnC.fr {T : TypeId} {w w' : World} {base c : Nat} {A : Option Addr} {L : List (Bool × β)} (h : OwnC f T w base A c L) (hf : Fr (fun _ => False) w w') : OwnC f T w' base A c L := hf.own h (fun _ _ h => h)
theorem OwnG.fr {T : TypeId} {w w' : World} {base c : Nat} {A : Option Addr} {L : List ((Bool × β) × Nat)} (h : OwnG f T w base A c L) (hf : Fr (fun _ => False) w w') : OwnG f T w' base A c L := hf.own h (fun _ _ h => h)
theorem OwnC.snoc {T : TypeId} {w : World} {base c : Nat} {A : Option Addr} {L : List (Bool × β)} {t : Bool × β} {N : Nat} (hN : N = L.length + 1) (h : w.ownsRow base T 2 (.slice A N c) N (L.flatMap (ccells f) ++ ccells f t)) : OwnC f T w base A c (L ++ [t]) := by
  unfold OwnC
  rw [List.flatMap_append, List.flatMap_singleton, List.length_append, List.length_singleton, ← hN]
  exact h
theorem OwnG.snoc {T : TypeId} {w : World} {base c : Nat} {A : Option Addr} {L : List ((Bool × β) × Nat)} {t : (Bool × β) × Nat} {N : Nat} (hN : N = L.length + 1) (h : w.ownsRow base T 3 (.slice A N c) N (L.flatMap (gcells f) ++ gcells f t)) : OwnG f T w base A c (L ++ [t]) := by
  unfold OwnG
  rw [List.flatMap_append, List.flatMap_singleton, List.length_append, List.length_singleton, ← hN]
  exact h
/-- how often the last group comes is turned -/
theorem OwnG.last {T : TypeId} {w : World} {base g c m : Nat} {L : List ((Bool × β) × Nat)} {d : Bool × β} (h : OwnG f T w base (some ⟨g, 0, none⟩) c (L ++ [(d, m)])) (m' : Nat) :
    OwnG f T (w.setCell ⟨g, L.length * 3 + 2, none⟩ (.int .i64 (m' : Int))) base (some ⟨g, 0, none⟩) c (L ++ [(d, m')]) := by
  have hl : (L ++ [(d, m')]).length = (L ++ [(d, m)]).length := by simp
  unfold OwnG at h ⊢
  rw [hl]
  have h2 := (h.stored (L.length * 3 + 2) (.int .i64 (m' : Int))).1
  have e : ((L ++ [(d, m)]).flatMap (gcells f)).set (L.length * 3 + 2) (.int .i64 (m' : Int)) = (L ++ [(d, m')]).flatMap (gcells f) := by
    rw [List.flatMap_append, List.flatMap_append, List.set_append_right _ _ (by rw [flat_klen _ 3 (fun _ => rfl)]; omega), flat_klen _ 3 (fun _ => rfl), Nat.add_sub_cancel_left]
    rfl
  rw [e] at h2
  exact h2
/-- a new block's cells -/
theorem new_at {w : World} {k : Nat} (hk : k = w.heap.size) (xs : List Value) (t : TypeId) : ∀ j x, xs[j]? = some x → (w.alloc (.cells xs.toArray t)).cell? ((⟨k, 0, none⟩ : Addr).add j) = some x := by
  subst hk
  intro j x hx
  have hl : 0 < xs.length := by have := (List.getElem?_eq_some_iff.1 hx).1; omega
  obtain ⟨ad, e, h⟩ := (Rd.cells rfl xs t).2 hl
  injection e with e
  subst e
  exact h j x hx
end
/-- append of one element of several cells, and where the row lies then -/
theorem wpList_appS2 {P : Program} {t e : TypeId} {z : Value} {size bytes : Nat} (hT : ElemTyS P t e z size bytes) {ops : Array Oper} {rest : List Oper} {o : Oper} {a : Act} {Q : Exit → Act → World → Prop} (w : World) (hgd : o.guard = none) (s x : Operand)
    (ho : o.op = .call { callee := .builtin .append, args := #[s, x], argTypes := #[t, t] })
    (base : Nat) (v : Value) (n : Nat) (xs : List Value) (hs : a.eval s = v) (hown : w.ownsRow base e size v n xs)
    (ad : Addr) (c : Nat) (news : List Value) (hx : a.eval x = .slice (some ad) 1 c) (hl : news.length = size) (hnews : ∀ j u, news[j]? = some u → w.cell? (ad.add j) = some u) (h1 : ∀ u ∈ news, u.oneCell' = true)
    (N : Nat) (hN : N = n + 1) (h63 : N ≤ maxLen) (hbytes : N * bytes ≤ 140737488355328) (hbase : base ≤ w.heap.size)
    (h : ∀ A' c' w', w'.ownsRow base e size (.slice A' N c') N (xs ++ news) → N ≤ c' → Fr (fun k => v.ownBlock = some k) w w' → ((Value.slice A' N c').ownBlock = v.ownBlock ∨ (Value.slice A' N c').ownBlock = some w.heap.size) → wpList P ops Q rest (a.put o.dst (.slice A' N c')) w') : wpList P ops Q (o :: rest) a w := by
  subst hN
  refine wpList_plain hgd fun K hK => ?_
  obtain ⟨i, hi, hz, hsz, hb⟩ : ∃ i, P.info? e = some i ∧ i.zero = some z ∧ i.size = size ∧ i.bytes = bytes := by
    have h := hT.info
    cases hq : P.info? e with
    | none => rw [hq] at h; cases h
    | some i =>
      rw [hq] at h
      simp only [Option.map_some, Option.some.injEq, Prod.mk.injEq] at h
      exact ⟨i, rfl, h.1, h.2.1, h.2.2⟩
  obtain ⟨v', w', hr, h2, h3, _, h5⟩ := run_append_own_at (P := P) w base t o.type e i z size bytes hT.und hi hz hsz hb hT.cells hT.pos v n xs hown ad 1 c news (by rw [hl, Nat.one_mul]) hnews h1 h63 hbytes hbase
  obtain ⟨A', c', rfl, hc1, _⟩ := own_form h2
  unfold Oper.wp execOp
  simp only [ho, resolve, invoke, builtin, Sem.run_bind, Sem.run_pure, Result.andThen_ok, List.map_toArray, List.map_cons, List.map_nil, hs, hx, hr]
  exact hK _ _ (h A' c' w' h2 hc1 ((Fr.of_grown h3).mono (fun _ _ h => h)) h5)
/-- append of a text onto a row of one's own -/
theorem wpList_app_txt {P : Program} {t u e : TypeId} (ht : P.underlying t = some (.slice e)) (hu : P.underlying u = some .string) (hi : (P.info? e).map (fun i => (i.zero, i.size, i.bytes)) = some (some (.int .u8 0), 1, 1))
    {ops : Array Oper} {rest : List Oper} {o : Oper} {a : Act} {Q : Exit → Act → World → Prop} (w : World) (hgd : o.guard = none) (s x : Operand)
    (ho : o.op = .call { callee := .builtin .append, args := #[s, x], argTypes := #[t, u] }) (base : Nat) (A : Option Addr) (c : Nat) (B C : List UInt8) (T : ByteArray) (hT : T = txt C)
    (hs : a.eval s = .slice A B.length c) (hown : w.ownsRow base e 1 (.slice A B.length c) B.length (B.map bytec)) (hx : a.eval x = .string T)
    (D : List UInt8) (hD : D = B ++ C) (hfit : D.length ≤ 1000000000) (hbase : base ≤ w.heap.size)
    (h : ∀ A' c' w', w'.ownsRow base e 1 (.slice A' D.length c') D.length (D.map bytec) → Fr (fun k => (Value.slice A B.length c).ownBlock = some k) w w' → wpList P ops Q rest (a.put o.dst (.slice A' D.length c')) w') : wpList P ops Q (o :: rest) a w := by
  subst hD hT
  obtain ⟨i, hi2, hz, hs1, hb1⟩ := info_parts hi
  have hsz : (txt C).size = C.length := rfl
  have hst : strCells (txt C) = C.map bytec := by
    unfold strCells txt
    rfl
  rw [List.length_append] at hfit
  refine wpList_append_own_string w hgd s x t u ho base e i ht hu hi2 hz hs1 hb1 _ _ _ hs hown _ hx (by rw [hsz]; unfold maxLen; omega) (by rw [hsz]; omega) hbase (fun v' w' h2 h3 _ => ?_)
  obtain ⟨A', c', rfl, _, _⟩ := own_form h2
  rw [hst, hsz] at h2
  have e1 : (B ++ C).length = B.length + C.length := List.length_append
  rw [hsz, ← e1]
  rw [← e1, ← List.map_append] at h2
  exact h A' c' w' h2 ((Fr.of_grown h3).mono (fun _ _ h => h))
/-- the same, at a step of a region that draws its order -/
theorem step_app_txt {P : Program} {t u e : TypeId} (ht : P.underlying t = some (.slice e)) (hu : P.underlying u = some .string) (hi : (P.info? e).map (fun i => (i.zero, i.size, i.bytes)) = some (some (.int .u8 0), 1, 1))
    {ops : Array Oper} {o : Oper} {a : Act} {K : Act → World → Prop} {Q : Exit → Act → World → Prop} {E : Prop} (w : World) (hgd : o.guard = none) (s x : Operand)
    (ho : o.op = .call { callee := .builtin .append, args := #[s, x], argTypes := #[t, u] }) (base : Nat) (A : Option Addr) (c : Nat) (B C : List UInt8) (T : ByteArray) (hT : T = txt C)
    (hs : a.eval s = .slice A B.length c) (hown : w.ownsRow base e 1 (.slice A B.length c) B.length (B.map bytec)) (hx : a.eval x = .string T)
    (D : List UInt8) (hD : D = B ++ C) (hfit : D.length ≤ 1000000000) (hbase : base ≤ w.heap.size)
    (h : ∀ A' c' w', w'.ownsRow base e 1 (.slice A' D.length c') D.length (D.map bytec) → Fr (fun k => (Value.slice A B.length c).ownBlock = some k) w w' → K (a.put o.dst (.slice A' D.length c')) w') :
    if Region.wanted o (yielded ops a.tmps) = true then Oper.wp P o a w K Q else E := by
  subst hD hT
  have hw : Region.wanted o (yielded ops a.tmps) = true := by simp [Region.wanted, hgd]
  rw [if_pos hw]
  obtain ⟨i, hi2, hz, hs1, hb1⟩ := info_parts hi
  have hsz : (txt C).size = C.length := rfl
  have hst : strCells (txt C) = C.map bytec := by
    unfold strCells txt
    rfl
  rw [List.length_append] at hfit
  obtain ⟨v', w', hr, h2, h3, -⟩ := run_append_own_string (P := P) w base t u o.type e i ht hu hi2 hz hs1 hb1 _ _ _ hown (txt C) (by rw [hsz]; unfold maxLen; omega) (by rw [hsz]; omega) hbase
  obtain ⟨A', c', rfl, _, _⟩ := own_form h2
  rw [hst, hsz] at h2
  have e1 : (B ++ C).length = B.length + C.length := List.length_append
  rw [hsz] at hr
  rw [← e1] at hr
  rw [← e1, ← List.map_append] at h2
  unfold Oper.wp execOp
  simp only [ho, resolve, invoke, builtin, Sem.run_bind, Sem.run_pure, Result.andThen_ok, List.map_toArray, List.map_cons, List.map_nil, hs, hx, hr]
  exact h A' c' w' h2 ((Fr.of_grown h3).mono (fun _ _ h => h))
end Go.Proofs.YtedmnkcoflbciaaGreat
namespace Go.Proofs.YtedmnkcoflbciaaGreat
open Go Go.RowKit Mem Go.Lib

theorem wpList_appM {P : Program} {t e : TypeId} {z : Value} {size bytes : Nat} (hT : ElemTyS P t e z size bytes) {ops : Array Oper} {rest : List Oper} {o : Oper} {a : Act} {Q : Exit → Act → World → Prop} (w : World) (hgd : o.guard = none) (s x : Operand)
    (ho : o.op = .call { callee := .builtin .append, args := #[s, x], argTypes := #[t, t] })
    (base : Nat) (v : Value) (n : Nat) (xs : List Value) (hs : a.eval s = v) (hown : w.ownsRow base e size v n xs)
    (ad : Addr) (m c : Nat) (news : List Value) (hx : a.eval x = .slice (some ad) m c) (hl : news.length = m * size) (hnews : ∀ j u, news[j]? = some u → w.cell? (ad.add j) = some u) (h1 : ∀ u ∈ news, u.oneCell' = true)
    (N : Nat) (hN : N = n + m) (h63 : N ≤ maxLen) (hbytes : N * bytes ≤ 140737488355328) (hbase : base ≤ w.heap.size)
    (h : ∀ A' c' w', w'.ownsRow base e size (.slice A' N c') N (xs ++ news) → N ≤ c' → Fr (fun k => v.ownBlock = some k) w w' → ((Value.slice A' N c').ownBlock = v.ownBlock ∨ (Value.slice A' N c').ownBlock = some w.heap.size) → wpList P ops Q rest (a.put o.dst (.slice A' N c')) w') : wpList P ops Q (o :: rest) a w := by
  subst hN
  refine wpList_plain hgd fun K hK => ?_
  obtain ⟨i, hi, hz, hsz, hb⟩ : ∃ i, P.info? e = some i ∧ i.zero = some z ∧ i.size = size ∧ i.bytes = bytes := by
    have h := hT.info
    cases hq : P.info? e with
    | none => rw [hq] at h; cases h
    | some i =>
      rw [hq] at h
      simp only [Option.map_some, Option.some.injEq, Prod.mk.injEq] at h
      exact ⟨i, rfl, h.1, h.2.1, h.2.2⟩
  obtain ⟨v', w', hr, h2, h3, _, h5⟩ := run_append_own_at (P := P) w base t o.type e i z size bytes hT.und hi hz hsz hb hT.cells hT.pos v n xs hown ad m c news hl hnews h1 h63 hbytes hbase
  obtain ⟨A', c', rfl, hc1, _⟩ := own_form h2
  unfold Oper.wp execOp
  simp only [ho, resolve, invoke, builtin, Sem.run_bind, Sem.run_pure, Result.andThen_ok, List.map_toArray, List.map_cons, List.map_nil, hs, hx, hr]
  exact hK _ _ (h A' c' w' h2 hc1 ((Fr.of_grown h3).mono (fun _ _ h => h)) h5)
section
variable {β : Type} {f : β → Value}
/-- all the cells of a slice that reads as L -/
theorem Cls.cells {w : World} {g o n : Nat} {L : List (Bool × β)} (h : Cls f w (some ⟨g, o, none⟩) n L) : ∀ j u, (L.flatMap (ccells f))[j]? = some u → w.cell? ((⟨g, o, none⟩ : Addr).add j) = some u := by
  intro j u hj
  have hl := (List.getElem?_eq_some_iff.1 hj).1
  rw [flat_klen (ccells f) 2 (fun _ => rfl)] at hl
  obtain ⟨t, ht⟩ : ∃ t, L[j / 2]? = some t := ⟨_, List.getElem?_eq_getElem (by omega)⟩
  obtain ⟨g', o', e, _, h0, h1⟩ := h.2 _ t ht
  injection e with e
  injection e with e1 e2
  subst e1 e2
  have hf := flat_k (ccells f) 2 (fun _ => rfl) L (j / 2) t ht (j % 2) (by omega)
  rw [show j / 2 * 2 + j % 2 = j by omega, hj] at hf
  rw [mid_add]
  rcases (show j % 2 = 0 ∨ j % 2 = 1 by omega) with e | e
  · rw [e] at hf
    rw [show o + j = o + j / 2 * 2 by omega, h0]
    exact hf.symm
  · rw [e] at hf
    rw [show o + j = o + j / 2 * 2 + 1 by omega, h1]
    exact hf.symm
end
end Go.Proofs.YtedmnkcoflbciaaGreat
namespace Go.Proofs.YtedmnkcoflbciaaGreat
open Go.RowKit Mem Go.Lib
set_option linter.unusedVariables false

theorem store_st {P : Program} {ty : TypeId} {n : Nat} (hs : (P.info? ty).map (·.size) = some n) {ops : Array Oper} {rest : List Oper} {op : Oper} {a : Act} {w : World} {Q : Exit → Act → World → Prop} (hgd : op.guard = none) (x y : Operand) (ho : op.op = .store ty x y)
    (g : Nat) (hx : a.eval x = .pointer (some ⟨g, 0, none⟩)) (L : List Value) (hy : a.eval y = .agg L.toArray) (old : Array Value) (t : TypeId) (hb : w.heap[g]? = some (.cells old t (0, 0))) (hn : L.length = n) (ho2 : old.size = n) (h1 : L.toArray.all (·.oneCell') = true)
    (h : ∀ w', Row w' g t L → Fr (fun b => b = g) w w' → wpList P ops Q rest (a.put op.dst undef) w') : wpList P ops Q (op :: rest) a w := by
  refine wpList_plain hgd fun K hK => ?_
  unfold Oper.wp execOp
  simp only [ho, hx, hy, Instr.storeAt, Instr.sureAddr, Sem.run_bind, Sem.run_pure, Result.andThen_ok, run_storeVar_row w g t ty old L.toArray hb (by rw [hs]; simp [hn]) (by rw [ho2]; simp [hn]) h1]
  exact hK _ _ (h _ (setRow_heap w g old L.toArray t (0, 0) hb) ⟨rfl, rfl, rfl, by simp [World.setRow], fun b _ hs => setRow_other w g b _ hs⟩)
end Go.Proofs.YtedmnkcoflbciaaGreat
namespace Go.Proofs.YtedmnkcoflbciaaGreat
open Go

theorem wpAnyH_imp {P : Program} {md : Region.Mode} {ops : Array Oper} {Q : Exit → Act → World → Prop} {S S' : World → Prop} (hS : ∀ w, S' w → S w) :
    ∀ (fuel : Nat) (listed : Array Bool) (a : Act) (w : World), wpAnyH P md ops Q S' fuel listed a w → wpAnyH P md ops Q S fuel listed a w
  | 0, _, _, _, h => h
  | fuel + 1, _, _, _, h => ⟨h.1, fun i hi => wpOp_mono (fun a' w' h' => ⟨hS _ h'.1, wpAnyH_imp hS fuel _ a' w' h'.2⟩) (h.2 i hi)⟩
theorem wpAnyH_more {P : Program} {md : Region.Mode} {ops : Array Oper} {Q : Exit → Act → World → Prop} {S : World → Prop} (S' : World → Prop) {fuel : Nat} {listed : Array Bool} {a : Act} {w : World}
    (hS : ∀ w, S' w → S w) (h : S' w) (hk : S' w → wpAnyH P md ops Q S' fuel listed a w) : wpAnyH P md ops Q S fuel listed a w :=
  wpAnyH_imp hS fuel listed a w (hk h)
end Go.Proofs.YtedmnkcoflbciaaGreat
namespace Go.Proofs.YtedmnkcoflbciaaGreat
open Go Go.RowKit Mem Go.Lib LebM DirM
set_option linter.unusedVariables false

section
variable {τ : Type} {p q : τ → Value}
def pcells (p q : τ → Value) (t : τ) : List Value := [p t, q t]
/-- a slice reads as these pairs -/
def Prs (p q : τ → Value) (w : World) (A : Option Addr) (n : Nat) (L : List τ) : Prop := L.length = n ∧ ∀ k t, L[k]? = some t → ∃ g o, A = some ⟨g, o, none⟩ ∧ g < w.heap.size ∧
  w.cell? ⟨g, o + k * 2, none⟩ = some (p t) ∧ w.cell? ⟨g, o + k * 2 + 1, none⟩ = some (q t)
theorem Prs.fr {S : Nat → Prop} {w w' : World} {A : Option Addr} {n : Nat} {L : List τ} (h : Prs p q w A n L) (hf : Fr S w w') (hS : ∀ ad, A = some ad → ¬ S ad.block) : Prs p q w' A n L :=
  ⟨h.1, fun k t hk => by
    obtain ⟨g, o, e, hg, h1, h2⟩ := h.2 k t hk
    exact ⟨g, o, e, Nat.lt_of_lt_of_le hg hf.size, hf.cell h1 (hS ⟨g, o, none⟩ e), hf.cell h2 (hS ⟨g, o, none⟩ e)⟩⟩
theorem Prs.nil (w : World) (A : Option Addr) : Prs p q w A 0 [] := ⟨rfl, fun k t h => by simp at h⟩
/-- a row of one's own, of elements of type T -/
def OwnP (p q : τ → Value) (T : TypeId) (w : World) (base : Nat) (A : Option Addr) (c : Nat) (L : List τ) : Prop := w.ownsRow base T 2 (.slice A L.length c) L.length (L.flatMap (pcells p q))
theorem OwnP.nil (T : TypeId) (w : World) (base : Nat) : OwnP p q T w base none 0 [] := World.ownsRow_nil _ _ _ _
theorem OwnP.prs {T : TypeId} {w : World} {base c : Nat} {A : Option Addr} {L : List τ} (h : OwnP p q T w base A c L) : Prs p q w A L.length L := by
  refine ⟨rfl, fun k t ht => ?_⟩
  have hk := (List.getElem?_eq_some_iff.1 ht).1
  rcases h.2 with ⟨hv, h0⟩ | ⟨g, cap, cur, hv, _⟩
  · injection hv with _ h1 h2
    omega
  · have hA : A = some ⟨g, 0, none⟩ := by injection hv
    subst hA
    have hc := h.cells (g := g) rfl
    have hadd : ∀ j, (⟨g, 0, none⟩ : Addr).add j = ⟨g, j, none⟩ := fun j => by unfold Addr.add; split <;> simp_all
    refine ⟨g, 0, rfl, (h.lt g rfl).2, ?_, ?_⟩
    · rw [← hadd]; exact hc _ _ (by have := flat_k (pcells p q) 2 (fun _ => rfl) L k t ht 0 (by omega); simpa [pcells] using this)
    · rw [Nat.add_assoc, Nat.zero_add, ← hadd]; exact hc _ _ (by have := flat_k (pcells p q) 2 (fun _ => rfl) L k t ht 1 (by omega); simpa [pcells] using this)
theorem OwnP.base {T : TypeId} {w : World} {b b' c : Nat} {A : Option Addr} {L : List τ} (h : OwnP p q T w b A c L) (hb : b' ≤ b) : OwnP p q T w b' A c L := own_base h hb
theorem OwnP.fr {T : TypeId} {w w' : World} {base c : Nat} {A : Option Addr} {L : List τ} (h : OwnP p q T w base A c L) (hf : Fr (fun _ => False) w w') : OwnP p q T w' base A c L := hf.own h (fun _ _ h => h)
theorem OwnP.snoc {T : TypeId} {w : World} {base c : Nat} {A : Option Addr} {L : List τ} {t : τ} {N : Nat} (hN : N = L.length + 1) (h : w.ownsRow base T 2 (.slice A N c) N (L.flatMap (pcells p q) ++ pcells p q t)) : OwnP p q T w base A c (L ++ [t]) := by
  unfold OwnP
  rw [List.flatMap_append, List.flatMap_singleton, List.length_append, List.length_singleton, ← hN]
  exact h
theorem pcells_len (L : List τ) : (L.flatMap (pcells p q)).length = L.length * 2 := flat_klen _ 2 (fun _ => rfl) L
end
/-- a column in memory: its number, where its bytes lie, what they are -/
structure Cl where
  id : Nat
  A : Option Addr
  c : Nat
  B : List UInt8
def Cl.v (x : Cl) : Col := (x.id, x.B)
def idc (x : Cl) : Value := .int .i64 (x.id : Int)
def dac (x : Cl) : Value := .slice x.A x.B.length x.c
/-- bytes in a block of bytes -/
def Byt (w : World) (x : Cl) : Prop := Rd w x.A x.B.length (x.B.map bytec) ∧ x.B.length ≤ x.c ∧ ∀ ad, x.A = some ad → ∃ cs m, w.heap[ad.block]? = some (.cells cs 5 m)
theorem Byt.fr {S : Nat → Prop} {w w' : World} {x : Cl} (h : Byt w x) (hf : Fr S w w') (hS : ∀ k cs m, w.heap[k]? = some (.cells cs 5 m) → ¬ S k) : Byt w' x := by
  obtain ⟨h1, h2, h3⟩ := h
  refine ⟨h1.fr hf (fun ad e => ?_), h2, fun ad e => ?_⟩
  · obtain ⟨cs, m, hb⟩ := h3 ad e
    exact hS _ _ _ hb
  · obtain ⟨cs, m, hb⟩ := h3 ad e
    exact ⟨cs, m, hf.blk hb (hS _ _ _ hb)⟩
/-- a slice of columns -/
def Cols (w : World) (A : Option Addr) (n : Nat) (L : List Cl) : Prop := Prs idc dac w A n L ∧ ∀ x ∈ L, Byt w x
theorem Cols.fr {w w' : World} {A : Option Addr} {n : Nat} {L : List Cl} (h : Cols w A n L) (hf : Fr (fun _ => False) w w') : Cols w' A n L :=
  ⟨h.1.fr hf (fun _ _ h => h), fun x hx => (h.2 x hx).fr hf (fun _ _ _ _ h => h)⟩
theorem Cols.nil (w : World) (A : Option Addr) : Cols w A 0 [] := ⟨Prs.nil _ _, fun x hx => by simp at hx⟩
/-- the bytes of a row of one's own lie in a block of bytes -/
theorem Own.byt {w : World} {base c : Nat} {A : Option Addr} {B : List UInt8} (h : Own w base A c B) (n : Nat) : Byt w ⟨n, A, c, B⟩ := by
  refine ⟨h.rd, h.cap.1, fun ad e => ?_⟩
  rcases h.2 with ⟨hv, _⟩ | ⟨g, cap, cur, hv, _, hr, _⟩
  · injection hv with hA
    have e : A = some ad := e
    rw [e] at hA
    cases hA
  · injection hv with hA
    have e : A = some ad := e
    rw [e] at hA
    injection hA with hA
    subst hA
    exact ⟨cur, _, hr⟩
/-- rows of unlike elements lie apart -/
theorem own_two {w : World} {b1 b2 s1 s2 n1 n2 : Nat} {e1 e2 : TypeId} {v1 v2 : Value} {x1 x2 : List Value} (h1 : w.ownsRow b1 e1 s1 v1 n1 x1) (h2 : w.ownsRow b2 e2 s2 v2 n2 x2) (hne : e1 ≠ e2) {k : Nat} (hk : v1.ownBlock = some k) : v2.ownBlock ≠ some k := by
  rcases h1.2 with ⟨rfl, _⟩ | ⟨g, cap, cur, rfl, _, hr, _⟩
  · cases hk
  · obtain rfl : g = k := by simpa [Value.ownBlock] using hk
    exact own_ne h2 hr (fun e => hne e.symm)
end Go.Proofs.YtedmnkcoflbciaaGreat
namespace Go.Proofs.YtedmnkcoflbciaaGreat
open Go

/-- what is asked behind the head -/
def headPost (P : Program) (ops : Array Oper) (Q : Exit → Act → World → Prop) (rest : List Oper) : Exit → Act → World → Prop
  | .normal, a, w => wpList P ops Q rest a w
  | e, a, w => Q e a w
def headB (md : Region.Mode) (l : List Oper) (n : Nat) : Bool :=
  decide (n < l.length) && (l.all fun o => o.guard.isNone) &&
  ((List.range n).all fun i => match l[i]? with
    | some o => o.after.all fun e => !Region.binds md e || decide (e.on < i)
    | none => false) &&
  (Region.sinkB md l.toArray n && Region.chainB md l.toArray n) &&
  Region.seqB md l.toArray (l.length - n) n (Array.replicate n true ++ Array.replicate (l.length - n) false)
section
variable {P : Program} {md : Region.Mode} {Q : Exit → Act → World → Prop}
theorem wpAny_more {ops : Array Oper} : ∀ (f : Nat) (listed : Array Bool) (a : Act) (w : World), wpAny P md ops Q f listed a w → wpAny P md ops Q (f + 1) listed a w
  | 0, listed, a, w, h => ⟨fun _ => h.2, by rw [h.1]; simp⟩
  | f + 1, listed, a, w, h => ⟨h.1, fun i hi => wpOp_mono (fun a' w' h' => wpAny_more f _ a' w' h') (h.2 i hi)⟩
theorem wpAny_add {ops : Array Oper} {listed : Array Bool} {a : Act} {w : World} {f : Nat} (h : wpAny P md ops Q f listed a w) : ∀ g, wpAny P md ops Q (f + g) listed a w
  | 0 => h
  | g + 1 => wpAny_more _ _ _ _ (wpAny_add h g)
theorem wpOp_head {ops ops' : Array Oper} {rest : List Oper} {i : Nat} {o : Oper} (h1 : ops[i]? = some o) (h2 : ops'[i]? = some o) (hg : o.guard = none) {K K' : Act → World → Prop} (hK : ∀ a w, K a w → K' a w) {a : Act} {w : World}
    (h : wpOp P ops' (headPost P ops Q rest) i K a w) : wpOp P ops Q i K' a w := by
  have hw : ∀ f, Region.wanted o f = true := fun f => by simp [Region.wanted, hg]
  have hlet : LetsOut (headPost P ops Q rest) → LetsOut Q := fun ⟨a, w, h⟩ => ⟨a, w, h⟩
  unfold wpOp at *
  simp only [h1, h2, hw, if_true] at h ⊢
  rcases h with h | ⟨h, h'⟩
  · refine .inl ?_
    unfold Oper.wp at *
    generalize (execOp a.eval o).run P w = r at *
    cases r with
    | ok n w' =>
      cases n <;> simp only [Oper.upon] at h ⊢
      case value u => exact hK _ _ h
      case skip => exact hK _ _ h
      case defer d => exact hK _ _ h
      case enter f args =>
        refine Calls.mono h fun e w'' he => ?_
        cases e with
        | returned u => exact hK _ _ he
        | panicked c => exact he
        | outgrown => exact hlet he
      case row row args => exact Rows.mono h fun u w'' he => hK _ _ he
    | halt x w' =>
      cases x <;> simp only [Oper.upon] at h ⊢
      case panic u => exact h
  · exact .inr ⟨h, hlet h'⟩
theorem getD_pad {A : Array Bool} {n m i : Nat} (hs : A.size = n) (hi : i < n) (d : Bool) : (A ++ Array.replicate m false).getD i d = A.getD i d := by
  simp [Array.getD_eq_getD_getElem?, Array.getElem?_append, hs, hi]
theorem head_any {l : List Oper} {n : Nat} (hB : headB md l n = true) : ∀ (f : Nat) (listed : Array Bool) (a : Act) (w : World), listed.size = n → HeadInv md l.toArray n (listed ++ Array.replicate (l.length - n) false) →
    wpAny P md (l.take n).toArray (headPost P l.toArray Q (l.drop n)) f listed a w → wpAny P md l.toArray Q (f + (l.length - n)) (listed ++ Array.replicate (l.length - n) false) a w := by
  simp only [headB, Bool.and_eq_true, decide_eq_true_eq] at hB
  obtain ⟨⟨⟨⟨hn, hg⟩, hlow⟩, hsink, hchain⟩, hseq⟩ := hB
  have hguard : ∀ (i : Nat) (o : Oper), l[i]? = some o → o.guard = none := fun i o h => by simpa using (List.all_eq_true.1 hg) o (List.mem_of_getElem? h)
  have hlo : ∀ (i : Nat) (o : Oper), i < n → l[i]? = some o → ∀ e ∈ o.after, Region.binds md e = true → e.on < i := fun i o hi h e he hb => by
    have := List.all_eq_true.1 hlow i (List.mem_range.2 hi)
    rw [h] at this
    have := (Array.all_eq_true_iff_forall_mem.1 this) e he
    simpa [hb] using this
  have hop : ∀ i, i < n → (l.take n).toArray[i]? = l.toArray[i]? := fun i hi => by simp [hi]
  have hin : ∀ i, i < n → ∃ o, l[i]? = some o := fun i hi => ⟨_, List.getElem?_eq_getElem (by omega)⟩
  -- what may come up, while some of the head is left
  have hready : ∀ (listed : Array Bool), listed.size = n → HeadInv md l.toArray n (listed ++ Array.replicate (l.length - n) false) → (∃ k, k < n ∧ listed.getD k false = false) → ∀ i, i ∈ Region.ready md l.toArray (listed ++ Array.replicate (l.length - n) false) ↔ i ∈ Region.ready md (l.take n).toArray listed := by
    intro listed hs inv ⟨k, hk, hkf⟩ i
    rw [mem_ready, mem_ready]
    constructor
    · rintro ⟨h1, o, ho, h2⟩
      by_cases hi : i < n
      · refine ⟨by rw [getD_pad hs hi] at h1; exact h1, o, by rw [hop i hi]; exact ho, fun e he hb => ?_⟩
        have := h2 e he hb
        rwa [getD_pad hs (by have := hlo i o hi (by simpa using ho) e he hb; omega)] at this
      · exact absurd (mem_ready.2 ⟨h1, o, ho, h2⟩) (tail_waits hsink hchain (by simpa using hn) inv _ k rfl hk (getD_in (by simp [hs]; omega) (by rw [getD_pad hs hk]; exact hkf)) i (by omega))
    · rintro ⟨h1, o, ho, h2⟩
      have hi : i < n := by
        have := (Array.getElem?_eq_some_iff.1 ho).1
        simp at this
        omega
      rw [hop i hi] at ho
      refine ⟨by rw [getD_pad hs hi]; exact h1, o, ho, fun e he hb => ?_⟩
      rw [getD_pad hs (by have := hlo i o hi (by simpa using ho) e he hb; omega)]
      exact h2 e he hb
  have hsome : ∀ (listed : Array Bool), listed.size = n → ∀ k, k < n → listed.getD k false = false → Region.ready md (l.take n).toArray listed ≠ [] := by
    intro listed hs k
    induction k using Nat.strongRecOn with
    | _ k ih =>
      intro hk hkf
      obtain ⟨o, ho⟩ := hin k hk
      by_cases hall : ∀ e ∈ o.after, Region.binds md e = true → listed.getD e.on false = true
      · have : k ∈ Region.ready md (l.take n).toArray listed := mem_ready.2 ⟨getD_in (by omega) hkf, o, by rw [hop k hk]; simpa using ho, hall⟩
        intro e
        rw [e] at this
        cases this
      · simp only [Classical.not_forall] at hall
        obtain ⟨e, he, hb, hf⟩ := hall
        have := hlo k o hk ho e he hb
        exact ih e.on this (by omega) (by simpa using hf)
  have hdone : ∀ (listed : Array Bool) (a : Act) (w : World), listed.size = n → (¬ ∃ k, k < n ∧ listed.getD k false = false) → headPost P l.toArray Q (l.drop n) .normal a w →
      wpAny P md l.toArray Q (l.length - n) (listed ++ Array.replicate (l.length - n) false) a w := by
    intro listed a w hs hno hq
    have e : listed = Array.replicate n true := by
      refine Array.ext (by simp [hs]) (fun i h1 h2 => ?_)
      have : listed.getD i false = true := by
        cases hx : listed.getD i false with
        | true => rfl
        | false => exact absurd ⟨i, by omega, hx⟩ hno
      simpa [Array.getD, h1] using this
    rw [e]
    have := wpAny_of_seq (P := P) (md := md) (ops := l.toArray) (Q' := Q) (l.drop n) n (Array.replicate n true ++ Array.replicate (l.length - n) false) a w (fun j => by simp [List.getElem?_drop]) (by simpa using hseq) hq
    simpa using this
  intro f
  induction f with
  | zero =>
    intro listed a w hs inv h
    by_cases hno : ∃ k, k < n ∧ listed.getD k false = false
    · obtain ⟨k, hk, hkf⟩ := hno
      exact absurd h.1 (hsome listed hs k hk hkf)
    · rw [Nat.zero_add]
      exact hdone listed a w hs hno h.2
  | succ f ih =>
    intro listed a w hs inv h
    by_cases hno : ∃ k, k < n ∧ listed.getD k false = false
    · have hr := hready listed hs inv hno
      obtain ⟨k, hk, hkf⟩ := hno
      have hne := hsome listed hs k hk hkf
      rw [show f + 1 + (l.length - n) = f + (l.length - n) + 1 by omega]
      refine ⟨fun h0 => ?_, fun i hi => ?_⟩
      · refine absurd ?_ hne
        refine List.eq_nil_iff_forall_not_mem.2 (fun i hi => ?_)
        have := (hr i).2 hi
        rw [h0] at this
        cases this
      · have hi' := (hr i).1 hi
        obtain ⟨_, o, ho, _⟩ := mem_ready.1 hi'
        have hin' : i < n := by
          have := (Array.getElem?_eq_some_iff.1 ho).1
          simp at this
          omega
        have ho2 : l.toArray[i]? = some o := by rw [← hop i hin']; exact ho
        refine wpOp_head ho2 ho (hguard i o (by simpa using ho2)) (fun a' w' h' => ?_) (h.2 i hi')
        have e : (listed ++ Array.replicate (l.length - n) false).setIfInBounds i true = listed.setIfInBounds i true ++ Array.replicate (l.length - n) false := by
          refine Array.ext_getElem? (fun j => ?_)
          simp only [Array.getElem?_setIfInBounds, Array.getElem?_append, Array.size_setIfInBounds, Array.size_append, hs]
          by_cases hj : i = j
          · subst hj; simp [hin']; omega
          · simp [hj]
        rw [e]
        exact ih (listed.setIfInBounds i true) a' w' (by simpa using hs) (by rw [← e]; exact inv.set hi hin') h'
    · have hq : headPost P l.toArray Q (l.drop n) .normal a w := by
        refine h.1 (List.eq_nil_iff_forall_not_mem.2 (fun i hi => ?_))
        obtain ⟨h1, o, ho, _⟩ := mem_ready.1 hi
        have hi' : i < n := by
          have := (Array.getElem?_eq_some_iff.1 ho).1
          simp at this
          omega
        refine hno ⟨i, hi', ?_⟩
        simpa [Array.getD, hs, hi'] using h1
      rw [Nat.add_comm]
      exact wpAny_add (hdone listed a w hs hno hq) _
/-- the beginning -/
theorem wp_region_head {id : Nat} {a : Act} {w : World} {l hd rest : List Oper} (n : Nat) (S : World → Prop) (hS : S w.drew)
    (h : S w.drew → wpAnyH P .any hd.toArray (headPost P l.toArray Q rest) S n (Array.replicate n false) a w.drew) (hm : P.follows .mixedOrders = true := by kernel_rfl) (hB : headB .any l n = true := by kernel_rfl)
    (h1 : l.take n = hd := by (simp only [List.take_succ_cons, List.take_zero]; try rfl)) (h2 : l.drop n = rest := by (simp only [List.drop_succ_cons, List.drop_zero]; try rfl)) : (Code.region id l.toArray true).wp P Q a w := by
  subst h1 h2
  refine wp_region_any hm ?_
  have hn : n < l.length := by
    simp only [headB, Bool.and_eq_true, decide_eq_true_eq] at hB
    exact hB.1.1.1.1
  have e : Array.replicate n false ++ Array.replicate (l.length - n) false = Array.replicate l.length false := by
    refine Array.ext (by simp; omega) (fun i h1 h2 => ?_)
    simp
  have h1 := head_any (P := P) (Q := Q) hB n (Array.replicate n false) a w.drew (by simp) (by
    rw [e]
    exact ⟨by simp, fun j oj _ hl => (by rw [getD_replicate_false] at hl; cases hl), fun t _ ht => getD_in (by simpa using ht) (getD_replicate_false _ _)⟩) (wpAny_of_held _ _ _ _ (h hS))
  rw [e, show n + (l.length - n) = l.length by omega] at h1
  exact h1
end
end Go.Proofs.YtedmnkcoflbciaaGreat
namespace Go.Proofs.YtedmnkcoflbciaaGreat
open Go

section
variable {P : Program} {md : Region.Mode} {ops : Array Oper} {Q : Exit → Act → World → Prop} {S : World → Prop} {fuel : Nat} {listed : Array Bool} {a a' : Act} {w : World} {oi : Oper} {v : Value}
/-- operation i reads or reckons: it is taken first -/
theorem tk (i : Nat) (hS : S w) (h : wpAnyH P md ops Q S fuel (listed.setIfInBounds i true) a' w)
    (hi : ops[i]? = some oi := by rfl) (hs : Region.noSelect ops = true := by kernel_rfl) (hf : Region.free md ops listed i = true := by kernel_rfl) (hr : (Region.ready md ops listed).contains i = true := by kernel_rfl)
    (hQ : ∀ c a w, Q (.panic c) (a.put oi.dst v) w → Q (.panic c) a w := by exact fun _ _ _ h => h)
    (hw : Region.wanted oi (yielded ops a.tmps) = true := by rfl)
    (hy : ∀ w, S w → (execOp a.eval oi).run P w = .ok (.value v) w := by (intro w hSw; (try dsimp only at hSw); go_simp; try (with_reducible rfl)))
    (ha : a.put oi.dst v = a' := by ((try simp only [Act.put, List.setIfInBounds_toArray, List.set_cons_zero, List.set_cons_succ, List.getElem_toArray, List.getElem_cons_zero, List.getElem_cons_succ]); try rfl)) : wpAnyH P md ops Q S (fuel + 1) listed a w :=
  wpAnyH_take hi hs hf hr hQ (Or.inl ⟨hw, hy⟩) hS (ha ▸ h)
/-- operation i alone may come up -/
theorem rd1 (i : Nat) (h : ∀ K : Act → World → Prop, Shut (∀ a w, S w → wpAnyH P md ops Q S fuel (listed.setIfInBounds i true) a w → K a w) → if Region.wanted oi (yielded ops a.tmps) = true then Oper.wp P oi a w K Q else K (a.put oi.dst undef) w)
    (hi : ops[i]? = some oi := by rfl) (hr : Region.ready md ops listed = [i] := by kernel_rfl) : wpAnyH P md ops Q S (fuel + 1) listed a w :=
  wpAnyH_ready hr (by simp) (AllReadyH.cons hi (fun K hK => h K (fun a w hS hW => hK.out a w hS (fun _ => hW))) AllReadyH.nil)
/-- operation i alone may come up: what is held comes anew behind it -/
theorem rdo (i : Nat) (h : ∀ K : Act → World → Prop, Shut (∀ a w, S w → (S w → wpAnyH P md ops Q S fuel (listed.setIfInBounds i true) a w) → K a w) → if Region.wanted oi (yielded ops a.tmps) = true then Oper.wp P oi a w K Q else K (a.put oi.dst undef) w)
    (hi : ops[i]? = some oi := by rfl) (hr : Region.ready md ops listed = [i] := by kernel_rfl) : wpAnyH P md ops Q S (fuel + 1) listed a w :=
  wpAnyH_ready hr (by simp) (AllReadyH.cons hi h AllReadyH.nil)
/-- the head is done -/
theorem hdone {ops' : Array Oper} {rest : List Oper} (h : wpList P ops' Q rest a' w) (hr : Region.ready md ops listed = [] := by kernel_rfl)
    (ha : a = a' := by ((try simp only [Act.put, List.setIfInBounds_toArray, List.set_cons_zero, List.set_cons_succ, List.getElem_toArray, List.getElem_cons_zero, List.getElem_cons_succ]); try rfl)) : wpAnyH P md ops (headPost P ops' Q rest) S fuel listed a w :=
  wpAnyH_done hr (ha ▸ h) _
end
end Go.Proofs.YtedmnkcoflbciaaGreat
namespace Go.Proofs.YtedmnkcoflbciaaGreat.UtfM

def km (a : Nat) : Nat := if a < 192 then 0 else if a < 224 then 192 else if a < 240 then 224 else if a < 248 then 240 else 0
end Go.Proofs.YtedmnkcoflbciaaGreat.UtfM
