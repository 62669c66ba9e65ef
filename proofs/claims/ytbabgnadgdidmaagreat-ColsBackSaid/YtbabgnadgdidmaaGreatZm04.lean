import Derived.Test.YtbabgnadgdidmaaGreatZm02
import Derived.Test.YtbabgnadgdidmaaGreatZm00
import Derived.Deep.AppendLies
import Derived.Laws.CopyOwn
import Derived.Deep.MidRow
namespace Go.Proofs.YtbabgnadgdidmaaGreat
open Go.RowKit Mem LebM
namespace DirM
abbrev Col := Nat × List UInt8
def full (l : List Col) : List Col := l.filter (fun c => decide (0 < c.2.length))
def headC (l : List Col) : List UInt8 := l.flatMap (fun c => u c.1 ++ u c.2.length)
def dataC (l : List Col) : List UInt8 := l.flatMap (fun c => c.2)
def putC (l : List Col) : List UInt8 := u (full l).length ++ (headC (full l) ++ dataC (full l))
def findC : List Col → Int → List UInt8
 | [], _ => []
 | c :: l, id => if (c.1 : Int) = id then c.2 else findC l id
def numD (m : Nat) (B : List UInt8) : Nat × Nat × Nat :=
 if (gu B).2.2 ≠ 0 then (0, 0, (gu B).2.2) else if m < (gu B).1 then (0, 0, 4) else ((gu B).1, (gu B).2.1, 0)
def plD : Nat → Int → List UInt8 → Nat × List (Nat × Nat) × List UInt8
 | 0, _, B => (0, [], B)
 | k + 1, last, B =>
  if (numD 1048576 B).2.2 ≠ 0 then ((numD 1048576 B).2.2, [], []) else
  if (numD 1048576 (B.drop (numD 1048576 B).2.1)).2.2 ≠ 0 then ((numD 1048576 (B.drop (numD 1048576 B).2.1)).2.2, [], []) else
  if ((numD 1048576 B).1 : Int) ≤ last ∨ (numD 1048576 (B.drop (numD 1048576 B).2.1)).1 = 0 then (3, [], []) else
  ((plD k (numD 1048576 B).1 ((B.drop (numD 1048576 B).2.1).drop (numD 1048576 (B.drop (numD 1048576 B).2.1)).2.1)).1,
   ((numD 1048576 B).1, (numD 1048576 (B.drop (numD 1048576 B).2.1)).1) :: (plD k (numD 1048576 B).1 ((B.drop (numD 1048576 B).2.1).drop (numD 1048576 (B.drop (numD 1048576 B).2.1)).2.1)).2.1,
   (plD k (numD 1048576 B).1 ((B.drop (numD 1048576 B).2.1).drop (numD 1048576 (B.drop (numD 1048576 B).2.1)).2.1)).2.2)
def coD : List (Nat × Nat) → List UInt8 → Nat × List Col × List UInt8
 | [], B => (0, [], B)
 | p :: P, B => if B.length < p.2 then (2, [], []) else ((coD P (B.drop p.2)).1, (p.1, B.take p.2) :: (coD P (B.drop p.2)).2.1, (coD P (B.drop p.2)).2.2)
def getC (B : List UInt8) : List Col × Nat :=
 if (numD 64 B).2.2 ≠ 0 then ([], (numD 64 B).2.2) else
 if (plD (numD 64 B).1 (-1) (B.drop (numD 64 B).2.1)).1 ≠ 0 then ([], (plD (numD 64 B).1 (-1) (B.drop (numD 64 B).2.1)).1) else
 if (coD (plD (numD 64 B).1 (-1) (B.drop (numD 64 B).2.1)).2.1 (plD (numD 64 B).1 (-1) (B.drop (numD 64 B).2.1)).2.2).1 ≠ 0 then
  ([], (coD (plD (numD 64 B).1 (-1) (B.drop (numD 64 B).2.1)).2.1 (plD (numD 64 B).1 (-1) (B.drop (numD 64 B).2.1)).2.2).1) else
 if 0 < (coD (plD (numD 64 B).1 (-1) (B.drop (numD 64 B).2.1)).2.1 (plD (numD 64 B).1 (-1) (B.drop (numD 64 B).2.1)).2.2).2.2.length then ([], 3) else
 ((coD (plD (numD 64 B).1 (-1) (B.drop (numD 64 B).2.1)).2.1 (plD (numD 64 B).1 (-1) (B.drop (numD 64 B).2.1)).2.2).2.1, 0)
def Ok : Int → List Col → Prop
 | _, [] => True
 | last, c :: l => last < (c.1 : Int) ∧ c.1 ≤ 1048576 ∧ 0 < c.2.length ∧ c.2.length ≤ 1048576 ∧ Ok c.1 l
def pls (l : List Col) : List (Nat × Nat) := l.map (fun c => (c.1, c.2.length))
def headP (P : List (Nat × Nat)) : List UInt8 := P.flatMap (fun p => u p.1 ++ u p.2)
theorem headP_pls (l : List Col) : headP (pls l) = headC l := by
 induction l with
 | nil => rfl
 | cons c l ih => show _ ++ headP (pls l) = _ ++ headC l; rw [ih]
theorem num_u {n m : Nat} (R : List UInt8) (h : n ≤ m) (hn : n < 18446744073709551616) : numD m (u n ++ R) = (n, (u n).length, 0) := by
 unfold numD;rw [gu_back n R hn];simp;omega
theorem gu_ok {B : List UInt8} (h : (gu B).2.2 = 0) : B.take (gu B).2.1 = u (gu B).1 ∧ (gu B).1 < 18446744073709551616 := by
 by_cases h1 : spanE B ≠ 0
 · have e : gu B = (0, 0, spanE B) := by unfold gu; rw [if_pos h1]
   rw [e] at h;exact absurd h h1
 · by_cases h2 : u (val (B.take (spanK B)) % 18446744073709551616) = B.take (spanK B)
   · have e : gu B = (val (B.take (spanK B)) % 18446744073709551616, spanK B, 0) := by unfold gu; rw [if_neg h1, if_pos h2]
     rw [e];exact ⟨h2.symm, Nat.mod_lt _ (by omega)⟩
   · have e : gu B = (0, 0, 3) := by unfold gu; rw [if_neg h1, if_neg h2]
     rw [e] at h;cases h
theorem gu_lt (B : List UInt8) : (gu B).1 < 18446744073709551616 ∧ (gu B).2.1 ≤ B.length ∧ (gu B).2.1 ≤ 10 ∧ (gu B).2.2 ≤ 3 := by
 have h1 := spanK_le B;have h2 := spanE_le B;unfold gu;split
 · simp; exact h2
 · split
   · exact ⟨Nat.mod_lt _ (by omega), h1.1, h1.2, by simp⟩
   · simp
theorem num_ok {m : Nat} {B : List UInt8} (h : (numD m B).2.2 = 0) : B = u (numD m B).1 ++ B.drop (numD m B).2.1 ∧ (numD m B).1 ≤ m := by
 by_cases h1 : (gu B).2.2 ≠ 0
 · have e : numD m B = (0, 0, (gu B).2.2) := by unfold numD; rw [if_pos h1]
   rw [e] at h;exact absurd h h1
 · by_cases h2 : m < (gu B).1
   · have e : numD m B = (0, 0, 4) := by unfold numD; rw [if_neg h1, if_pos h2]
     rw [e] at h;cases h
   · have e : numD m B = ((gu B).1, (gu B).2.1, 0) := by unfold numD; rw [if_neg h1, if_neg h2]
     rw [e];refine ⟨?_, by omega⟩;show B = u (gu B).1 ++ B.drop (gu B).2.1;rw [← (gu_ok (by omega)).1, List.take_append_drop]
theorem drop_u (n : Nat) (R : List UInt8) : (u n ++ R).drop (u n).length = R := List.drop_left
theorem pl_put : ∀ (l : List Col) (last : Int) (R : List UInt8), Ok last l → plD l.length last (headC l ++ R) = (0, pls l, R)
 | [], last, R, _ => rfl
 | c :: l, last, R, h => by
  obtain ⟨h1, h2, h3, h4, h5⟩ := h;have e : headC (c :: l) ++ R = u c.1 ++ (u c.2.length ++ (headC l ++ R)) := by simp [headC]
  rw [e];show plD (l.length + 1) last _ = _;have ih := pl_put l c.1 R h5;unfold plD;rw [num_u _ h2 (by omega)];simp only [drop_u];rw [num_u _ h4 (by omega)];simp only [drop_u];rw [ih, if_neg (by simp), if_neg (by simp), if_neg (by omega)];rfl
theorem co_put : ∀ (l : List Col) (R : List UInt8), coD (pls l) (dataC l ++ R) = (0, l, R)
 | [], R => rfl
 | c :: l, R => by
  have e : dataC (c :: l) ++ R = c.2 ++ (dataC l ++ R) := by simp [dataC]
  rw [e];show coD ((c.1, c.2.length) :: pls l) _ = _;unfold coD;rw [if_neg (by simp), List.drop_left, List.take_left, co_put l R]
theorem ok_full {last : Int} {l : List Col} (h : Ok last l) : full l = l := by
 induction l generalizing last with
 | nil => rfl
 | cons c l ih =>
  obtain ⟨h1, h2, h3, h4, h5⟩ := h;unfold full;rw [List.filter_cons, if_pos (by simpa using h3)];exact congrArg _ (ih h5)
theorem get_put {l : List Col} (h : Ok (-1) l) (hl : l.length ≤ 64) : getC (u l.length ++ (headC l ++ dataC l)) = (l, 0) := by
 unfold getC;rw [num_u _ hl (by omega)];simp only [drop_u];rw [pl_put l (-1) _ h];have hc := co_put l [];rw [List.append_nil] at hc;simp only [hc];simp
theorem pl_ok : ∀ (k : Nat) (last : Int) (B : List UInt8), (plD k last B).1 = 0 → (plD k last B).2.1.length = k ∧ B = headP (plD k last B).2.1 ++ (plD k last B).2.2 ∧
    ∀ l : List Col, pls l = (plD k last B).2.1 → Ok last l
 | 0, last, B, _ => ⟨rfl, rfl, fun l hl => by
     have : l = [] := List.map_eq_nil_iff.1 hl;subst this; exact trivial⟩
 | k + 1, last, B, h => by
  by_cases h1 : (numD 1048576 B).2.2 ≠ 0
  · unfold plD at h;rw [if_pos h1] at h;exact absurd h h1
  · obtain ⟨C, hC⟩ : ∃ C, C = B.drop (numD 1048576 B).2.1 := ⟨_, rfl⟩
    have n1 := num_ok (m := 1048576) (B := B) (by omega);rw [← hC] at n1;by_cases h2 : (numD 1048576 C).2.2 ≠ 0
    · unfold plD at h;rw [← hC, if_neg h1, if_pos h2] at h;exact absurd h h2
    · have n2 := num_ok (m := 1048576) (B := C) (by omega);by_cases h3 : ((numD 1048576 B).1 : Int) ≤ last ∨ (numD 1048576 C).1 = 0
      · unfold plD at h;rw [← hC, if_neg h1, if_neg h2, if_pos h3] at h;cases h
      · obtain ⟨D, hD⟩ : ∃ D, D = C.drop (numD 1048576 C).2.1 := ⟨_, rfl⟩
        have e : plD (k + 1) last B = ((plD k (numD 1048576 B).1 D).1, ((numD 1048576 B).1, (numD 1048576 C).1) :: (plD k (numD 1048576 B).1 D).2.1, (plD k (numD 1048576 B).1 D).2.2) := by
         conv => lhs; unfold plD
         rw [← hC, if_neg h1, if_neg h2, if_neg h3, ← hD]
        rw [e] at h ⊢;obtain ⟨i1, i2, i3⟩ := pl_ok k (numD 1048576 B).1 D h;refine ⟨by simp [i1], ?_, ?_⟩
        · show B = (u (numD 1048576 B).1 ++ u (numD 1048576 C).1) ++ headP _ ++ _;rw [← hD] at n2;rw [List.append_assoc, List.append_assoc, ← i2, ← n2.1, ← n1.1]
        · intro l hl;cases l with
          | nil => cases hl
          | cons c l =>
           simp only [pls, List.map_cons, List.cons.injEq, Prod.mk.injEq] at hl;obtain ⟨⟨e1, e2⟩, e3⟩ := hl;exact ⟨by omega, by omega, by omega, by omega, by rw [e1]; exact i3 l e3⟩
theorem co_ok : ∀ (P : List (Nat × Nat)) (B : List UInt8), (coD P B).1 = 0 → pls (coD P B).2.1 = P ∧ B = dataC (coD P B).2.1 ++ (coD P B).2.2
 | [], B, _ => ⟨rfl, rfl⟩
 | p :: P, B, h => by
  by_cases h1 : B.length < p.2
  · unfold coD at h;rw [if_pos h1] at h;cases h
  · have e : coD (p :: P) B = ((coD P (B.drop p.2)).1, (p.1, B.take p.2) :: (coD P (B.drop p.2)).2.1, (coD P (B.drop p.2)).2.2) := by
     conv => lhs; unfold coD
     rw [if_neg h1]
    rw [e] at h ⊢;obtain ⟨i1, i2⟩ := co_ok P (B.drop p.2) h;refine ⟨?_, ?_⟩
    · show (p.1, (B.take p.2).length) :: pls _ = p :: P;rw [i1, List.length_take, Nat.min_eq_left (by omega)]
    · show B = B.take p.2 ++ dataC _ ++ _;rw [List.append_assoc, ← i2, List.take_append_drop]
theorem put_get {B : List UInt8} (h : (getC B).2 = 0) : (getC B).1.length ≤ 64 ∧ Ok (-1) (getC B).1 ∧ putC (getC B).1 = B := by
 obtain ⟨C, hC⟩ : ∃ C, C = B.drop (numD 64 B).2.1 := ⟨_, rfl⟩
 obtain ⟨p, hp⟩ : ∃ p, p = plD (numD 64 B).1 (-1) C := ⟨_, rfl⟩
 obtain ⟨q, hq⟩ : ∃ q, q = coD p.2.1 p.2.2 := ⟨_, rfl⟩
 have e : getC B = if (numD 64 B).2.2 ≠ 0 then ([], (numD 64 B).2.2) else if p.1 ≠ 0 then ([], p.1) else if q.1 ≠ 0 then ([], q.1) else if 0 < q.2.2.length then ([], 3) else (q.2.1, 0) := by
  unfold getC;rw [← hC, ← hp, ← hq]
 by_cases h1 : (numD 64 B).2.2 ≠ 0
 · rw [e, if_pos h1] at h;exact absurd h h1
 rw [if_neg h1] at e;by_cases h2 : p.1 ≠ 0
 · rw [e, if_pos h2] at h;exact absurd h h2
 rw [if_neg h2] at e;by_cases h3 : q.1 ≠ 0
 · rw [e, if_pos h3] at h;exact absurd h h3
 rw [if_neg h3] at e;by_cases h4 : 0 < q.2.2.length
 · rw [e, if_pos h4] at h;cases h
 rw [if_neg h4] at e;rw [e];have n1 := num_ok (m := 64) (B := B) (by omega);obtain ⟨i1, i2, i3⟩ := pl_ok (numD 64 B).1 (-1) C (by rw [← hp]; omega);rw [← hp] at i1 i2 i3;obtain ⟨j1, j2⟩ := co_ok p.2.1 p.2.2 (by rw [← hq]; omega);rw [← hq] at j1 j2;have hlen : q.2.1.length = (numD 64 B).1 := by rw [← i1, ← j1]; simp [pls]
 have hok := i3 q.2.1 j1;have h0 : q.2.2 = [] := List.eq_nil_of_length_eq_zero (by omega);refine ⟨by show q.2.1.length ≤ 64; omega, hok, ?_⟩;show putC q.2.1 = B;unfold putC;rw [ok_full hok, ← headP_pls, j1, hlen];rw [h0, List.append_nil] at j2;rw [← j2, ← i2, hC, ← n1.1]
end DirM
end Go.Proofs.YtbabgnadgdidmaaGreat
namespace Go.Proofs.YtbabgnadgdidmaaGreat.Mem
section
open Go Go.RowKit
theorem addr_add (g j : Nat) : (⟨g, 0, none⟩ : Addr).add j = ⟨g, j, none⟩ := by unfold Addr.add; split <;> simp_all
section
variable {P : Program}
end
section
variable {P : Program}
theorem step_app {t e : TypeId} {z : Value} {bytes : Nat} (hT : ElemTy P t e z bytes) {ops : Array Oper} {o : Oper} {a : Act} {K : Act → World → Prop} {Q : Exit → Act → World → Prop} {E : Prop} (w : World) (hgd : o.guard = none) (s x : Operand)
    (ho : o.op = .call { callee := .builtin .append, args := #[s, x], argTypes := #[t, t] })
    (base : Nat) (v : Value) (n : Nat) (xs : List Value) (hs : a.eval s = v) (hown : w.ownsRow base e 1 v n xs)
    (A : Option Addr) (m c : Nat) (news : List Value) (hx : a.eval x = .slice A m c) (hr : Rd w A m news) (h1 : ∀ u ∈ news, u.oneCell' = true)
    (N : Nat) (hN : N = n + m) (h63 : N ≤ maxLen) (hbytes : N * bytes ≤ 140737488355328) (hbase : base ≤ w.heap.size)
    (h : ∀ A' c' w', N ≤ c' → w'.ownsRow base e 1 (.slice A' N c') N (xs ++ news) → Fr (fun k => v.ownBlock = some k) w w' → K (a.put o.dst (.slice A' N c')) w') :
    if Region.wanted o (yielded ops a.tmps) = true then Oper.wp P o a w K Q else E := by
 subst hN;have hw : Region.wanted o (yielded ops a.tmps) = true := by simp [Region.wanted, hgd]
 rw [if_pos hw];obtain ⟨v', w', hrun, h2, h3, _⟩ := run_app hT o.type w base v n xs hown A m c news hr h1 h63 hbytes hbase;obtain ⟨A', c', rfl, hc1, _⟩ := own_form h2;unfold Oper.wp execOp;simp only [ho, resolve, invoke, builtin, Sem.run_bind, Sem.run_pure, Result.andThen_ok, List.map_toArray, List.map_cons, List.map_nil, hs, hx, hrun];exact h A' c' w' hc1 h2 h3
end
structure ElemTyS (P : Program) (t e : TypeId) (z : Value) (size bytes : Nat) : Prop where
 und : P.underlying t = some (.slice e)
 info : (P.info? e).map (fun i => (i.zero, i.size, i.bytes)) = some (some z, size, bytes)
 cells : z.cells.size = size
 pos : 0 < size
section
variable {P : Program}
theorem wpList_appS {t e : TypeId} {z : Value} {size bytes : Nat} (hT : ElemTyS P t e z size bytes) {ops : Array Oper} {rest : List Oper} {o : Oper} {a : Act} {Q : Exit → Act → World → Prop} (w : World) (hgd : o.guard = none) (s x : Operand)
    (ho : o.op = .call { callee := .builtin .append, args := #[s, x], argTypes := #[t, t] })
    (base : Nat) (v : Value) (n : Nat) (xs : List Value) (hs : a.eval s = v) (hown : w.ownsRow base e size v n xs)
    (ad : Addr) (c : Nat) (news : List Value) (hx : a.eval x = .slice (some ad) 1 c) (hl : news.length = size) (hnews : ∀ j u, news[j]? = some u → w.cell? (ad.add j) = some u) (h1 : ∀ u ∈ news, u.oneCell' = true)
    (N : Nat) (hN : N = n + 1) (h63 : N ≤ maxLen) (hbytes : N * bytes ≤ 140737488355328) (hbase : base ≤ w.heap.size)
    (h : ∀ A' c' w', w'.ownsRow base e size (.slice A' N c') N (xs ++ news) → N ≤ c' → Fr (fun k => v.ownBlock = some k) w w' → wpList P ops Q rest (a.put o.dst (.slice A' N c')) w') : wpList P ops Q (o :: rest) a w := by
 subst hN;refine wpList_plain hgd fun K hK => ?_;obtain ⟨i, hi, hz, hsz, hb⟩ : ∃ i, P.info? e = some i ∧ i.zero = some z ∧ i.size = size ∧ i.bytes = bytes := by
  have h := hT.info;cases hq : P.info? e with
  | none => rw [hq] at h; cases h
  | some i =>
   rw [hq] at h;simp only [Option.map_some, Option.some.injEq, Prod.mk.injEq] at h;exact ⟨i, rfl, h.1, h.2.1, h.2.2⟩
 obtain ⟨v', w', hr, h2, h3, _, _⟩ := run_append_own_at (P := P) w base t o.type e i z size bytes hT.und hi hz hsz hb hT.cells hT.pos v n xs hown ad 1 c news (by rw [hl, Nat.one_mul]) hnews h1 h63 hbytes hbase;obtain ⟨A', c', rfl, hc1, _⟩ := own_form h2;unfold Oper.wp execOp;simp only [ho, resolve, invoke, builtin, Sem.run_bind, Sem.run_pure, Result.andThen_ok, List.map_toArray, List.map_cons, List.map_nil, hs, hx, hr];exact hK _ _ (h A' c' w' h2 hc1 ((Fr.of_grown h3).mono (fun _ _ h => h)))
theorem step_appS {t e : TypeId} {z : Value} {size bytes : Nat} (hT : ElemTyS P t e z size bytes) {ops : Array Oper} {o : Oper} {a : Act} {K : Act → World → Prop} {Q : Exit → Act → World → Prop} {E : Prop} (w : World) (hgd : o.guard = none) (s x : Operand)
    (ho : o.op = .call { callee := .builtin .append, args := #[s, x], argTypes := #[t, t] })
    (base : Nat) (v : Value) (n : Nat) (xs : List Value) (hs : a.eval s = v) (hown : w.ownsRow base e size v n xs)
    (ad : Addr) (c : Nat) (news : List Value) (hx : a.eval x = .slice (some ad) 1 c) (hl : news.length = size) (hnews : ∀ j u, news[j]? = some u → w.cell? (ad.add j) = some u) (h1 : ∀ u ∈ news, u.oneCell' = true)
    (N : Nat) (hN : N = n + 1) (h63 : N ≤ maxLen) (hbytes : N * bytes ≤ 140737488355328) (hbase : base ≤ w.heap.size)
    (h : ∀ A' c' w', w'.ownsRow base e size (.slice A' N c') N (xs ++ news) → N ≤ c' → Fr (fun k => v.ownBlock = some k) w w' → ((Value.slice A' N c').ownBlock = v.ownBlock ∨ (Value.slice A' N c').ownBlock = some w.heap.size) → K (a.put o.dst (.slice A' N c')) w') :
    if Region.wanted o (yielded ops a.tmps) = true then Oper.wp P o a w K Q else E := by
 subst hN;have hw : Region.wanted o (yielded ops a.tmps) = true := by simp [Region.wanted, hgd]
 rw [if_pos hw];obtain ⟨i, hi, hz, hsz, hb⟩ : ∃ i, P.info? e = some i ∧ i.zero = some z ∧ i.size = size ∧ i.bytes = bytes := by
  have h := hT.info;cases hq : P.info? e with
  | none => rw [hq] at h; cases h
  | some i =>
   rw [hq] at h;simp only [Option.map_some, Option.some.injEq, Prod.mk.injEq] at h;exact ⟨i, rfl, h.1, h.2.1, h.2.2⟩
 obtain ⟨v', w', hr, h2, h3, _, h5⟩ := run_append_own_at (P := P) w base t o.type e i z size bytes hT.und hi hz hsz hb hT.cells hT.pos v n xs hown ad 1 c news (by rw [hl, Nat.one_mul]) hnews h1 h63 hbytes hbase;obtain ⟨A', c', rfl, hc1, _⟩ := own_form h2;unfold Oper.wp execOp;simp only [ho, resolve, invoke, builtin, Sem.run_bind, Sem.run_pure, Result.andThen_ok, List.map_toArray, List.map_cons, List.map_nil, hs, hx, hr];exact h A' c' w' h2 hc1 ((Fr.of_grown h3).mono (fun _ _ h => h)) h5
end
end
section
open Go Go.RowKit
def Row (w : World) (g : Nat) (t : TypeId) (L : List Value) : Prop := w.heap[g]? = some (.cells L.toArray t (0, 0))
section
variable {S : Nat → Prop} {w w' : World} {g : Nat} {t : TypeId} {L : List Value}
theorem Row.fr (h : Row w g t L) (hf : Fr S w w') (hg : ¬ S g) : Row w' g t L := hf.blk h hg
theorem Row.cell (h : Row w g t L) {i : Nat} {u : Value} (hi : L[i]? = some u) : w.cell? ⟨g, i, none⟩ = some u := by
 rw [cell_of_row w g i L.toArray t (0, 0) h]
 simpa using hi
theorem Row.free (h : Row w g t L) (i : Nat) : w.frozen? ⟨g, i, none⟩ = false := by
 have h' : w.heap[g]? = _ := h;simp [World.frozen?, h']
theorem Row.lt (h : Row w g t L) : g < w.heap.size := lt_of_heap h
theorem Row.set (h : Row w g t L) (i : Nat) (u : Value) : Row (w.setCell ⟨g, i, none⟩ u) g t (L.set i u) := by
 have h' : w.heap[g]? = _ := h;unfold Row;simp [World.setCell, Array.getElem?_modify, h']
theorem Row.new (w : World) (t : TypeId) (L : List Value) : Row (w.alloc (.cells L.toArray t)) w.heap.size t L := heap_alloc_new w _
theorem Row.drew (h : Row w g t L) : Row w.drew g t L := h
theorem Row.alloc (h : Row w g t L) (o : Obj) : Row (w.alloc o) g t L := (Fr.refl (fun _ => False) w).alloc o |>.blk h (fun h => h)
theorem Row.other {g' i : Nat} (h : Row w g t L) (hne : g ≠ g') (u : Value) : Row (w.setCell ⟨g', i, none⟩ u) g t L :=
 ((Fr.refl (fun b => b = g') w).setCell (p := ⟨g', i, none⟩) (fun _ => rfl) u).blk h hne
theorem Fr.set1 (w : World) (g i : Nat) (u : Value) : Fr (fun b => b = g) w (w.setCell ⟨g, i, none⟩ u) := (Fr.refl (fun b => b = g) w).setCell (p := ⟨g, i, none⟩) (fun _ => rfl) u
theorem Rd.frp {A : Option Addr} {n : Nat} {xs : List Value} (h : Rd w A n xs) (hf : Fr S w w') (hp : 0 < n → ∀ ad, A = some ad → ¬ S ad.block) : Rd w' A n xs :=
 ⟨h.1, fun hn => by
  obtain ⟨ad, e, hc⟩ := h.2 hn;exact ⟨ad, e, fun j u hu => hf.cell (hc j u hu) (by rw [add_block]; exact hp hn ad e)⟩⟩
theorem Rd.lt {A : Option Addr} {n : Nat} {xs : List Value} (h : Rd w A n xs) (hn : 0 < n) (ad : Addr) (e : A = some ad) : ad.block < w.heap.size := by
 obtain ⟨ad', e', hc⟩ := h.2 hn;rw [e] at e';injection e' with e'
 subst e';have hl : 0 < xs.length := by rw [h.1]; exact hn
 have := World.block_lt_of_cell? w _ (hc 0 _ (List.getElem?_eq_getElem hl));rwa [add_block] at this
theorem Row.rd (h : Row w g t L) (o n : Nat) (ho : o + n ≤ L.length) : Rd w (some ⟨g, o, none⟩) n ((L.drop o).take n) := by
 refine ⟨by simp; omega, fun _ => ⟨_, rfl, fun j u hu => ?_⟩⟩;rw [Addr.add_mid];refine h.cell ?_;have hj := (List.getElem?_eq_some_iff.1 hu).1;rw [List.length_take] at hj;rw [← hu, List.getElem?_take, if_pos (by omega), List.getElem?_drop]
theorem Row.range (h : Row w g t L) (o : Nat) (M : List Value) (hM : ∀ j v, M[j]? = some v → L[o + j]? = some v) : w.rangeAt g o M := fun j v hv => h.cell (hM j v hv)
end
section
variable {P : Program}
theorem step_store_whole {ty : TypeId} {n : Nat} (hs : (P.info? ty).map (·.size) = some n) {ops : Array Oper} {op : Oper} {a : Act} {w : World} {K : Act → World → Prop} {Q : Exit → Act → World → Prop} {E : Prop} (hgd : op.guard = none) (x y : Operand) (ho : op.op = .store ty x y)
    (g : Nat) (hx : a.eval x = .pointer (some ⟨g, 0, none⟩)) (C : Array Value) (hy : a.eval y = .agg C) (old : Array Value) (t : TypeId) (hb : w.heap[g]? = some (.cells old t (0, 0))) (hn : C.size = n) (ho2 : old.size = n) (h1 : C.all (·.oneCell') = true)
    (h : ∀ w', w'.heap[g]? = some (.cells C t (0, 0)) → Fr (fun b => b = g) w w' → K (a.put op.dst undef) w') : if Region.wanted op (yielded ops a.tmps) = true then Oper.wp P op a w K Q else E := by
 have hw : Region.wanted op (yielded ops a.tmps) = true := by simp [Region.wanted, hgd]
 rw [if_pos hw];unfold Oper.wp execOp;simp only [ho, hx, hy, Instr.storeAt, Instr.sureAddr, Sem.run_bind, Sem.run_pure, Result.andThen_ok, run_storeVar_row w g t ty old C hb (by rw [hs, hn]) (by rw [ho2, hn]) h1];exact h _ (setRow_heap w g old C t (0, 0) hb) ⟨rfl, rfl, rfl, by simp [World.setRow], fun b _ hs => setRow_other w g b _ hs⟩
end
end
end Go.Proofs.YtbabgnadgdidmaaGreat.Mem
