/-
  Cells, groups in memory: slices that read as them, rows of one's own. Nothing of any program here.
  append of many elements of several cells onto a row of the call's own.
-/
import Derived.Test.YtbnkahjmeobblaaZm01
import Derived.Test.YtbnkahjmeobblaaZm08
import Derived.Laws.OwnMore
import Derived.Lib.AppendStr
namespace Go.Proofs.Ytbnkahjmeobblaa
open Go.RowKit Mem Go.Lib

/-- a number cell's value, a text cell's value -/
def nv (x : Int) : Value := .int .i64 x
def sv (B : List UInt8) : Value := .string (txt B)
section
variable {β : Type} {f : β → Value}
def ccells (f : β → Value) (c : Bool × β) : List Value := [.bool c.1, f c.2]
def gcells (f : β → Value) (g : (Bool × β) × Nat) : List Value := [.bool g.1.1, f g.1.2, .int .i64 (g.2 : Int)]
/-- a slice reads as these cells, as these groups -/
def Cls (f : β → Value) (w : World) (A : Option Addr) (n : Nat) (L : List (Bool × β)) : Prop := L.length = n ∧ ∀ k t, L[k]? = some t → ∃ g o, A = some ⟨g, o, none⟩ ∧ g < w.heap.size ∧
  w.cell? ⟨g, o + k * 2, none⟩ = some (.bool t.1) ∧ w.cell? ⟨g, o + k * 2 + 1, none⟩ = some (f t.2)
def Grs (f : β → Value) (w : World) (A : Option Addr) (n : Nat) (L : List ((Bool × β) × Nat)) : Prop := L.length = n ∧ ∀ k t, L[k]? = some t → ∃ g o, A = some ⟨g, o, none⟩ ∧ g < w.heap.size ∧
  w.cell? ⟨g, o + k * 3, none⟩ = some (.bool t.1.1) ∧ w.cell? ⟨g, o + k * 3 + 1, none⟩ = some (f t.1.2) ∧ w.cell? ⟨g, o + k * 3 + 2, none⟩ = some (.int .i64 (t.2 : Int))
theorem Cls.fr {S : Nat → Prop} {w w' : World} {A : Option Addr} {n : Nat} {L : List (Bool × β)} (h : Cls f w A n L) (hf : Fr S w w') (hS : ∀ ad, A = some ad → ¬ S ad.block) : Cls f w' A n L :=
  ⟨h.1, fun k t hk => by
    obtain ⟨g, o, e, hg, h1, h2⟩ := h.2 k t hk
    exact ⟨g, o, e, Nat.lt_of_lt_of_le hg hf.size, hf.cell h1 (hS ⟨g, o, none⟩ e), hf.cell h2 (hS ⟨g, o, none⟩ e)⟩⟩
theorem Grs.fr {S : Nat → Prop} {w w' : World} {A : Option Addr} {n : Nat} {L : List ((Bool × β) × Nat)} (h : Grs f w A n L) (hf : Fr S w w') (hS : ∀ ad, A = some ad → ¬ S ad.block) : Grs f w' A n L :=
  ⟨h.1, fun k t hk => by
    obtain ⟨g, o, e, hg, h1, h2, h3⟩ := h.2 k t hk
    exact ⟨g, o, e, Nat.lt_of_lt_of_le hg hf.size, hf.cell h1 (hS ⟨g, o, none⟩ e), hf.cell h2 (hS ⟨g, o, none⟩ e), hf.cell h3 (hS ⟨g, o, none⟩ e)⟩⟩
theorem Cls.nil (w : World) (A : Option Addr) : Cls f w A 0 [] := ⟨rfl, fun k t h => by simp at h⟩
theorem Grs.nil (w : World) (A : Option Addr) : Grs f w A 0 [] := ⟨rfl, fun k t h => by simp at h⟩
theorem mid_add (g o k : Nat) : (⟨g, o, none⟩ : Addr).add k = ⟨g, o + k, none⟩ := by unfold Addr.add; split <;> simp_all
/-- 'l[k:]', 'l[:m]' as the walk leaves them -/
theorem Grs.drop {w : World} {A : Option Addr} {n : Nat} {L : List ((Bool × β) × Nat)} (h : Grs f w A n L) (c k : Nat) (hk : k ≤ n) (hc : n ≤ c) : Grs f w (if c = k then A else A.map (·.add (k * 3))) (n - k) (L.drop k) := by
  refine ⟨by rw [List.length_drop, h.1], fun j t hj => ?_⟩
  have hl := (List.getElem?_eq_some_iff.1 hj).1
  rw [List.length_drop, h.1] at hl
  rw [List.getElem?_drop] at hj
  obtain ⟨g, o, rfl, hg, h1, h2, h3⟩ := h.2 _ t hj
  rw [if_neg (by omega)]
  have e : o + k * 3 + j * 3 = o + (k + j) * 3 := by omega
  exact ⟨g, o + k * 3, by simp [mid_add], hg, by rw [e]; exact h1, by rw [e]; exact h2, by rw [e]; exact h3⟩
theorem Grs.take {w : World} {A : Option Addr} {n : Nat} {L : List ((Bool × β) × Nat)} (h : Grs f w A n L) (k : Nat) (hk : k ≤ n) : Grs f w A k (L.take k) := by
  refine ⟨by rw [List.length_take, h.1]; omega, fun j t hj => h.2 j t ?_⟩
  rw [List.getElem?_take] at hj
  split at hj
  · exact hj
  · cases hj
theorem Cls.drop {w : World} {A : Option Addr} {n : Nat} {L : List (Bool × β)} (h : Cls f w A n L) (c k : Nat) (hk : k ≤ n) (hc : n ≤ c) : Cls f w (if c = k then A else A.map (·.add (k * 2))) (n - k) (L.drop k) := by
  refine ⟨by rw [List.length_drop, h.1], fun j t hj => ?_⟩
  have hl := (List.getElem?_eq_some_iff.1 hj).1
  rw [List.length_drop, h.1] at hl
  rw [List.getElem?_drop] at hj
  obtain ⟨g, o, rfl, hg, h1, h2⟩ := h.2 _ t hj
  rw [if_neg (by omega)]
  have e : o + k * 2 + j * 2 = o + (k + j) * 2 := by omega
  exact ⟨g, o + k * 2, by simp [mid_add], hg, by rw [e]; exact h1, by rw [e]; exact h2⟩
theorem Cls.take {w : World} {A : Option Addr} {n : Nat} {L : List (Bool × β)} (h : Cls f w A n L) (k : Nat) (hk : k ≤ n) : Cls f w A k (L.take k) := by
  refine ⟨by rw [List.length_take, h.1]; omega, fun j t hj => h.2 j t ?_⟩
  rw [List.getElem?_take] at hj
  split at hj
  · exact hj
  · cases hj
/-- a piece of a list of lists of one length -/
theorem flat_k {γ δ : Type} (p : γ → List δ) (m : Nat) (hp : ∀ t, (p t).length = m) : ∀ (T : List γ) (k : Nat) (t : γ), T[k]? = some t → ∀ j, j < m → (T.flatMap p)[k * m + j]? = (p t)[j]?
  | [], k, t, h, j, hj => by simp at h
  | s :: T, 0, t, h, j, hj => by
    simp at h
    subst h
    rw [List.flatMap_cons, List.getElem?_append_left (by rw [hp]; omega), Nat.zero_mul, Nat.zero_add]
  | s :: T, k + 1, t, h, j, hj => by
    have e : (k + 1) * m = k * m + m := by rw [Nat.add_mul, Nat.one_mul]
    rw [List.flatMap_cons, List.getElem?_append_right (by rw [hp, e]; omega), hp, show (k + 1) * m + j - m = k * m + j by rw [e]; omega]
    exact flat_k p m hp T k t (by simpa using h) j hj
theorem flat_klen {γ δ : Type} (p : γ → List δ) (m : Nat) (hp : ∀ t, (p t).length = m) (T : List γ) : (T.flatMap p).length = T.length * m := by
  induction T with
  | nil => simp
  | cons t T ih => rw [List.flatMap_cons, List.length_append, ih, hp, List.length_cons, Nat.add_mul, Nat.one_mul, Nat.add_comm]
/-- rows of one's own, of elements of type T -/
def OwnC (f : β → Value) (T : TypeId) (w : World) (base : Nat) (A : Option Addr) (c : Nat) (L : List (Bool × β)) : Prop := w.ownsRow base T 2 (.slice A L.length c) L.length (L.flatMap (ccells f))
def OwnG (f : β → Value) (T : TypeId) (w : World) (base : Nat) (A : Option Addr) (c : Nat) (L : List ((Bool × β) × Nat)) : Prop := w.ownsRow base T 3 (.slice A L.length c) L.length (L.flatMap (gcells f))
theorem OwnC.nil (T : TypeId) (w : World) (base : Nat) : OwnC f T w base none 0 [] := World.ownsRow_nil _ _ _ _
theorem OwnG.nil (T : TypeId) (w : World) (base : Nat) : OwnG f T w base none 0 [] := World.ownsRow_nil _ _ _ _
theorem own_fr {S : Nat → Prop} {w w' : World} {base : Nat} {e : TypeId} {size : Nat} {A : Option Addr} {n m c : Nat} {xs : List Value} (h : w.ownsRow base e size (.slice A m c) n xs) (hf : Fr S w w') (hS : ∀ ad, A = some ad → ¬ S ad.block) : w'.ownsRow base e size (.slice A m c) n xs :=
  hf.own h (fun k hk => by
    cases A with
    | none => cases hk
    | some ad => have h1 : ad.block = k := by simpa [Value.ownBlock] using hk
                 rw [← h1]; exact hS ad rfl)
theorem OwnC.cls {T : TypeId} {w : World} {base c : Nat} {A : Option Addr} {L : List (Bool × β)} (h : OwnC f T w base A c L) : Cls f w A L.length L := by
  refine ⟨rfl, fun k t ht => ?_⟩
  have hk := (List.getElem?_eq_some_iff.1 ht).1
  rcases h.2 with ⟨hv, h0⟩ | ⟨g, cap, cur, hv, _⟩
  · injection hv with _ h1 h2
    omega
  · have hA : A = some ⟨g, 0, none⟩ := by injection hv
    subst hA
    have hc := h.cells (g := g) rfl
    have hadd : ∀ j, (⟨g, 0, none⟩ : Addr).add j = ⟨g, j, none⟩ := fun j => by unfold Addr.add; split <;> simp_all
    refine ⟨g, 0, rfl, (h.lt g rfl).2, ?_, ?_⟩
    · rw [← hadd]; exact hc _ _ (by have := flat_k (ccells f) 2 (fun _ => rfl) L k t ht 0 (by omega); simpa [ccells] using this)
    · rw [Nat.add_assoc, Nat.zero_add, ← hadd]; exact hc _ _ (by have := flat_k (ccells f) 2 (fun _ => rfl) L k t ht 1 (by omega); simpa [ccells] using this)
theorem OwnG.grs {T : TypeId} {w : World} {base c : Nat} {A : Option Addr} {L : List ((Bool × β) × Nat)} (h : OwnG f T w base A c L) : Grs f w A L.length L := by
  refine ⟨rfl, fun k t ht => ?_⟩
  have hk := (List.getElem?_eq_some_iff.1 ht).1
  rcases h.2 with ⟨hv, h0⟩ | ⟨g, cap, cur, hv, _⟩
  · injection hv with _ h1 h2
    omega
  · have hA : A = some ⟨g, 0, none⟩ := by injection hv
    subst hA
    have hc := h.cells (g := g) rfl
    have hadd : ∀ j, (⟨g, 0, none⟩ : Addr).add j = ⟨g, j, none⟩ := fun j => by unfold Addr.add; split <;> simp_all
    refine ⟨g, 0, rfl, (h.lt g rfl).2, ?_, ?_, ?_⟩
    · rw [← hadd]; exact hc _ _ (by have := flat_k (gcells f) 3 (fun _ => rfl) L k t ht 0 (by omega); simpa [gcells] using this)
    · rw [Nat.add_assoc, Nat.zero_add, ← hadd]; exact hc _ _ (by have := flat_k (gcells f) 3 (fun _ => rfl) L k t ht 1 (by omega); simpa [gcells] using this)
    · rw [Nat.add_assoc, Nat.zero_add, ← hadd]; exact hc _ _ (by have := flat_k (gcells f) 3 (fun _ => rfl) L k t ht 2 (by omega); simpa [gcells] using this)
theorem OwnC.base {T : TypeId} {w : World} {b b' c : Nat} {A : Option Addr} {L : List (Bool × β)} (h : OwnC f T w b A c L) (hb : b' ≤ b) : OwnC f T w b' A c L := own_base h hb
theorem OwnG.base {T : TypeId} {w : World} {b b' c : Nat} {A : Option Addr} {L : List ((Bool × β) × Nat)} (h : OwnG f T w b A c L) (hb : b' ≤ b) : OwnG f T w b' A c L := own_base h hb
theorem OwnC.fr {T : TypeId} {w w' : World} {base c : Nat} {A : Option Addr} {L : List (Bool × β)} (h : OwnC f T w base A c L) (hf : Fr (fun _ => False) w w') : OwnC f T w' base A c L := hf.own h (fun _ _ h => h)
theorem OwnG.fr {T : TypeId} {w w' : World} {base c : Nat} {A : Option Addr} {L : List ((Bool × β) × Nat)} (h : OwnG f T w base A c L) (hf : Fr (fun _ => False) w w') : OwnG f T w' base A c L := hf.own h (fun _ _ h => h)
theorem OwnC.snoc {T : TypeId} {w : World} {base c : Nat} {A : Option Addr} {L : List (Bool × β)} {t : Bool × β} {N : Nat} (hN : N = L.length + 1) (h : w.ownsRow base T 2 (.slice A N c) N (L.flatMap (ccells f) ++ ccells f t)) : OwnC f T w base A c (L ++ [t]) := by
  unfold OwnC
  rw [List.flatMap_append, List.flatMap_singleton, List.length_append, List.length_singleton, ← hN]
  exact h
theorem OwnG.snoc {T : TypeId} {w : World} {base c : Nat} {A : Option Addr} {L : List ((Bool × β) × Nat)} {t : (Bool × β) × Nat} {N : Nat} (hN : N = L.length + 1) (h : w.ownsRow base T 3 (.slice A N c) N (L.flatMap (gcells f) ++ gcells f t)) : OwnG f T w base A c (L ++ [t]) := by
  unfold OwnG
  rw [List.flatMap_append, List.flatMap_singleton, List.length_append, List.length_singleton, ← hN]
  exact h
/-- how often the last group comes is turned -/
theorem OwnG.last {T : TypeId} {w : World} {base g c m : Nat} {L : List ((Bool × β) × Nat)} {d : Bool × β} (h : OwnG f T w base (some ⟨g, 0, none⟩) c (L ++ [(d, m)])) (m' : Nat) :
    OwnG f T (w.setCell ⟨g, L.length * 3 + 2, none⟩ (.int .i64 (m' : Int))) base (some ⟨g, 0, none⟩) c (L ++ [(d, m')]) := by
  have hl : (L ++ [(d, m')]).length = (L ++ [(d, m)]).length := by simp
  unfold OwnG at h ⊢
  rw [hl]
  have h2 := (h.stored (L.length * 3 + 2) (.int .i64 (m' : Int))).1
  have e : ((L ++ [(d, m)]).flatMap (gcells f)).set (L.length * 3 + 2) (.int .i64 (m' : Int)) = (L ++ [(d, m')]).flatMap (gcells f) := by
    rw [List.flatMap_append, List.flatMap_append, List.set_append_right _ _ (by rw [flat_klen _ 3 (fun _ => rfl)]; omega), flat_klen _ 3 (fun _ => rfl), Nat.add_sub_cancel_left]
    rfl
  rw [e] at h2
  exact h2
/-- a new block's cells -/
theorem new_at {w : World} {k : Nat} (hk : k = w.heap.size) (xs : List Value) (t : TypeId) : ∀ j x, xs[j]? = some x → (w.alloc (.cells xs.toArray t)).cell? ((⟨k, 0, none⟩ : Addr).add j) = some x := by
  subst hk
  intro j x hx
  have hl : 0 < xs.length := by have := (List.getElem?_eq_some_iff.1 hx).1; omega
  obtain ⟨ad, e, h⟩ := (Rd.cells rfl xs t).2 hl
  injection e with e
  subst e
  exact h j x hx
end
/-- append of one element of several cells, and where the row lies then -/
theorem wpList_appS2 {P : Program} {t e : TypeId} {z : Value} {size bytes : Nat} (hT : ElemTyS P t e z size bytes) {ops : Array Oper} {rest : List Oper} {o : Oper} {a : Act} {Q : Exit → Act → World → Prop} (w : World) (hgd : o.guard = none) (s x : Operand)
    (ho : o.op = .call { callee := .builtin .append, args := #[s, x], argTypes := #[t, t] })
    (base : Nat) (v : Value) (n : Nat) (xs : List Value) (hs : a.eval s = v) (hown : w.ownsRow base e size v n xs)
    (ad : Addr) (c : Nat) (news : List Value) (hx : a.eval x = .slice (some ad) 1 c) (hl : news.length = size) (hnews : ∀ j u, news[j]? = some u → w.cell? (ad.add j) = some u) (h1 : ∀ u ∈ news, u.oneCell' = true)
    (N : Nat) (hN : N = n + 1) (h63 : N ≤ maxLen) (hbytes : N * bytes ≤ 140737488355328) (hbase : base ≤ w.heap.size)
    (h : ∀ A' c' w', w'.ownsRow base e size (.slice A' N c') N (xs ++ news) → N ≤ c' → Fr (fun k => v.ownBlock = some k) w w' → ((Value.slice A' N c').ownBlock = v.ownBlock ∨ (Value.slice A' N c').ownBlock = some w.heap.size) → wpList P ops Q rest (a.put o.dst (.slice A' N c')) w') : wpList P ops Q (o :: rest) a w := by
  subst hN
  refine wpList_plain hgd fun K hK => ?_
  obtain ⟨i, hi, hz, hsz, hb⟩ : ∃ i, P.info? e = some i ∧ i.zero = some z ∧ i.size = size ∧ i.bytes = bytes := by
    have h := hT.info
    cases hq : P.info? e with
    | none => rw [hq] at h; cases h
    | some i =>
      rw [hq] at h
      simp only [Option.map_some, Option.some.injEq, Prod.mk.injEq] at h
      exact ⟨i, rfl, h.1, h.2.1, h.2.2⟩
  obtain ⟨v', w', hr, h2, h3, _, h5⟩ := run_append_own_at (P := P) w base t o.type e i z size bytes hT.und hi hz hsz hb hT.cells hT.pos v n xs hown ad 1 c news (by rw [hl, Nat.one_mul]) hnews h1 h63 hbytes hbase
  obtain ⟨A', c', rfl, hc1, _⟩ := own_form h2
  unfold Oper.wp execOp
  simp only [ho, resolve, invoke, builtin, Sem.run_bind, Sem.run_pure, Result.andThen_ok, List.map_toArray, List.map_cons, List.map_nil, hs, hx, hr]
  exact hK _ _ (h A' c' w' h2 hc1 ((Fr.of_grown h3).mono (fun _ _ h => h)) h5)
/-- append of a text onto a row of one's own -/
theorem wpList_app_txt {P : Program} {t u e : TypeId} (ht : P.underlying t = some (.slice e)) (hu : P.underlying u = some .string) (hi : (P.info? e).map (fun i => (i.zero, i.size, i.bytes)) = some (some (.int .u8 0), 1, 1))
    {ops : Array Oper} {rest : List Oper} {o : Oper} {a : Act} {Q : Exit → Act → World → Prop} (w : World) (hgd : o.guard = none) (s x : Operand)
    (ho : o.op = .call { callee := .builtin .append, args := #[s, x], argTypes := #[t, u] }) (base : Nat) (A : Option Addr) (c : Nat) (B C : List UInt8) (T : ByteArray) (hT : T = txt C)
    (hs : a.eval s = .slice A B.length c) (hown : w.ownsRow base e 1 (.slice A B.length c) B.length (B.map bytec)) (hx : a.eval x = .string T)
    (D : List UInt8) (hD : D = B ++ C) (hfit : D.length ≤ 1000000000) (hbase : base ≤ w.heap.size)
    (h : ∀ A' c' w', w'.ownsRow base e 1 (.slice A' D.length c') D.length (D.map bytec) → Fr (fun k => (Value.slice A B.length c).ownBlock = some k) w w' → wpList P ops Q rest (a.put o.dst (.slice A' D.length c')) w') : wpList P ops Q (o :: rest) a w := by
  subst hD hT
  obtain ⟨i, hi2, hz, hs1, hb1⟩ := info_parts hi
  have hsz : (txt C).size = C.length := rfl
  have hst : strCells (txt C) = C.map bytec := by
    unfold strCells txt
    rfl
  rw [List.length_append] at hfit
  refine wpList_append_own_string w hgd s x t u ho base e i ht hu hi2 hz hs1 hb1 _ _ _ hs hown _ hx (by rw [hsz]; unfold maxLen; omega) (by rw [hsz]; omega) hbase (fun v' w' h2 h3 _ => ?_)
  obtain ⟨A', c', rfl, _, _⟩ := own_form h2
  rw [hst, hsz] at h2
  have e1 : (B ++ C).length = B.length + C.length := List.length_append
  rw [hsz, ← e1]
  rw [← e1, ← List.map_append] at h2
  exact h A' c' w' h2 ((Fr.of_grown h3).mono (fun _ _ h => h))
/-- the same, at a step of a region that draws its order -/
theorem step_app_txt {P : Program} {t u e : TypeId} (ht : P.underlying t = some (.slice e)) (hu : P.underlying u = some .string) (hi : (P.info? e).map (fun i => (i.zero, i.size, i.bytes)) = some (some (.int .u8 0), 1, 1))
    {ops : Array Oper} {o : Oper} {a : Act} {K : Act → World → Prop} {Q : Exit → Act → World → Prop} {E : Prop} (w : World) (hgd : o.guard = none) (s x : Operand)
    (ho : o.op = .call { callee := .builtin .append, args := #[s, x], argTypes := #[t, u] }) (base : Nat) (A : Option Addr) (c : Nat) (B C : List UInt8) (T : ByteArray) (hT : T = txt C)
    (hs : a.eval s = .slice A B.length c) (hown : w.ownsRow base e 1 (.slice A B.length c) B.length (B.map bytec)) (hx : a.eval x = .string T)
    (D : List UInt8) (hD : D = B ++ C) (hfit : D.length ≤ 1000000000) (hbase : base ≤ w.heap.size)
    (h : ∀ A' c' w', w'.ownsRow base e 1 (.slice A' D.length c') D.length (D.map bytec) → Fr (fun k => (Value.slice A B.length c).ownBlock = some k) w w' → K (a.put o.dst (.slice A' D.length c')) w') :
    if Region.wanted o (yielded ops a.tmps) = true then Oper.wp P o a w K Q else E := by
  subst hD hT
  have hw : Region.wanted o (yielded ops a.tmps) = true := by simp [Region.wanted, hgd]
  rw [if_pos hw]
  obtain ⟨i, hi2, hz, hs1, hb1⟩ := info_parts hi
  have hsz : (txt C).size = C.length := rfl
  have hst : strCells (txt C) = C.map bytec := by
    unfold strCells txt
    rfl
  rw [List.length_append] at hfit
  obtain ⟨v', w', hr, h2, h3, -⟩ := run_append_own_string (P := P) w base t u o.type e i ht hu hi2 hz hs1 hb1 _ _ _ hown (txt C) (by rw [hsz]; unfold maxLen; omega) (by rw [hsz]; omega) hbase
  obtain ⟨A', c', rfl, _, _⟩ := own_form h2
  rw [hst, hsz] at h2
  have e1 : (B ++ C).length = B.length + C.length := List.length_append
  rw [hsz] at hr
  rw [← e1] at hr
  rw [← e1, ← List.map_append] at h2
  unfold Oper.wp execOp
  simp only [ho, resolve, invoke, builtin, Sem.run_bind, Sem.run_pure, Result.andThen_ok, List.map_toArray, List.map_cons, List.map_nil, hs, hx, hr]
  exact h A' c' w' h2 ((Fr.of_grown h3).mono (fun _ _ h => h))
end Go.Proofs.Ytbnkahjmeobblaa
namespace Go.Proofs.Ytbnkahjmeobblaa
open Go Go.RowKit Mem Go.Lib

theorem wpList_appM {P : Program} {t e : TypeId} {z : Value} {size bytes : Nat} (hT : ElemTyS P t e z size bytes) {ops : Array Oper} {rest : List Oper} {o : Oper} {a : Act} {Q : Exit → Act → World → Prop} (w : World) (hgd : o.guard = none) (s x : Operand)
    (ho : o.op = .call { callee := .builtin .append, args := #[s, x], argTypes := #[t, t] })
    (base : Nat) (v : Value) (n : Nat) (xs : List Value) (hs : a.eval s = v) (hown : w.ownsRow base e size v n xs)
    (ad : Addr) (m c : Nat) (news : List Value) (hx : a.eval x = .slice (some ad) m c) (hl : news.length = m * size) (hnews : ∀ j u, news[j]? = some u → w.cell? (ad.add j) = some u) (h1 : ∀ u ∈ news, u.oneCell' = true)
    (N : Nat) (hN : N = n + m) (h63 : N ≤ maxLen) (hbytes : N * bytes ≤ 140737488355328) (hbase : base ≤ w.heap.size)
    (h : ∀ A' c' w', w'.ownsRow base e size (.slice A' N c') N (xs ++ news) → N ≤ c' → Fr (fun k => v.ownBlock = some k) w w' → ((Value.slice A' N c').ownBlock = v.ownBlock ∨ (Value.slice A' N c').ownBlock = some w.heap.size) → wpList P ops Q rest (a.put o.dst (.slice A' N c')) w') : wpList P ops Q (o :: rest) a w := by
  subst hN
  refine wpList_plain hgd fun K hK => ?_
  obtain ⟨i, hi, hz, hsz, hb⟩ : ∃ i, P.info? e = some i ∧ i.zero = some z ∧ i.size = size ∧ i.bytes = bytes := by
    have h := hT.info
    cases hq : P.info? e with
    | none => rw [hq] at h; cases h
    | some i =>
      rw [hq] at h
      simp only [Option.map_some, Option.some.injEq, Prod.mk.injEq] at h
      exact ⟨i, rfl, h.1, h.2.1, h.2.2⟩
  obtain ⟨v', w', hr, h2, h3, _, h5⟩ := run_append_own_at (P := P) w base t o.type e i z size bytes hT.und hi hz hsz hb hT.cells hT.pos v n xs hown ad m c news hl hnews h1 h63 hbytes hbase
  obtain ⟨A', c', rfl, hc1, _⟩ := own_form h2
  unfold Oper.wp execOp
  simp only [ho, resolve, invoke, builtin, Sem.run_bind, Sem.run_pure, Result.andThen_ok, List.map_toArray, List.map_cons, List.map_nil, hs, hx, hr]
  exact hK _ _ (h A' c' w' h2 hc1 ((Fr.of_grown h3).mono (fun _ _ h => h)) h5)
section
variable {β : Type} {f : β → Value}
/-- all the cells of a slice that reads as L -/
theorem Cls.cells {w : World} {g o n : Nat} {L : List (Bool × β)} (h : Cls f w (some ⟨g, o, none⟩) n L) : ∀ j u, (L.flatMap (ccells f))[j]? = some u → w.cell? ((⟨g, o, none⟩ : Addr).add j) = some u := by
  intro j u hj
  have hl := (List.getElem?_eq_some_iff.1 hj).1
  rw [flat_klen (ccells f) 2 (fun _ => rfl)] at hl
  obtain ⟨t, ht⟩ : ∃ t, L[j / 2]? = some t := ⟨_, List.getElem?_eq_getElem (by omega)⟩
  obtain ⟨g', o', e, _, h0, h1⟩ := h.2 _ t ht
  injection e with e
  injection e with e1 e2
  subst e1 e2
  have hf := flat_k (ccells f) 2 (fun _ => rfl) L (j / 2) t ht (j % 2) (by omega)
  rw [show j / 2 * 2 + j % 2 = j by omega, hj] at hf
  rw [mid_add]
  rcases (show j % 2 = 0 ∨ j % 2 = 1 by omega) with e | e
  · rw [e] at hf
    rw [show o + j = o + j / 2 * 2 by omega, h0]
    exact hf.symm
  · rw [e] at hf
    rw [show o + j = o + j / 2 * 2 + 1 by omega, h1]
    exact hf.symm
end
end Go.Proofs.Ytbnkahjmeobblaa
