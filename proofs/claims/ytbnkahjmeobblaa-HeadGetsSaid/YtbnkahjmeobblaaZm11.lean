/-
  Rows of pairs (two cells each) in memory: slices that read as them, rows of one's own; columns, whose second cell is a slice of bytes; append where one wants to know where the row lies.
  A region that draws its order, whose last operations wait for all others: the head in any order, a condition kept there alone; the tail one by one. Nothing of any program here.
-/
import Derived.Test.YtbnkahjmeobblaaZm07
import Derived.Test.YtbnkahjmeobblaaZm09
import Derived.Test.YtbnkahjmeobblaaZm10
import Derived.StillTail
namespace Go.Proofs.Ytbnkahjmeobblaa
open Go Go.RowKit Mem Go.Lib LebM DirM
set_option linter.unusedVariables false

section
variable {τ : Type} {p q : τ → Value}
def pcells (p q : τ → Value) (t : τ) : List Value := [p t, q t]
/-- a slice reads as these pairs -/
def Prs (p q : τ → Value) (w : World) (A : Option Addr) (n : Nat) (L : List τ) : Prop := L.length = n ∧ ∀ k t, L[k]? = some t → ∃ g o, A = some ⟨g, o, none⟩ ∧ g < w.heap.size ∧
  w.cell? ⟨g, o + k * 2, none⟩ = some (p t) ∧ w.cell? ⟨g, o + k * 2 + 1, none⟩ = some (q t)
theorem Prs.fr {S : Nat → Prop} {w w' : World} {A : Option Addr} {n : Nat} {L : List τ} (h : Prs p q w A n L) (hf : Fr S w w') (hS : ∀ ad, A = some ad → ¬ S ad.block) : Prs p q w' A n L :=
  ⟨h.1, fun k t hk => by
    obtain ⟨g, o, e, hg, h1, h2⟩ := h.2 k t hk
    exact ⟨g, o, e, Nat.lt_of_lt_of_le hg hf.size, hf.cell h1 (hS ⟨g, o, none⟩ e), hf.cell h2 (hS ⟨g, o, none⟩ e)⟩⟩
theorem Prs.nil (w : World) (A : Option Addr) : Prs p q w A 0 [] := ⟨rfl, fun k t h => by simp at h⟩
/-- a row of one's own, of elements of type T -/
def OwnP (p q : τ → Value) (T : TypeId) (w : World) (base : Nat) (A : Option Addr) (c : Nat) (L : List τ) : Prop := w.ownsRow base T 2 (.slice A L.length c) L.length (L.flatMap (pcells p q))
theorem OwnP.nil (T : TypeId) (w : World) (base : Nat) : OwnP p q T w base none 0 [] := World.ownsRow_nil _ _ _ _
theorem OwnP.prs {T : TypeId} {w : World} {base c : Nat} {A : Option Addr} {L : List τ} (h : OwnP p q T w base A c L) : Prs p q w A L.length L := by
  refine ⟨rfl, fun k t ht => ?_⟩
  have hk := (List.getElem?_eq_some_iff.1 ht).1
  rcases h.2 with ⟨hv, h0⟩ | ⟨g, cap, cur, hv, _⟩
  · injection hv with _ h1 h2
    omega
  · have hA : A = some ⟨g, 0, none⟩ := by injection hv
    subst hA
    have hc := h.cells (g := g) rfl
    have hadd : ∀ j, (⟨g, 0, none⟩ : Addr).add j = ⟨g, j, none⟩ := fun j => by unfold Addr.add; split <;> simp_all
    refine ⟨g, 0, rfl, (h.lt g rfl).2, ?_, ?_⟩
    · rw [← hadd]; exact hc _ _ (by have := flat_k (pcells p q) 2 (fun _ => rfl) L k t ht 0 (by omega); simpa [pcells] using this)
    · rw [Nat.add_assoc, Nat.zero_add, ← hadd]; exact hc _ _ (by have := flat_k (pcells p q) 2 (fun _ => rfl) L k t ht 1 (by omega); simpa [pcells] using this)
theorem OwnP.base {T : TypeId} {w : World} {b b' c : Nat} {A : Option Addr} {L : List τ} (h : OwnP p q T w b A c L) (hb : b' ≤ b) : OwnP p q T w b' A c L := own_base h hb
theorem OwnP.fr {T : TypeId} {w w' : World} {base c : Nat} {A : Option Addr} {L : List τ} (h : OwnP p q T w base A c L) (hf : Fr (fun _ => False) w w') : OwnP p q T w' base A c L := hf.own h (fun _ _ h => h)
theorem OwnP.frS {S : Nat → Prop} {T : TypeId} {w w' : World} {base c : Nat} {A : Option Addr} {L : List τ} (h : OwnP p q T w base A c L) (hf : Fr S w w') (hS : ∀ k, base ≤ k → ¬ S k) : OwnP p q T w' base A c L :=
  hf.own h (fun k hk => hS k (h.lt k hk).1)
theorem OwnP.snoc {T : TypeId} {w : World} {base c : Nat} {A : Option Addr} {L : List τ} {t : τ} {N : Nat} (hN : N = L.length + 1) (h : w.ownsRow base T 2 (.slice A N c) N (L.flatMap (pcells p q) ++ pcells p q t)) : OwnP p q T w base A c (L ++ [t]) := by
  unfold OwnP
  rw [List.flatMap_append, List.flatMap_singleton, List.length_append, List.length_singleton, ← hN]
  exact h
theorem pcells_len (L : List τ) : (L.flatMap (pcells p q)).length = L.length * 2 := flat_klen _ 2 (fun _ => rfl) L
theorem pcells_set : ∀ (L : List τ) (k : Nat) (t u : τ), L[k]? = some t → p t = p u → (L.flatMap (pcells p q)).set (k * 2 + 1) (q u) = (L.set k u).flatMap (pcells p q)
  | [], k, t, u, h, _ => by simp at h
  | x :: L, 0, t, u, h, hp => by
    simp at h
    subst h
    simp [pcells, hp]
  | x :: L, k + 1, t, u, h, hp => by
    have e : (k + 1) * 2 + 1 = (k * 2 + 1) + 1 + 1 := by omega
    rw [e]
    show _ :: _ :: (L.flatMap (pcells p q)).set (k * 2 + 1) (q u) = _ :: _ :: (L.set k u).flatMap (pcells p q)
    rw [pcells_set L k t u (by simpa using h) hp]
end
/-- append of bytes onto a row of one's own, and where the row lies then -/
theorem u8S : ElemTyS Try.prog 29 5 (.int .u8 0) 1 1 := ⟨Try.underlying29, by kernel_rfl, rfl, by decide⟩
theorem wpList_appB {ops : Array Oper} {rest : List Oper} {o : Oper} {a : Act} {Q : Exit → Act → World → Prop} (w : World) (hgd : o.guard = none) (s x : Operand)
    (ho : o.op = .call { callee := .builtin .append, args := #[s, x], argTypes := #[29, 29] })
    (base : Nat) (A : Option Addr) (c : Nat) (B : List UInt8) (hs : a.eval s = .slice A B.length c) (hown : Own w base A c B)
    (A2 : Option Addr) (m c2 : Nat) (C : List UInt8) (hx : a.eval x = .slice A2 m c2) (hr : Rd w A2 m (C.map bytec)) (hm : 0 < m)
    (D : List UInt8) (hD : D = B ++ C) (h63 : D.length ≤ 1000000000000) (hbase : base ≤ w.heap.size)
    (h : ∀ A' c' w', Own w' base A' c' D → Fr (fun k => (Value.slice A B.length c).ownBlock = some k) w w' → ((Value.slice A' D.length c').ownBlock = (Value.slice A B.length c).ownBlock ∨ (Value.slice A' D.length c').ownBlock = some w.heap.size) → wpList Try.prog ops Q rest (a.put o.dst (.slice A' D.length c')) w') : wpList Try.prog ops Q (o :: rest) a w := by
  subst hD
  obtain ⟨ad, rfl, hc⟩ := hr.2 hm
  have hCl : C.length = m := by have := hr.1; simpa using this
  have hN : (B ++ C).length = B.length + m := by simp [hCl]
  refine wpList_appM u8S w hgd s x ho base _ B.length (B.map bytec) hs hown ad m c2 (C.map bytec) hx (by simp [hCl]) hc (bytec_one C) (B ++ C).length hN (by unfold maxLen; omega) (by omega) hbase (fun A' c' w' h1 _ h3 h4 => ?_)
  refine h A' c' w' ?_ h3 h4
  unfold Own
  rw [List.map_append]
  exact h1

/-- a column in memory: its number, where its bytes lie, what they are -/
structure Cl where
  id : Nat
  A : Option Addr
  c : Nat
  B : List UInt8
def Cl.v (x : Cl) : Col := (x.id, x.B)
def idc (x : Cl) : Value := .int .i64 (x.id : Int)
def dac (x : Cl) : Value := .slice x.A x.B.length x.c
/-- bytes in a block of bytes -/
def Byt (w : World) (x : Cl) : Prop := Rd w x.A x.B.length (x.B.map bytec) ∧ x.B.length ≤ x.c ∧ ∀ ad, x.A = some ad → ∃ cs m, w.heap[ad.block]? = some (.cells cs 5 m)
theorem Byt.fr {S : Nat → Prop} {w w' : World} {x : Cl} (h : Byt w x) (hf : Fr S w w') (hS : ∀ k cs m, w.heap[k]? = some (.cells cs 5 m) → ¬ S k) : Byt w' x := by
  obtain ⟨h1, h2, h3⟩ := h
  refine ⟨h1.fr hf (fun ad e => ?_), h2, fun ad e => ?_⟩
  · obtain ⟨cs, m, hb⟩ := h3 ad e
    exact hS _ _ _ hb
  · obtain ⟨cs, m, hb⟩ := h3 ad e
    exact ⟨cs, m, hf.blk hb (hS _ _ _ hb)⟩
/-- a slice of columns -/
def Cols (w : World) (A : Option Addr) (n : Nat) (L : List Cl) : Prop := Prs idc dac w A n L ∧ ∀ x ∈ L, Byt w x
theorem Cols.fr {w w' : World} {A : Option Addr} {n : Nat} {L : List Cl} (h : Cols w A n L) (hf : Fr (fun _ => False) w w') : Cols w' A n L :=
  ⟨h.1.fr hf (fun _ _ h => h), fun x hx => (h.2 x hx).fr hf (fun _ _ _ _ h => h)⟩
theorem Cols.nil (w : World) (A : Option Addr) : Cols w A 0 [] := ⟨Prs.nil _ _, fun x hx => by simp at hx⟩
/-- the bytes of a row of one's own lie in a block of bytes -/
theorem Own.byt {w : World} {base c : Nat} {A : Option Addr} {B : List UInt8} (h : Own w base A c B) (n : Nat) : Byt w ⟨n, A, c, B⟩ := by
  refine ⟨h.rd, h.cap.1, fun ad e => ?_⟩
  rcases h.2 with ⟨hv, _⟩ | ⟨g, cap, cur, hv, _, hr, _⟩
  · injection hv with hA
    have e : A = some ad := e
    rw [e] at hA
    cases hA
  · injection hv with hA
    have e : A = some ad := e
    rw [e] at hA
    injection hA with hA
    subst hA
    exact ⟨cur, _, hr⟩
/-- a row of elements that aren't bytes may turn: bytes stay -/
theorem own_unb {w : World} {b s n : Nat} {e : TypeId} {v : Value} {xs : List Value} (h : w.ownsRow b e s v n xs) (hne : e ≠ 5) : ∀ k cs m, w.heap[k]? = some (.cells cs 5 m) → ¬ v.ownBlock = some k :=
  fun k cs m hk hv => own_ne h hk hne hv
/-- rows of unlike elements lie apart -/
theorem own_two {w : World} {b1 b2 s1 s2 n1 n2 : Nat} {e1 e2 : TypeId} {v1 v2 : Value} {x1 x2 : List Value} (h1 : w.ownsRow b1 e1 s1 v1 n1 x1) (h2 : w.ownsRow b2 e2 s2 v2 n2 x2) (hne : e1 ≠ e2) {k : Nat} (hk : v1.ownBlock = some k) : v2.ownBlock ≠ some k := by
  rcases h1.2 with ⟨rfl, _⟩ | ⟨g, cap, cur, rfl, _, hr, _⟩
  · cases hk
  · obtain rfl : g = k := by simpa [Value.ownBlock] using hk
    exact own_ne h2 hr (fun e => hne e.symm)
/-- a row and a read slice of bytes -/
theorem idc_one (L : List Cl) : ∀ u ∈ L.flatMap (pcells idc dac), u.oneCell' = true := by
  intro u hu
  obtain ⟨c, _, hc⟩ := List.mem_flatMap.1 hu
  simp [pcells, idc, dac] at hc
  rcases hc with rfl | rfl <;> rfl
end Go.Proofs.Ytbnkahjmeobblaa
namespace Go.Proofs.Ytbnkahjmeobblaa
open Go

/-- what is asked behind the head -/
def headPost (P : Program) (ops : Array Oper) (Q : Exit → Act → World → Prop) (rest : List Oper) : Exit → Act → World → Prop
  | .normal, a, w => wpList P ops Q rest a w
  | e, a, w => Q e a w
def headB (md : Region.Mode) (l : List Oper) (n : Nat) : Bool :=
  decide (n < l.length) && (l.all fun o => o.guard.isNone) &&
  ((List.range n).all fun i => match l[i]? with
    | some o => o.after.all fun e => !Region.binds md e || decide (e.on < i)
    | none => false) &&
  (Region.sinkB md l.toArray n && Region.chainB md l.toArray n) &&
  Region.seqB md l.toArray (l.length - n) n (Array.replicate n true ++ Array.replicate (l.length - n) false)
section
variable {P : Program} {md : Region.Mode} {Q : Exit → Act → World → Prop}
theorem wpAny_more {ops : Array Oper} : ∀ (f : Nat) (listed : Array Bool) (a : Act) (w : World), wpAny P md ops Q f listed a w → wpAny P md ops Q (f + 1) listed a w
  | 0, listed, a, w, h => ⟨fun _ => h.2, by rw [h.1]; simp⟩
  | f + 1, listed, a, w, h => ⟨h.1, fun i hi => wpOp_mono (fun a' w' h' => wpAny_more f _ a' w' h') (h.2 i hi)⟩
theorem wpAny_add {ops : Array Oper} {listed : Array Bool} {a : Act} {w : World} {f : Nat} (h : wpAny P md ops Q f listed a w) : ∀ g, wpAny P md ops Q (f + g) listed a w
  | 0 => h
  | g + 1 => wpAny_more _ _ _ _ (wpAny_add h g)
theorem wpOp_head {ops ops' : Array Oper} {rest : List Oper} {i : Nat} {o : Oper} (h1 : ops[i]? = some o) (h2 : ops'[i]? = some o) (hg : o.guard = none) {K K' : Act → World → Prop} (hK : ∀ a w, K a w → K' a w) {a : Act} {w : World}
    (h : wpOp P ops' (headPost P ops Q rest) i K a w) : wpOp P ops Q i K' a w := by
  have hw : ∀ f, Region.wanted o f = true := fun f => by simp [Region.wanted, hg]
  have hlet : LetsOut (headPost P ops Q rest) → LetsOut Q := fun ⟨a, w, h⟩ => ⟨a, w, h⟩
  unfold wpOp at *
  simp only [h1, h2, hw, if_true] at h ⊢
  rcases h with h | ⟨h, h'⟩
  · refine .inl ?_
    unfold Oper.wp at *
    generalize (execOp a.eval o).run P w = r at *
    cases r with
    | ok n w' =>
      cases n <;> simp only [Oper.upon] at h ⊢
      case value u => exact hK _ _ h
      case skip => exact hK _ _ h
      case defer d => exact hK _ _ h
      case enter f args =>
        refine Calls.mono h fun e w'' he => ?_
        cases e with
        | returned u => exact hK _ _ he
        | panicked c => exact he
        | outgrown => exact hlet he
      case row row args => exact Rows.mono h fun u w'' he => hK _ _ he
    | halt x w' =>
      cases x <;> simp only [Oper.upon] at h ⊢
      case panic u => exact h
  · exact .inr ⟨h, hlet h'⟩
theorem getD_pad {A : Array Bool} {n m i : Nat} (hs : A.size = n) (hi : i < n) (d : Bool) : (A ++ Array.replicate m false).getD i d = A.getD i d := by
  simp [Array.getD_eq_getD_getElem?, Array.getElem?_append, hs, hi]
theorem head_any {l : List Oper} {n : Nat} (hB : headB md l n = true) : ∀ (f : Nat) (listed : Array Bool) (a : Act) (w : World), listed.size = n → HeadInv md l.toArray n (listed ++ Array.replicate (l.length - n) false) →
    wpAny P md (l.take n).toArray (headPost P l.toArray Q (l.drop n)) f listed a w → wpAny P md l.toArray Q (f + (l.length - n)) (listed ++ Array.replicate (l.length - n) false) a w := by
  simp only [headB, Bool.and_eq_true, decide_eq_true_eq] at hB
  obtain ⟨⟨⟨⟨hn, hg⟩, hlow⟩, hsink, hchain⟩, hseq⟩ := hB
  have hguard : ∀ (i : Nat) (o : Oper), l[i]? = some o → o.guard = none := fun i o h => by simpa using (List.all_eq_true.1 hg) o (List.mem_of_getElem? h)
  have hlo : ∀ (i : Nat) (o : Oper), i < n → l[i]? = some o → ∀ e ∈ o.after, Region.binds md e = true → e.on < i := fun i o hi h e he hb => by
    have := List.all_eq_true.1 hlow i (List.mem_range.2 hi)
    rw [h] at this
    have := (Array.all_eq_true_iff_forall_mem.1 this) e he
    simpa [hb] using this
  have hop : ∀ i, i < n → (l.take n).toArray[i]? = l.toArray[i]? := fun i hi => by simp [hi]
  have hin : ∀ i, i < n → ∃ o, l[i]? = some o := fun i hi => ⟨_, List.getElem?_eq_getElem (by omega)⟩
  -- what may come up, while some of the head is left
  have hready : ∀ (listed : Array Bool), listed.size = n → HeadInv md l.toArray n (listed ++ Array.replicate (l.length - n) false) → (∃ k, k < n ∧ listed.getD k false = false) → ∀ i, i ∈ Region.ready md l.toArray (listed ++ Array.replicate (l.length - n) false) ↔ i ∈ Region.ready md (l.take n).toArray listed := by
    intro listed hs inv ⟨k, hk, hkf⟩ i
    rw [mem_ready, mem_ready]
    constructor
    · rintro ⟨h1, o, ho, h2⟩
      by_cases hi : i < n
      · refine ⟨by rw [getD_pad hs hi] at h1; exact h1, o, by rw [hop i hi]; exact ho, fun e he hb => ?_⟩
        have := h2 e he hb
        rwa [getD_pad hs (by have := hlo i o hi (by simpa using ho) e he hb; omega)] at this
      · exact absurd (mem_ready.2 ⟨h1, o, ho, h2⟩) (tail_waits hsink hchain (by simpa using hn) inv _ k rfl hk (getD_in (by simp [hs]; omega) (by rw [getD_pad hs hk]; exact hkf)) i (by omega))
    · rintro ⟨h1, o, ho, h2⟩
      have hi : i < n := by
        have := (Array.getElem?_eq_some_iff.1 ho).1
        simp at this
        omega
      rw [hop i hi] at ho
      refine ⟨by rw [getD_pad hs hi]; exact h1, o, ho, fun e he hb => ?_⟩
      rw [getD_pad hs (by have := hlo i o hi (by simpa using ho) e he hb; omega)]
      exact h2 e he hb
  have hsome : ∀ (listed : Array Bool), listed.size = n → ∀ k, k < n → listed.getD k false = false → Region.ready md (l.take n).toArray listed ≠ [] := by
    intro listed hs k
    induction k using Nat.strongRecOn with
    | _ k ih =>
      intro hk hkf
      obtain ⟨o, ho⟩ := hin k hk
      by_cases hall : ∀ e ∈ o.after, Region.binds md e = true → listed.getD e.on false = true
      · have : k ∈ Region.ready md (l.take n).toArray listed := mem_ready.2 ⟨getD_in (by omega) hkf, o, by rw [hop k hk]; simpa using ho, hall⟩
        intro e
        rw [e] at this
        cases this
      · simp only [Classical.not_forall] at hall
        obtain ⟨e, he, hb, hf⟩ := hall
        have := hlo k o hk ho e he hb
        exact ih e.on this (by omega) (by simpa using hf)
  have hdone : ∀ (listed : Array Bool) (a : Act) (w : World), listed.size = n → (¬ ∃ k, k < n ∧ listed.getD k false = false) → headPost P l.toArray Q (l.drop n) .normal a w →
      wpAny P md l.toArray Q (l.length - n) (listed ++ Array.replicate (l.length - n) false) a w := by
    intro listed a w hs hno hq
    have e : listed = Array.replicate n true := by
      refine Array.ext (by simp [hs]) (fun i h1 h2 => ?_)
      have : listed.getD i false = true := by
        cases hx : listed.getD i false with
        | true => rfl
        | false => exact absurd ⟨i, by omega, hx⟩ hno
      simpa [Array.getD, h1] using this
    rw [e]
    have := wpAny_of_seq (P := P) (md := md) (ops := l.toArray) (Q' := Q) (l.drop n) n (Array.replicate n true ++ Array.replicate (l.length - n) false) a w (fun j => by simp [List.getElem?_drop]) (by simpa using hseq) hq
    simpa using this
  intro f
  induction f with
  | zero =>
    intro listed a w hs inv h
    by_cases hno : ∃ k, k < n ∧ listed.getD k false = false
    · obtain ⟨k, hk, hkf⟩ := hno
      exact absurd h.1 (hsome listed hs k hk hkf)
    · rw [Nat.zero_add]
      exact hdone listed a w hs hno h.2
  | succ f ih =>
    intro listed a w hs inv h
    by_cases hno : ∃ k, k < n ∧ listed.getD k false = false
    · have hr := hready listed hs inv hno
      obtain ⟨k, hk, hkf⟩ := hno
      have hne := hsome listed hs k hk hkf
      rw [show f + 1 + (l.length - n) = f + (l.length - n) + 1 by omega]
      refine ⟨fun h0 => ?_, fun i hi => ?_⟩
      · refine absurd ?_ hne
        refine List.eq_nil_iff_forall_not_mem.2 (fun i hi => ?_)
        have := (hr i).2 hi
        rw [h0] at this
        cases this
      · have hi' := (hr i).1 hi
        obtain ⟨_, o, ho, _⟩ := mem_ready.1 hi'
        have hin' : i < n := by
          have := (Array.getElem?_eq_some_iff.1 ho).1
          simp at this
          omega
        have ho2 : l.toArray[i]? = some o := by rw [← hop i hin']; exact ho
        refine wpOp_head ho2 ho (hguard i o (by simpa using ho2)) (fun a' w' h' => ?_) (h.2 i hi')
        have e : (listed ++ Array.replicate (l.length - n) false).setIfInBounds i true = listed.setIfInBounds i true ++ Array.replicate (l.length - n) false := by
          refine Array.ext_getElem? (fun j => ?_)
          simp only [Array.getElem?_setIfInBounds, Array.getElem?_append, Array.size_setIfInBounds, Array.size_append, hs]
          by_cases hj : i = j
          · subst hj; simp [hin']; omega
          · simp [hj]
        rw [e]
        exact ih (listed.setIfInBounds i true) a' w' (by simpa using hs) (by rw [← e]; exact inv.set hi hin') h'
    · have hq : headPost P l.toArray Q (l.drop n) .normal a w := by
        refine h.1 (List.eq_nil_iff_forall_not_mem.2 (fun i hi => ?_))
        obtain ⟨h1, o, ho, _⟩ := mem_ready.1 hi
        have hi' : i < n := by
          have := (Array.getElem?_eq_some_iff.1 ho).1
          simp at this
          omega
        refine hno ⟨i, hi', ?_⟩
        simpa [Array.getD, hs, hi'] using h1
      rw [Nat.add_comm]
      exact wpAny_add (hdone listed a w hs hno hq) _
/-- the beginning -/
theorem wp_region_head {id : Nat} {a : Act} {w : World} {l hd rest : List Oper} (n : Nat) (S : World → Prop) (hS : S w.drew)
    (h : S w.drew → wpAnyH P .any hd.toArray (headPost P l.toArray Q rest) S n (Array.replicate n false) a w.drew) (hm : P.follows .mixedOrders = true := by kernel_rfl) (hB : headB .any l n = true := by kernel_rfl)
    (h1 : l.take n = hd := by (simp only [List.take_succ_cons, List.take_zero]; try rfl)) (h2 : l.drop n = rest := by (simp only [List.drop_succ_cons, List.drop_zero]; try rfl)) : (Code.region id l.toArray true).wp P Q a w := by
  subst h1 h2
  refine wp_region_any hm ?_
  have hn : n < l.length := by
    simp only [headB, Bool.and_eq_true, decide_eq_true_eq] at hB
    exact hB.1.1.1.1
  have e : Array.replicate n false ++ Array.replicate (l.length - n) false = Array.replicate l.length false := by
    refine Array.ext (by simp; omega) (fun i h1 h2 => ?_)
    simp
  have h1 := head_any (P := P) (Q := Q) hB n (Array.replicate n false) a w.drew (by simp) (by
    rw [e]
    exact ⟨by simp, fun j oj _ hl => (by rw [getD_replicate_false] at hl; cases hl), fun t _ ht => getD_in (by simpa using ht) (getD_replicate_false _ _)⟩) (wpAny_of_held _ _ _ _ (h hS))
  rw [e, show n + (l.length - n) = l.length by omega] at h1
  exact h1
end
end Go.Proofs.Ytbnkahjmeobblaa
