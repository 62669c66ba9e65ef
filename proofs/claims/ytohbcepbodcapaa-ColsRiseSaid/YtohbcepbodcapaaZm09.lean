/-
  A region that draws its order, walked by the lone laws: the condition that is kept may be made more on the way. Nothing of any program here.
  Rows of pairs (two cells each) in memory: slices that read as them, rows of one's own; columns, whose second cell is a slice of bytes; append where one wants to know where the row lies.
-/
import Derived.Deep.RegionHeld3
import Derived.Deep.DrawnRows
import Derived.Test.YtohbcepbodcapaaZm06
import Derived.Test.YtohbcepbodcapaaZm08
namespace Go.Proofs.Ytohbcepbodcapaa
open Go

theorem wpAnyH_imp {P : Program} {md : Region.Mode} {ops : Array Oper} {Q : Exit → Act → World → Prop} {S S' : World → Prop} (hS : ∀ w, S' w → S w) :
    ∀ (fuel : Nat) (listed : Array Bool) (a : Act) (w : World), wpAnyH P md ops Q S' fuel listed a w → wpAnyH P md ops Q S fuel listed a w
  | 0, _, _, _, h => h
  | fuel + 1, _, _, _, h => ⟨h.1, fun i hi => wpOp_mono (fun a' w' h' => ⟨hS _ h'.1, wpAnyH_imp hS fuel _ a' w' h'.2⟩) (h.2 i hi)⟩
theorem wpAnyH_more {P : Program} {md : Region.Mode} {ops : Array Oper} {Q : Exit → Act → World → Prop} {S : World → Prop} (S' : World → Prop) {fuel : Nat} {listed : Array Bool} {a : Act} {w : World}
    (hS : ∀ w, S' w → S w) (h : S' w) (hk : S' w → wpAnyH P md ops Q S' fuel listed a w) : wpAnyH P md ops Q S fuel listed a w :=
  wpAnyH_imp hS fuel listed a w (hk h)
end Go.Proofs.Ytohbcepbodcapaa
namespace Go.Proofs.Ytohbcepbodcapaa
open Go Go.RowKit Mem Go.Lib LebM DirM
set_option linter.unusedVariables false

section
variable {τ : Type} {p q : τ → Value}
def pcells (p q : τ → Value) (t : τ) : List Value := [p t, q t]
/-- a slice reads as these pairs -/
def Prs (p q : τ → Value) (w : World) (A : Option Addr) (n : Nat) (L : List τ) : Prop := L.length = n ∧ ∀ k t, L[k]? = some t → ∃ g o, A = some ⟨g, o, none⟩ ∧ g < w.heap.size ∧
  w.cell? ⟨g, o + k * 2, none⟩ = some (p t) ∧ w.cell? ⟨g, o + k * 2 + 1, none⟩ = some (q t)
theorem Prs.fr {S : Nat → Prop} {w w' : World} {A : Option Addr} {n : Nat} {L : List τ} (h : Prs p q w A n L) (hf : Fr S w w') (hS : ∀ ad, A = some ad → ¬ S ad.block) : Prs p q w' A n L :=
  ⟨h.1, fun k t hk => by
    obtain ⟨g, o, e, hg, h1, h2⟩ := h.2 k t hk
    exact ⟨g, o, e, Nat.lt_of_lt_of_le hg hf.size, hf.cell h1 (hS ⟨g, o, none⟩ e), hf.cell h2 (hS ⟨g, o, none⟩ e)⟩⟩
theorem Prs.nil (w : World) (A : Option Addr) : Prs p q w A 0 [] := ⟨rfl, fun k t h => by simp at h⟩
/-- a row of one's own, of elements of type T -/
def OwnP (p q : τ → Value) (T : TypeId) (w : World) (base : Nat) (A : Option Addr) (c : Nat) (L : List τ) : Prop := w.ownsRow base T 2 (.slice A L.length c) L.length (L.flatMap (pcells p q))
theorem OwnP.nil (T : TypeId) (w : World) (base : Nat) : OwnP p q T w base none 0 [] := World.ownsRow_nil _ _ _ _
theorem OwnP.prs {T : TypeId} {w : World} {base c : Nat} {A : Option Addr} {L : List τ} (h : OwnP p q T w base A c L) : Prs p q w A L.length L := by
  refine ⟨rfl, fun k t ht => ?_⟩
  have hk := (List.getElem?_eq_some_iff.1 ht).1
  rcases h.2 with ⟨hv, h0⟩ | ⟨g, cap, cur, hv, _⟩
  · injection hv with _ h1 h2
    omega
  · have hA : A = some ⟨g, 0, none⟩ := by injection hv
    subst hA
    have hc := h.cells (g := g) rfl
    have hadd : ∀ j, (⟨g, 0, none⟩ : Addr).add j = ⟨g, j, none⟩ := fun j => by unfold Addr.add; split <;> simp_all
    refine ⟨g, 0, rfl, (h.lt g rfl).2, ?_, ?_⟩
    · rw [← hadd]; exact hc _ _ (by have := flat_k (pcells p q) 2 (fun _ => rfl) L k t ht 0 (by omega); simpa [pcells] using this)
    · rw [Nat.add_assoc, Nat.zero_add, ← hadd]; exact hc _ _ (by have := flat_k (pcells p q) 2 (fun _ => rfl) L k t ht 1 (by omega); simpa [pcells] using this)
theorem OwnP.base {T : TypeId} {w : World} {b b' c : Nat} {A : Option Addr} {L : List τ} (h : OwnP p q T w b A c L) (hb : b' ≤ b) : OwnP p q T w b' A c L := own_base h hb
theorem OwnP.fr {T : TypeId} {w w' : World} {base c : Nat} {A : Option Addr} {L : List τ} (h : OwnP p q T w base A c L) (hf : Fr (fun _ => False) w w') : OwnP p q T w' base A c L := hf.own h (fun _ _ h => h)
theorem OwnP.frS {S : Nat → Prop} {T : TypeId} {w w' : World} {base c : Nat} {A : Option Addr} {L : List τ} (h : OwnP p q T w base A c L) (hf : Fr S w w') (hS : ∀ k, base ≤ k → ¬ S k) : OwnP p q T w' base A c L :=
  hf.own h (fun k hk => hS k (h.lt k hk).1)
theorem OwnP.snoc {T : TypeId} {w : World} {base c : Nat} {A : Option Addr} {L : List τ} {t : τ} {N : Nat} (hN : N = L.length + 1) (h : w.ownsRow base T 2 (.slice A N c) N (L.flatMap (pcells p q) ++ pcells p q t)) : OwnP p q T w base A c (L ++ [t]) := by
  unfold OwnP
  rw [List.flatMap_append, List.flatMap_singleton, List.length_append, List.length_singleton, ← hN]
  exact h
theorem pcells_len (L : List τ) : (L.flatMap (pcells p q)).length = L.length * 2 := flat_klen _ 2 (fun _ => rfl) L
theorem pcells_set : ∀ (L : List τ) (k : Nat) (t u : τ), L[k]? = some t → p t = p u → (L.flatMap (pcells p q)).set (k * 2 + 1) (q u) = (L.set k u).flatMap (pcells p q)
  | [], k, t, u, h, _ => by simp at h
  | x :: L, 0, t, u, h, hp => by
    simp at h
    subst h
    simp [pcells, hp]
  | x :: L, k + 1, t, u, h, hp => by
    have e : (k + 1) * 2 + 1 = (k * 2 + 1) + 1 + 1 := by omega
    rw [e]
    show _ :: _ :: (L.flatMap (pcells p q)).set (k * 2 + 1) (q u) = _ :: _ :: (L.set k u).flatMap (pcells p q)
    rw [pcells_set L k t u (by simpa using h) hp]
end
/-- append of bytes onto a row of one's own, and where the row lies then -/
theorem u8S : ElemTyS Try.prog 30 5 (.int .u8 0) 1 1 := ⟨Try.underlying30, by kernel_rfl, rfl, by decide⟩
theorem wpList_appB {ops : Array Oper} {rest : List Oper} {o : Oper} {a : Act} {Q : Exit → Act → World → Prop} (w : World) (hgd : o.guard = none) (s x : Operand)
    (ho : o.op = .call { callee := .builtin .append, args := #[s, x], argTypes := #[30, 30] })
    (base : Nat) (A : Option Addr) (c : Nat) (B : List UInt8) (hs : a.eval s = .slice A B.length c) (hown : Own w base A c B)
    (A2 : Option Addr) (m c2 : Nat) (C : List UInt8) (hx : a.eval x = .slice A2 m c2) (hr : Rd w A2 m (C.map bytec)) (hm : 0 < m)
    (D : List UInt8) (hD : D = B ++ C) (h63 : D.length ≤ 1000000000000) (hbase : base ≤ w.heap.size)
    (h : ∀ A' c' w', Own w' base A' c' D → Fr (fun k => (Value.slice A B.length c).ownBlock = some k) w w' → ((Value.slice A' D.length c').ownBlock = (Value.slice A B.length c).ownBlock ∨ (Value.slice A' D.length c').ownBlock = some w.heap.size) → wpList Try.prog ops Q rest (a.put o.dst (.slice A' D.length c')) w') : wpList Try.prog ops Q (o :: rest) a w := by
  subst hD
  obtain ⟨ad, rfl, hc⟩ := hr.2 hm
  have hCl : C.length = m := by have := hr.1; simpa using this
  have hN : (B ++ C).length = B.length + m := by simp [hCl]
  refine wpList_appM u8S w hgd s x ho base _ B.length (B.map bytec) hs hown ad m c2 (C.map bytec) hx (by simp [hCl]) hc (bytec_one C) (B ++ C).length hN (by unfold maxLen; omega) (by omega) hbase (fun A' c' w' h1 _ h3 h4 => ?_)
  refine h A' c' w' ?_ h3 h4
  unfold Own
  rw [List.map_append]
  exact h1

/-- a column in memory: its number, where its bytes lie, what they are -/
structure Cl where
  id : Nat
  A : Option Addr
  c : Nat
  B : List UInt8
def Cl.v (x : Cl) : Col := (x.id, x.B)
def idc (x : Cl) : Value := .int .i64 (x.id : Int)
def dac (x : Cl) : Value := .slice x.A x.B.length x.c
/-- bytes in a block of bytes -/
def Byt (w : World) (x : Cl) : Prop := Rd w x.A x.B.length (x.B.map bytec) ∧ x.B.length ≤ x.c ∧ ∀ ad, x.A = some ad → ∃ cs m, w.heap[ad.block]? = some (.cells cs 5 m)
theorem Byt.fr {S : Nat → Prop} {w w' : World} {x : Cl} (h : Byt w x) (hf : Fr S w w') (hS : ∀ k cs m, w.heap[k]? = some (.cells cs 5 m) → ¬ S k) : Byt w' x := by
  obtain ⟨h1, h2, h3⟩ := h
  refine ⟨h1.fr hf (fun ad e => ?_), h2, fun ad e => ?_⟩
  · obtain ⟨cs, m, hb⟩ := h3 ad e
    exact hS _ _ _ hb
  · obtain ⟨cs, m, hb⟩ := h3 ad e
    exact ⟨cs, m, hf.blk hb (hS _ _ _ hb)⟩
/-- a slice of columns -/
def Cols (w : World) (A : Option Addr) (n : Nat) (L : List Cl) : Prop := Prs idc dac w A n L ∧ ∀ x ∈ L, Byt w x
theorem Cols.fr {w w' : World} {A : Option Addr} {n : Nat} {L : List Cl} (h : Cols w A n L) (hf : Fr (fun _ => False) w w') : Cols w' A n L :=
  ⟨h.1.fr hf (fun _ _ h => h), fun x hx => (h.2 x hx).fr hf (fun _ _ _ _ h => h)⟩
theorem Cols.nil (w : World) (A : Option Addr) : Cols w A 0 [] := ⟨Prs.nil _ _, fun x hx => by simp at hx⟩
/-- the bytes of a row of one's own lie in a block of bytes -/
theorem Own.byt {w : World} {base c : Nat} {A : Option Addr} {B : List UInt8} (h : Own w base A c B) (n : Nat) : Byt w ⟨n, A, c, B⟩ := by
  refine ⟨h.rd, h.cap.1, fun ad e => ?_⟩
  rcases h.2 with ⟨hv, _⟩ | ⟨g, cap, cur, hv, _, hr, _⟩
  · injection hv with hA
    have e : A = some ad := e
    rw [e] at hA
    cases hA
  · injection hv with hA
    have e : A = some ad := e
    rw [e] at hA
    injection hA with hA
    subst hA
    exact ⟨cur, _, hr⟩
/-- a row of elements that aren't bytes may turn: bytes stay -/
theorem own_unb {w : World} {b s n : Nat} {e : TypeId} {v : Value} {xs : List Value} (h : w.ownsRow b e s v n xs) (hne : e ≠ 5) : ∀ k cs m, w.heap[k]? = some (.cells cs 5 m) → ¬ v.ownBlock = some k :=
  fun k cs m hk hv => own_ne h hk hne hv
/-- rows of unlike elements lie apart -/
theorem own_two {w : World} {b1 b2 s1 s2 n1 n2 : Nat} {e1 e2 : TypeId} {v1 v2 : Value} {x1 x2 : List Value} (h1 : w.ownsRow b1 e1 s1 v1 n1 x1) (h2 : w.ownsRow b2 e2 s2 v2 n2 x2) (hne : e1 ≠ e2) {k : Nat} (hk : v1.ownBlock = some k) : v2.ownBlock ≠ some k := by
  rcases h1.2 with ⟨rfl, _⟩ | ⟨g, cap, cur, rfl, _, hr, _⟩
  · cases hk
  · obtain rfl : g = k := by simpa [Value.ownBlock] using hk
    exact own_ne h2 hr (fun e => hne e.symm)
/-- a row and a read slice of bytes -/
theorem idc_one (L : List Cl) : ∀ u ∈ L.flatMap (pcells idc dac), u.oneCell' = true := by
  intro u hu
  obtain ⟨c, _, hc⟩ := List.mem_flatMap.1 hu
  simp [pcells, idc, dac] at hc
  rcases hc with rfl | rfl <;> rfl
theorem colTS : ElemTyS Try.prog 26 32 (.agg #[.int .i64 0, .slice none 0 0]) 2 32 := ⟨Try.underlying26, by kernel_rfl, rfl, by decide⟩
end Go.Proofs.Ytohbcepbodcapaa
