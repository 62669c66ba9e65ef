import Derived.Test.YtbabgnadgdidmaaGreatZm04
import Derived.Test.YtbabgnadgdidmaaGreatZm05
import Derived.StillTail
import Derived.Walk
import Derived.WalkKit
import Derived.Test.YtbabgnadgdidmaaGreatZm02
namespace Go.Proofs.YtbabgnadgdidmaaGreat
section
open Go Go.RowKit Mem Go.Lib LebM DirM
set_option linter.unusedVariables false
section
variable {τ : Type} {p q : τ → Value}
def pcells (p q : τ → Value) (t : τ) : List Value := [p t, q t]
def Prs (p q : τ → Value) (w : World) (A : Option Addr) (n : Nat) (L : List τ) : Prop := L.length = n ∧ ∀ k t, L[k]? = some t → ∃ g o, A = some ⟨g, o, none⟩ ∧ g < w.heap.size ∧
 w.cell? ⟨g, o + k * 2, none⟩ = some (p t) ∧ w.cell? ⟨g, o + k * 2 + 1, none⟩ = some (q t)
theorem Prs.fr {S : Nat → Prop} {w w' : World} {A : Option Addr} {n : Nat} {L : List τ} (h : Prs p q w A n L) (hf : Fr S w w') (hS : ∀ ad, A = some ad → ¬ S ad.block) : Prs p q w' A n L :=
 ⟨h.1, fun k t hk => by
  obtain ⟨g, o, e, hg, h1, h2⟩ := h.2 k t hk;exact ⟨g, o, e, Nat.lt_of_lt_of_le hg hf.size, hf.cell h1 (hS ⟨g, o, none⟩ e), hf.cell h2 (hS ⟨g, o, none⟩ e)⟩⟩
theorem Prs.nil (w : World) (A : Option Addr) : Prs p q w A 0 [] := ⟨rfl, fun k t h => by simp at h⟩
def OwnP (p q : τ → Value) (T : TypeId) (w : World) (base : Nat) (A : Option Addr) (c : Nat) (L : List τ) : Prop := w.ownsRow base T 2 (.slice A L.length c) L.length (L.flatMap (pcells p q))
theorem OwnP.nil (T : TypeId) (w : World) (base : Nat) : OwnP p q T w base none 0 [] := World.ownsRow_nil _ _ _ _
theorem OwnP.prs {T : TypeId} {w : World} {base c : Nat} {A : Option Addr} {L : List τ} (h : OwnP p q T w base A c L) : Prs p q w A L.length L := by
 refine ⟨rfl, fun k t ht => ?_⟩;have hk := (List.getElem?_eq_some_iff.1 ht).1;rcases h.2 with ⟨hv, h0⟩ | ⟨g, cap, cur, hv, _⟩
 · injection hv with _ h1 h2
   omega
 · have hA : A = some ⟨g, 0, none⟩ := by injection hv
   subst hA;have hc := h.cells (g := g) rfl;have hadd : ∀ j, (⟨g, 0, none⟩ : Addr).add j = ⟨g, j, none⟩ := fun j => by unfold Addr.add; split <;> simp_all
   refine ⟨g, 0, rfl, (h.lt g rfl).2, ?_, ?_⟩
   · rw [← hadd]; exact hc _ _ (by have := flat_k (pcells p q) 2 (fun _ => rfl) L k t ht 0 (by omega); simpa [pcells] using this)
   · rw [Nat.add_assoc, Nat.zero_add, ← hadd]; exact hc _ _ (by have := flat_k (pcells p q) 2 (fun _ => rfl) L k t ht 1 (by omega); simpa [pcells] using this)
theorem OwnP.base {T : TypeId} {w : World} {b b' c : Nat} {A : Option Addr} {L : List τ} (h : OwnP p q T w b A c L) (hb : b' ≤ b) : OwnP p q T w b' A c L := own_base h hb
theorem OwnP.fr {T : TypeId} {w w' : World} {base c : Nat} {A : Option Addr} {L : List τ} (h : OwnP p q T w base A c L) (hf : Fr (fun _ => False) w w') : OwnP p q T w' base A c L := hf.own h (fun _ _ h => h)
theorem OwnP.snoc {T : TypeId} {w : World} {base c : Nat} {A : Option Addr} {L : List τ} {t : τ} {N : Nat} (hN : N = L.length + 1) (h : w.ownsRow base T 2 (.slice A N c) N (L.flatMap (pcells p q) ++ pcells p q t)) : OwnP p q T w base A c (L ++ [t]) := by
 unfold OwnP;rw [List.flatMap_append, List.flatMap_singleton, List.length_append, List.length_singleton, ← hN];exact h
theorem pcells_len (L : List τ) : (L.flatMap (pcells p q)).length = L.length * 2 := flat_klen _ 2 (fun _ => rfl) L
end
structure Cl where
 id : Nat
 A : Option Addr
 c : Nat
 B : List UInt8
def Cl.v (x : Cl) : Col := (x.id, x.B)
def idc (x : Cl) : Value := .int .i64 (x.id : Int)
def dac (x : Cl) : Value := .slice x.A x.B.length x.c
def Byt (w : World) (x : Cl) : Prop := Rd w x.A x.B.length (x.B.map bytec) ∧ x.B.length ≤ x.c ∧ ∀ ad, x.A = some ad → ∃ cs m, w.heap[ad.block]? = some (.cells cs 5 m)
theorem Byt.fr {S : Nat → Prop} {w w' : World} {x : Cl} (h : Byt w x) (hf : Fr S w w') (hS : ∀ k cs m, w.heap[k]? = some (.cells cs 5 m) → ¬ S k) : Byt w' x := by
 obtain ⟨h1, h2, h3⟩ := h;refine ⟨h1.fr hf (fun ad e => ?_), h2, fun ad e => ?_⟩
 · obtain ⟨cs, m, hb⟩ := h3 ad e;exact hS _ _ _ hb
 · obtain ⟨cs, m, hb⟩ := h3 ad e;exact ⟨cs, m, hf.blk hb (hS _ _ _ hb)⟩
def Cols (w : World) (A : Option Addr) (n : Nat) (L : List Cl) : Prop := Prs idc dac w A n L ∧ ∀ x ∈ L, Byt w x
theorem Cols.fr {w w' : World} {A : Option Addr} {n : Nat} {L : List Cl} (h : Cols w A n L) (hf : Fr (fun _ => False) w w') : Cols w' A n L :=
 ⟨h.1.fr hf (fun _ _ h => h), fun x hx => (h.2 x hx).fr hf (fun _ _ _ _ h => h)⟩
theorem Cols.nil (w : World) (A : Option Addr) : Cols w A 0 [] := ⟨Prs.nil _ _, fun x hx => by simp at hx⟩
theorem Own.byt {w : World} {base c : Nat} {A : Option Addr} {B : List UInt8} (h : Own w base A c B) (n : Nat) : Byt w ⟨n, A, c, B⟩ := by
 refine ⟨h.rd, h.cap.1, fun ad e => ?_⟩;rcases h.2 with ⟨hv, _⟩ | ⟨g, cap, cur, hv, _, hr, _⟩
 · injection hv with hA
   have e : A = some ad := e;rw [e] at hA;cases hA
 · injection hv with hA
   have e : A = some ad := e;rw [e] at hA;injection hA with hA
   subst hA;exact ⟨cur, _, hr⟩
theorem own_two {w : World} {b1 b2 s1 s2 n1 n2 : Nat} {e1 e2 : TypeId} {v1 v2 : Value} {x1 x2 : List Value} (h1 : w.ownsRow b1 e1 s1 v1 n1 x1) (h2 : w.ownsRow b2 e2 s2 v2 n2 x2) (hne : e1 ≠ e2) {k : Nat} (hk : v1.ownBlock = some k) : v2.ownBlock ≠ some k := by
 rcases h1.2 with ⟨rfl, _⟩ | ⟨g, cap, cur, rfl, _, hr, _⟩
 · cases hk
 · obtain rfl : g = k := by simpa [Value.ownBlock] using hk
   exact own_ne h2 hr (fun e => hne e.symm)
theorem colTS : ElemTyS Tryz.prog 29 37 (.agg #[.int .i64 0, .slice none 0 0]) 2 32 := ⟨Tryz.underlying29, by kernel_rfl, rfl, by decide⟩
end
section
open Go
def headPost (P : Program) (ops : Array Oper) (Q : Exit → Act → World → Prop) (rest : List Oper) : Exit → Act → World → Prop
 | .normal, a, w => wpList P ops Q rest a w
 | e, a, w => Q e a w
def headB (md : Region.Mode) (l : List Oper) (n : Nat) : Bool :=
 decide (n < l.length) && (l.all fun o => o.guard.isNone) &&
 ((List.range n).all fun i => match l[i]? with
  | some o => o.after.all fun e => !Region.binds md e || decide (e.on < i)
  | none => false) &&
 (Region.sinkB md l.toArray n && Region.chainB md l.toArray n) &&
 Region.seqB md l.toArray (l.length - n) n (Array.replicate n true ++ Array.replicate (l.length - n) false)
section
variable {P : Program} {md : Region.Mode} {Q : Exit → Act → World → Prop}
theorem wpAny_more {ops : Array Oper} : ∀ (f : Nat) (listed : Array Bool) (a : Act) (w : World), wpAny P md ops Q f listed a w → wpAny P md ops Q (f + 1) listed a w
 | 0, listed, a, w, h => ⟨fun _ => h.2, by rw [h.1]; simp⟩
 | f + 1, listed, a, w, h => ⟨h.1, fun i hi => wpOp_mono (fun a' w' h' => wpAny_more f _ a' w' h') (h.2 i hi)⟩
theorem wpAny_add {ops : Array Oper} {listed : Array Bool} {a : Act} {w : World} {f : Nat} (h : wpAny P md ops Q f listed a w) : ∀ g, wpAny P md ops Q (f + g) listed a w
 | 0 => h
 | g + 1 => wpAny_more _ _ _ _ (wpAny_add h g)
theorem wpOp_head {ops ops' : Array Oper} {rest : List Oper} {i : Nat} {o : Oper} (h1 : ops[i]? = some o) (h2 : ops'[i]? = some o) (hg : o.guard = none) {K K' : Act → World → Prop} (hK : ∀ a w, K a w → K' a w) {a : Act} {w : World}
    (h : wpOp P ops' (headPost P ops Q rest) i K a w) : wpOp P ops Q i K' a w := by
 have hw : ∀ f, Region.wanted o f = true := fun f => by simp [Region.wanted, hg]
 have hlet : LetsOut (headPost P ops Q rest) → LetsOut Q := fun ⟨a, w, h⟩ => ⟨a, w, h⟩;unfold wpOp at *;simp only [h1, h2, hw, if_true] at h ⊢;rcases h with h | ⟨h, h'⟩
 · refine .inl ?_;unfold Oper.wp at *;generalize (execOp a.eval o).run P w = r at *;cases r with
   | ok n w' =>
    cases n <;> simp only [Oper.upon] at h ⊢
    case value u => exact hK _ _ h
    case skip => exact hK _ _ h
    case defer d => exact hK _ _ h
    case enter f args =>
     refine Calls.mono h fun e w'' he => ?_;cases e with
     | returned u => exact hK _ _ he
     | panicked c => exact he
     | outgrown => exact hlet he
    case row row args => exact Rows.mono h fun u w'' he => hK _ _ he
   | halt x w' =>
    cases x <;> simp only [Oper.upon] at h ⊢
    case panic u => exact h
 · exact .inr ⟨h, hlet h'⟩
theorem getD_pad {A : Array Bool} {n m i : Nat} (hs : A.size = n) (hi : i < n) (d : Bool) : (A ++ Array.replicate m false).getD i d = A.getD i d := by
 simp [Array.getD_eq_getD_getElem?, Array.getElem?_append, hs, hi]
theorem head_any {l : List Oper} {n : Nat} (hB : headB md l n = true) : ∀ (f : Nat) (listed : Array Bool) (a : Act) (w : World), listed.size = n → HeadInv md l.toArray n (listed ++ Array.replicate (l.length - n) false) →
    wpAny P md (l.take n).toArray (headPost P l.toArray Q (l.drop n)) f listed a w → wpAny P md l.toArray Q (f + (l.length - n)) (listed ++ Array.replicate (l.length - n) false) a w := by
 simp only [headB, Bool.and_eq_true, decide_eq_true_eq] at hB;obtain ⟨⟨⟨⟨hn, hg⟩, hlow⟩, hsink, hchain⟩, hseq⟩ := hB;have hguard : ∀ (i : Nat) (o : Oper), l[i]? = some o → o.guard = none := fun i o h => by simpa using (List.all_eq_true.1 hg) o (List.mem_of_getElem? h)
 have hlo : ∀ (i : Nat) (o : Oper), i < n → l[i]? = some o → ∀ e ∈ o.after, Region.binds md e = true → e.on < i := fun i o hi h e he hb => by
  have := List.all_eq_true.1 hlow i (List.mem_range.2 hi);rw [h] at this;have := (Array.all_eq_true_iff_forall_mem.1 this) e he
  simpa [hb] using this
 have hop : ∀ i, i < n → (l.take n).toArray[i]? = l.toArray[i]? := fun i hi => by simp [hi]
 have hin : ∀ i, i < n → ∃ o, l[i]? = some o := fun i hi => ⟨_, List.getElem?_eq_getElem (by omega)⟩
 -- what may come up, while some of the head is left
 have hready : ∀ (listed : Array Bool), listed.size = n → HeadInv md l.toArray n (listed ++ Array.replicate (l.length - n) false) → (∃ k, k < n ∧ listed.getD k false = false) → ∀ i, i ∈ Region.ready md l.toArray (listed ++ Array.replicate (l.length - n) false) ↔ i ∈ Region.ready md (l.take n).toArray listed := by
  intro listed hs inv ⟨k, hk, hkf⟩ i;rw [mem_ready, mem_ready];constructor
  · rintro ⟨h1, o, ho, h2⟩;by_cases hi : i < n
    · refine ⟨by rw [getD_pad hs hi] at h1; exact h1, o, by rw [hop i hi]; exact ho, fun e he hb => ?_⟩;have := h2 e he hb;rwa [getD_pad hs (by have := hlo i o hi (by simpa using ho) e he hb; omega)] at this
    · exact absurd (mem_ready.2 ⟨h1, o, ho, h2⟩) (tail_waits hsink hchain (by simpa using hn) inv _ k rfl hk (getD_in (by simp [hs]; omega) (by rw [getD_pad hs hk]; exact hkf)) i (by omega))
  · rintro ⟨h1, o, ho, h2⟩;have hi : i < n := by
     have := (Array.getElem?_eq_some_iff.1 ho).1;simp at this;omega
    rw [hop i hi] at ho;refine ⟨by rw [getD_pad hs hi]; exact h1, o, ho, fun e he hb => ?_⟩;rw [getD_pad hs (by have := hlo i o hi (by simpa using ho) e he hb; omega)];exact h2 e he hb
 have hsome : ∀ (listed : Array Bool), listed.size = n → ∀ k, k < n → listed.getD k false = false → Region.ready md (l.take n).toArray listed ≠ [] := by
  intro listed hs k
  induction k using Nat.strongRecOn with
  | _ k ih =>
   intro hk hkf;obtain ⟨o, ho⟩ := hin k hk;by_cases hall : ∀ e ∈ o.after, Region.binds md e = true → listed.getD e.on false = true
   · have : k ∈ Region.ready md (l.take n).toArray listed := mem_ready.2 ⟨getD_in (by omega) hkf, o, by rw [hop k hk]; simpa using ho, hall⟩;intro e;rw [e] at this;cases this
   · simp only [Classical.not_forall] at hall;obtain ⟨e, he, hb, hf⟩ := hall;have := hlo k o hk ho e he hb;exact ih e.on this (by omega) (by simpa using hf)
 have hdone : ∀ (listed : Array Bool) (a : Act) (w : World), listed.size = n → (¬ ∃ k, k < n ∧ listed.getD k false = false) → headPost P l.toArray Q (l.drop n) .normal a w →
     wpAny P md l.toArray Q (l.length - n) (listed ++ Array.replicate (l.length - n) false) a w := by
  intro listed a w hs hno hq;have e : listed = Array.replicate n true := by
   refine Array.ext (by simp [hs]) (fun i h1 h2 => ?_);have : listed.getD i false = true := by
    cases hx : listed.getD i false with
    | true => rfl
    | false => exact absurd ⟨i, by omega, hx⟩ hno
   simpa [Array.getD, h1] using this
  rw [e];have := wpAny_of_seq (P := P) (md := md) (ops := l.toArray) (Q' := Q) (l.drop n) n (Array.replicate n true ++ Array.replicate (l.length - n) false) a w (fun j => by simp [List.getElem?_drop]) (by simpa using hseq) hq
  simpa using this
 intro f
 induction f with
 | zero =>
  intro listed a w hs inv h;by_cases hno : ∃ k, k < n ∧ listed.getD k false = false
  · obtain ⟨k, hk, hkf⟩ := hno;exact absurd h.1 (hsome listed hs k hk hkf)
  · rw [Nat.zero_add];exact hdone listed a w hs hno h.2
 | succ f ih =>
  intro listed a w hs inv h;by_cases hno : ∃ k, k < n ∧ listed.getD k false = false
  · have hr := hready listed hs inv hno;obtain ⟨k, hk, hkf⟩ := hno;have hne := hsome listed hs k hk hkf;rw [show f + 1 + (l.length - n) = f + (l.length - n) + 1 by omega];refine ⟨fun h0 => ?_, fun i hi => ?_⟩
    · refine absurd ?_ hne;refine List.eq_nil_iff_forall_not_mem.2 (fun i hi => ?_);have := (hr i).2 hi;rw [h0] at this;cases this
    · have hi' := (hr i).1 hi;obtain ⟨_, o, ho, _⟩ := mem_ready.1 hi';have hin' : i < n := by
       have := (Array.getElem?_eq_some_iff.1 ho).1;simp at this;omega
      have ho2 : l.toArray[i]? = some o := by rw [← hop i hin']; exact ho
      refine wpOp_head ho2 ho (hguard i o (by simpa using ho2)) (fun a' w' h' => ?_) (h.2 i hi');have e : (listed ++ Array.replicate (l.length - n) false).setIfInBounds i true = listed.setIfInBounds i true ++ Array.replicate (l.length - n) false := by
       refine Array.ext_getElem? (fun j => ?_);simp only [Array.getElem?_setIfInBounds, Array.getElem?_append, Array.size_setIfInBounds, Array.size_append, hs];by_cases hj : i = j
       · subst hj; simp [hin']; omega
       · simp [hj]
      rw [e];exact ih (listed.setIfInBounds i true) a' w' (by simpa using hs) (by rw [← e]; exact inv.set hi hin') h'
  · have hq : headPost P l.toArray Q (l.drop n) .normal a w := by
     refine h.1 (List.eq_nil_iff_forall_not_mem.2 (fun i hi => ?_));obtain ⟨h1, o, ho, _⟩ := mem_ready.1 hi;have hi' : i < n := by
      have := (Array.getElem?_eq_some_iff.1 ho).1;simp at this;omega
     refine hno ⟨i, hi', ?_⟩
     simpa [Array.getD, hs, hi'] using h1
    rw [Nat.add_comm];exact wpAny_add (hdone listed a w hs hno hq) _
theorem wp_region_head {id : Nat} {a : Act} {w : World} {l hd rest : List Oper} (n : Nat) (S : World → Prop) (hS : S w.drew)
    (h : S w.drew → wpAnyH P .any hd.toArray (headPost P l.toArray Q rest) S n (Array.replicate n false) a w.drew) (hm : P.follows .mixedOrders = true := by kernel_rfl) (hB : headB .any l n = true := by kernel_rfl)
    (h1 : l.take n = hd := by (simp only [List.take_succ_cons, List.take_zero]; try rfl)) (h2 : l.drop n = rest := by (simp only [List.drop_succ_cons, List.drop_zero]; try rfl)) : (Code.region id l.toArray true).wp P Q a w := by
 subst h1 h2;refine wp_region_any hm ?_;have hn : n < l.length := by
  simp only [headB, Bool.and_eq_true, decide_eq_true_eq] at hB;exact hB.1.1.1.1
 have e : Array.replicate n false ++ Array.replicate (l.length - n) false = Array.replicate l.length false := by
  refine Array.ext (by simp; omega) (fun i h1 h2 => ?_);simp
 have h1 := head_any (P := P) (Q := Q) hB n (Array.replicate n false) a w.drew (by simp) (by
  rw [e];exact ⟨by simp, fun j oj _ hl => (by rw [getD_replicate_false] at hl; cases hl), fun t _ ht => getD_in (by simpa using ht) (getD_replicate_false _ _)⟩) (wpAny_of_held _ _ _ _ (h hS))
 rw [e, show n + (l.length - n) = l.length by omega] at h1;exact h1
end
end
section
open Go
section
variable {P : Program} {md : Region.Mode} {ops : Array Oper} {Q : Exit → Act → World → Prop} {S : World → Prop} {fuel : Nat} {listed : Array Bool} {a a' : Act} {w : World} {oi : Oper} {v : Value}
theorem tk (i : Nat) (hS : S w) (h : wpAnyH P md ops Q S fuel (listed.setIfInBounds i true) a' w)
    (hi : ops[i]? = some oi := by rfl) (hs : Region.noSelect ops = true := by kernel_rfl) (hf : Region.free md ops listed i = true := by kernel_rfl) (hr : (Region.ready md ops listed).contains i = true := by kernel_rfl)
    (hQ : ∀ c a w, Q (.panic c) (a.put oi.dst v) w → Q (.panic c) a w := by exact fun _ _ _ h => h)
    (hw : Region.wanted oi (yielded ops a.tmps) = true := by rfl)
    (hy : ∀ w, S w → (execOp a.eval oi).run P w = .ok (.value v) w := by (intro w hSw; (try dsimp only at hSw); go_simp; try (with_reducible rfl)))
    (ha : a.put oi.dst v = a' := by ((try simp only [Act.put, List.setIfInBounds_toArray, List.set_cons_zero, List.set_cons_succ, List.getElem_toArray, List.getElem_cons_zero, List.getElem_cons_succ]); try rfl)) : wpAnyH P md ops Q S (fuel + 1) listed a w :=
 wpAnyH_take hi hs hf hr hQ (Or.inl ⟨hw, hy⟩) hS (ha ▸ h)
theorem rd1 (i : Nat) (h : ∀ K : Act → World → Prop, Shut (∀ a w, S w → wpAnyH P md ops Q S fuel (listed.setIfInBounds i true) a w → K a w) → if Region.wanted oi (yielded ops a.tmps) = true then Oper.wp P oi a w K Q else K (a.put oi.dst undef) w)
    (hi : ops[i]? = some oi := by rfl) (hr : Region.ready md ops listed = [i] := by kernel_rfl) : wpAnyH P md ops Q S (fuel + 1) listed a w :=
 wpAnyH_ready hr (by simp) (AllReadyH.cons hi (fun K hK => h K (fun a w hS hW => hK.out a w hS (fun _ => hW))) AllReadyH.nil)
theorem rdo (i : Nat) (h : ∀ K : Act → World → Prop, Shut (∀ a w, S w → (S w → wpAnyH P md ops Q S fuel (listed.setIfInBounds i true) a w) → K a w) → if Region.wanted oi (yielded ops a.tmps) = true then Oper.wp P oi a w K Q else K (a.put oi.dst undef) w)
    (hi : ops[i]? = some oi := by rfl) (hr : Region.ready md ops listed = [i] := by kernel_rfl) : wpAnyH P md ops Q S (fuel + 1) listed a w :=
 wpAnyH_ready hr (by simp) (AllReadyH.cons hi h AllReadyH.nil)
theorem hdone {ops' : Array Oper} {rest : List Oper} (h : wpList P ops' Q rest a' w) (hr : Region.ready md ops listed = [] := by kernel_rfl)
    (ha : a = a' := by ((try simp only [Act.put, List.setIfInBounds_toArray, List.set_cons_zero, List.set_cons_succ, List.getElem_toArray, List.getElem_cons_zero, List.getElem_cons_succ]); try rfl)) : wpAnyH P md ops (headPost P ops' Q rest) S fuel listed a w :=
 wpAnyH_done hr (ha ▸ h) _
end
end
end Go.Proofs.YtbabgnadgdidmaaGreat
namespace Go.Proofs.YtbabgnadgdidmaaGreat.UtfM
def kc (a : Nat) : Nat := if a < 128 then 1 else if a < 192 then 0 else if a < 224 then 2 else if a < 240 then 3 else if a < 248 then 4 else 0
def km (a : Nat) : Nat := if a < 192 then 0 else if a < 224 then 192 else if a < 240 then 224 else if a < 248 then 240 else 0
def kl (a : Nat) : Nat := if a < 192 then 0 else if a < 224 then 128 else if a < 240 then 2048 else if a < 248 then 65536 else 0
def acc (B : List UInt8) : Nat → Nat
 | 0 => (B.getD 0 0).toNat - km (B.getD 0 0).toNat
 | i + 1 => acc B i * 64 + ((B.getD (i + 1) 0).toNat - 128)
def isch (n : Nat) : Bool := decide (n ≤ 1114111) && (decide (n < 55296) || decide (57343 < n))
def contB (b : UInt8) : Bool := decide (128 ≤ b.toNat) && decide (b.toNat < 192)
theorem contB_iff (b : UInt8) : contB b = true ↔ cont b := by simp [contB, cont]
theorem kc_le (a : Nat) : kc a ≤ 4 := by unfold kc; (repeat' split) <;> omega
theorem km_le (a : Nat) : km a ≤ a := by unfold km; (repeat' split) <;> omega
theorem kl_le (a : Nat) : kl a ≤ 65536 := by unfold kl; (repeat' split) <;> omega
theorem acc_bd (B : List UInt8) (i : Nat) (hi : i ≤ 3) : acc B i ≤ 100000000 := by
 have h0 := (B.getD 0 0).toNat_lt;have h1 := (B.getD 1 0).toNat_lt;have h2 := (B.getD 2 0).toNat_lt;have h3 := (B.getD 3 0).toNat_lt;have e0 : acc B 0 ≤ 255 := by show _ - _ ≤ _; omega
 have e1 : acc B 1 ≤ 255 * 64 + 255 := by show acc B 0 * 64 + ((B.getD 1 0).toNat - 128) ≤ _; omega
 have e2 : acc B 2 ≤ (255 * 64 + 255) * 64 + 255 := by show acc B 1 * 64 + ((B.getD 2 0).toNat - 128) ≤ _; omega
 have e3 : acc B 3 ≤ ((255 * 64 + 255) * 64 + 255) * 64 + 255 := by show acc B 2 * 64 + ((B.getD 3 0).toNat - 128) ≤ _; omega
 rcases (show i = 0 ∨ i = 1 ∨ i = 2 ∨ i = 3 by omega) with rfl | rfl | rfl | rfl <;> omega
theorem kind_of (a : Nat) : (a < 128 ∧ kc a = 1 ∧ km a = 0 ∧ kl a = 0) ∨ (128 ≤ a ∧ a < 192 ∧ kc a = 0 ∧ km a = 0 ∧ kl a = 0) ∨ (192 ≤ a ∧ a < 224 ∧ kc a = 2 ∧ km a = 192 ∧ kl a = 128) ∨
    (224 ≤ a ∧ a < 240 ∧ kc a = 3 ∧ km a = 224 ∧ kl a = 2048) ∨ (240 ≤ a ∧ a < 248 ∧ kc a = 4 ∧ km a = 240 ∧ kl a = 65536) ∨ (248 ≤ a ∧ kc a = 0 ∧ km a = 0 ∧ kl a = 0) := by
 unfold kc km kl
 (repeat' split) <;> omega
theorem nx_1 (a : UInt8) (r : List UInt8) (h : a.toNat < 128) : nx (a :: r) = 1 := by unfold nx; simp [h]
theorem nx_0 (a : UInt8) (r : List UInt8) (h0 : ¬ a.toNat < 128) (h2 : ∀ b, ¬ ok2 a b) (h3 : ∀ b c, ¬ ok3 a b c) (h4 : ∀ b c d, ¬ ok4 a b c d) : nx (a :: r) = 0 := by
 match r with
 | [] => simp [nx, h0]
 | [b] => simp [nx, h0, h2 b]
 | [b, c] => simp [nx, h0, h2 b, h3 b c]
 | b :: c :: d :: r => simp [nx, h0, h2 b, h3 b c, h4 b c d]
theorem nx_two (a b : UInt8) (r : List UInt8) (h0 : 192 ≤ a.toNat) (h1 : a.toNat < 224) : nx (a :: b :: r) = if ok2 a b then 2 else 0 := by
 have n0 : ¬ a.toNat < 128 := by omega
 have n3 : ∀ b c, ¬ ok3 a b c := by intro b c; unfold ok3; omega
 have n4 : ∀ b c d, ¬ ok4 a b c d := by intro b c d; unfold ok4; omega
 by_cases h : ok2 a b
 · rw [if_pos h]; unfold nx; simp [n0, h]
 · rw [if_neg h]
   match r with
   | [] => simp [nx, n0, h]
   | [c] => simp [nx, n0, h, n3 b c]
   | c :: d :: r => simp [nx, n0, h, n3 b c, n4 b c d]
theorem nx_three (a b c : UInt8) (r : List UInt8) (h0 : 224 ≤ a.toNat) (h1 : a.toNat < 240) : nx (a :: b :: c :: r) = if ok3 a b c then 3 else 0 := by
 have n0 : ¬ a.toNat < 128 := by omega
 have n2 : ¬ ok2 a b := by unfold ok2; omega
 have n4 : ∀ b c d, ¬ ok4 a b c d := by intro b c d; unfold ok4; omega
 by_cases h : ok3 a b c
 · rw [if_pos h]; unfold nx; simp [n0, n2, h]
 · rw [if_neg h]
   match r with
   | [] => simp [nx, n0, n2, h]
   | d :: r => simp [nx, n0, n2, h, n4 b c d]
theorem nx_four (a b c d : UInt8) (r : List UInt8) (h0 : 240 ≤ a.toNat) : nx (a :: b :: c :: d :: r) = if ok4 a b c d then 4 else 0 := by
 have n0 : ¬ a.toNat < 128 := by omega
 have n2 : ¬ ok2 a b := by unfold ok2; omega
 have n3 : ¬ ok3 a b c := by unfold ok3; omega
 by_cases h : ok4 a b c d
 · rw [if_pos h]; unfold nx; simp [n0, n2, n3, h]
 · rw [if_neg h]; simp [nx, n0, n2, n3, h]
theorem nx_k0 (a : UInt8) (r : List UInt8) (h : kc a.toNat = 0) : nx (a :: r) = 0 := by
 have hk := kind_of a.toNat;exact nx_0 a r (by omega) (by intro b; unfold ok2; omega) (by intro b c; unfold ok3; omega) (by intro b c d; unfold ok4; omega)
theorem nx_short (a : UInt8) (r : List UInt8) (h : r.length + 1 < kc a.toNat) : nx (a :: r) = 0 := by
 have hk := kind_of a.toNat;have n0 : ¬ a.toNat < 128 := by omega
 match r, h with
 | [], _ => simp [nx, n0]
 | [b], h =>
  simp at h;have n2 : ¬ ok2 a b := by unfold ok2; omega
  simp [nx, n0, n2]
 | [b, c], h =>
  simp at h;have n2 : ¬ ok2 a b := by unfold ok2; omega
  have n3 : ¬ ok3 a b c := by unfold ok3; omega
  simp [nx, n0, n2, n3]
 | b :: c :: d :: r, h => simp at h; omega
theorem nx_stop (a : UInt8) (r : List UInt8) (i : Nat) (hi : 1 ≤ i) (hk : i < kc a.toNat) (hl : kc a.toNat ≤ r.length + 1) (hcf : contB ((a :: r).getD i 0) = false) : nx (a :: r) = 0 := by
 have hc : ¬ cont ((a :: r).getD i 0) := by rw [← contB_iff, hcf]; simp
 clear hcf;have ha := kind_of a.toNat
 match r, hl with
 | [], hl => simp at hl; omega
 | [b], hl =>
  simp at hl;obtain rfl : i = 1 := by omega
  have n2 : ¬ ok2 a b := by intro hq; unfold ok2 at hq; exact hc hq.2.2
  rw [nx_two a b [] (by omega) (by omega), if_neg n2]
 | [b, c], hl =>
  simp at hl;rcases (show kc a.toNat = 2 ∨ kc a.toNat = 3 by omega) with h2 | h2
  · obtain rfl : i = 1 := by omega
    have n2 : ¬ ok2 a b := by intro hq; unfold ok2 at hq; exact hc hq.2.2
    rw [nx_two a b [c] (by omega) (by omega), if_neg n2]
  · have n3 : ¬ ok3 a b c := by
     intro hq;unfold ok3 at hq;rcases (show i = 1 ∨ i = 2 by omega) with rfl | rfl
     · exact hc hq.2.2.1
     · exact hc hq.2.2.2.1
    rw [nx_three a b c [] (by omega) (by omega), if_neg n3]
 | b :: c :: d :: r, hl =>
  rcases (show kc a.toNat = 2 ∨ kc a.toNat = 3 ∨ kc a.toNat = 4 by omega) with h2 | h2 | h2
  · obtain rfl : i = 1 := by omega
    have n2 : ¬ ok2 a b := by intro hq; unfold ok2 at hq; exact hc hq.2.2
    rw [nx_two a b _ (by omega) (by omega), if_neg n2]
  · have n3 : ¬ ok3 a b c := by
     intro hq;unfold ok3 at hq;rcases (show i = 1 ∨ i = 2 by omega) with rfl | rfl
     · exact hc hq.2.2.1
     · exact hc hq.2.2.2.1
    rw [nx_three a b c _ (by omega) (by omega), if_neg n3]
  · have n4 : ¬ ok4 a b c d := by
     intro hq;unfold ok4 at hq;rcases (show i = 1 ∨ i = 2 ∨ i = 3 by omega) with rfl | rfl | rfl
     · exact hc hq.2.2.1
     · exact hc hq.2.2.2.1
     · exact hc hq.2.2.2.2.1
    rw [nx_four a b c d r (by omega), if_neg n4]
theorem nx_end (a : UInt8) (r : List UInt8) (k : Nat) (hk : k = kc a.toNat) (h0 : k ≠ 0) (hl : k ≤ r.length + 1) (hc : ∀ i, 1 ≤ i → i < k → contB ((a :: r).getD i 0) = true) :
    nx (a :: r) = if kl a.toNat ≤ acc (a :: r) (k - 1) ∧ isch (acc (a :: r) (k - 1)) = true then k else 0 := by
 have ha := kind_of a.toNat;have hc : ∀ i, 1 ≤ i → i < k → cont ((a :: r).getD i 0) := fun i h1 h2 => (contB_iff _).1 (hc i h1 h2);have e0 : ((a :: r).getD 0 0) = a := rfl;rcases (show k = 1 ∨ k = 2 ∨ k = 3 ∨ k = 4 by omega) with h | h | h | h
 · rw [nx_1 a r (by omega), h, if_pos];rw [show acc (a :: r) (1 - 1) = a.toNat - km a.toNat from rfl];constructor
   · omega
   · simp [isch]; omega
 · match r, hl with
   | [], hl => simp at hl; omega
   | b :: r, _ =>
    have c1 := hc 1 (by omega) (by omega);change cont b at c1;rw [nx_two a b r (by omega) (by omega), h];rw [show acc (a :: b :: r) (2 - 1) = (a.toNat - km a.toNat) * 64 + (b.toNat - 128) from rfl];unfold cont at c1;congr 1;rw [eq_iff_iff];simp only [isch, ok2, cont, Bool.and_eq_true, Bool.or_eq_true, decide_eq_true_eq];omega
 · match r, hl with
   | [], hl => simp at hl; omega
   | [b], hl => simp at hl; omega
   | b :: c :: r, _ =>
    have c1 := hc 1 (by omega) (by omega);have c2 := hc 2 (by omega) (by omega);change cont b at c1;change cont c at c2;rw [nx_three a b c r (by omega) (by omega), h];rw [show acc (a :: b :: c :: r) (3 - 1) = ((a.toNat - km a.toNat) * 64 + (b.toNat - 128)) * 64 + (c.toNat - 128) from rfl];unfold cont at c1 c2;congr 1;rw [eq_iff_iff];simp only [isch, ok3, cont, Bool.and_eq_true, Bool.or_eq_true, decide_eq_true_eq];omega
 · match r, hl with
   | [], hl => simp at hl; omega
   | [b], hl => simp at hl; omega
   | [b, c], hl => simp at hl; omega
   | b :: c :: d :: r, _ =>
    have c1 := hc 1 (by omega) (by omega);have c2 := hc 2 (by omega) (by omega);have c3 := hc 3 (by omega) (by omega);change cont b at c1;change cont c at c2;change cont d at c3;rw [nx_four a b c d r (by omega), h];rw [show acc (a :: b :: c :: d :: r) (4 - 1) = (((a.toNat - km a.toNat) * 64 + (b.toNat - 128)) * 64 + (c.toNat - 128)) * 64 + (d.toNat - 128) from rfl];unfold cont at c1 c2 c3;congr 1;rw [eq_iff_iff];simp only [isch, ok4, cont, Bool.and_eq_true, Bool.or_eq_true, decide_eq_true_eq];omega
end Go.Proofs.YtbabgnadgdidmaaGreat.UtfM
