/-
  A region that draws its order, whose last operations wait for all others: the head in any order, a condition kept there alone; the tail one by one. Nothing of any program here.
  Moves in a region that draws its order, in few words. Nothing of any program here.
-/
import Derived.Test.YtohbcepbodcapaaZm09
import Derived.StillTail
import Derived.Walk
import Derived.WalkKit
namespace Go.Proofs.Ytohbcepbodcapaa
open Go

/-- what is asked behind the head -/
def headPost (P : Program) (ops : Array Oper) (Q : Exit → Act → World → Prop) (rest : List Oper) : Exit → Act → World → Prop
  | .normal, a, w => wpList P ops Q rest a w
  | e, a, w => Q e a w
def headB (md : Region.Mode) (l : List Oper) (n : Nat) : Bool :=
  decide (n < l.length) && (l.all fun o => o.guard.isNone) &&
  ((List.range n).all fun i => match l[i]? with
    | some o => o.after.all fun e => !Region.binds md e || decide (e.on < i)
    | none => false) &&
  (Region.sinkB md l.toArray n && Region.chainB md l.toArray n) &&
  Region.seqB md l.toArray (l.length - n) n (Array.replicate n true ++ Array.replicate (l.length - n) false)
section
variable {P : Program} {md : Region.Mode} {Q : Exit → Act → World → Prop}
theorem wpAny_more {ops : Array Oper} : ∀ (f : Nat) (listed : Array Bool) (a : Act) (w : World), wpAny P md ops Q f listed a w → wpAny P md ops Q (f + 1) listed a w
  | 0, listed, a, w, h => ⟨fun _ => h.2, by rw [h.1]; simp⟩
  | f + 1, listed, a, w, h => ⟨h.1, fun i hi => wpOp_mono (fun a' w' h' => wpAny_more f _ a' w' h') (h.2 i hi)⟩
theorem wpAny_add {ops : Array Oper} {listed : Array Bool} {a : Act} {w : World} {f : Nat} (h : wpAny P md ops Q f listed a w) : ∀ g, wpAny P md ops Q (f + g) listed a w
  | 0 => h
  | g + 1 => wpAny_more _ _ _ _ (wpAny_add h g)
theorem wpOp_head {ops ops' : Array Oper} {rest : List Oper} {i : Nat} {o : Oper} (h1 : ops[i]? = some o) (h2 : ops'[i]? = some o) (hg : o.guard = none) {K K' : Act → World → Prop} (hK : ∀ a w, K a w → K' a w) {a : Act} {w : World}
    (h : wpOp P ops' (headPost P ops Q rest) i K a w) : wpOp P ops Q i K' a w := by
  have hw : ∀ f, Region.wanted o f = true := fun f => by simp [Region.wanted, hg]
  have hlet : LetsOut (headPost P ops Q rest) → LetsOut Q := fun ⟨a, w, h⟩ => ⟨a, w, h⟩
  unfold wpOp at *
  simp only [h1, h2, hw, if_true] at h ⊢
  rcases h with h | ⟨h, h'⟩
  · refine .inl ?_
    unfold Oper.wp at *
    generalize (execOp a.eval o).run P w = r at *
    cases r with
    | ok n w' =>
      cases n <;> simp only [Oper.upon] at h ⊢
      case value u => exact hK _ _ h
      case skip => exact hK _ _ h
      case defer d => exact hK _ _ h
      case enter f args =>
        refine Calls.mono h fun e w'' he => ?_
        cases e with
        | returned u => exact hK _ _ he
        | panicked c => exact he
        | outgrown => exact hlet he
      case row row args => exact Rows.mono h fun u w'' he => hK _ _ he
    | halt x w' =>
      cases x <;> simp only [Oper.upon] at h ⊢
      case panic u => exact h
  · exact .inr ⟨h, hlet h'⟩
theorem getD_pad {A : Array Bool} {n m i : Nat} (hs : A.size = n) (hi : i < n) (d : Bool) : (A ++ Array.replicate m false).getD i d = A.getD i d := by
  simp [Array.getD_eq_getD_getElem?, Array.getElem?_append, hs, hi]
theorem head_any {l : List Oper} {n : Nat} (hB : headB md l n = true) : ∀ (f : Nat) (listed : Array Bool) (a : Act) (w : World), listed.size = n → HeadInv md l.toArray n (listed ++ Array.replicate (l.length - n) false) →
    wpAny P md (l.take n).toArray (headPost P l.toArray Q (l.drop n)) f listed a w → wpAny P md l.toArray Q (f + (l.length - n)) (listed ++ Array.replicate (l.length - n) false) a w := by
  simp only [headB, Bool.and_eq_true, decide_eq_true_eq] at hB
  obtain ⟨⟨⟨⟨hn, hg⟩, hlow⟩, hsink, hchain⟩, hseq⟩ := hB
  have hguard : ∀ (i : Nat) (o : Oper), l[i]? = some o → o.guard = none := fun i o h => by simpa using (List.all_eq_true.1 hg) o (List.mem_of_getElem? h)
  have hlo : ∀ (i : Nat) (o : Oper), i < n → l[i]? = some o → ∀ e ∈ o.after, Region.binds md e = true → e.on < i := fun i o hi h e he hb => by
    have := List.all_eq_true.1 hlow i (List.mem_range.2 hi)
    rw [h] at this
    have := (Array.all_eq_true_iff_forall_mem.1 this) e he
    simpa [hb] using this
  have hop : ∀ i, i < n → (l.take n).toArray[i]? = l.toArray[i]? := fun i hi => by simp [hi]
  have hin : ∀ i, i < n → ∃ o, l[i]? = some o := fun i hi => ⟨_, List.getElem?_eq_getElem (by omega)⟩
  -- what may come up, while some of the head is left
  have hready : ∀ (listed : Array Bool), listed.size = n → HeadInv md l.toArray n (listed ++ Array.replicate (l.length - n) false) → (∃ k, k < n ∧ listed.getD k false = false) → ∀ i, i ∈ Region.ready md l.toArray (listed ++ Array.replicate (l.length - n) false) ↔ i ∈ Region.ready md (l.take n).toArray listed := by
    intro listed hs inv ⟨k, hk, hkf⟩ i
    rw [mem_ready, mem_ready]
    constructor
    · rintro ⟨h1, o, ho, h2⟩
      by_cases hi : i < n
      · refine ⟨by rw [getD_pad hs hi] at h1; exact h1, o, by rw [hop i hi]; exact ho, fun e he hb => ?_⟩
        have := h2 e he hb
        rwa [getD_pad hs (by have := hlo i o hi (by simpa using ho) e he hb; omega)] at this
      · exact absurd (mem_ready.2 ⟨h1, o, ho, h2⟩) (tail_waits hsink hchain (by simpa using hn) inv _ k rfl hk (getD_in (by simp [hs]; omega) (by rw [getD_pad hs hk]; exact hkf)) i (by omega))
    · rintro ⟨h1, o, ho, h2⟩
      have hi : i < n := by
        have := (Array.getElem?_eq_some_iff.1 ho).1
        simp at this
        omega
      rw [hop i hi] at ho
      refine ⟨by rw [getD_pad hs hi]; exact h1, o, ho, fun e he hb => ?_⟩
      rw [getD_pad hs (by have := hlo i o hi (by simpa using ho) e he hb; omega)]
      exact h2 e he hb
  have hsome : ∀ (listed : Array Bool), listed.size = n → ∀ k, k < n → listed.getD k false = false → Region.ready md (l.take n).toArray listed ≠ [] := by
    intro listed hs k
    induction k using Nat.strongRecOn with
    | _ k ih =>
      intro hk hkf
      obtain ⟨o, ho⟩ := hin k hk
      by_cases hall : ∀ e ∈ o.after, Region.binds md e = true → listed.getD e.on false = true
      · have : k ∈ Region.ready md (l.take n).toArray listed := mem_ready.2 ⟨getD_in (by omega) hkf, o, by rw [hop k hk]; simpa using ho, hall⟩
        intro e
        rw [e] at this
        cases this
      · simp only [Classical.not_forall] at hall
        obtain ⟨e, he, hb, hf⟩ := hall
        have := hlo k o hk ho e he hb
        exact ih e.on this (by omega) (by simpa using hf)
  have hdone : ∀ (listed : Array Bool) (a : Act) (w : World), listed.size = n → (¬ ∃ k, k < n ∧ listed.getD k false = false) → headPost P l.toArray Q (l.drop n) .normal a w →
      wpAny P md l.toArray Q (l.length - n) (listed ++ Array.replicate (l.length - n) false) a w := by
    intro listed a w hs hno hq
    have e : listed = Array.replicate n true := by
      refine Array.ext (by simp [hs]) (fun i h1 h2 => ?_)
      have : listed.getD i false = true := by
        cases hx : listed.getD i false with
        | true => rfl
        | false => exact absurd ⟨i, by omega, hx⟩ hno
      simpa [Array.getD, h1] using this
    rw [e]
    have := wpAny_of_seq (P := P) (md := md) (ops := l.toArray) (Q' := Q) (l.drop n) n (Array.replicate n true ++ Array.replicate (l.length - n) false) a w (fun j => by simp [List.getElem?_drop]) (by simpa using hseq) hq
    simpa using this
  intro f
  induction f with
  | zero =>
    intro listed a w hs inv h
    by_cases hno : ∃ k, k < n ∧ listed.getD k false = false
    · obtain ⟨k, hk, hkf⟩ := hno
      exact absurd h.1 (hsome listed hs k hk hkf)
    · rw [Nat.zero_add]
      exact hdone listed a w hs hno h.2
  | succ f ih =>
    intro listed a w hs inv h
    by_cases hno : ∃ k, k < n ∧ listed.getD k false = false
    · have hr := hready listed hs inv hno
      obtain ⟨k, hk, hkf⟩ := hno
      have hne := hsome listed hs k hk hkf
      rw [show f + 1 + (l.length - n) = f + (l.length - n) + 1 by omega]
      refine ⟨fun h0 => ?_, fun i hi => ?_⟩
      · refine absurd ?_ hne
        refine List.eq_nil_iff_forall_not_mem.2 (fun i hi => ?_)
        have := (hr i).2 hi
        rw [h0] at this
        cases this
      · have hi' := (hr i).1 hi
        obtain ⟨_, o, ho, _⟩ := mem_ready.1 hi'
        have hin' : i < n := by
          have := (Array.getElem?_eq_some_iff.1 ho).1
          simp at this
          omega
        have ho2 : l.toArray[i]? = some o := by rw [← hop i hin']; exact ho
        refine wpOp_head ho2 ho (hguard i o (by simpa using ho2)) (fun a' w' h' => ?_) (h.2 i hi')
        have e : (listed ++ Array.replicate (l.length - n) false).setIfInBounds i true = listed.setIfInBounds i true ++ Array.replicate (l.length - n) false := by
          refine Array.ext_getElem? (fun j => ?_)
          simp only [Array.getElem?_setIfInBounds, Array.getElem?_append, Array.size_setIfInBounds, Array.size_append, hs]
          by_cases hj : i = j
          · subst hj; simp [hin']; omega
          · simp [hj]
        rw [e]
        exact ih (listed.setIfInBounds i true) a' w' (by simpa using hs) (by rw [← e]; exact inv.set hi hin') h'
    · have hq : headPost P l.toArray Q (l.drop n) .normal a w := by
        refine h.1 (List.eq_nil_iff_forall_not_mem.2 (fun i hi => ?_))
        obtain ⟨h1, o, ho, _⟩ := mem_ready.1 hi
        have hi' : i < n := by
          have := (Array.getElem?_eq_some_iff.1 ho).1
          simp at this
          omega
        refine hno ⟨i, hi', ?_⟩
        simpa [Array.getD, hs, hi'] using h1
      rw [Nat.add_comm]
      exact wpAny_add (hdone listed a w hs hno hq) _
/-- the beginning -/
theorem wp_region_head {id : Nat} {a : Act} {w : World} {l hd rest : List Oper} (n : Nat) (S : World → Prop) (hS : S w.drew)
    (h : S w.drew → wpAnyH P .any hd.toArray (headPost P l.toArray Q rest) S n (Array.replicate n false) a w.drew) (hm : P.follows .mixedOrders = true := by kernel_rfl) (hB : headB .any l n = true := by kernel_rfl)
    (h1 : l.take n = hd := by (simp only [List.take_succ_cons, List.take_zero]; try rfl)) (h2 : l.drop n = rest := by (simp only [List.drop_succ_cons, List.drop_zero]; try rfl)) : (Code.region id l.toArray true).wp P Q a w := by
  subst h1 h2
  refine wp_region_any hm ?_
  have hn : n < l.length := by
    simp only [headB, Bool.and_eq_true, decide_eq_true_eq] at hB
    exact hB.1.1.1.1
  have e : Array.replicate n false ++ Array.replicate (l.length - n) false = Array.replicate l.length false := by
    refine Array.ext (by simp; omega) (fun i h1 h2 => ?_)
    simp
  have h1 := head_any (P := P) (Q := Q) hB n (Array.replicate n false) a w.drew (by simp) (by
    rw [e]
    exact ⟨by simp, fun j oj _ hl => (by rw [getD_replicate_false] at hl; cases hl), fun t _ ht => getD_in (by simpa using ht) (getD_replicate_false _ _)⟩) (wpAny_of_held _ _ _ _ (h hS))
  rw [e, show n + (l.length - n) = l.length by omega] at h1
  exact h1
end
end Go.Proofs.Ytohbcepbodcapaa
namespace Go.Proofs.Ytohbcepbodcapaa
open Go

section
variable {P : Program} {md : Region.Mode} {ops : Array Oper} {Q : Exit → Act → World → Prop} {S : World → Prop} {fuel : Nat} {listed : Array Bool} {a a' : Act} {w : World} {oi : Oper} {v : Value}
/-- operation i reads or reckons: it is taken first -/
theorem tk (i : Nat) (hS : S w) (h : wpAnyH P md ops Q S fuel (listed.setIfInBounds i true) a' w)
    (hi : ops[i]? = some oi := by rfl) (hs : Region.noSelect ops = true := by kernel_rfl) (hf : Region.free md ops listed i = true := by kernel_rfl) (hr : (Region.ready md ops listed).contains i = true := by kernel_rfl)
    (hQ : ∀ c a w, Q (.panic c) (a.put oi.dst v) w → Q (.panic c) a w := by exact fun _ _ _ h => h)
    (hw : Region.wanted oi (yielded ops a.tmps) = true := by rfl)
    (hy : ∀ w, S w → (execOp a.eval oi).run P w = .ok (.value v) w := by (intro w hSw; (try dsimp only at hSw); go_simp; try (with_reducible rfl)))
    (ha : a.put oi.dst v = a' := by ((try simp only [Act.put, List.setIfInBounds_toArray, List.set_cons_zero, List.set_cons_succ, List.getElem_toArray, List.getElem_cons_zero, List.getElem_cons_succ]); try rfl)) : wpAnyH P md ops Q S (fuel + 1) listed a w :=
  wpAnyH_take hi hs hf hr hQ (Or.inl ⟨hw, hy⟩) hS (ha ▸ h)
/-- operation i reads or reckons: of no memory: it is taken first -/
theorem tkp (i : Nat) (hS : S w) (h : wpAnyH P md ops Q S fuel (listed.setIfInBounds i true) a' w)
    (hi : ops[i]? = some oi := by rfl) (hs : Region.noSelect ops = true := by kernel_rfl) (hf : Region.free md ops listed i = true := by kernel_rfl) (hr : (Region.ready md ops listed).contains i = true := by kernel_rfl)
    (hQ : ∀ c a w, Q (.panic c) (a.put oi.dst v) w → Q (.panic c) a w := by exact fun _ _ _ h => h)
    (hw : Region.wanted oi (yielded ops a.tmps) = true := by rfl)
    (hy : ∀ w, S w → (execOp a.eval oi).run P w = .ok (.value v) w := by exact fun _ _ => rfl)
    (ha : a.put oi.dst v = a' := by ((try simp only [Act.put, List.setIfInBounds_toArray, List.set_cons_zero, List.set_cons_succ, List.getElem_toArray, List.getElem_cons_zero, List.getElem_cons_succ]); try rfl)) : wpAnyH P md ops Q S (fuel + 1) listed a w :=
  wpAnyH_take hi hs hf hr hQ (Or.inl ⟨hw, hy⟩) hS (ha ▸ h)
/-- operation i alone may come up -/
theorem rd1 (i : Nat) (h : ∀ K : Act → World → Prop, Shut (∀ a w, S w → wpAnyH P md ops Q S fuel (listed.setIfInBounds i true) a w → K a w) → if Region.wanted oi (yielded ops a.tmps) = true then Oper.wp P oi a w K Q else K (a.put oi.dst undef) w)
    (hi : ops[i]? = some oi := by rfl) (hr : Region.ready md ops listed = [i] := by kernel_rfl) : wpAnyH P md ops Q S (fuel + 1) listed a w :=
  wpAnyH_ready hr (by simp) (AllReadyH.cons hi (fun K hK => h K (fun a w hS hW => hK.out a w hS (fun _ => hW))) AllReadyH.nil)
/-- the head is done -/
theorem hdone {ops' : Array Oper} {rest : List Oper} (h : wpList P ops' Q rest a' w) (hr : Region.ready md ops listed = [] := by kernel_rfl)
    (ha : a = a' := by ((try simp only [Act.put, List.setIfInBounds_toArray, List.set_cons_zero, List.set_cons_succ, List.getElem_toArray, List.getElem_cons_zero, List.getElem_cons_succ]); try rfl)) : wpAnyH P md ops (headPost P ops' Q rest) S fuel listed a w :=
  wpAnyH_done hr (ha ▸ h) _
end
end Go.Proofs.Ytohbcepbodcapaa
