/-
  Plain mathematics of layer 19: the columns of ops.
  Layer 19, the program: where each text of a table stands: a map; cells of actors and numbers.
-/
import Derived.Test.YtohbcepbodcapaaZm26
import Derived.Test.YtohbcepbodcapaaZm27
import Derived.Test.YtohbcepbodcapaaZm36
import Derived.Test.YtohbcepbodcapaaZm06
import Derived.Test.YtohbcepbodcapaaZm05
import Derived.Test.YtohbcepbodcapaaZm24
import Derived.Test.YtohbcepbodcapaaZm23
import Derived.Test.YtohbcepbodcapaaZm08
import Derived.Maps.OwnSet
import Derived.Deep.DeepCutAuto
import Derived.Deep.CutRange
namespace Go.Proofs.Ytohbcepbodcapaa
open Go Go.RowKit LebM UtfM RleM VaM OpM AcM
namespace CsM

abbrev C := Bool × Int
def oneA (T : List Tx) (x : Nm) : C := if zeroB x then (false, 0) else (true, idxA x.a T)
def oneC (x : Nm) : C := if zeroB x then (false, 0) else (true, x.c)
def keyC (o : O) : C := if zeroB o.elem then (if o.keyed then (false, 0) else (true, 0)) else (true, o.elem.c)
def keyT (o : O) : Bool × List UInt8 := if o.keyed then (true, o.key) else (false, [])
def numC (o : O) : C := if o.pr.length = 0 then (false, 0) else (true, (o.pr.length : Int))
def prs (l : List O) : List Nm := l.flatMap O.pr
def tU (L : List C) : List UInt8 := tellW kU (gatherG L)
def tD (L : List C) : List UInt8 := tellW kS (gatherG (stepsF 0 L))
def tW (L : List (Bool × List UInt8)) : List UInt8 := tellW kW (gatherG L)
/-- all columns; those that have bytes -/
def colsA (T : List Tx) (l : List O) : List DirM.Col :=
  [(1, tU (l.map fun o => oneA T o.obj)), (2, tU (l.map fun o => oneC o.obj)), (17, tU (l.map fun o => oneA T o.elem)), (19, tD (l.map keyC)), (21, tW (l.map keyT)),
   (52, BooM.putB (l.map O.ins)), (66, tU (l.map fun o => (true, o.act))), (86, putM (l.map O.val)), (87, putB (l.map O.val)), (112, tU (l.map numC)), (113, tU ((prs l).map (oneA T))), (115, tD ((prs l).map oneC))]
def putS (T : List Tx) (l : List O) : List DirM.Col := DirM.full (colsA T l)
/-- all of whom an op speaks stand in the table -/
def allIn (T : List Tx) (l : List O) : Prop := ∀ o ∈ l, (zeroB o.obj = false → o.obj.a ∈ T) ∧ (zeroB o.elem = false → o.elem.a ∈ T) ∧ ∀ x ∈ o.pr, zeroB x = false → x.a ∈ T
/-- ops that may be put: right, few, small -/
structure Fit (T : List Tx) (l : List O) : Prop where
  right : ∀ o ∈ l, rightO o = true
  ok : ∀ o ∈ l, o.val.ok
  tab : allIn T l
  len : l.length ≤ 2001
  few : T.length ≤ 1000000

theorem zero_c {x : Nm} (h : zeroB x = true) : x.c = 0 ∧ x.a = [] := by
  have := (eqN_iff x zeroN).1 h
  subst this
  exact ⟨rfl, rfl⟩
theorem id_bd {x : Nm} (h : idB x = true) : 1 ≤ x.c ∧ x.c ≤ 9007199254740991 ∧ 0 < x.a.length ∧ x.a.length ≤ 16 := by
  unfold idB actorB at h
  simp only [Bool.and_eq_true, decide_eq_true_eq] at h
  omega
theorem id_zero {x : Nm} (h : idB x = true) : zeroB x = false := by
  cases hz : zeroB x with
  | false => rfl
  | true => have := zero_c hz; have := id_bd h; omega
theorem right_parts {o : O} (h : rightO o = true) : ptB o.obj = true ∧ keyB o = true ∧ 0 ≤ o.act ∧ o.act ≤ 1000 ∧ rightV o.val = true ∧ o.pr.length ≤ 16 ∧ riseB zeroN o.pr = true := by
  unfold rightO predsB at h
  simp only [Bool.and_eq_true, decide_eq_true_eq] at h
  obtain ⟨⟨⟨⟨⟨h1, h2⟩, h3⟩, h4⟩, h5⟩, h6, h7⟩ := h
  exact ⟨h1, h2, h3, h4, h5, h6, h7⟩
theorem rise_ids {a : Nm} : ∀ {l : List Nm}, riseB a l = true → ∀ x ∈ l, idB x = true
  | [], _, x, h => by cases h
  | y :: l, h, x, hx => by
    unfold riseB at h
    simp only [Bool.and_eq_true] at h
    rcases List.mem_cons.1 hx with rfl | hx
    · exact h.1.1
    · exact rise_ids h.2 x hx
theorem pt_bd {x : Nm} (h : ptB x = true) : 0 ≤ x.c ∧ x.c ≤ 9007199254740991 ∧ x.a.length ≤ 16 := by
  unfold ptB at h
  simp only [Bool.or_eq_true] at h
  rcases h with h | h
  · have := zero_c h; rw [this.2, this.1]; simp
  · have := id_bd h; omega
theorem right_elem {o : O} (h : rightO o = true) : ptB o.elem = true := by
  have h2 := (right_parts h).2.1
  unfold keyB at h2
  split at h2
  · simp only [Bool.and_eq_true] at h2
    unfold ptB
    rw [h2.1.2]
    rfl
  · simp only [Bool.and_eq_true] at h2
    exact h2.2
theorem right_key {o : O} (h : rightO o = true) : o.key.length ≤ 4000 := by
  have h2 := (right_parts h).2.1
  unfold keyB at h2
  split at h2
  · simp only [Bool.and_eq_true, decide_eq_true_eq] at h2
    exact h2.1.1.1
  · simp only [Bool.and_eq_true, decide_eq_true_eq] at h2
    rw [h2.1]
    simp
theorem prs_len {l : List O} {M : Nat} (h : ∀ o ∈ l, o.pr.length ≤ M) : (prs l).length ≤ l.length * M := by
  induction l with
  | nil => simp [prs]
  | cons o l ih =>
    have h1 := h o (List.mem_cons_self ..)
    have h2 := ih (fun p hp => h p (List.mem_cons_of_mem _ hp))
    unfold prs at h2 ⊢
    rw [List.flatMap_cons, List.length_append, List.length_cons, Nat.add_mul]
    omega
theorem oneA_may {T : List Tx} {x : Nm} (h : zeroB x = false → x.a ∈ T) (hT : T.length ≤ 1000000) : mayU (oneA T x) := by
  unfold oneA
  split
  · exact ⟨fun _ => rfl, by unfold okU; simp⟩
  · next hz =>
    have h1 := idx_mem (h (by simpa using hz))
    have h2 := (idx_bd x.a T).2
    exact ⟨fun e => (by cases e), h1, by show idxA x.a T < _; omega⟩
theorem oneC_may {x : Nm} (h : 0 ≤ x.c ∧ x.c ≤ 9007199254740991) : mayU (oneC x) ∧ mayS (oneC x) := by
  unfold oneC
  split
  · exact ⟨⟨fun _ => rfl, by unfold okU; simp⟩, fun _ => rfl, by unfold okS; simp⟩
  · exact ⟨⟨fun e => (by cases e), h.1, by show x.c < _; omega⟩, fun e => (by cases e), by show _ ≤ x.c; omega, by show x.c < _; omega⟩
section
variable {T : List Tx} {l : List O}
theorem Fit.take (h : Fit T (l : List O)) (k : Nat) : Fit T (l.take k) :=
  ⟨fun o ho => h.right o (List.mem_of_mem_take ho), fun o ho => h.ok o (List.mem_of_mem_take ho), fun o ho => h.tab o (List.mem_of_mem_take ho), Nat.le_trans (by rw [List.length_take]; exact Nat.min_le_right _ _) h.len, h.few⟩
theorem Fit.plen (h : Fit T l) : (prs l).length ≤ 32016 := by
  have h1 := prs_len (l := l) (M := 16) (fun o ho => (right_parts (h.right o ho)).2.2.2.2.2.1)
  have h2 := Nat.mul_le_mul_right 16 h.len
  omega
theorem Fit.pid (h : Fit T l) : ∀ x ∈ prs l, idB x = true ∧ x.a ∈ T := by
  intro x hx
  obtain ⟨o, ho, hx⟩ := List.mem_flatMap.1 hx
  have h1 := rise_ids (right_parts (h.right o ho)).2.2.2.2.2.2 x hx
  exact ⟨h1, (h.tab o ho).2.2 x hx (id_zero h1)⟩
theorem Fit.m1 (h : Fit T l) : ∀ c ∈ l.map (fun o => oneA T o.obj), mayU c := by
  intro c hc
  obtain ⟨o, ho, rfl⟩ := List.mem_map.1 hc
  exact oneA_may (h.tab o ho).1 h.few
theorem Fit.m2 (h : Fit T l) : ∀ c ∈ l.map (fun o => oneC o.obj), mayU c := by
  intro c hc
  obtain ⟨o, ho, rfl⟩ := List.mem_map.1 hc
  have := pt_bd (right_parts (h.right o ho)).1
  exact (oneC_may ⟨this.1, this.2.1⟩).1
theorem Fit.m3 (h : Fit T l) : ∀ c ∈ l.map (fun o => oneA T o.elem), mayU c := by
  intro c hc
  obtain ⟨o, ho, rfl⟩ := List.mem_map.1 hc
  exact oneA_may (h.tab o ho).2.1 h.few
theorem Fit.m4 (h : Fit T l) : ∀ c ∈ l.map keyC, mayS c := by
  intro c hc
  obtain ⟨o, ho, rfl⟩ := List.mem_map.1 hc
  have := pt_bd (right_elem (h.right o ho))
  unfold keyC
  split
  · split
    · exact ⟨fun _ => rfl, by unfold okS; simp⟩
    · exact ⟨fun _ => rfl, by unfold okS; simp⟩
  · exact ⟨fun e => (by cases e), by show _ ≤ o.elem.c; omega, by show o.elem.c < _; omega⟩
theorem Fit.m5 (h : Fit T l) : ∀ c ∈ l.map keyT, mayW c ∧ c.2.length ≤ 4000 := by
  intro c hc
  obtain ⟨o, ho, rfl⟩ := List.mem_map.1 hc
  have := right_key (h.right o ho)
  unfold keyT
  split
  · exact ⟨⟨fun e => (by cases e), by show o.key.length ≤ _; omega⟩, this⟩
  · exact ⟨⟨fun _ => rfl, by show (0 : Nat) ≤ _; omega⟩, by simp⟩
theorem Fit.m7 (h : Fit T l) : ∀ c ∈ l.map (fun o => ((true, o.act) : C)), mayU c := by
  intro c hc
  obtain ⟨o, ho, rfl⟩ := List.mem_map.1 hc
  have := right_parts (h.right o ho)
  exact ⟨fun e => (by cases e), this.2.2.1, by show o.act < _; omega⟩
theorem Fit.m8 (h : Fit T l) : ∀ v ∈ l.map O.val, v.ok ∧ rightV v = true := by
  intro c hc
  obtain ⟨o, ho, rfl⟩ := List.mem_map.1 hc
  exact ⟨h.ok o ho, (right_parts (h.right o ho)).2.2.2.2.1⟩
theorem Fit.m10 (h : Fit T l) : ∀ c ∈ l.map numC, mayU c := by
  intro c hc
  obtain ⟨o, ho, rfl⟩ := List.mem_map.1 hc
  have := (right_parts (h.right o ho)).2.2.2.2.2.1
  unfold numC
  split
  · exact ⟨fun _ => rfl, by unfold okU; simp⟩
  · exact ⟨fun e => (by cases e), by show (0 : Int) ≤ _; omega, by show (o.pr.length : Int) < _; omega⟩
theorem Fit.m11 (h : Fit T l) : ∀ c ∈ (prs l).map (oneA T), mayU c := by
  intro c hc
  obtain ⟨x, hx, rfl⟩ := List.mem_map.1 hc
  exact oneA_may (fun _ => (h.pid x hx).2) h.few
theorem Fit.m12 (h : Fit T l) : ∀ c ∈ (prs l).map oneC, mayS c := by
  intro c hc
  obtain ⟨x, hx, rfl⟩ := List.mem_map.1 hc
  have := id_bd (h.pid x hx).1
  exact (oneC_may ⟨by omega, this.2.1⟩).2
/-- the columns rise -/
theorem cols_rise (T : List Tx) (l : List O) : (colsA T l).Pairwise (fun a b => a.1 < b.1) := by
  unfold colsA
  simp only [List.pairwise_cons, List.mem_cons, List.not_mem_nil, or_false, forall_eq_or_imp, forall_eq, List.Pairwise.nil, and_true]
  refine ⟨?_, ?_, ?_, ?_, ?_, ?_, ?_, ?_, ?_, ?_, ?_, ?_⟩ <;> (try simp) 
theorem put_rise (T : List Tx) (l : List O) : (putS T l).Pairwise (fun a b => a.1 < b.1) := List.Pairwise.filter _ (cols_rise T l)
theorem put_full (T : List Tx) (l : List O) : ∀ c ∈ putS T l, 0 < c.2.length := by
  intro c hc
  have := (List.mem_filter.1 hc).2
  simpa using this
theorem put_len (T : List Tx) (l : List O) : (putS T l).length ≤ 12 := List.length_filter_le _ _
theorem tU_some {L : List C} (h : ∃ c ∈ L, c.1 = true) : tU L ≠ [] := by
  obtain ⟨c, hc, h1⟩ := h
  unfold tU
  rw [told_some hc (by intro e; rw [e] at h1; cases h1)]
  refine tell_ne (fun e => ?_)
  have := total_gather L
  rw [e] at this
  have h3 := List.length_pos_of_mem hc
  simp [total] at this
  omega
theorem put_act (T : List Tx) (l : List O) : (∃ c ∈ putS T l, c.1 = 66) ↔ l ≠ [] := by
  constructor
  · rintro ⟨c, hc, he⟩ rfl
    have h1 := put_full _ _ c hc
    have h2 := (List.mem_filter.1 hc).1
    unfold colsA at h2
    simp only [List.mem_cons, List.not_mem_nil, or_false] at h2
    rcases h2 with rfl | rfl | rfl | rfl | rfl | rfl | rfl | rfl | rfl | rfl | rfl | rfl <;> first | (revert he; simp; done) | (revert h1; show ¬ (0 < (tU []).length); decide)
  · intro h
    refine ⟨_, List.mem_filter.2 ⟨by unfold colsA; exact List.mem_cons_of_mem _ (List.mem_cons_of_mem _ (List.mem_cons_of_mem _ (List.mem_cons_of_mem _ (List.mem_cons_of_mem _ (List.mem_cons_of_mem _ (List.mem_cons_self ..)))))), ?_⟩, rfl⟩
    have := tU_some (L := l.map fun o => ((true, o.act) : C)) (by cases l with | nil => exact absurd rfl h | cons o l => exact ⟨(true, o.act), by simp, rfl⟩)
    simpa using List.length_pos_iff.2 this
theorem put_nil (T : List Tx) : putS T [] = [] := by
  have h1 : tU [] = [] := rfl
  have h2 : tD [] = [] := rfl
  have h3 : tW [] = [] := rfl
  have h4 : BooM.putB [] = [] := by simp [BooM.putB, BooM.numsB, BooM.stB]
  have h5 : putM [] = [] := rfl
  have h6 : putB [] = [] := rfl
  unfold putS colsA DirM.full prs
  simp [h1, h2, h3, h4, h5, h6]
end
end CsM
end Go.Proofs.Ytohbcepbodcapaa
namespace Go.Proofs.Ytohbcepbodcapaa
open Go.RowKit Mem Go.Lib Go.Maps LebM UtfM VaM OpM AcM CsM
attribute [local go_sem ↓] Go.wp_at_zero Go.wp_at_succ
set_option linter.unusedVariables false

theorem keyedS : Keyed Try.prog 9 := string_keyed Try.underlying9
theorem key_sx {a : Tx} (h : a.length ≤ 1000000) : keyOf Try.prog 9 (.string (txt a)) = some (.string a) := by
  have := Go.WideMaps.keyOf_string_mk (P := Try.prog) (k := 9) Try.underlying9 (s := txt a) (by show a.length ≤ _; unfold maxLen; omega)
  exact this
theorem zeroI (w : World) : (zeroValue 3).run Try.prog w = .ok (.int .i64 0) w := by kernel_rfl
/-- where a text stands -/
def pl (T : List Tx) (a : Tx) : Option Nat := if 0 ≤ idxA a T then some (idxA a T).toNat else none
def plI : Option Nat → Int
  | some q => (q : Int)
  | none => 0
theorem idx_snoc (a x : Tx) : ∀ l : List Tx, idxA a (l ++ [x]) = if 0 ≤ idxA a l then idxA a l else if x = a then (l.length : Int) else -1
  | [] => by
    simp only [List.nil_append, idxA, List.length_nil]
    by_cases h : x = a
    · simp [h]
    · simp [h]
  | y :: l => by
    have ih := idx_snoc a x l
    have hb := idx_bd a l
    rw [List.cons_append, idxA, idxA, ih]
    by_cases h : y = a
    · simp [h]
    · simp only [h, if_false, List.length_cons]
      (repeat' split) <;> omega
theorem pl_step {T : List Tx} {k : Nat} {x : Tx} (h : T[k]? = some x) : pl (T.take (k + 1)) = if (pl (T.take k) x).isSome = true then pl (T.take k) else fun a => if x = a then some k else pl (T.take k) a := by
  have hl : (T.take k).length = k := by
    have := (List.getElem?_eq_some_iff.1 h).1
    rw [List.length_take]
    omega
  have e : T.take (k + 1) = T.take k ++ [x] := by
    rw [List.take_add_one, h]
    rfl
  rw [e]
  funext a
  unfold pl
  rw [idx_snoc, hl]
  by_cases h1 : 0 ≤ idxA a (T.take k)
  · rw [if_pos h1, if_pos h1]
    by_cases h2 : x = a
    · subst h2
      simp [h1]
    · by_cases h3 : 0 ≤ idxA x (T.take k) <;> simp [h2, h3, h1]
  · rw [if_neg h1]
    by_cases h2 : x = a
    · subst h2
      simp [h1]
    · by_cases h3 : 0 ≤ idxA x (T.take k) <;> simp [h2, h3, h1]
/-- block m is a map of at most n entries: these texts, at these places -/
def MpI (w : World) (m n : Nat) (f : Tx → Option Nat) : Prop :=
  ∃ D : DataW Unit, w.ownsMap Try.prog 9 (plainElem Try.prog 3) m n D ∧ ∀ k, Maps.has D (.string k) = (f k).isSome ∧ ∀ q, f k = some q → D.atKey (.string k) (.lit (.int .i64 0)) = .lit (.int .i64 (q : Int))
theorem MpI.made (w : World) : MpI (w.alloc (.map #[] 0)) w.heap.size 0 (fun _ => none) := ⟨_, World.ownsMap_made _ _ _ _, fun k => ⟨by simp [Maps.has], fun q h => by cases h⟩⟩
theorem MpI.lt {w : World} {m n : Nat} {f : Tx → Option Nat} (h : MpI w m n f) : m < w.heap.size := by obtain ⟨D, ho, _⟩ := h; exact ho.lt
theorem MpI.fr {R : Nat → Prop} {w w' : World} {m n : Nat} {f : Tx → Option Nat} (h : MpI w m n f) (hf : Fr R w w') (hR : ¬ R m) : MpI w' m n f := by
  obtain ⟨D, ⟨es, cl, hb, hr⟩, hD⟩ := h
  exact ⟨D, ⟨es, cl, hf.blk hb hR, hr⟩, hD⟩
theorem MpI.mono {w : World} {m n n' : Nat} {f : Tx → Option Nat} (h : MpI w m n f) (hn : n ≤ n') : MpI w m n' f := by
  obtain ⟨D, ho, hD⟩ := h
  exact ⟨D, ho.mono hn, hD⟩
/-- a map isn't a row -/
theorem MpI.blk {w : World} {m n : Nat} {f : Tx → Option Nat} (h : MpI w m n f) : ∃ es cl, w.heap[m]? = some (.map es cl) := by obtain ⟨D, ⟨es, cl, hb, _⟩, _⟩ := h; exact ⟨es, cl, hb⟩
set_option maxRecDepth 100000 in
theorem MpI.look {w : World} {m n : Nat} {f : Tx → Option Nat} (h : MpI w m n f) (a : Tx) (ha : a.length ≤ 1000000) :
    (Instr.lookup 44 (.map (some m)) (.string (txt a)) true).run Try.prog w = .ok (.tuple #[.int .i64 (plI (f a)), .bool (f a).isSome]) w := by
  obtain ⟨D, ho, hD⟩ := h
  obtain ⟨v, ps, hrun, hv⟩ := ho.look_ok keyedS Try.underlying44 (zeroI w) (plainElem_int Try.underlying3 (a := 0) (by decide)) (key_sx ha)
  obtain ⟨c, rfl, hc, hwc⟩ := plainElem_int_inv Try.underlying3 hv
  simp only [Prod.mk.injEq] at hc
  obtain ⟨h1, h2⟩ := hD a
  rw [hrun, h1]
  cases hk : f a with
  | none =>
    rw [hk] at h1
    have := hc.1
    rw [Maps.atKey_of_not_has h1] at this
    injection this with this
    injection this with _ this
    rw [← this]
    rfl
  | some q =>
    have := hc.1
    rw [h2 q hk] at this
    injection this with this
    injection this with _ this
    rw [← this]
    rfl
set_option maxRecDepth 100000 in
theorem MpI.put {w : World} {m n : Nat} {f : Tx → Option Nat} (h : MpI w m n f) (hn : n < maxLen) (a : Tx) (ha : a.length ≤ 1000000) (q : Nat) (hq : q ≤ 1000000) :
    ∃ w', (Instr.mapUpdate 44 (.map (some m)) (.string (txt a)) (.int .i64 (q : Int))).run Try.prog w = .ok () w' ∧ MpI w' m (n + 1) (fun b => if a = b then some q else f b) ∧ Fr (fun b => b = m) w w' := by
  obtain ⟨D, ho, hD⟩ := h
  have hwf : (Lit.int .i64 (q : Int)).wf = true := WalkArith.wf_i64 (by omega)
  obtain ⟨w', hrun, ho', hg⟩ := ho.update keyedS Try.underlying44 hn (key_sx ha) (plainElem_int Try.underlying3 hwf)
  refine ⟨w', hrun, ⟨_, ho', fun b => ?_⟩, (Fr.of_grown hg).mono (fun b _ h => by injection h with h; exact h.symm)⟩
  by_cases hk : a = b
  · subst hk
    simp only
    refine ⟨Maps.has_put_same ho.isMap (keyedS.key (key_sx ha)) _, fun z hz => ?_⟩
    injection hz with hz
    subst hz
    exact Maps.atKey_put_same ho.isMap (keyedS.key (key_sx ha)) _ _
  · have hne : Lit.string b ≠ Lit.string a := fun e => by injection e with e; exact hk e.symm
    simp only [if_neg hk]
    refine ⟨(Maps.has_put_other hne _).trans (hD b).1, fun z hz => ?_⟩
    rw [Maps.atKey_put_other hne]
    exact (hD b).2 z hz
theorem ccSz : (Try.prog.info? 68).map (·.size) = some 2 := by kernel_rfl
theorem cc_one (x : C) : ([Value.bool x.1, .int .i64 x.2] : List Value).toArray.all (·.oneCell') = true := by simp [Value.oneCell']
set_option maxRecDepth 100000 in
set_option maxHeartbeats 1600000 in
theorem number_any (n : Int) (w : World) : Calls Try.prog 21 #[.int .i64 n] w fun e w' => e = .returned (.agg #[.bool true, .int .i64 n]) ∧ Fr (fun _ => False) w w' := by
  obtain ⟨p, hp⟩ : ∃ p, w.heap.size = p := ⟨_, rfl⟩
  obtain ⟨w1, hw1⟩ : ∃ w1, w.alloc (.cells #[.bool false, .int .i64 0] 68) = w1 := ⟨_, rfl⟩
  have hf1 : Fr (fun _ => False) w w1 := by rw [← hw1]; exact (Fr.refl _ _).alloc _
  have hr1 : Row w1 p 68 [.bool false, .int .i64 0] := by rw [← hw1, ← hp]; exact Row.new w _ _
  have HR := Lib.hid hr1
  have HF := Lib.hid hf1
  have HP := Lib.hid hp
  clear hr1 hf1
  go_enter Try.func21, Try.ntmps21
  go_wp2_with (refine store_st ccSz rfl (.tmp 2) (.tmp 4) rfl p (by rfl) [.bool true, .int .i64 n] (by rfl) _ _ HR.out rfl rfl (cc_one (true, n)) ?_)
  intro w2 hr2 hf2
  have d0 : w2.cell? ⟨p, 0, none⟩ = some (.bool true) := hr2.cell rfl
  have d1 : w2.cell? ⟨p, 1, none⟩ = some (.int .i64 n) := hr2.cell rfl
  have HF2 : Hid (Fr (fun _ => False) w w2) := Lib.hid (HF.out.trans hf2 (fun b hb h => by have h1 := HP.out; omega))
  clear hw1 hp hr2 hf2
  go_wp2_with fail
  exact bodyPost_ret (v := .agg #[.bool true, .int .i64 n]) (by simp [results, Try.results21, go_sem, d0, d1]) rfl ⟨rfl, HF2.out⟩
set_option maxRecDepth 100000 in
set_option maxHeartbeats 3200000 in
theorem pcell_any (m n : Nat) (T : List Tx) (a : Tx) (w : World) (hm : MpI w m n (pl T)) (ha : a.length ≤ 1000000) :
    Calls Try.prog 32 #[.map (some m), .string (txt a)] w fun e w' => e = .returned (.agg #[.bool true, .int .i64 (idxA a T)]) ∧ Fr (fun _ => False) w w' := by
  obtain ⟨p, hp⟩ : ∃ p, w.heap.size = p := ⟨_, rfl⟩
  obtain ⟨w1, hw1⟩ : ∃ w1, w.alloc (.cells #[.bool false, .int .i64 0] 68) = w1 := ⟨_, rfl⟩
  have hf1 : Fr (fun _ => False) w w1 := by rw [← hw1]; exact (Fr.refl _ _).alloc _
  have hr1 : Row w1 p 68 [.bool false, .int .i64 0] := by rw [← hw1, ← hp]; exact Row.new w _ _
  have hlk := (hm.fr hf1 (fun h => h)).look a ha
  have hb := idx_bd a T
  have hpl : pl T a = if 0 ≤ idxA a T then some (idxA a T).toNat else none := rfl
  obtain ⟨r, hr⟩ : ∃ r, idxA a T = r := ⟨_, rfl⟩
  rw [hr] at hpl hb ⊢
  have HP := Lib.hid hp
  have HF := Lib.hid hf1
  have HR := Lib.hid hr1
  have HN := Lib.hid (fun w => number_any r w)
  by_cases h0 : 0 ≤ r
  all_goals
    first | rw [if_pos h0] at hpl | rw [if_neg h0] at hpl
    rw [hpl] at hlk
    first | (simp only [plI, Option.isSome_some] at hlk; rw [show ((r.toNat : Nat) : Int) = r by omega] at hlk) | (simp only [plI, Option.isSome_none] at hlk; obtain rfl : r = -1 := by omega)
    clear hpl hr hb hm h0 hf1 hr1
    go_enter Try.func32, Try.ntmps32
    go_wp2_with fail
    clear hw1 hp hlk
    refine (HN.out _).mono ?_
    rintro e w2 ⟨rfl, hf2⟩
    have HR2 := Lib.hid (HR.out.fr hf2 (fun h => h))
    have HF2 := Lib.hid (HF.out.trans hf2 (fun _ _ h => h))
    clear hf2
    go_wp2_with (refine store_st ccSz rfl (.tmp 4) (.tmp 16) rfl p (by rfl) [.bool true, .int .i64 _] (by rfl) _ _ HR2.out rfl rfl (cc_one (true, _)) ?_)
    intro w3 hr3 hf3
    have d0 := hr3.cell (i := 0) rfl
    have d1 := hr3.cell (i := 1) rfl
    have HF3 : Hid (Fr (fun _ => False) w w3) := Lib.hid (HF2.out.trans hf3 (fun b hb h => by have h1 := HP.out; omega))
    clear hr3 hf3
    go_wp2_with fail
    exact bodyPost_ret (v := .agg #[.bool true, .int .i64 _]) (by simp [results, Try.results32, go_sem, d0, d1]) rfl ⟨rfl, HF3.out⟩
set_option maxRecDepth 100000 in
set_option maxHeartbeats 3200000 in
theorem placesOf_any (A : Option Addr) (n c : Nat) (T : List Tx) (w : World) (hT : Rd w A n (T.map tc)) (hn : n ≤ 1000000) (hl : ∀ x ∈ T, x.length ≤ 1000000) :
    Calls Try.prog 10 #[.slice A n c] w fun e w' => ∃ m, e = .returned (.map (some m)) ∧ w.heap.size ≤ m ∧ MpI w' m n (pl T) ∧ Fr (fun _ => False) w w' := by
  have hmm := @run_makeMap Try.prog
  have hln : T.length = n := by simpa using hT.1
  obtain ⟨w0, hw0⟩ : ∃ w0, w.alloc (.map #[] 0) = w0 := ⟨_, rfl⟩
  obtain ⟨m, hm⟩ : ∃ m, w.heap.size = m := ⟨_, rfl⟩
  have hf0 : Fr (fun _ => False) w w0 := by rw [← hw0]; exact (Fr.refl _ _).alloc _
  have hmp0 : MpI w0 m 0 (fun _ => none) := by rw [← hw0, ← hm]; exact MpI.made w
  have HT := Lib.hid hT
  have HL := Lib.hid hl
  have HLN := Lib.hid hln
  have HM := Lib.hid hm
  have HF0 := Lib.hid hf0
  have HMP := Lib.hid hmp0
  clear hT hl hln hf0 hmp0
  go_enter Try.func10, Try.ntmps10
  go_wp2_with fail
  clear hw0 hm hmm
  go_loopw [4, 5, 6, 7, 11] (fun _ _ _ _ v wr => ∃ k : Nat, k ≤ n ∧ v = .int .i64 (k : Int) ∧ Hid (MpI wr m k (pl (T.take k))) ∧ Hid (Fr (fun _ => False) w wr)) (fun _ _ _ _ v _ => n - (intOf v).toNat)
  case atStart => exact ⟨0, Nat.zero_le _, rfl, HMP, HF0⟩
  case round =>
    obtain ⟨k, hk, rfl, HMK, HF⟩ := hrel
    rename World => wr
    by_cases hlt : k < n
    · obtain ⟨ad, x, rfl, hx, hcell⟩ := rd_tx (L := T) (HT.out.fr HF.out (fun _ _ h => h)) hlt
      have hxl := HL.out x (List.mem_of_getElem? hx)
      have hst := pl_step hx
      have hlk := HMK.out.look x hxl
      obtain ⟨v2, hrun, hmp, hf2⟩ := HMK.out.put (by unfold maxLen; omega) x hxl k (by omega)
      obtain ⟨o, ho⟩ : ∃ o, pl (T.take k) x = o := ⟨_, rfl⟩
      rw [ho] at hst hlk
      cases o with
      | none =>
        simp only [Option.isSome_none, Bool.false_eq_true, if_false] at hst
        simp only [plI, Option.isSome_none] at hlk
        rw [← hst] at hmp
        have HMP2 := Lib.hid hmp
        have HF2 := Lib.hid (HF.out.trans hf2 (fun b hb h => by have h1 := HM.out; omega))
        clear hmp hf2 hst ho hx hxl
        go_wp2_with fail
        go_roundw
        case rel => exact ⟨k + 1, by omega, by go_num, HMP2, HF2⟩
        case measure => simp [intOf] <;> omega
      | some q =>
        simp only [Option.isSome_some, if_true] at hst
        simp only [plI, Option.isSome_some] at hlk
        have HMP2 : Hid (MpI wr m (k + 1) (pl (T.take (k + 1)))) := Lib.hid (by rw [hst]; exact HMK.out.mono (by omega))
        clear hmp hf2 hrun hst ho hx hxl
        go_wp2_with fail
        go_roundw
        case rel => exact ⟨k + 1, by omega, by go_num, HMP2, HF⟩
        case measure => simp [intOf] <;> omega
    · obtain rfl : k = n := by omega
      have hall : T.take k = T := List.take_of_length_le (by have := HLN.out; omega)
      rw [hall] at HMK
      clear hall
      go_wp2_with fail
      exact bodyPost_ret (v := .map (some m)) (by simp [results, Try.results10, go_sem]) rfl ⟨m, rfl, by have := HM.out; omega, HMK.out, HF.out⟩
end Go.Proofs.Ytohbcepbodcapaa
