/-
  Plain mathematics of layer 15: columns of values.
  Plain mathematics of layer 19: the columns of ops.
  Layer 19, the program: where each text of a table stands: a map; cells of actors and numbers.
  Layer 12: a row of cells made at once and filled from the front. No condition.
  Layer 13, the program: rows of one cell each (numbers, truths); numbers.
  Layer 11, the program: Put, Get and their like (written by gen11.py out of rleU.src).
-/
import Derived.Test.YtedmnkcoflbciaaGreatRleT
import Derived.Test.YtedmnkcoflbciaaGreatZm18
import Derived.Test.YtedmnkcoflbciaaGreatZm03
import Derived.Test.YtedmnkcoflbciaaGreatZm04
import Derived.Maps.OwnSet
import Derived.Deep.DeepCutAuto
import Derived.Deep.CutRange
import Derived.Test.YtedmnkcoflbciaaGreatZm20
import Derived.Lib.Hide
import Derived.Deep.QuietTactic
import Derived.BigQuiet
import Derived.StillTailTactics
import Derived.Deep.DrawnRows
namespace Go.Proofs.YtedmnkcoflbciaaGreat
open RleM LebM VaM

/-- a value's cell -/
def metaC (v : V) : Bool × Int := if v.k = 0 then (false, 0) else (true, 16 * ((putV v).length : Int) + v.k)
/-- both columns -/
def putM (L : List V) : List UInt8 := tellW kU (gatherG (L.map metaC))
def putB (L : List V) : List UInt8 := L.flatMap putV
theorem right_k {v : V} (h : rightV v = true) : 0 ≤ v.k ∧ v.k ≤ 8 := by
  unfold rightV at h
  have hc := cl_le v.k
  rcases (show cl v.k = 0 ∨ cl v.k = 1 ∨ cl v.k = 2 ∨ cl v.k = 3 ∨ cl v.k = 4 ∨ cl v.k = 5 by omega) with e | e | e | e | e | e
  · have := cl0 e; omega
  · have := cl1 e; omega
  · have := cl2 e; omega
  · have := cl3 e; omega
  · have := cl4 e; omega
  · simp [e] at h
theorem right_put {v : V} (hv : v.ok) (h : rightV v = true) : (putV v).length ≤ 4000 := by
  have h3 := u_len10 hv.2.1
  have h4 := s_len10 hv.2.2.1 hv.2.2.2
  have h5 := right_len h
  unfold putV
  split <;> first | omega | simp
theorem right_null {v : V} (h : rightV v = true) (hk : v.k = 0) : v = zeroV ∧ putV v = [] := by
  have e : cl v.k = 0 := by rw [hk]; rfl
  refine ⟨?_, by simp [putV, e]⟩
  simp only [rightV, e, Bool.and_eq_true, decide_eq_true_eq] at h
  exact V.ext' hk h.1.1 h.1.2 h.2
theorem meta_may {v : V} (hv : v.ok) (h : rightV v = true) : mayU (metaC v) := by
  have h1 := right_k h
  have h2 := right_put hv h
  unfold metaC
  split
  · exact ⟨fun _ => rfl, Int.le_refl _, by show (0 : Int) < _; omega⟩
  · exact ⟨fun (h : true = false) => (by cases h), show (0 : Int) ≤ 16 * ((putV v).length : Int) + v.k by omega, show 16 * ((putV v).length : Int) + v.k < 9223372036854775808 by omega⟩
theorem putM_may {L : List V} (h : ∀ v ∈ L, v.ok ∧ rightV v = true) : ∀ c ∈ L.map metaC, mayU c := by
  intro c hc
  obtain ⟨v, hv, rfl⟩ := List.mem_map.1 hc
  exact meta_may (h v hv).1 (h v hv).2
theorem putB_len : ∀ {L : List V}, (∀ v ∈ L, v.ok ∧ rightV v = true) → (putB L).length ≤ L.length * 4000
  | [], _ => Nat.le_refl _
  | v :: T, h => by
    have h1 := putB_len (L := T) (fun x hx => h x (List.mem_cons_of_mem _ hx))
    have h2 := right_put (h v (List.mem_cons_self ..)).1 (h v (List.mem_cons_self ..)).2
    unfold putB at h1 ⊢
    rw [List.flatMap_cons, List.length_append, List.length_cons, Nat.add_mul, Nat.one_mul]
    omega
theorem putB_snoc (L : List V) (v : V) : putB (L ++ [v]) = putB L ++ putV v := by simp [putB]
/-- are any not Null? -/
def someV (L : List V) : Bool := L.any fun v => decide (v.k ≠ 0)
theorem none_meta {L : List V} (h : someV L = false) : ∀ c ∈ L.map metaC, c = ((false, 0) : Bool × Int) := by
  intro c hc
  obtain ⟨v, hv, rfl⟩ := List.mem_map.1 hc
  have := List.any_eq_false.1 h v hv
  rw [metaC, if_pos (by simpa using this)]
theorem putM_none {L : List V} (h : someV L = false) : putM L = [] := told_none (none_meta h)
theorem putB_none : ∀ {L : List V}, (∀ v ∈ L, v.ok ∧ rightV v = true) → someV L = false → putB L = []
  | [], _, _ => rfl
  | v :: T, h, hs => by
    unfold someV at hs
    rw [List.any_cons, Bool.or_eq_false_iff] at hs
    have h1 := right_null (h v (List.mem_cons_self ..)).2 (by simpa using hs.1)
    have h2 := putB_none (L := T) (fun x hx => h x (List.mem_cons_of_mem _ hx)) hs.2
    unfold putB at h2 ⊢
    rw [List.flatMap_cons, h1.2, h2]
    rfl
/-- so many Nulls -/
theorem put_nulls (k : Nat) : putM (List.replicate k zeroV) = [] ∧ putB (List.replicate k zeroV) = [] := by
  have hs : someV (List.replicate k zeroV) = false := by
    unfold someV
    rw [List.any_eq_false]
    intro v hv
    rw [(List.mem_replicate.1 hv).2]
    simp [zeroV]
  have hr : ∀ v ∈ List.replicate k zeroV, v.ok ∧ rightV v = true := by
    intro v hv
    rw [(List.mem_replicate.1 hv).2]
    exact ⟨⟨⟨by decide, by decide⟩, by decide, by decide, by decide⟩, rfl⟩
  exact ⟨putM_none hs, putB_none hr hs⟩
end Go.Proofs.YtedmnkcoflbciaaGreat
namespace Go.Proofs.YtedmnkcoflbciaaGreat
open Go Go.RowKit LebM UtfM RleM VaM OpM AcM
namespace CsM

abbrev C := Bool × Int
def oneA (T : List Tx) (x : Nm) : C := if zeroB x then (false, 0) else (true, idxA x.a T)
def oneC (x : Nm) : C := if zeroB x then (false, 0) else (true, x.c)
def keyC (o : O) : C := if zeroB o.elem then (if o.keyed then (false, 0) else (true, 0)) else (true, o.elem.c)
def keyT (o : O) : Bool × List UInt8 := if o.keyed then (true, o.key) else (false, [])
def numC (o : O) : C := if o.pr.length = 0 then (false, 0) else (true, (o.pr.length : Int))
def prs (l : List O) : List Nm := l.flatMap O.pr
def tU (L : List C) : List UInt8 := tellW kU (gatherG L)
def tD (L : List C) : List UInt8 := tellW kS (gatherG (stepsF 0 L))
def tW (L : List (Bool × List UInt8)) : List UInt8 := tellW kW (gatherG L)
/-- all columns; those that have bytes -/
def colsA (T : List Tx) (l : List O) : List DirM.Col :=
  [(1, tU (l.map fun o => oneA T o.obj)), (2, tU (l.map fun o => oneC o.obj)), (17, tU (l.map fun o => oneA T o.elem)), (19, tD (l.map keyC)), (21, tW (l.map keyT)),
   (52, BooM.putB (l.map O.ins)), (66, tU (l.map fun o => (true, o.act))), (86, putM (l.map O.val)), (87, putB (l.map O.val)), (112, tU (l.map numC)), (113, tU ((prs l).map (oneA T))), (115, tD ((prs l).map oneC))]
def putS (T : List Tx) (l : List O) : List DirM.Col := DirM.full (colsA T l)
/-- all of whom an op speaks stand in the table -/
def allIn (T : List Tx) (l : List O) : Prop := ∀ o ∈ l, (zeroB o.obj = false → o.obj.a ∈ T) ∧ (zeroB o.elem = false → o.elem.a ∈ T) ∧ ∀ x ∈ o.pr, zeroB x = false → x.a ∈ T
/-- ops that may be put: right, few, small -/
structure Fit (T : List Tx) (l : List O) : Prop where
  right : ∀ o ∈ l, rightO o = true
  ok : ∀ o ∈ l, o.val.ok
  tab : allIn T l
  len : l.length ≤ 2001
  few : T.length ≤ 1000000

theorem zero_c {x : Nm} (h : zeroB x = true) : x.c = 0 ∧ x.a = [] := by
  have := (eqN_iff x zeroN).1 h
  subst this
  exact ⟨rfl, rfl⟩
theorem id_bd {x : Nm} (h : idB x = true) : 1 ≤ x.c ∧ x.c ≤ 9007199254740991 ∧ 0 < x.a.length ∧ x.a.length ≤ 16 := by
  unfold idB actorB at h
  simp only [Bool.and_eq_true, decide_eq_true_eq] at h
  omega
theorem id_zero {x : Nm} (h : idB x = true) : zeroB x = false := by
  cases hz : zeroB x with
  | false => rfl
  | true => have := zero_c hz; have := id_bd h; omega
theorem right_parts {o : O} (h : rightO o = true) : ptB o.obj = true ∧ keyB o = true ∧ 0 ≤ o.act ∧ o.act ≤ 1000 ∧ rightV o.val = true ∧ o.pr.length ≤ 16 ∧ riseB zeroN o.pr = true := by
  unfold rightO predsB at h
  simp only [Bool.and_eq_true, decide_eq_true_eq] at h
  obtain ⟨⟨⟨⟨⟨h1, h2⟩, h3⟩, h4⟩, h5⟩, h6, h7⟩ := h
  exact ⟨h1, h2, h3, h4, h5, h6, h7⟩
theorem rise_ids {a : Nm} : ∀ {l : List Nm}, riseB a l = true → ∀ x ∈ l, idB x = true
  | [], _, x, h => by cases h
  | y :: l, h, x, hx => by
    unfold riseB at h
    simp only [Bool.and_eq_true] at h
    rcases List.mem_cons.1 hx with rfl | hx
    · exact h.1.1
    · exact rise_ids h.2 x hx
theorem pt_bd {x : Nm} (h : ptB x = true) : 0 ≤ x.c ∧ x.c ≤ 9007199254740991 ∧ x.a.length ≤ 16 := by
  unfold ptB at h
  simp only [Bool.or_eq_true] at h
  rcases h with h | h
  · have := zero_c h; rw [this.2, this.1]; simp
  · have := id_bd h; omega
theorem right_elem {o : O} (h : rightO o = true) : ptB o.elem = true := by
  have h2 := (right_parts h).2.1
  unfold keyB at h2
  split at h2
  · simp only [Bool.and_eq_true] at h2
    unfold ptB
    rw [h2.1.2]
    rfl
  · simp only [Bool.and_eq_true] at h2
    exact h2.2
theorem right_key {o : O} (h : rightO o = true) : o.key.length ≤ 4000 := by
  have h2 := (right_parts h).2.1
  unfold keyB at h2
  split at h2
  · simp only [Bool.and_eq_true, decide_eq_true_eq] at h2
    exact h2.1.1.1
  · simp only [Bool.and_eq_true, decide_eq_true_eq] at h2
    rw [h2.1]
    simp
theorem prs_len {l : List O} {M : Nat} (h : ∀ o ∈ l, o.pr.length ≤ M) : (prs l).length ≤ l.length * M := by
  induction l with
  | nil => simp [prs]
  | cons o l ih =>
    have h1 := h o (List.mem_cons_self ..)
    have h2 := ih (fun p hp => h p (List.mem_cons_of_mem _ hp))
    unfold prs at h2 ⊢
    rw [List.flatMap_cons, List.length_append, List.length_cons, Nat.add_mul]
    omega
theorem oneA_may {T : List Tx} {x : Nm} (h : zeroB x = false → x.a ∈ T) (hT : T.length ≤ 1000000) : mayU (oneA T x) := by
  unfold oneA
  split
  · exact ⟨fun _ => rfl, by unfold okU; simp⟩
  · next hz =>
    have h1 := idx_mem (h (by simpa using hz))
    have h2 := (idx_bd x.a T).2
    exact ⟨fun e => (by cases e), h1, by show idxA x.a T < _; omega⟩
theorem oneC_may {x : Nm} (h : 0 ≤ x.c ∧ x.c ≤ 9007199254740991) : mayU (oneC x) ∧ mayS (oneC x) := by
  unfold oneC
  split
  · exact ⟨⟨fun _ => rfl, by unfold okU; simp⟩, fun _ => rfl, by unfold okS; simp⟩
  · exact ⟨⟨fun e => (by cases e), h.1, by show x.c < _; omega⟩, fun e => (by cases e), by show _ ≤ x.c; omega, by show x.c < _; omega⟩
section
variable {T : List Tx} {l : List O}
theorem Fit.take (h : Fit T (l : List O)) (k : Nat) : Fit T (l.take k) :=
  ⟨fun o ho => h.right o (List.mem_of_mem_take ho), fun o ho => h.ok o (List.mem_of_mem_take ho), fun o ho => h.tab o (List.mem_of_mem_take ho), Nat.le_trans (by rw [List.length_take]; exact Nat.min_le_right _ _) h.len, h.few⟩
theorem Fit.plen (h : Fit T l) : (prs l).length ≤ 32016 := by
  have h1 := prs_len (l := l) (M := 16) (fun o ho => (right_parts (h.right o ho)).2.2.2.2.2.1)
  have h2 := Nat.mul_le_mul_right 16 h.len
  omega
theorem Fit.pid (h : Fit T l) : ∀ x ∈ prs l, idB x = true ∧ x.a ∈ T := by
  intro x hx
  obtain ⟨o, ho, hx⟩ := List.mem_flatMap.1 hx
  have h1 := rise_ids (right_parts (h.right o ho)).2.2.2.2.2.2 x hx
  exact ⟨h1, (h.tab o ho).2.2 x hx (id_zero h1)⟩
theorem Fit.m1 (h : Fit T l) : ∀ c ∈ l.map (fun o => oneA T o.obj), mayU c := by
  intro c hc
  obtain ⟨o, ho, rfl⟩ := List.mem_map.1 hc
  exact oneA_may (h.tab o ho).1 h.few
theorem Fit.m2 (h : Fit T l) : ∀ c ∈ l.map (fun o => oneC o.obj), mayU c := by
  intro c hc
  obtain ⟨o, ho, rfl⟩ := List.mem_map.1 hc
  have := pt_bd (right_parts (h.right o ho)).1
  exact (oneC_may ⟨this.1, this.2.1⟩).1
theorem Fit.m3 (h : Fit T l) : ∀ c ∈ l.map (fun o => oneA T o.elem), mayU c := by
  intro c hc
  obtain ⟨o, ho, rfl⟩ := List.mem_map.1 hc
  exact oneA_may (h.tab o ho).2.1 h.few
theorem Fit.m4 (h : Fit T l) : ∀ c ∈ l.map keyC, mayS c := by
  intro c hc
  obtain ⟨o, ho, rfl⟩ := List.mem_map.1 hc
  have := pt_bd (right_elem (h.right o ho))
  unfold keyC
  split
  · split
    · exact ⟨fun _ => rfl, by unfold okS; simp⟩
    · exact ⟨fun _ => rfl, by unfold okS; simp⟩
  · exact ⟨fun e => (by cases e), by show _ ≤ o.elem.c; omega, by show o.elem.c < _; omega⟩
theorem Fit.m5 (h : Fit T l) : ∀ c ∈ l.map keyT, mayW c ∧ c.2.length ≤ 4000 := by
  intro c hc
  obtain ⟨o, ho, rfl⟩ := List.mem_map.1 hc
  have := right_key (h.right o ho)
  unfold keyT
  split
  · exact ⟨⟨fun e => (by cases e), by show o.key.length ≤ _; omega⟩, this⟩
  · exact ⟨⟨fun _ => rfl, by show (0 : Nat) ≤ _; omega⟩, by simp⟩
theorem Fit.m7 (h : Fit T l) : ∀ c ∈ l.map (fun o => ((true, o.act) : C)), mayU c := by
  intro c hc
  obtain ⟨o, ho, rfl⟩ := List.mem_map.1 hc
  have := right_parts (h.right o ho)
  exact ⟨fun e => (by cases e), this.2.2.1, by show o.act < _; omega⟩
theorem Fit.m8 (h : Fit T l) : ∀ v ∈ l.map O.val, v.ok ∧ rightV v = true := by
  intro c hc
  obtain ⟨o, ho, rfl⟩ := List.mem_map.1 hc
  exact ⟨h.ok o ho, (right_parts (h.right o ho)).2.2.2.2.1⟩
theorem Fit.m10 (h : Fit T l) : ∀ c ∈ l.map numC, mayU c := by
  intro c hc
  obtain ⟨o, ho, rfl⟩ := List.mem_map.1 hc
  have := (right_parts (h.right o ho)).2.2.2.2.2.1
  unfold numC
  split
  · exact ⟨fun _ => rfl, by unfold okU; simp⟩
  · exact ⟨fun e => (by cases e), by show (0 : Int) ≤ _; omega, by show (o.pr.length : Int) < _; omega⟩
theorem Fit.m11 (h : Fit T l) : ∀ c ∈ (prs l).map (oneA T), mayU c := by
  intro c hc
  obtain ⟨x, hx, rfl⟩ := List.mem_map.1 hc
  exact oneA_may (fun _ => (h.pid x hx).2) h.few
theorem Fit.m12 (h : Fit T l) : ∀ c ∈ (prs l).map oneC, mayS c := by
  intro c hc
  obtain ⟨x, hx, rfl⟩ := List.mem_map.1 hc
  have := id_bd (h.pid x hx).1
  exact (oneC_may ⟨by omega, this.2.1⟩).2
theorem put_len (T : List Tx) (l : List O) : (putS T l).length ≤ 12 := List.length_filter_le _ _
end
end CsM
end Go.Proofs.YtedmnkcoflbciaaGreat
namespace Go.Proofs.YtedmnkcoflbciaaGreat
open Go.RowKit Mem Go.Lib Go.Maps LebM UtfM VaM OpM AcM CsM
attribute [local go_sem ↓] Go.wp_at_zero Go.wp_at_succ
set_option linter.unusedVariables false

theorem keyedS : Keyed Tryz.prog 9 := string_keyed Tryz.underlying9
theorem key_sx {a : Tx} (h : a.length ≤ 1000000) : keyOf Tryz.prog 9 (.string (txt a)) = some (.string a) := by
  have := Go.WideMaps.keyOf_string_mk (P := Tryz.prog) (k := 9) Tryz.underlying9 (s := txt a) (by show a.length ≤ _; unfold maxLen; omega)
  exact this
theorem zeroI (w : World) : (zeroValue 3).run Tryz.prog w = .ok (.int .i64 0) w := by kernel_rfl
/-- where a text stands -/
def pl (T : List Tx) (a : Tx) : Option Nat := if 0 ≤ idxA a T then some (idxA a T).toNat else none
def plI : Option Nat → Int
  | some q => (q : Int)
  | none => 0
theorem idx_snoc (a x : Tx) : ∀ l : List Tx, idxA a (l ++ [x]) = if 0 ≤ idxA a l then idxA a l else if x = a then (l.length : Int) else -1
  | [] => by
    simp only [List.nil_append, idxA, List.length_nil]
    by_cases h : x = a
    · simp [h]
    · simp [h]
  | y :: l => by
    have ih := idx_snoc a x l
    have hb := idx_bd a l
    rw [List.cons_append, idxA, idxA, ih]
    by_cases h : y = a
    · simp [h]
    · simp only [h, if_false, List.length_cons]
      (repeat' split) <;> omega
theorem cpl_step {T : List Tx} {k : Nat} {x : Tx} (h : T[k]? = some x) : pl (T.take (k + 1)) = if (pl (T.take k) x).isSome = true then pl (T.take k) else fun a => if x = a then some k else pl (T.take k) a := by
  have hl : (T.take k).length = k := by
    have := (List.getElem?_eq_some_iff.1 h).1
    rw [List.length_take]
    omega
  have e : T.take (k + 1) = T.take k ++ [x] := by
    rw [List.take_add_one, h]
    rfl
  rw [e]
  funext a
  unfold pl
  rw [idx_snoc, hl]
  by_cases h1 : 0 ≤ idxA a (T.take k)
  · rw [if_pos h1, if_pos h1]
    by_cases h2 : x = a
    · subst h2
      simp [h1]
    · by_cases h3 : 0 ≤ idxA x (T.take k) <;> simp [h2, h3, h1]
  · rw [if_neg h1]
    by_cases h2 : x = a
    · subst h2
      simp [h1]
    · by_cases h3 : 0 ≤ idxA x (T.take k) <;> simp [h2, h3, h1]
/-- block m is a map of at most n entries: these texts, at these places -/
def MpI (w : World) (m n : Nat) (f : Tx → Option Nat) : Prop :=
  ∃ D : DataW Unit, w.ownsMap Tryz.prog 9 (plainElem Tryz.prog 3) m n D ∧ ∀ k, Maps.has D (.string k) = (f k).isSome ∧ ∀ q, f k = some q → D.atKey (.string k) (.lit (.int .i64 0)) = .lit (.int .i64 (q : Int))
theorem MpI.made (w : World) : MpI (w.alloc (.map #[] 0)) w.heap.size 0 (fun _ => none) := ⟨_, World.ownsMap_made _ _ _ _, fun k => ⟨by simp [Maps.has], fun q h => by cases h⟩⟩
theorem MpI.lt {w : World} {m n : Nat} {f : Tx → Option Nat} (h : MpI w m n f) : m < w.heap.size := by obtain ⟨D, ho, _⟩ := h; exact ho.lt
theorem MpI.fr {R : Nat → Prop} {w w' : World} {m n : Nat} {f : Tx → Option Nat} (h : MpI w m n f) (hf : Fr R w w') (hR : ¬ R m) : MpI w' m n f := by
  obtain ⟨D, ⟨es, cl, hb, hr⟩, hD⟩ := h
  exact ⟨D, ⟨es, cl, hf.blk hb hR, hr⟩, hD⟩
theorem MpI.mono {w : World} {m n n' : Nat} {f : Tx → Option Nat} (h : MpI w m n f) (hn : n ≤ n') : MpI w m n' f := by
  obtain ⟨D, ho, hD⟩ := h
  exact ⟨D, ho.mono hn, hD⟩
/-- a map isn't a row -/
theorem MpI.blk {w : World} {m n : Nat} {f : Tx → Option Nat} (h : MpI w m n f) : ∃ es cl, w.heap[m]? = some (.map es cl) := by obtain ⟨D, ⟨es, cl, hb, _⟩, _⟩ := h; exact ⟨es, cl, hb⟩
set_option maxRecDepth 100000 in
theorem MpI.look {w : World} {m n : Nat} {f : Tx → Option Nat} (h : MpI w m n f) (a : Tx) (ha : a.length ≤ 1000000) :
    (Instr.lookup 61 (.map (some m)) (.string (txt a)) true).run Tryz.prog w = .ok (.tuple #[.int .i64 (plI (f a)), .bool (f a).isSome]) w := by
  obtain ⟨D, ho, hD⟩ := h
  obtain ⟨v, ps, hrun, hv⟩ := ho.look_ok keyedS Tryz.underlying61 (zeroI w) (plainElem_int Tryz.underlying3 (a := 0) (by decide)) (key_sx ha)
  obtain ⟨c, rfl, hc, hwc⟩ := plainElem_int_inv Tryz.underlying3 hv
  simp only [Prod.mk.injEq] at hc
  obtain ⟨h1, h2⟩ := hD a
  rw [hrun, h1]
  cases hk : f a with
  | none =>
    rw [hk] at h1
    have := hc.1
    rw [Maps.atKey_of_not_has h1] at this
    injection this with this
    injection this with _ this
    rw [← this]
    rfl
  | some q =>
    have := hc.1
    rw [h2 q hk] at this
    injection this with this
    injection this with _ this
    rw [← this]
    rfl
set_option maxRecDepth 100000 in
theorem MpI.put {w : World} {m n : Nat} {f : Tx → Option Nat} (h : MpI w m n f) (hn : n < maxLen) (a : Tx) (ha : a.length ≤ 1000000) (q : Nat) (hq : q ≤ 1000000) :
    ∃ w', (Instr.mapUpdate 61 (.map (some m)) (.string (txt a)) (.int .i64 (q : Int))).run Tryz.prog w = .ok () w' ∧ MpI w' m (n + 1) (fun b => if a = b then some q else f b) ∧ Fr (fun b => b = m) w w' := by
  obtain ⟨D, ho, hD⟩ := h
  have hwf : (Lit.int .i64 (q : Int)).wf = true := WalkArith.wf_i64 (by omega)
  obtain ⟨w', hrun, ho', hg⟩ := ho.update keyedS Tryz.underlying61 hn (key_sx ha) (plainElem_int Tryz.underlying3 hwf)
  refine ⟨w', hrun, ⟨_, ho', fun b => ?_⟩, (Fr.of_grown hg).mono (fun b _ h => by injection h with h; exact h.symm)⟩
  by_cases hk : a = b
  · subst hk
    simp only
    refine ⟨Maps.has_put_same ho.isMap (keyedS.key (key_sx ha)) _, fun z hz => ?_⟩
    injection hz with hz
    subst hz
    exact Maps.atKey_put_same ho.isMap (keyedS.key (key_sx ha)) _ _
  · have hne : Lit.string b ≠ Lit.string a := fun e => by injection e with e; exact hk e.symm
    simp only [if_neg hk]
    refine ⟨(Maps.has_put_other hne _).trans (hD b).1, fun z hz => ?_⟩
    rw [Maps.atKey_put_other hne]
    exact (hD b).2 z hz
theorem ccSz : (Tryz.prog.info? 77).map (·.size) = some 2 := by kernel_rfl
theorem cc_one (x : C) : ([Value.bool x.1, .int .i64 x.2] : List Value).toArray.all (·.oneCell') = true := by simp [Value.oneCell']
set_option maxRecDepth 100000 in
set_option maxHeartbeats 1600000 in
theorem cnumber_any (n : Int) (w : World) : Calls Tryz.prog 48 #[.int .i64 n] w fun e w' => e = .returned (.agg #[.bool true, .int .i64 n]) ∧ Fr (fun _ => False) w w' := by
  obtain ⟨p, hp⟩ : ∃ p, w.heap.size = p := ⟨_, rfl⟩
  obtain ⟨w1, hw1⟩ : ∃ w1, w.alloc (.cells #[.bool false, .int .i64 0] 77) = w1 := ⟨_, rfl⟩
  have hf1 : Fr (fun _ => False) w w1 := by rw [← hw1]; exact (Fr.refl _ _).alloc _
  have hr1 : Row w1 p 77 [.bool false, .int .i64 0] := by rw [← hw1, ← hp]; exact Row.new w _ _
  have HR := Lib.hid hr1
  have HF := Lib.hid hf1
  have HP := Lib.hid hp
  clear hr1 hf1
  go_enter Tryz.func48, Tryz.ntmps48
  go_wp2_with (refine store_st ccSz rfl (.tmp 2) (.tmp 4) rfl p (by rfl) [.bool true, .int .i64 n] (by rfl) _ _ HR.out rfl rfl (cc_one (true, n)) ?_)
  intro w2 hr2 hf2
  have d0 : w2.cell? ⟨p, 0, none⟩ = some (.bool true) := hr2.cell rfl
  have d1 : w2.cell? ⟨p, 1, none⟩ = some (.int .i64 n) := hr2.cell rfl
  have HF2 : Hid (Fr (fun _ => False) w w2) := Lib.hid (HF.out.trans hf2 (fun b hb h => by have h1 := HP.out; omega))
  clear hw1 hp hr2 hf2
  go_wp2_with fail
  exact bodyPost_ret (v := .agg #[.bool true, .int .i64 n]) (by simp [results, Tryz.results48, go_sem, d0, d1]) rfl ⟨rfl, HF2.out⟩
set_option maxRecDepth 100000 in
set_option maxHeartbeats 3200000 in
theorem pcell_any (m n : Nat) (T : List Tx) (a : Tx) (w : World) (hm : MpI w m n (pl T)) (ha : a.length ≤ 1000000) :
    Calls Tryz.prog 87 #[.map (some m), .string (txt a)] w fun e w' => e = .returned (.agg #[.bool true, .int .i64 (idxA a T)]) ∧ Fr (fun _ => False) w w' := by
  obtain ⟨p, hp⟩ : ∃ p, w.heap.size = p := ⟨_, rfl⟩
  obtain ⟨w1, hw1⟩ : ∃ w1, w.alloc (.cells #[.bool false, .int .i64 0] 77) = w1 := ⟨_, rfl⟩
  have hf1 : Fr (fun _ => False) w w1 := by rw [← hw1]; exact (Fr.refl _ _).alloc _
  have hr1 : Row w1 p 77 [.bool false, .int .i64 0] := by rw [← hw1, ← hp]; exact Row.new w _ _
  have hlk := (hm.fr hf1 (fun h => h)).look a ha
  have hb := idx_bd a T
  have hpl : pl T a = if 0 ≤ idxA a T then some (idxA a T).toNat else none := rfl
  obtain ⟨r, hr⟩ : ∃ r, idxA a T = r := ⟨_, rfl⟩
  rw [hr] at hpl hb ⊢
  have HP := Lib.hid hp
  have HF := Lib.hid hf1
  have HR := Lib.hid hr1
  have HN := Lib.hid (fun w => cnumber_any r w)
  by_cases h0 : 0 ≤ r
  all_goals
    first | rw [if_pos h0] at hpl | rw [if_neg h0] at hpl
    rw [hpl] at hlk
    first | (simp only [plI, Option.isSome_some] at hlk; rw [show ((r.toNat : Nat) : Int) = r by omega] at hlk) | (simp only [plI, Option.isSome_none] at hlk; obtain rfl : r = -1 := by omega)
    clear hpl hr hb hm h0 hf1 hr1
    go_enter Tryz.func87, Tryz.ntmps87
    go_wp2_with fail
    clear hw1 hp hlk
    refine (HN.out _).mono ?_
    rintro e w2 ⟨rfl, hf2⟩
    have HR2 := Lib.hid (HR.out.fr hf2 (fun h => h))
    have HF2 := Lib.hid (HF.out.trans hf2 (fun _ _ h => h))
    clear hf2
    go_wp2_with (refine store_st ccSz rfl (.tmp 4) (.tmp 16) rfl p (by rfl) [.bool true, .int .i64 _] (by rfl) _ _ HR2.out rfl rfl (cc_one (true, _)) ?_)
    intro w3 hr3 hf3
    have d0 := hr3.cell (i := 0) rfl
    have d1 := hr3.cell (i := 1) rfl
    have HF3 : Hid (Fr (fun _ => False) w w3) := Lib.hid (HF2.out.trans hf3 (fun b hb h => by have h1 := HP.out; omega))
    clear hr3 hf3
    go_wp2_with fail
    exact bodyPost_ret (v := .agg #[.bool true, .int .i64 _]) (by simp [results, Tryz.results87, go_sem, d0, d1]) rfl ⟨rfl, HF3.out⟩
set_option maxRecDepth 100000 in
set_option maxHeartbeats 3200000 in
theorem placesOf_any (A : Option Addr) (n c : Nat) (T : List Tx) (w : World) (hT : Rd w A n (T.map tc)) (hn : n ≤ 1000000) (hl : ∀ x ∈ T, x.length ≤ 1000000) :
    Calls Tryz.prog 20 #[.slice A n c] w fun e w' => ∃ m, e = .returned (.map (some m)) ∧ w.heap.size ≤ m ∧ MpI w' m n (pl T) ∧ Fr (fun _ => False) w w' := by
  have hmm := @run_makeMap Tryz.prog
  have hln : T.length = n := by simpa using hT.1
  obtain ⟨w0, hw0⟩ : ∃ w0, w.alloc (.map #[] 0) = w0 := ⟨_, rfl⟩
  obtain ⟨m, hm⟩ : ∃ m, w.heap.size = m := ⟨_, rfl⟩
  have hf0 : Fr (fun _ => False) w w0 := by rw [← hw0]; exact (Fr.refl _ _).alloc _
  have hmp0 : MpI w0 m 0 (fun _ => none) := by rw [← hw0, ← hm]; exact MpI.made w
  have HT := Lib.hid hT
  have HL := Lib.hid hl
  have HLN := Lib.hid hln
  have HM := Lib.hid hm
  have HF0 := Lib.hid hf0
  have HMP := Lib.hid hmp0
  clear hT hl hln hf0 hmp0
  go_enter Tryz.func20, Tryz.ntmps20
  go_wp2_with fail
  clear hw0 hm hmm
  go_loopw [4, 5, 6, 7, 11] (fun _ _ _ _ v wr => ∃ k : Nat, k ≤ n ∧ v = .int .i64 (k : Int) ∧ Hid (MpI wr m k (pl (T.take k))) ∧ Hid (Fr (fun _ => False) w wr)) (fun _ _ _ _ v _ => n - (intOf v).toNat)
  case atStart => exact ⟨0, Nat.zero_le _, rfl, HMP, HF0⟩
  case round =>
    obtain ⟨k, hk, rfl, HMK, HF⟩ := hrel
    rename World => wr
    by_cases hlt : k < n
    · obtain ⟨ad, x, rfl, hx, hcell⟩ := rd_tx (L := T) (HT.out.fr HF.out (fun _ _ h => h)) hlt
      have hxl := HL.out x (List.mem_of_getElem? hx)
      have hst := cpl_step hx
      have hlk := HMK.out.look x hxl
      obtain ⟨v2, hrun, hmp, hf2⟩ := HMK.out.put (by unfold maxLen; omega) x hxl k (by omega)
      obtain ⟨o, ho⟩ : ∃ o, pl (T.take k) x = o := ⟨_, rfl⟩
      rw [ho] at hst hlk
      cases o with
      | none =>
        simp only [Option.isSome_none, Bool.false_eq_true, if_false] at hst
        simp only [plI, Option.isSome_none] at hlk
        rw [← hst] at hmp
        have HMP2 := Lib.hid hmp
        have HF2 := Lib.hid (HF.out.trans hf2 (fun b hb h => by have h1 := HM.out; omega))
        clear hmp hf2 hst ho hx hxl
        go_wp2_with fail
        go_roundw
        case rel => exact ⟨k + 1, by omega, by go_num, HMP2, HF2⟩
        case measure => simp [intOf] <;> omega
      | some q =>
        simp only [Option.isSome_some, if_true] at hst
        simp only [plI, Option.isSome_some] at hlk
        have HMP2 : Hid (MpI wr m (k + 1) (pl (T.take (k + 1)))) := Lib.hid (by rw [hst]; exact HMK.out.mono (by omega))
        clear hmp hf2 hrun hst ho hx hxl
        go_wp2_with fail
        go_roundw
        case rel => exact ⟨k + 1, by omega, by go_num, HMP2, HF⟩
        case measure => simp [intOf] <;> omega
    · obtain rfl : k = n := by omega
      have hall : T.take k = T := List.take_of_length_le (by have := HLN.out; omega)
      rw [hall] at HMK
      clear hall
      go_wp2_with fail
      exact bodyPost_ret (v := .map (some m)) (by simp [results, Tryz.results20, go_sem]) rfl ⟨m, rfl, by have := HM.out; omega, HMK.out, HF.out⟩
end Go.Proofs.YtedmnkcoflbciaaGreat
namespace Go.Proofs.YtedmnkcoflbciaaGreat
open Go.RowKit Mem Go.Lib RleM LebM
set_option linter.unusedVariables false

def clD (L : List (Bool × Int)) : List Value := L.flatMap (ccells nv)
def fillC (F : List (Bool × Int)) (n : Nat) : List (Bool × Int) := F ++ List.replicate (n - F.length) (false, 0)
theorem cl_len (L : List (Bool × Int)) : (clD L).length = L.length * 2 := flat_klen _ 2 (fun _ => rfl) L
theorem cl_set : ∀ (G : List (Bool × Int)) (k : Nat) (t : Bool × Int), ((clD G).set (k * 2) (.bool t.1)).set (k * 2 + 1) (nv t.2) = clD (G.set k t)
  | [], k, t => rfl
  | (i, x) :: G, 0, t => rfl
  | (i, x) :: G, k + 1, t => by
    have e : (k + 1) * 2 = k * 2 + 1 + 1 := by omega
    rw [e]
    show _ :: _ :: ((clD G).set (k * 2) (.bool t.1)).set (k * 2 + 1) (nv t.2) = _ :: _ :: clD (G.set k t)
    rw [cl_set G k t]
theorem cl_at (G : List (Bool × Int)) (k : Nat) (t : Bool × Int) (h : G[k]? = some t) : (clD G)[k * 2]? = some (.bool t.1) ∧ (clD G)[k * 2 + 1]? = some (nv t.2) :=
  ⟨by have := flat_k (ccells nv) 2 (fun _ => rfl) G k t h 0 (by omega); simpa [ccells, clD] using this, by have := flat_k (ccells nv) 2 (fun _ => rfl) G k t h 1 (by omega); simpa [ccells, clD] using this⟩
theorem fill_at (F : List (Bool × Int)) (n : Nat) (h : F.length < n) : (fillC F n)[F.length]? = some (false, 0) := by
  unfold fillC
  rw [List.getElem?_append_right (Nat.le_refl _), Nat.sub_self, List.getElem?_replicate, if_pos (by omega)]
theorem fill_set (F : List (Bool × Int)) (n : Nat) (t : Bool × Int) (h : F.length < n) : (fillC F n).set F.length t = fillC (F ++ [t]) n := by
  unfold fillC
  obtain ⟨m, hm⟩ : ∃ m, n - F.length = m + 1 := ⟨n - F.length - 1, by omega⟩
  have hm2 : n - (F ++ [t]).length = m := by rw [List.length_append, List.length_singleton]; omega
  rw [hm, hm2, List.set_append_right _ _ (Nat.le_refl _), Nat.sub_self, List.replicate_succ, List.set_cons_zero, List.append_assoc, List.singleton_append]
theorem fill_zero (F : List (Bool × Int)) (n : Nat) (h : F.length < n) : fillC (F ++ [(false, 0)]) n = fillC F n := by
  unfold fillC
  obtain ⟨m, hm⟩ : ∃ m, n - F.length = m + 1 := ⟨n - F.length - 1, by omega⟩
  have hm2 : n - (F ++ [((false, 0) : Bool × Int)]).length = m := by rw [List.length_append, List.length_singleton]; omega
  rw [hm, hm2, List.replicate_succ, List.append_assoc, List.singleton_append]
theorem fill_full (F : List (Bool × Int)) : fillC F F.length = F := by simp [fillC]
theorem fill_len (F : List (Bool × Int)) (n : Nat) (h : F.length ≤ n) : (fillC F n).length = n := by simp [fillC]; omega
theorem made_cl : ∀ n : Nat, madeCells #[.bool false, .int .i64 0] (n * 2) = (clD (List.replicate n (false, 0))).toArray := by
  intro n
  apply Array.ext'
  show (madeCells _ _).toList = clD _
  simp only [madeCells, Array.toList_map, Array.toList_range]
  induction n with
  | zero => rfl
  | succ n ih =>
    have e : (n + 1) * 2 = n * 2 + 1 + 1 := by omega
    rw [e, List.range_succ, List.range_succ, List.map_append, List.map_append, ih, List.replicate_succ', clD, clD, List.flatMap_append, List.append_assoc]
    congr 1
    have e1 : n * 2 % 2 = 0 := by omega
    have e2 : (n * 2 + 1) % 2 = 1 := by omega
    simp [e1, e2, ccells, nv]
theorem mkZ (m : Nat) (hm : m ≤ 4000000) (w : World) : (Instr.makeSlice 63 (.int .i64 (m : Int)) (.int .i64 (m : Int))).run Tryz.prog w = .ok (.slice (some ⟨w.heap.size, 0, none⟩) m m) (w.alloc (.cells (clD (List.replicate m (false, 0))).toArray 77)) := by
  obtain ⟨i, hi, hz, hs, hb⟩ : ∃ i, Tryz.prog.info? 77 = some i ∧ i.zero = some (.agg #[.bool false, (.int .i64 0)]) ∧ i.size = 2 ∧ i.bytes = 16 := by
    have h := cellTC.info
    cases hq : Tryz.prog.info? 77 with
    | none => rw [hq] at h; cases h
    | some i =>
      rw [hq] at h
      simp only [Option.map_some, Option.some.injEq, Prod.mk.injEq] at h
      exact ⟨i, rfl, h.1, h.2.1, h.2.2⟩
  have h := run_makeSlice (P := Tryz.prog) w 63 77 i _ Tryz.underlying63 hi hz .i64 .i64 (m : Int) (m : Int) (by omega) (by omega) (by rw [hs]; omega) (by rw [hb]; omega) (by omega)
  rw [h, hs, Int.toNat_natCast]
  exact congrArg (fun q => Result.ok _ (w.alloc (.cells q 77))) (made_cl m)
/-- a block that is known whole is a row of one's own -/
theorem own_row {w : World} {base g n : Nat} {G : List (Bool × Int)} (hn : G.length = n) (hr : Row w g 77 (clD G)) (hb : base ≤ g) (hx : n ≤ maxLen) : OwnC nv 77 w base (some ⟨g, 0, none⟩) n G := by
  subst hn
  exact ⟨cl_len G, .inr ⟨g, G.length, (clD G).toArray, rfl, hb, hr, Nat.le_refl _, hx, by simp [cl_len], by rw [← cl_len]; exact List.take_length⟩⟩
end Go.Proofs.YtedmnkcoflbciaaGreat
namespace Go.Proofs.YtedmnkcoflbciaaGreat
open Go.RowKit Mem Go.Lib BooM
attribute [local go_sem ↓] Go.wp_at_zero Go.wp_at_succ
set_option linter.unusedVariables false

def boc (b : Bool) : Value := .bool b
theorem uT13 : ElemTy Tryz.prog 178 50 (.int .u64 0) 8 := ⟨Tryz.underlying178, by kernel_rfl, rfl⟩
/-- rows of one's own: numbers, truths -/
def OwU (w : World) (base : Nat) (A : Option Addr) (c : Nat) (N : List Nat) : Prop := w.ownsRow base 50 1 (.slice A N.length c) N.length (N.map numc)
def OwB (w : World) (base : Nat) (A : Option Addr) (c : Nat) (L : List Bool) : Prop := w.ownsRow base 4 1 (.slice A L.length c) L.length (L.map boc)
theorem OwU.nil (w : World) (base : Nat) : OwU w base none 0 [] := World.ownsRow_nil _ _ _ _
theorem OwB.nil (w : World) (base : Nat) : OwB w base none 0 [] := World.ownsRow_nil _ _ _ _
theorem OwU.fr {w w' : World} {base c : Nat} {A : Option Addr} {N : List Nat} (h : OwU w base A c N) (hf : Fr (fun _ => False) w w') : OwU w' base A c N := hf.own h (fun _ _ h => h)
theorem OwB.fr {w w' : World} {base c : Nat} {A : Option Addr} {L : List Bool} (h : OwB w base A c L) (hf : Fr (fun _ => False) w w') : OwB w' base A c L := hf.own h (fun _ _ h => h)
theorem OwU.rd {w : World} {base c : Nat} {A : Option Addr} {N : List Nat} (h : OwU w base A c N) : Rd w A N.length (N.map numc) := Rd.of_own h
theorem OwB.rd {w : World} {base c : Nat} {A : Option Addr} {L : List Bool} (h : OwB w base A c L) : Rd w A L.length (L.map boc) := Rd.of_own h
theorem OwU.snoc {w : World} {base c n : Nat} {A : Option Addr} {N : List Nat} {x : Nat} (hn : N.length = n) (h : w.ownsRow base 50 1 (.slice A (n + 1) c) (n + 1) (N.map numc ++ [.int .u64 (x : Int)])) : OwU w base A c (N ++ [x]) := by
  subst hn
  unfold OwU
  rw [List.length_append, List.map_append, List.map_singleton]
  exact h
theorem OwB.snoc {w : World} {base c n : Nat} {A : Option Addr} {N : List Bool} {x : Bool} (hn : N.length = n) (h : w.ownsRow base 4 1 (.slice A (n + 1) c) (n + 1) (N.map boc ++ [.bool x])) : OwB w base A c (N ++ [x]) := by
  subst hn
  unfold OwB
  rw [List.length_append, List.map_append, List.map_singleton]
  exact h
/-- the last number is turned -/
theorem OwU.last {w : World} {base g c m : Nat} {L : List Nat} (h : OwU w base (some ⟨g, 0, none⟩) c (L ++ [m])) (m' : Nat) :
    OwU (w.setCell ⟨g, L.length, none⟩ (.int .u64 (m' : Int))) base (some ⟨g, 0, none⟩) c (L ++ [m']) := by
  have hl : (L ++ [m']).length = (L ++ [m]).length := by simp
  unfold OwU at h ⊢
  rw [hl]
  have h2 := (h.stored L.length (.int .u64 (m' : Int))).1
  have e : ((L ++ [m]).map numc).set L.length (.int .u64 (m' : Int)) = (L ++ [m']).map numc := by
    rw [List.map_append, List.map_append, List.set_append_right _ _ (by simp)]
    simp [numc]
  rw [e] at h2
  exact h2
theorem own_u1 {w : World} (b base : Nat) (hb : base ≤ w.heap.size) {k : Nat} (hk : k = w.heap.size) : OwU (w.alloc (.cells #[.int .u64 (b : Int)] 50)) base (some ⟨k, 0, none⟩) 1 [b] := by
  subst hk
  exact World.ownsRow_lit (size := 1) w #[numc b] 1 hb (by decide) rfl

set_option maxRecDepth 100000 in
set_option maxHeartbeats 1600000 in
theorem numbers_any (A : Option Addr) (n c : Nat) (L : List Bool) (w : World) (hL : Rd w A n (L.map boc)) (hn : n ≤ 1000000) :
    Calls Tryz.prog 98 #[.slice A n c] w fun e w' => ∃ A' c', e = .returned (.slice A' (numsB L).length c') ∧ OwU w' w.heap.size A' c' (numsB L) ∧ Fr (fun _ => False) w w' := by
  have HL := Lib.hid hL
  have hln : L.length = n := by simpa using hL.1
  have HLN := Lib.hid hln
  clear hL hln
  obtain ⟨base, hbase⟩ : ∃ base, base = w.heap.size := ⟨_, rfl⟩
  have HB := Lib.hid hbase
  rw [← hbase]
  clear hbase
  obtain ⟨R, hR⟩ : ∃ R, R = numsB L := ⟨_, rfl⟩
  rw [← hR]
  have HR := Lib.hid hR
  clear hR
  go_enter Tryz.func98, Tryz.ntmps98
  go_wp2_with fail
  obtain ⟨w0, hw0⟩ : ∃ w0, w.alloc (.cells #[.int .u64 0] 50) = w0 := ⟨_, rfl⟩
  rw [hw0]
  obtain ⟨g0, hg0⟩ : ∃ g, w.heap.size = g := ⟨_, rfl⟩
  rw [hg0]
  have HO0 : Hid (OwU w0 base (some ⟨g0, 0, none⟩) 1 [0]) := Lib.hid (by rw [← hw0]; exact own_u1 0 base (Nat.le_of_eq HB.out) hg0.symm)
  have HF0 : Hid (Fr (fun _ => False) w w0) := Lib.hid (by rw [← hw0]; exact (Fr.refl _ _).alloc _)
  clear hw0 hg0
  go_loopw [3, 4, 10] (fun s x v wr => ∃ (j : Nat) (M : List Nat) (k : Nat) (y : Bool) (g c1 p : Nat), j ≤ n ∧ v = .int .i64 (j : Int) ∧ x = .bool y ∧ s = .slice (some ⟨g, 0, none⟩) (p + 1) c1 ∧ Hid (p = M.length) ∧ p ≤ j ∧ k ≤ j ∧ Hid (stB (L.take j) = (M ++ [k], y)) ∧
    Hid (OwU wr base (some ⟨g, 0, none⟩) c1 (M ++ [k])) ∧ Hid (Fr (fun _ => False) w wr)) (fun _ _ v _ => n - (intOf v).toNat)
  case atStart => exact ⟨0, [], 0, false, g0, 1, 0, Nat.zero_le _, rfl, rfl, rfl, rfl, Nat.le_refl _, Nat.le_refl _, rfl, HO0.out, HF0.out⟩
  case round =>
    obtain ⟨j, M, k, y, g, c1, p, hj, rfl, rfl, rfl, HP, hpj, hkj, HS, HO, HF⟩ := hrel
    rename World => wr
    have hp := HP.out
    by_cases hlt : j < n
    · obtain ⟨ad, v, rfl, hv, hcell⟩ := (HL.out.fr HF.out (fun _ _ h => h)).at_ hlt
      obtain ⟨x, hx⟩ : ∃ x, L[j]? = some x := ⟨L[j]'(by have := HLN.out; omega), List.getElem?_eq_getElem _⟩
      obtain rfl : boc x = v := by simpa [hx] using hv
      unfold boc at hcell
      have hnext : stB (L.take (j + 1)) = addB (stB (L.take j)) x := by rw [List.take_add_one, hx]; exact st_snoc _ _
      by_cases hxy : x = y
      · subst hxy
        have hs2 : stB (L.take (j + 1)) = (M ++ [k + 1], x) := by rw [hnext, HS.out, add_same]
        have HS2 := Lib.hid hs2
        obtain ⟨g', e', hc, hfz⟩ := own_at (i := p) (u := numc k) HO.out (by rw [hp]; simp)
        obtain rfl : g = g' := by injection e' with e'; injection e'
        unfold numc at hc
        have t1 : (x != x) = false := by simp
        have r1 : IntKind.u64.wrap ((k : Int) + 1) = ((k + 1 : Nat) : Int) := by rw [IntKind.wrap_u64]; omega
        have r2 : IntKind.i64.wrap (((p + 1 : Nat) : Int) - 1) = (p : Int) := by rw [IntKind.wrap_i64]; omega
        have hlast := HO.out.last (k + 1)
        rw [← hp] at hlast
        have HO2 := Lib.hid hlast
        have HF2 := Lib.hid ((HF.out).setCell (p := ⟨g, p, none⟩) (fun h => by have h1 := (HO.out.lt g rfl).1; have h2 := HB.out; dsimp only at h; omega) (.int .u64 ((k + 1 : Nat) : Int)))
        clear hv hx hnext hs2 hlast hp
        go_wp2_with fail
        go_roundw
        case rel => exact ⟨j + 1, M, k + 1, x, g, c1, p, by omega, by go_num, rfl, rfl, HP.out, by omega, by omega, HS2.out, HO2.out, HF2.out⟩
        case measure => simp [intOf] <;> omega
      · have hs2 : stB (L.take (j + 1)) = (M ++ [k] ++ [1], x) := by rw [hnext, HS.out, add_other _ _ _ hxy]
        have HS2 := Lib.hid hs2
        have t1 : (x == y) = false := by simpa using hxy
        have hown : wr.ownsRow base 50 1 (.slice (some ⟨g, 0, none⟩) (p + 1) c1) (p + 1) ((M ++ [k]).map numc) := by have h := HO.out; unfold OwU at h; rw [List.length_append, List.length_singleton, ← hp] at h; exact h
        obtain ⟨X, hX⟩ : ∃ X, X = (M ++ [k]).map numc := ⟨_, rfl⟩
        rw [← hX] at hown
        have HX := Lib.hid hX
        have HOW := Lib.hid hown
        have hb : base ≤ wr.heap.size := by have := HB.out; have := HF.out.size; omega
        have hpn : p ≤ 1000000 := by omega
        clear hv hx hnext hs2 hown hp hX
        go_wp2_with (at_builtin; refine wpList_app uT13 _ rfl _ _ rfl base _ _ _ rfl (HOW.out.alloc _) _ _ _ _ rfl (Rd.one _ _ _) (one_one _ _) (by unfold maxLen; omega) (by omega) (by simp; omega) ?_)
        intro A' c' w' _ _ hown' hfr' _
        have hp := HP.out
        rw [HX.out] at hown'
        have hO3 : OwU w' base A' c' (M ++ [k] ++ [0]) := OwU.snoc (by rw [List.length_append, List.length_singleton, hp]) hown'
        obtain ⟨g', e', hc, hfz⟩ := own_at (i := p + 1) (u := numc 0) hO3 (by rw [hp]; simp)
        subst e'
        unfold numc at hc
        have r1 : IntKind.u64.wrap (((0 : Nat) : Int) + 1) = ((1 : Nat) : Int) := by rw [IntKind.wrap_u64]; omega
        have r2 : IntKind.i64.wrap (((p + 1 + 1 : Nat) : Int) - 1) = ((p + 1 : Nat) : Int) := by rw [IntKind.wrap_i64]; omega
        have hlast := hO3.last 1
        rw [List.length_append, List.length_singleton, ← hp] at hlast
        have HO2 := Lib.hid hlast
        have hfw : Fr (fun _ => False) w w' := (HF.out.alloc _).trans hfr' (fun b hb h => by have h1 := (HOW.out.lt b h).1; have := HB.out; omega)
        have HF2 := Lib.hid (hfw.setCell (p := ⟨g', p + 1, none⟩) (fun h => by have h1 := (hO3.lt g' rfl).1; have h2 := HB.out; dsimp only at h; omega) (.int .u64 ((1 : Nat) : Int)))
        clear hlast hfw hO3 hown' hfr' hp
        go_wp2_with fail
        go_roundw
        case rel => exact ⟨j + 1, M ++ [k], 1, x, g', c', p + 1, by omega, by go_num, rfl, rfl, by show _ = _; rw [List.length_append, List.length_singleton, HP.out], by omega, by omega, HS2.out, HO2.out, HF2.out⟩
        case measure => simp [intOf] <;> omega
    · obtain rfl : j = n := by omega
      have he : R = M ++ [k] := by
        have h := HS.out
        rw [List.take_of_length_le (by have := HLN.out; omega)] at h
        rw [HR.out]
        exact congrArg Prod.fst h
      have hRl : R.length = p + 1 := by rw [he, List.length_append, List.length_singleton, hp]
      have HE := Lib.hid he
      have HRL := Lib.hid hRl
      clear he hRl hp
      go_wp2_with fail
      go_ret
      refine ⟨some ⟨g, 0, none⟩, c1, by rw [HRL.out]; rfl, ?_, HF.out⟩
      rw [HE.out]
      exact HO.out
end Go.Proofs.YtedmnkcoflbciaaGreat
namespace Go.Proofs.YtedmnkcoflbciaaGreat
open Go.RowKit Mem Go.Lib RleM LebM
attribute [local go_sem ↓] Go.wp_at_zero Go.wp_at_succ
set_option linter.unusedVariables false

theorem mem_gather {κ : Type} [DecidableEq κ] {p : κ → Prop} {L : List κ} (h : ∀ x ∈ L, p x) : ∀ g ∈ gatherG L, p g.1 := by
  revert h
  refine snoc_ind (p := fun L => (∀ x ∈ L, p x) → ∀ g ∈ gatherG L, p g.1) (fun _ g hg => by cases hg) (fun l x ih h g hg => ?_) L
  rw [gather_snoc] at hg
  rcases mem_addG hg with e | ⟨g', hg', e⟩
  · rw [e]; exact h x (by simp)
  · rw [← e]; exact ih (fun y hy => h y (by simp [hy])) g' hg'
theorem kdSzU : (Tryz.prog.info? 165).map (·.size) = some 2 := by kernel_rfl
theorem kd_oneU : ([Value.func (.func 123) #[] #[], .func (.func 124) #[] #[]] : List Value).toArray.all (·.oneCell') = true := by simp [Value.oneCell']
set_option maxRecDepth 100000 in
theorem kindU_any (w : World) : Calls Tryz.prog 91 #[] w fun e w' => e = .returned (.agg #[.func (.func 123) #[] #[], .func (.func 124) #[] #[]]) ∧ Fr (fun _ => False) w w' := by
  obtain ⟨w1, hw1⟩ : ∃ w1, w.alloc (.cells #[Value.nilFunc, Value.nilFunc] 165) = w1 := ⟨_, rfl⟩
  obtain ⟨q, hq⟩ : ∃ q, w.heap.size = q := ⟨_, rfl⟩
  have hf1 : Fr (fun _ => False) w w1 := by rw [← hw1]; exact (Fr.refl _ _).alloc _
  have hqb : Row w1 q 165 [Value.nilFunc, Value.nilFunc] := by rw [← hw1, ← hq]; exact Row.new w _ _
  have HF1 := Lib.hid hf1
  have HQB := Lib.hid hqb
  have HQ := Lib.hid hq
  clear hf1 hqb
  go_enter Tryz.func91, Tryz.ntmps91
  go_upto_region 1 with fail
  clear hw1 hq
  go_wp2_with (refine store_st kdSzU rfl (.tmp 0) (.tmp 1) rfl q (by rfl) [.func (.func 123) #[] #[], .func (.func 124) #[] #[]] (by rfl) _ _ HQB.out rfl rfl kd_oneU ?_)
  intro w5 hr5 hf5
  have HF5 : Hid (Fr (fun _ => False) w w5) := Lib.hid (HF1.out.trans hf5 (fun b hb h => by have h1 := HQ.out; omega))
  have d0 : w5.cell? ⟨q, 0, none⟩ = some (.func (.func 123) #[] #[]) := hr5.cell rfl
  have d1 : w5.cell? ⟨q, 1, none⟩ = some (.func (.func 124) #[] #[]) := hr5.cell rfl
  clear hr5 hf5
  go_wp2_with fail
  exact bodyPost_ret (v := .agg #[.func (.func 123) #[] #[], .func (.func 124) #[] #[]]) (by simp [results, Tryz.results91, go_sem, d0, d1]) rfl ⟨rfl, HF5.out⟩
set_option maxRecDepth 100000 in
set_option maxHeartbeats 1600000 in
theorem pPut_any (A : Option Addr) (n c : Nat) (L : List (Bool × Int)) (w : World) (hL : Cls nv w A n L) (hn : n ≤ 1000000) (hok : ∀ x ∈ L, okU x) :
    Calls Tryz.prog 50 #[.slice A n c] w (Gives w (tellW kU (gatherG L))) := by
  have HL := Lib.hid hL
  have HLN := Lib.hid hL.1
  have HOK := Lib.hid hok
  clear hL hok
  go_enter Tryz.func50, Tryz.ntmps50
  go_wp2_with fail
  refine (kindU_any w).mono ?_
  rintro e w1 ⟨rfl, hf1⟩
  have HF1 := Lib.hid hf1
  clear hf1
  go_wp2_with fail
  refine (gatherC_any A n c L w1 (HL.out.fr HF1.out (fun _ _ h => h)) hn).mono ?_
  rintro e w2 ⟨A2, c2, rfl, hO2, hf2⟩
  have hgl := gather_len L
  rw [HLN.out] at hgl
  have hcap := (own_cap hO2).2.1
  have htell := tellU_any A2 (gatherG L).length c2 (gatherG L) w2 hO2.grs hcap (fun ad e => (hO2.lt ad.block (by rw [e]; rfl)).2) (by omega) (mem_gather HOK.out) (fun g hg => by have h1 := gather_mem hg; have h2 := HLN.out; omega)
  have HTELL := Lib.hid htell
  have HF2 := Lib.hid (HF1.out.trans hf2 (fun _ _ h => h))
  obtain ⟨NG, hNG⟩ : ∃ NG, NG = (gatherG L).length := ⟨_, rfl⟩
  rw [← hNG] at HTELL ⊢
  clear hO2 hf2 hgl hcap htell HF1 hNG
  go_wp2_with fail
  refine HTELL.out.mono ?_
  rintro e w3 ⟨A3, c3, rfl, hO3, hf3⟩
  have HO3 := Lib.hid (hO3.base HF2.out.size)
  have HF3 := Lib.hid (HF2.out.trans hf3 (fun _ _ h => h))
  clear hO3 hf3 HTELL
  go_wp2_with fail
  go_ret
  exact ⟨A3, c3, rfl, HO3.out, HF3.out⟩
theorem kdSzS : (Tryz.prog.info? 165).map (·.size) = some 2 := by kernel_rfl
theorem kd_oneS : ([Value.func (.func 156) #[] #[], .func (.func 157) #[] #[]] : List Value).toArray.all (·.oneCell') = true := by simp [Value.oneCell']
set_option maxRecDepth 100000 in
theorem kindS_any (w : World) : Calls Tryz.prog 127 #[] w fun e w' => e = .returned (.agg #[.func (.func 156) #[] #[], .func (.func 157) #[] #[]]) ∧ Fr (fun _ => False) w w' := by
  obtain ⟨w1, hw1⟩ : ∃ w1, w.alloc (.cells #[Value.nilFunc, Value.nilFunc] 165) = w1 := ⟨_, rfl⟩
  obtain ⟨q, hq⟩ : ∃ q, w.heap.size = q := ⟨_, rfl⟩
  have hf1 : Fr (fun _ => False) w w1 := by rw [← hw1]; exact (Fr.refl _ _).alloc _
  have hqb : Row w1 q 165 [Value.nilFunc, Value.nilFunc] := by rw [← hw1, ← hq]; exact Row.new w _ _
  have HF1 := Lib.hid hf1
  have HQB := Lib.hid hqb
  have HQ := Lib.hid hq
  clear hf1 hqb
  go_enter Tryz.func127, Tryz.ntmps127
  go_upto_region 1 with fail
  clear hw1 hq
  go_wp2_with (refine store_st kdSzS rfl (.tmp 0) (.tmp 1) rfl q (by rfl) [.func (.func 156) #[] #[], .func (.func 157) #[] #[]] (by rfl) _ _ HQB.out rfl rfl kd_oneS ?_)
  intro w5 hr5 hf5
  have HF5 : Hid (Fr (fun _ => False) w w5) := Lib.hid (HF1.out.trans hf5 (fun b hb h => by have h1 := HQ.out; omega))
  have d0 : w5.cell? ⟨q, 0, none⟩ = some (.func (.func 156) #[] #[]) := hr5.cell rfl
  have d1 : w5.cell? ⟨q, 1, none⟩ = some (.func (.func 157) #[] #[]) := hr5.cell rfl
  clear hr5 hf5
  go_wp2_with fail
  exact bodyPost_ret (v := .agg #[.func (.func 156) #[] #[], .func (.func 157) #[] #[]]) (by simp [results, Tryz.results127, go_sem, d0, d1]) rfl ⟨rfl, HF5.out⟩
set_option maxRecDepth 100000 in
set_option maxHeartbeats 1600000 in
theorem pPutS_any (A : Option Addr) (n c : Nat) (L : List (Bool × Int)) (w : World) (hL : Cls nv w A n L) (hn : n ≤ 1000000) (hok : ∀ x ∈ L, okS x) :
    Calls Tryz.prog 93 #[.slice A n c] w (Gives w (tellW kS (gatherG L))) := by
  have HL := Lib.hid hL
  have HLN := Lib.hid hL.1
  have HOK := Lib.hid hok
  clear hL hok
  go_enter Tryz.func93, Tryz.ntmps93
  go_wp2_with fail
  refine (kindS_any w).mono ?_
  rintro e w1 ⟨rfl, hf1⟩
  have HF1 := Lib.hid hf1
  clear hf1
  go_wp2_with fail
  refine (gatherC_any A n c L w1 (HL.out.fr HF1.out (fun _ _ h => h)) hn).mono ?_
  rintro e w2 ⟨A2, c2, rfl, hO2, hf2⟩
  have hgl := gather_len L
  rw [HLN.out] at hgl
  have hcap := (own_cap hO2).2.1
  have htell := tellS_any A2 (gatherG L).length c2 (gatherG L) w2 hO2.grs hcap (fun ad e => (hO2.lt ad.block (by rw [e]; rfl)).2) (by omega) (mem_gather HOK.out) (fun g hg => by have h1 := gather_mem hg; have h2 := HLN.out; omega)
  have HTELL := Lib.hid htell
  have HF2 := Lib.hid (HF1.out.trans hf2 (fun _ _ h => h))
  obtain ⟨NG, hNG⟩ : ∃ NG, NG = (gatherG L).length := ⟨_, rfl⟩
  rw [← hNG] at HTELL ⊢
  clear hO2 hf2 hgl hcap htell HF1 hNG
  go_wp2_with fail
  refine HTELL.out.mono ?_
  rintro e w3 ⟨A3, c3, rfl, hO3, hf3⟩
  have HO3 := Lib.hid (hO3.base HF2.out.size)
  have HF3 := Lib.hid (HF2.out.trans hf3 (fun _ _ h => h))
  clear hO3 hf3 HTELL
  go_wp2_with fail
  go_ret
  exact ⟨A3, c3, rfl, HO3.out, HF3.out⟩
theorem kdSzW : (Tryz.prog.info? 174).map (·.size) = some 2 := by kernel_rfl
theorem kd_oneW : ([Value.func (.func 130) #[] #[], .func (.func 131) #[] #[]] : List Value).toArray.all (·.oneCell') = true := by simp [Value.oneCell']
set_option maxRecDepth 100000 in
theorem kindW_any (w : World) : Calls Tryz.prog 96 #[] w fun e w' => e = .returned (.agg #[.func (.func 130) #[] #[], .func (.func 131) #[] #[]]) ∧ Fr (fun _ => False) w w' := by
  obtain ⟨w1, hw1⟩ : ∃ w1, w.alloc (.cells #[Value.nilFunc, Value.nilFunc] 174) = w1 := ⟨_, rfl⟩
  obtain ⟨q, hq⟩ : ∃ q, w.heap.size = q := ⟨_, rfl⟩
  have hf1 : Fr (fun _ => False) w w1 := by rw [← hw1]; exact (Fr.refl _ _).alloc _
  have hqb : Row w1 q 174 [Value.nilFunc, Value.nilFunc] := by rw [← hw1, ← hq]; exact Row.new w _ _
  have HF1 := Lib.hid hf1
  have HQB := Lib.hid hqb
  have HQ := Lib.hid hq
  clear hf1 hqb
  go_enter Tryz.func96, Tryz.ntmps96
  go_upto_region 1 with fail
  clear hw1 hq
  go_wp2_with (refine store_st kdSzW rfl (.tmp 0) (.tmp 1) rfl q (by rfl) [.func (.func 130) #[] #[], .func (.func 131) #[] #[]] (by rfl) _ _ HQB.out rfl rfl kd_oneW ?_)
  intro w5 hr5 hf5
  have HF5 : Hid (Fr (fun _ => False) w w5) := Lib.hid (HF1.out.trans hf5 (fun b hb h => by have h1 := HQ.out; omega))
  have d0 : w5.cell? ⟨q, 0, none⟩ = some (.func (.func 130) #[] #[]) := hr5.cell rfl
  have d1 : w5.cell? ⟨q, 1, none⟩ = some (.func (.func 131) #[] #[]) := hr5.cell rfl
  clear hr5 hf5
  go_wp2_with fail
  exact bodyPost_ret (v := .agg #[.func (.func 130) #[] #[], .func (.func 131) #[] #[]]) (by simp [results, Tryz.results96, go_sem, d0, d1]) rfl ⟨rfl, HF5.out⟩
set_option maxRecDepth 100000 in
set_option maxHeartbeats 1600000 in
theorem pPutW_any (A : Option Addr) (n c : Nat) (L : List (Bool × (List UInt8))) (w : World) (hL : Cls sv w A n L) (hn : n ≤ 1000000) (hok : ∀ x ∈ L, okW x) :
    Calls Tryz.prog 52 #[.slice A n c] w (Gives w (tellW kW (gatherG L))) := by
  have HL := Lib.hid hL
  have HLN := Lib.hid hL.1
  have HOK := Lib.hid hok
  clear hL hok
  go_enter Tryz.func52, Tryz.ntmps52
  go_wp2_with fail
  refine (kindW_any w).mono ?_
  rintro e w1 ⟨rfl, hf1⟩
  have HF1 := Lib.hid hf1
  clear hf1
  go_wp2_with fail
  refine (gatherW_any A n c L w1 (HL.out.fr HF1.out (fun _ _ h => h)) hn).mono ?_
  rintro e w2 ⟨A2, c2, rfl, hO2, hf2⟩
  have hgl := gather_len L
  rw [HLN.out] at hgl
  have hcap := (own_cap hO2).2.1
  have htell := tellW_any A2 (gatherG L).length c2 (gatherG L) w2 hO2.grs hcap (fun ad e => (hO2.lt ad.block (by rw [e]; rfl)).2) (by omega) (mem_gather HOK.out) (fun g hg => by have h1 := gather_mem hg; have h2 := HLN.out; omega)
  have HTELL := Lib.hid htell
  have HF2 := Lib.hid (HF1.out.trans hf2 (fun _ _ h => h))
  obtain ⟨NG, hNG⟩ : ∃ NG, NG = (gatherG L).length := ⟨_, rfl⟩
  rw [← hNG] at HTELL ⊢
  clear hO2 hf2 hgl hcap htell HF1 hNG
  go_wp2_with fail
  refine HTELL.out.mono ?_
  rintro e w3 ⟨A3, c3, rfl, hO3, hf3⟩
  have HO3 := Lib.hid (hO3.base HF2.out.size)
  have HF3 := Lib.hid (HF2.out.trans hf3 (fun _ _ h => h))
  clear hO3 hf3 HTELL
  go_wp2_with fail
  go_ret
  exact ⟨A3, c3, rfl, HO3.out, HF3.out⟩
end Go.Proofs.YtedmnkcoflbciaaGreat
