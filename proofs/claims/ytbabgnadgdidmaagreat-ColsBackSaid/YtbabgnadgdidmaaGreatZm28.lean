import Derived.Test.YtbabgnadgdidmaaGreatZm27
import Derived.Test.YtbabgnadgdidmaaGreatZm17
import Derived.Test.YtbabgnadgdidmaaGreatZm02
import Derived.Test.YtbabgnadgdidmaaGreatZm18
import Derived.Test.YtbabgnadgdidmaaGreatZm04
import Derived.Test.YtbabgnadgdidmaaGreatZm03
import Derived.Test.YtbabgnadgdidmaaGreatZm16
namespace Go.Proofs.YtbabgnadgdidmaaGreat
section
open RleM LebM VaM
def metaC (v : V) : Bool × Int := if v.k = 0 then (false, 0) else (true, 16 * ((putV v).length : Int) + v.k)
def putM (L : List V) : List UInt8 := tellW kU (gatherG (L.map metaC))
def putB (L : List V) : List UInt8 := L.flatMap putV
def firstR (c : Bool × Int) (B : List UInt8) : V × Nat × Nat :=
 if c.1 = false then (zeroV, 0, 0) else
 if c.2 % 16 = 0 then (zeroV, 0, 3) else
 if (B.length : Int) < c.2 / 16 then (zeroV, 0, 2) else
 if (getV (c.2 % 16) (B.take (c.2 / 16).toNat)).2 = true then ((getV (c.2 % 16) (B.take (c.2 / 16).toNat)).1, (c.2 / 16).toNat, 0) else (zeroV, 0, 3)
def valsF (F : List V) : List (Bool × Int) → List UInt8 → List V × Nat
 | [], B => if B = [] then (F, 0) else ([], 3)
 | c :: T, B => if (firstR c B).2.2 ≠ 0 then ([], (firstR c B).2.2) else valsF (F ++ [(firstR c B).1]) T (B.drop (firstR c B).2.1)
def padR (L : List (Bool × Int)) (n : Int) : List (Bool × Int) × Bool :=
 if 0 < L.length then (L, decide ((L.length : Int) = n)) else if 2147483647 < n then ([], false) else (List.replicate n.toNat (false, 0), true)
def getM (M B : List UInt8) (n : Int) : List V × Nat :=
 if (toC (readG kU n M)).2 ≠ 0 then ([], (toC (readG kU n M)).2) else
 if (padR (toC (readG kU n M)).1 n).2 = true then valsF [] (padR (toC (readG kU n M)).1 n).1 B else ([], 3)
theorem right_k {v : V} (h : rightV v = true) : 0 ≤ v.k ∧ v.k ≤ 8 := by
 unfold rightV at h;have hc := cl_le v.k;rcases (show cl v.k = 0 ∨ cl v.k = 1 ∨ cl v.k = 2 ∨ cl v.k = 3 ∨ cl v.k = 4 ∨ cl v.k = 5 by omega) with e | e | e | e | e | e
 · have := cl0 e; omega
 · have := cl1 e; omega
 · have := cl2 e; omega
 · have := cl3 e; omega
 · have := cl4 e; omega
 · simp [e] at h
theorem right_put {v : V} (hv : v.ok) (h : rightV v = true) : (putV v).length ≤ 4000 := by
 have h3 := u_len10 hv.2.1;have h4 := s_len10 hv.2.2.1 hv.2.2.2;have h5 := right_len h;unfold putV;split <;> first | omega | simp
theorem right_null {v : V} (h : rightV v = true) (hk : v.k = 0) : v = zeroV ∧ putV v = [] := by
 have e : cl v.k = 0 := by rw [hk]; rfl
 refine ⟨?_, by simp [putV, e]⟩;simp only [rightV, e, Bool.and_eq_true, decide_eq_true_eq] at h;exact V.ext' hk h.1.1 h.1.2 h.2
theorem meta_may {v : V} (hv : v.ok) (h : rightV v = true) : mayU (metaC v) := by
 have h1 := right_k h;have h2 := right_put hv h;unfold metaC;split
 · exact ⟨fun _ => rfl, Int.le_refl _, by show (0 : Int) < _; omega⟩
 · exact ⟨fun (h : true = false) => (by cases h), show (0 : Int) ≤ 16 * ((putV v).length : Int) + v.k by omega, show 16 * ((putV v).length : Int) + v.k < 9223372036854775808 by omega⟩
theorem putM_may {L : List V} (h : ∀ v ∈ L, v.ok ∧ rightV v = true) : ∀ c ∈ L.map metaC, mayU c := by
 intro c hc;obtain ⟨v, hv, rfl⟩ := List.mem_map.1 hc;exact meta_may (h v hv).1 (h v hv).2
theorem putB_len : ∀ {L : List V}, (∀ v ∈ L, v.ok ∧ rightV v = true) → (putB L).length ≤ L.length * 4000
 | [], _ => Nat.le_refl _
 | v :: T, h => by
  have h1 := putB_len (L := T) (fun x hx => h x (List.mem_cons_of_mem _ hx));have h2 := right_put (h v (List.mem_cons_self ..)).1 (h v (List.mem_cons_self ..)).2;unfold putB at h1 ⊢;rw [List.flatMap_cons, List.length_append, List.length_cons, Nat.add_mul, Nat.one_mul];omega
theorem putB_snoc (L : List V) (v : V) : putB (L ++ [v]) = putB L ++ putV v := by simp [putB]
theorem first_put {v : V} (hv : v.ok) (h : rightV v = true) (R : List UInt8) : firstR (metaC v) (putV v ++ R) = (v, (putV v).length, 0) := by
 have h1 := right_k h;unfold firstR metaC;by_cases hk : v.k = 0
 · obtain ⟨e1, e2⟩ := right_null h hk;rw [if_pos hk, e2, e1];rfl
 · rw [if_neg hk];have e1 : (16 * ((putV v).length : Int) + v.k) % 16 = v.k := by omega
   have e2 : (16 * ((putV v).length : Int) + v.k) / 16 = ((putV v).length : Int) := by omega
   simp only [e1, e2, Int.toNat_natCast, List.take_left'];rw [if_neg (by simp), if_neg hk, if_neg (by rw [List.length_append]; omega), get_put hv h];rfl
theorem vals_put : ∀ {L : List V} (_ : ∀ v ∈ L, v.ok ∧ rightV v = true) (F : List V) (R : List UInt8), valsF F (L.map metaC) (putB L ++ R) = if R = [] then (F ++ L, 0) else ([], 3)
 | [], _, F, R => by simp [valsF, putB]
 | v :: T, h, F, R => by
  have hf := first_put (h v (List.mem_cons_self ..)).1 (h v (List.mem_cons_self ..)).2 (putB T ++ R);have ih := vals_put (L := T) (fun x hx => h x (List.mem_cons_of_mem _ hx)) (F ++ [v]) R;have e : putB (v :: T) ++ R = putV v ++ (putB T ++ R) := by unfold putB; rw [List.flatMap_cons, List.append_assoc]
  rw [List.map_cons, e, valsF, hf, if_neg (by simp)];simp only;rw [List.drop_append_length, ih, List.append_assoc, List.singleton_append]
theorem metas_null {L : List V} (h : ∀ c ∈ L.map metaC, c = ((false, 0) : Bool × Int)) : L.map metaC = List.replicate L.length (false, 0) := by
 rw [List.eq_replicate_iff];exact ⟨List.length_map _, h⟩
def someV (L : List V) : Bool := L.any fun v => decide (v.k ≠ 0)
theorem some_meta {L : List V} (h : someV L = true) : ∃ c ∈ L.map metaC, c.1 = true := by
 obtain ⟨v, hv, hk⟩ := List.any_eq_true.1 h;refine ⟨metaC v, List.mem_map.2 ⟨v, hv, rfl⟩, ?_⟩;rw [metaC, if_neg (by simpa using hk)]
theorem none_meta {L : List V} (h : someV L = false) : ∀ c ∈ L.map metaC, c = ((false, 0) : Bool × Int) := by
 intro c hc;obtain ⟨v, hv, rfl⟩ := List.mem_map.1 hc;have := List.any_eq_false.1 h v hv;rw [metaC, if_pos (by simpa using this)]
theorem putM_none {L : List V} (h : someV L = false) : putM L = [] := told_none (none_meta h)
theorem putB_none : ∀ {L : List V}, (∀ v ∈ L, v.ok ∧ rightV v = true) → someV L = false → putB L = []
 | [], _, _ => rfl
 | v :: T, h, hs => by
  unfold someV at hs;rw [List.any_cons, Bool.or_eq_false_iff] at hs;have h1 := right_null (h v (List.mem_cons_self ..)).2 (by simpa using hs.1);have h2 := putB_none (L := T) (fun x hx => h x (List.mem_cons_of_mem _ hx)) hs.2;unfold putB at h2 ⊢;rw [List.flatMap_cons, h1.2, h2];rfl
theorem read_metas {L : List V} (h : ∀ v ∈ L, v.ok ∧ rightV v = true) (hl : L.length ≤ 1000000) (n : Int) (hn : 0 ≤ n) :
    toC (readG kU n (putM L)) = if someV L = true then (if (L.length : Int) ≤ n then (L.map metaC, 0) else ([], 4)) else ([], 0) := by
 unfold putM;by_cases hs : someV L = true
 · rw [if_pos hs];obtain ⟨c, hc, h1⟩ := some_meta hs;have e := read_back backU (putM_may h) hc (fun e => by rw [e] at h1; cases h1) (by rw [List.length_map]; omega) n hn;rw [e, List.length_map];by_cases hf : (L.length : Int) ≤ n
   · rw [if_pos hf, if_pos hf];show (spreadG (gatherG (L.map metaC)), 0) = _;rw [spread_gather]
   · rw [if_neg hf, if_neg hf]; rfl
 · rw [if_neg hs, told_none (none_meta (by simpa using hs)), read_nil _ hn];rfl
theorem get_back {L : List V} (h : ∀ v ∈ L, v.ok ∧ rightV v = true) (hl : L.length ≤ 1000000) (R : List UInt8) : getM (putM L) (putB L ++ R) (L.length : Int) = if R = [] then (L, 0) else ([], 3) := by
 unfold getM;rw [read_metas h hl _ (by omega)];by_cases hs : someV L = true
 · have hpos : 0 < (L.map metaC).length := by
    obtain ⟨c, hc, _⟩ := some_meta hs;exact List.length_pos_of_mem hc
   have hp : padR (L.map metaC) (L.length : Int) = (L.map metaC, true) := by
    unfold padR;rw [if_pos hpos, List.length_map];simp
   rw [if_pos hs, if_pos (Int.le_refl _)];simp only [hp];rw [if_neg (by simp), if_pos trivial, vals_put h];simp
 · have hp : padR [] (L.length : Int) = (L.map metaC, true) := by
    unfold padR;rw [if_neg (by simp), if_neg (by omega), metas_null (none_meta (by simpa using hs)), Int.toNat_natCast]
   rw [if_neg hs];simp only [hp];rw [if_neg (by simp), if_pos trivial, vals_put h];simp
theorem put_nulls (k : Nat) : putM (List.replicate k zeroV) = [] ∧ putB (List.replicate k zeroV) = [] := by
 have hs : someV (List.replicate k zeroV) = false := by
  unfold someV;rw [List.any_eq_false];intro v hv;rw [(List.mem_replicate.1 hv).2];simp [zeroV]
 have hr : ∀ v ∈ List.replicate k zeroV, v.ok ∧ rightV v = true := by
  intro v hv;rw [(List.mem_replicate.1 hv).2];exact ⟨⟨⟨by decide, by decide⟩, by decide, by decide, by decide⟩, rfl⟩
 exact ⟨putM_none hs, putB_none hr hs⟩
end
section
open Go Go.RowKit LebM UtfM RleM VaM OpM AcM
namespace CsM
abbrev C := Bool × Int
def oneA (T : List Tx) (x : Nm) : C := if zeroB x then (false, 0) else (true, idxA x.a T)
def oneC (x : Nm) : C := if zeroB x then (false, 0) else (true, x.c)
def keyC (o : O) : C := if zeroB o.elem then (if o.keyed then (false, 0) else (true, 0)) else (true, o.elem.c)
def keyT (o : O) : Bool × List UInt8 := if o.keyed then (true, o.key) else (false, [])
def numC (o : O) : C := if o.pr.length = 0 then (false, 0) else (true, (o.pr.length : Int))
def prs (l : List O) : List Nm := l.flatMap O.pr
def tU (L : List C) : List UInt8 := tellW kU (gatherG L)
def tD (L : List C) : List UInt8 := tellW kS (gatherG (stepsF 0 L))
def tW (L : List (Bool × List UInt8)) : List UInt8 := tellW kW (gatherG L)
def colsA (T : List Tx) (l : List O) : List DirM.Col :=
  [(1, tU (l.map fun o => oneA T o.obj)), (2, tU (l.map fun o => oneC o.obj)), (17, tU (l.map fun o => oneA T o.elem)), (19, tD (l.map keyC)), (21, tW (l.map keyT)),
   (52, BooM.putB (l.map O.ins)), (66, tU (l.map fun o => (true, o.act))), (86, putM (l.map O.val)), (87, putB (l.map O.val)), (112, tU (l.map numC)), (113, tU ((prs l).map (oneA T))), (115, tD ((prs l).map oneC))]
def putS (T : List Tx) (l : List O) : List DirM.Col := DirM.full (colsA T l)
def allIn (T : List Tx) (l : List O) : Prop := ∀ o ∈ l, (zeroB o.obj = false → o.obj.a ∈ T) ∧ (zeroB o.elem = false → o.elem.a ∈ T) ∧ ∀ x ∈ o.pr, zeroB x = false → x.a ∈ T
structure Fit (T : List Tx) (l : List O) : Prop where
  right : ∀ o ∈ l, rightO o = true
  ok : ∀ o ∈ l, o.val.ok
  tab : allIn T l
  len : l.length ≤ 2001
  few : T.length ≤ 1000000
theorem zero_c {x : Nm} (h : zeroB x = true) : x.c = 0 ∧ x.a = [] := by
  have := (eqN_iff x zeroN).1 h;subst this;exact ⟨rfl, rfl⟩
theorem id_bd {x : Nm} (h : idB x = true) : 1 ≤ x.c ∧ x.c ≤ 9007199254740991 ∧ 0 < x.a.length ∧ x.a.length ≤ 16 := by
  unfold idB actorB at h;simp only [Bool.and_eq_true, decide_eq_true_eq] at h;omega
theorem id_zero {x : Nm} (h : idB x = true) : zeroB x = false := by
  cases hz : zeroB x with
  | false => rfl
  | true => have := zero_c hz; have := id_bd h; omega
theorem right_parts {o : O} (h : rightO o = true) : ptB o.obj = true ∧ keyB o = true ∧ 0 ≤ o.act ∧ o.act ≤ 1000 ∧ rightV o.val = true ∧ o.pr.length ≤ 16 ∧ riseB zeroN o.pr = true := by
  unfold rightO predsB at h;simp only [Bool.and_eq_true, decide_eq_true_eq] at h;obtain ⟨⟨⟨⟨⟨h1, h2⟩, h3⟩, h4⟩, h5⟩, h6, h7⟩ := h;exact ⟨h1, h2, h3, h4, h5, h6, h7⟩
theorem rise_ids {a : Nm} : ∀ {l : List Nm}, riseB a l = true → ∀ x ∈ l, idB x = true
  | [], _, x, h => by cases h
  | y :: l, h, x, hx => by
    unfold riseB at h;simp only [Bool.and_eq_true] at h;rcases List.mem_cons.1 hx with rfl | hx
    · exact h.1.1
    · exact rise_ids h.2 x hx
theorem pt_bd {x : Nm} (h : ptB x = true) : 0 ≤ x.c ∧ x.c ≤ 9007199254740991 ∧ x.a.length ≤ 16 := by
  unfold ptB at h;simp only [Bool.or_eq_true] at h;rcases h with h | h
  · have := zero_c h; rw [this.2, this.1]; simp
  · have := id_bd h; omega
theorem right_elem {o : O} (h : rightO o = true) : ptB o.elem = true := by
  have h2 := (right_parts h).2.1;unfold keyB at h2;split at h2
  · simp only [Bool.and_eq_true] at h2;unfold ptB;rw [h2.1.2];rfl
  · simp only [Bool.and_eq_true] at h2;exact h2.2
theorem right_key {o : O} (h : rightO o = true) : o.key.length ≤ 4000 := by
  have h2 := (right_parts h).2.1;unfold keyB at h2;split at h2
  · simp only [Bool.and_eq_true, decide_eq_true_eq] at h2;exact h2.1.1.1
  · simp only [Bool.and_eq_true, decide_eq_true_eq] at h2;rw [h2.1];simp
theorem prs_len {l : List O} {M : Nat} (h : ∀ o ∈ l, o.pr.length ≤ M) : (prs l).length ≤ l.length * M := by
  induction l with
  | nil => simp [prs]
  | cons o l ih =>
    have h1 := h o (List.mem_cons_self ..);have h2 := ih (fun p hp => h p (List.mem_cons_of_mem _ hp));unfold prs at h2 ⊢;rw [List.flatMap_cons, List.length_append, List.length_cons, Nat.add_mul];omega
theorem oneA_may {T : List Tx} {x : Nm} (h : zeroB x = false → x.a ∈ T) (hT : T.length ≤ 1000000) : mayU (oneA T x) := by
  unfold oneA;split
  · exact ⟨fun _ => rfl, by unfold okU; simp⟩
  · next hz =>
    have h1 := idx_mem (h (by simpa using hz));have h2 := (idx_bd x.a T).2;exact ⟨fun e => (by cases e), h1, by show idxA x.a T < _; omega⟩
theorem oneC_may {x : Nm} (h : 0 ≤ x.c ∧ x.c ≤ 9007199254740991) : mayU (oneC x) ∧ mayS (oneC x) := by
  unfold oneC;split
  · exact ⟨⟨fun _ => rfl, by unfold okU; simp⟩, fun _ => rfl, by unfold okS; simp⟩
  · exact ⟨⟨fun e => (by cases e), h.1, by show x.c < _; omega⟩, fun e => (by cases e), by show _ ≤ x.c; omega, by show x.c < _; omega⟩
section
variable {T : List Tx} {l : List O}
theorem Fit.take (h : Fit T (l : List O)) (k : Nat) : Fit T (l.take k) :=
  ⟨fun o ho => h.right o (List.mem_of_mem_take ho), fun o ho => h.ok o (List.mem_of_mem_take ho), fun o ho => h.tab o (List.mem_of_mem_take ho), Nat.le_trans (by rw [List.length_take]; exact Nat.min_le_right _ _) h.len, h.few⟩
theorem Fit.plen (h : Fit T l) : (prs l).length ≤ 32016 := by
  have h1 := prs_len (l := l) (M := 16) (fun o ho => (right_parts (h.right o ho)).2.2.2.2.2.1);have h2 := Nat.mul_le_mul_right 16 h.len;omega
theorem Fit.pid (h : Fit T l) : ∀ x ∈ prs l, idB x = true ∧ x.a ∈ T := by
  intro x hx;obtain ⟨o, ho, hx⟩ := List.mem_flatMap.1 hx;have h1 := rise_ids (right_parts (h.right o ho)).2.2.2.2.2.2 x hx;exact ⟨h1, (h.tab o ho).2.2 x hx (id_zero h1)⟩
theorem Fit.m1 (h : Fit T l) : ∀ c ∈ l.map (fun o => oneA T o.obj), mayU c := by
  intro c hc;obtain ⟨o, ho, rfl⟩ := List.mem_map.1 hc;exact oneA_may (h.tab o ho).1 h.few
theorem Fit.m2 (h : Fit T l) : ∀ c ∈ l.map (fun o => oneC o.obj), mayU c := by
  intro c hc;obtain ⟨o, ho, rfl⟩ := List.mem_map.1 hc;have := pt_bd (right_parts (h.right o ho)).1;exact (oneC_may ⟨this.1, this.2.1⟩).1
theorem Fit.m3 (h : Fit T l) : ∀ c ∈ l.map (fun o => oneA T o.elem), mayU c := by
  intro c hc;obtain ⟨o, ho, rfl⟩ := List.mem_map.1 hc;exact oneA_may (h.tab o ho).2.1 h.few
theorem Fit.m4 (h : Fit T l) : ∀ c ∈ l.map keyC, mayS c := by
  intro c hc;obtain ⟨o, ho, rfl⟩ := List.mem_map.1 hc;have := pt_bd (right_elem (h.right o ho));unfold keyC;split
  · split
    · exact ⟨fun _ => rfl, by unfold okS; simp⟩
    · exact ⟨fun _ => rfl, by unfold okS; simp⟩
  · exact ⟨fun e => (by cases e), by show _ ≤ o.elem.c; omega, by show o.elem.c < _; omega⟩
theorem Fit.m5 (h : Fit T l) : ∀ c ∈ l.map keyT, mayW c ∧ c.2.length ≤ 4000 := by
  intro c hc;obtain ⟨o, ho, rfl⟩ := List.mem_map.1 hc;have := right_key (h.right o ho);unfold keyT;split
  · exact ⟨⟨fun e => (by cases e), by show o.key.length ≤ _; omega⟩, this⟩
  · exact ⟨⟨fun _ => rfl, by show (0 : Nat) ≤ _; omega⟩, by simp⟩
theorem Fit.m7 (h : Fit T l) : ∀ c ∈ l.map (fun o => ((true, o.act) : C)), mayU c := by
  intro c hc;obtain ⟨o, ho, rfl⟩ := List.mem_map.1 hc;have := right_parts (h.right o ho);exact ⟨fun e => (by cases e), this.2.2.1, by show o.act < _; omega⟩
theorem Fit.m8 (h : Fit T l) : ∀ v ∈ l.map O.val, v.ok ∧ rightV v = true := by
  intro c hc;obtain ⟨o, ho, rfl⟩ := List.mem_map.1 hc;exact ⟨h.ok o ho, (right_parts (h.right o ho)).2.2.2.2.1⟩
theorem Fit.m10 (h : Fit T l) : ∀ c ∈ l.map numC, mayU c := by
  intro c hc;obtain ⟨o, ho, rfl⟩ := List.mem_map.1 hc;have := (right_parts (h.right o ho)).2.2.2.2.2.1;unfold numC;split
  · exact ⟨fun _ => rfl, by unfold okU; simp⟩
  · exact ⟨fun e => (by cases e), by show (0 : Int) ≤ _; omega, by show (o.pr.length : Int) < _; omega⟩
theorem Fit.m11 (h : Fit T l) : ∀ c ∈ (prs l).map (oneA T), mayU c := by
  intro c hc;obtain ⟨x, hx, rfl⟩ := List.mem_map.1 hc;exact oneA_may (fun _ => (h.pid x hx).2) h.few
theorem Fit.m12 (h : Fit T l) : ∀ c ∈ (prs l).map oneC, mayS c := by
  intro c hc;obtain ⟨x, hx, rfl⟩ := List.mem_map.1 hc;have := id_bd (h.pid x hx).1;exact (oneC_may ⟨by omega, this.2.1⟩).2
theorem cols_rise (T : List Tx) (l : List O) : (colsA T l).Pairwise (fun a b => a.1 < b.1) := by
  unfold colsA;simp only [List.pairwise_cons, List.mem_cons, List.not_mem_nil, or_false, forall_eq_or_imp, forall_eq, List.Pairwise.nil, and_true];refine ⟨?_, ?_, ?_, ?_, ?_, ?_, ?_, ?_, ?_, ?_, ?_, ?_⟩ <;> (try simp)
theorem put_full (T : List Tx) (l : List O) : ∀ c ∈ putS T l, 0 < c.2.length := by
  intro c hc;have := (List.mem_filter.1 hc).2
  simpa using this
theorem put_len (T : List Tx) (l : List O) : (putS T l).length ≤ 12 := List.length_filter_le _ _
theorem tU_some {L : List C} (h : ∃ c ∈ L, c.1 = true) : tU L ≠ [] := by
  obtain ⟨c, hc, h1⟩ := h;unfold tU;rw [told_some hc (by intro e; rw [e] at h1; cases h1)];refine tell_ne (fun e => ?_);have := total_gather L;rw [e] at this;have h3 := List.length_pos_of_mem hc;simp [total] at this;omega
theorem put_act (T : List Tx) (l : List O) : (∃ c ∈ putS T l, c.1 = 66) ↔ l ≠ [] := by
  constructor
  · rintro ⟨c, hc, he⟩ rfl;have h1 := put_full _ _ c hc;have h2 := (List.mem_filter.1 hc).1;unfold colsA at h2;simp only [List.mem_cons, List.not_mem_nil, or_false] at h2;rcases h2 with rfl | rfl | rfl | rfl | rfl | rfl | rfl | rfl | rfl | rfl | rfl | rfl <;> first | (revert he; simp; done) | (revert h1; show ¬ (0 < (tU []).length); decide)
  · intro h;refine ⟨_, List.mem_filter.2 ⟨by unfold colsA; exact List.mem_cons_of_mem _ (List.mem_cons_of_mem _ (List.mem_cons_of_mem _ (List.mem_cons_of_mem _ (List.mem_cons_of_mem _ (List.mem_cons_of_mem _ (List.mem_cons_self ..)))))), ?_⟩, rfl⟩;have := tU_some (L := l.map fun o => ((true, o.act) : C)) (by cases l with | nil => exact absurd rfl h | cons o l => exact ⟨(true, o.act), by simp, rfl⟩)
    simpa using List.length_pos_iff.2 this
end
end CsM
end
end Go.Proofs.YtbabgnadgdidmaaGreat
