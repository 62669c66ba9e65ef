/-
  Layer 11, the program: read (written by gen11.py out of rleT.src).
  Plain mathematics of layer 15: columns of values.
-/
import Derived.Test.YtohbcepbodcapaaZm31
import Derived.Test.YtohbcepbodcapaaZm32
import Derived.Test.YtohbcepbodcapaaZm35
import Derived.Test.YtohbcepbodcapaaZm08
import Derived.Test.YtohbcepbodcapaaZm26
import Derived.Test.YtohbcepbodcapaaZm04
namespace Go.Proofs.Ytohbcepbodcapaa
open Go.RowKit Mem Go.Lib RleM LebM
attribute [local go_sem ↓] Go.wp_at_zero Go.wp_at_succ
set_option linter.unusedVariables false

/-- what is read: cells and the error's number -/
def toC {κ : Type} : Except Nat (List (κ × Nat)) → List κ × Nat
  | .ok g => (spreadG g, 0)
  | .error e => ([], e)
def leftAt (w : World) (g : Nat) : Nat := match w.cell? ⟨g, 2, none⟩ with
  | some (.slice _ n _) => n
  | _ => 0
theorem Rdr.leftAt {β : Type} {f : β → Value} {T G : TypeId} {fp fg : Value} {w : World} {base g : Nat} {most : Int} {r : Rs (Bool × β)} (h : Rdr f T G fp fg w base g most r) : leftAt w g = r.left.length := by
  obtain ⟨⟨A, n, c, Ag, cg, h1, h2, h3, h4, h5⟩, hb⟩ := h
  have hc : w.cell? ⟨g, 2, none⟩ = some (.slice A n c) := h1.cell rfl
  have hl : r.left.length = n := by simpa using h2.1
  unfold Go.Proofs.Ytohbcepbodcapaa.leftAt
  rw [hc, hl]
theorem rd_oneU (A : Option Addr) (n c : Nat) (most : Int) : ([Value.func (.func 52) #[] #[], .func (.func 53) #[] #[], .slice A n c, .slice none 0 0, .int .i64 0, .int .i64 most] : List Value).toArray.all (·.oneCell') = true := by simp [Value.oneCell']
theorem rd_oneS (A : Option Addr) (n c : Nat) (most : Int) : ([Value.func (.func 75) #[] #[], .func (.func 76) #[] #[], .slice A n c, .slice none 0 0, .int .i64 0, .int .i64 most] : List Value).toArray.all (·.oneCell') = true := by simp [Value.oneCell']
theorem rd_oneW (A : Option Addr) (n c : Nat) (most : Int) : ([Value.func (.func 59) #[] #[], .func (.func 60) #[] #[], .slice A n c, .slice none 0 0, .int .i64 0, .int .i64 most] : List Value).toArray.all (·.oneCell') = true := by simp [Value.oneCell']
end Go.Proofs.Ytohbcepbodcapaa
namespace Go.Proofs.Ytohbcepbodcapaa
open RleM LebM VaM

/-- a value's cell -/
def metaC (v : V) : Bool × Int := if v.k = 0 then (false, 0) else (true, 16 * ((putV v).length : Int) + v.k)
/-- both columns -/
def putM (L : List V) : List UInt8 := tellW kU (gatherG (L.map metaC))
def putB (L : List V) : List UInt8 := L.flatMap putV
/-- the value of a cell, how many bytes it has, the error's number -/
def firstR (c : Bool × Int) (B : List UInt8) : V × Nat × Nat :=
  if c.1 = false then (zeroV, 0, 0) else
  if c.2 % 16 = 0 then (zeroV, 0, 3) else
  if (B.length : Int) < c.2 / 16 then (zeroV, 0, 2) else
  if (getV (c.2 % 16) (B.take (c.2 / 16).toNat)).2 = true then ((getV (c.2 % 16) (B.take (c.2 / 16).toNat)).1, (c.2 / 16).toNat, 0) else (zeroV, 0, 3)
/-- the values of cells, behind those that are there -/
def valsF (F : List V) : List (Bool × Int) → List UInt8 → List V × Nat
  | [], B => if B = [] then (F, 0) else ([], 3)
  | c :: T, B => if (firstR c B).2.2 ≠ 0 then ([], (firstR c B).2.2) else valsF (F ++ [(firstR c B).1]) T (B.drop (firstR c B).2.1)
def padR (L : List (Bool × Int)) (n : Int) : List (Bool × Int) × Bool :=
  if 0 < L.length then (L, decide ((L.length : Int) = n)) else if 2147483647 < n then ([], false) else (List.replicate n.toNat (false, 0), true)
/-- what is read, of an n up to 10^6 -/
def getM (M B : List UInt8) (n : Int) : List V × Nat :=
  if (toC (readG kU n M)).2 ≠ 0 then ([], (toC (readG kU n M)).2) else
  if (padR (toC (readG kU n M)).1 n).2 = true then valsF [] (padR (toC (readG kU n M)).1 n).1 B else ([], 3)

theorem right_k {v : V} (h : rightV v = true) : 0 ≤ v.k ∧ v.k ≤ 8 := by
  unfold rightV at h
  have hc := cl_le v.k
  rcases (show cl v.k = 0 ∨ cl v.k = 1 ∨ cl v.k = 2 ∨ cl v.k = 3 ∨ cl v.k = 4 ∨ cl v.k = 5 by omega) with e | e | e | e | e | e
  · have := cl0 e; omega
  · have := cl1 e; omega
  · have := cl2 e; omega
  · have := cl3 e; omega
  · have := cl4 e; omega
  · simp [e] at h
theorem right_put {v : V} (hv : v.ok) (h : rightV v = true) : (putV v).length ≤ 4000 := by
  have h3 := u_len10 hv.2.1
  have h4 := s_len10 hv.2.2.1 hv.2.2.2
  have h5 := right_len h
  unfold putV
  split <;> first | omega | simp
theorem right_null {v : V} (h : rightV v = true) (hk : v.k = 0) : v = zeroV ∧ putV v = [] := by
  have e : cl v.k = 0 := by rw [hk]; rfl
  refine ⟨?_, by simp [putV, e]⟩
  simp only [rightV, e, Bool.and_eq_true, decide_eq_true_eq] at h
  exact V.ext' hk h.1.1 h.1.2 h.2
theorem meta_may {v : V} (hv : v.ok) (h : rightV v = true) : mayU (metaC v) := by
  have h1 := right_k h
  have h2 := right_put hv h
  unfold metaC
  split
  · exact ⟨fun _ => rfl, Int.le_refl _, by show (0 : Int) < _; omega⟩
  · exact ⟨fun (h : true = false) => (by cases h), show (0 : Int) ≤ 16 * ((putV v).length : Int) + v.k by omega, show 16 * ((putV v).length : Int) + v.k < 9223372036854775808 by omega⟩
theorem putM_may {L : List V} (h : ∀ v ∈ L, v.ok ∧ rightV v = true) : ∀ c ∈ L.map metaC, mayU c := by
  intro c hc
  obtain ⟨v, hv, rfl⟩ := List.mem_map.1 hc
  exact meta_may (h v hv).1 (h v hv).2
theorem putB_len : ∀ {L : List V}, (∀ v ∈ L, v.ok ∧ rightV v = true) → (putB L).length ≤ L.length * 4000
  | [], _ => Nat.le_refl _
  | v :: T, h => by
    have h1 := putB_len (L := T) (fun x hx => h x (List.mem_cons_of_mem _ hx))
    have h2 := right_put (h v (List.mem_cons_self ..)).1 (h v (List.mem_cons_self ..)).2
    unfold putB at h1 ⊢
    rw [List.flatMap_cons, List.length_append, List.length_cons, Nat.add_mul, Nat.one_mul]
    omega
theorem putM_len {L : List V} (h : ∀ v ∈ L, v.ok ∧ rightV v = true) (hl : L.length ≤ 1000000) : (putM L).length ≤ L.length * 30 :=
  (tell_le (L.map metaC) 10 L.length (by rw [List.length_map]; exact Nat.le_refl _) hl (fun c hc => putU10 (putM_may h c hc).2)).2
theorem putB_snoc (L : List V) (v : V) : putB (L ++ [v]) = putB L ++ putV v := by simp [putB]
theorem first_put {v : V} (hv : v.ok) (h : rightV v = true) (R : List UInt8) : firstR (metaC v) (putV v ++ R) = (v, (putV v).length, 0) := by
  have h1 := right_k h
  unfold firstR metaC
  by_cases hk : v.k = 0
  · obtain ⟨e1, e2⟩ := right_null h hk
    rw [if_pos hk, e2, e1]
    rfl
  · rw [if_neg hk]
    have e1 : (16 * ((putV v).length : Int) + v.k) % 16 = v.k := by omega
    have e2 : (16 * ((putV v).length : Int) + v.k) / 16 = ((putV v).length : Int) := by omega
    simp only [e1, e2, Int.toNat_natCast, List.take_left']
    rw [if_neg (by simp), if_neg hk, if_neg (by rw [List.length_append]; omega), get_put hv h]
    rfl
theorem vals_put : ∀ {L : List V} (_ : ∀ v ∈ L, v.ok ∧ rightV v = true) (F : List V) (R : List UInt8), valsF F (L.map metaC) (putB L ++ R) = if R = [] then (F ++ L, 0) else ([], 3)
  | [], _, F, R => by simp [valsF, putB]
  | v :: T, h, F, R => by
    have hf := first_put (h v (List.mem_cons_self ..)).1 (h v (List.mem_cons_self ..)).2 (putB T ++ R)
    have ih := vals_put (L := T) (fun x hx => h x (List.mem_cons_of_mem _ hx)) (F ++ [v]) R
    have e : putB (v :: T) ++ R = putV v ++ (putB T ++ R) := by unfold putB; rw [List.flatMap_cons, List.append_assoc]
    rw [List.map_cons, e, valsF, hf, if_neg (by simp)]
    simp only
    rw [List.drop_append_length, ih, List.append_assoc, List.singleton_append]
theorem metas_null {L : List V} (h : ∀ c ∈ L.map metaC, c = ((false, 0) : Bool × Int)) : L.map metaC = List.replicate L.length (false, 0) := by
  rw [List.eq_replicate_iff]
  exact ⟨List.length_map _, h⟩
/-- are any not Null? -/
def someV (L : List V) : Bool := L.any fun v => decide (v.k ≠ 0)
theorem some_meta {L : List V} (h : someV L = true) : ∃ c ∈ L.map metaC, c.1 = true := by
  obtain ⟨v, hv, hk⟩ := List.any_eq_true.1 h
  refine ⟨metaC v, List.mem_map.2 ⟨v, hv, rfl⟩, ?_⟩
  rw [metaC, if_neg (by simpa using hk)]
theorem none_meta {L : List V} (h : someV L = false) : ∀ c ∈ L.map metaC, c = ((false, 0) : Bool × Int) := by
  intro c hc
  obtain ⟨v, hv, rfl⟩ := List.mem_map.1 hc
  have := List.any_eq_false.1 h v hv
  rw [metaC, if_pos (by simpa using this)]
theorem putM_none {L : List V} (h : someV L = false) : putM L = [] := told_none (none_meta h)
theorem putM_some {L : List V} (h : someV L = true) : putM L ≠ [] := by
  obtain ⟨c, hc, h1⟩ := some_meta h
  have e := told_some (K := kU) hc (fun e => by rw [e] at h1; cases h1)
  unfold putM
  rw [e]
  refine tell_ne (fun h0 => ?_)
  have h2 := spread_gather (L.map metaC)
  rw [h0] at h2
  rw [← h2] at hc
  cases hc
theorem putB_none : ∀ {L : List V}, (∀ v ∈ L, v.ok ∧ rightV v = true) → someV L = false → putB L = []
  | [], _, _ => rfl
  | v :: T, h, hs => by
    unfold someV at hs
    rw [List.any_cons, Bool.or_eq_false_iff] at hs
    have h1 := right_null (h v (List.mem_cons_self ..)).2 (by simpa using hs.1)
    have h2 := putB_none (L := T) (fun x hx => h x (List.mem_cons_of_mem _ hx)) hs.2
    unfold putB at h2 ⊢
    rw [List.flatMap_cons, h1.2, h2]
    rfl
/-- what the first column is read as -/
theorem read_metas {L : List V} (h : ∀ v ∈ L, v.ok ∧ rightV v = true) (hl : L.length ≤ 1000000) (n : Int) (hn : 0 ≤ n) :
    toC (readG kU n (putM L)) = if someV L = true then (if (L.length : Int) ≤ n then (L.map metaC, 0) else ([], 4)) else ([], 0) := by
  unfold putM
  by_cases hs : someV L = true
  · rw [if_pos hs]
    obtain ⟨c, hc, h1⟩ := some_meta hs
    have e := read_back backU (putM_may h) hc (fun e => by rw [e] at h1; cases h1) (by rw [List.length_map]; omega) n hn
    rw [e, List.length_map]
    by_cases hf : (L.length : Int) ≤ n
    · rw [if_pos hf, if_pos hf]
      show (spreadG (gatherG (L.map metaC)), 0) = _
      rw [spread_gather]
    · rw [if_neg hf, if_neg hf]; rfl
  · rw [if_neg hs, told_none (none_meta (by simpa using hs)), read_nil _ hn]
    rfl
/-- what is put is read as it was; with bytes behind it isn't -/
theorem get_back {L : List V} (h : ∀ v ∈ L, v.ok ∧ rightV v = true) (hl : L.length ≤ 1000000) (R : List UInt8) : getM (putM L) (putB L ++ R) (L.length : Int) = if R = [] then (L, 0) else ([], 3) := by
  unfold getM
  rw [read_metas h hl _ (by omega)]
  by_cases hs : someV L = true
  · have hpos : 0 < (L.map metaC).length := by
      obtain ⟨c, hc, _⟩ := some_meta hs
      exact List.length_pos_of_mem hc
    have hp : padR (L.map metaC) (L.length : Int) = (L.map metaC, true) := by
      unfold padR
      rw [if_pos hpos, List.length_map]
      simp
    rw [if_pos hs, if_pos (Int.le_refl _)]
    simp only [hp]
    rw [if_neg (by simp), if_pos trivial, vals_put h]
    simp
  · have hp : padR [] (L.length : Int) = (L.map metaC, true) := by
      unfold padR
      rw [if_neg (by simp), if_neg (by omega), metas_null (none_meta (by simpa using hs)), Int.toNat_natCast]
    rw [if_neg hs]
    simp only [hp]
    rw [if_neg (by simp), if_pos trivial, vals_put h]
    simp
theorem get_more {L : List V} (h : ∀ v ∈ L, v.ok ∧ rightV v = true) (hl : L.length ≤ 1000000) (hs : someV L = true) (B : List UInt8) : getM (putM L) B ((L.length : Int) + 1) = ([], 3) := by
  have hpos : 0 < (L.map metaC).length := by
    obtain ⟨c, hc, _⟩ := some_meta hs
    exact List.length_pos_of_mem hc
  unfold getM
  have hp : padR (L.map metaC) ((L.length : Int) + 1) = (L.map metaC, false) := by
    unfold padR
    rw [if_pos hpos, List.length_map, show decide ((L.length : Int) = (L.length : Int) + 1) = false from by simp; omega]
  have hr : (if (L.length : Int) ≤ (L.length : Int) + 1 then (L.map metaC, 0) else (([] : List (Bool × Int)), 4)) = (L.map metaC, 0) := if_pos (by omega)
  rw [read_metas h hl _ (by omega), if_pos hs, hr]
  simp [hp]
theorem get_less {L : List V} (h : ∀ v ∈ L, v.ok ∧ rightV v = true) (hl : L.length ≤ 1000000) (hs : someV L = true) (B : List UInt8) : getM (putM L) B ((L.length : Int) - 1) = ([], 4) := by
  have hpos : 0 < L.length := by
    obtain ⟨c, hc, _⟩ := some_meta hs
    have := List.length_pos_of_mem hc
    rwa [List.length_map] at this
  unfold getM
  have hr : (if (L.length : Int) ≤ (L.length : Int) - 1 then (L.map metaC, 0) else (([] : List (Bool × Int)), 4)) = ([], 4) := if_neg (by omega)
  rw [read_metas h hl _ (by omega), if_pos hs, hr]
  simp
/-- so many Nulls -/
theorem put_nulls (k : Nat) : putM (List.replicate k zeroV) = [] ∧ putB (List.replicate k zeroV) = [] := by
  have hs : someV (List.replicate k zeroV) = false := by
    unfold someV
    rw [List.any_eq_false]
    intro v hv
    rw [(List.mem_replicate.1 hv).2]
    simp [zeroV]
  have hr : ∀ v ∈ List.replicate k zeroV, v.ok ∧ rightV v = true := by
    intro v hv
    rw [(List.mem_replicate.1 hv).2]
    exact ⟨⟨⟨by decide, by decide⟩, by decide, by decide, by decide⟩, rfl⟩
  exact ⟨putM_none hs, putB_none hr hs⟩
theorem get_nulls (k : Nat) (hk : k ≤ 1000000) : getM [] [] (k : Int) = (List.replicate k zeroV, 0) := by
  have hr : ∀ v ∈ List.replicate k zeroV, v.ok ∧ rightV v = true := by
    intro v hv
    rw [(List.mem_replicate.1 hv).2]
    exact ⟨⟨⟨by decide, by decide⟩, by decide, by decide, by decide⟩, rfl⟩
  have h := get_back hr (by rw [List.length_replicate]; exact hk) []
  rw [(put_nulls k).1, (put_nulls k).2, List.length_replicate, if_pos rfl] at h
  exact h
end Go.Proofs.Ytohbcepbodcapaa
