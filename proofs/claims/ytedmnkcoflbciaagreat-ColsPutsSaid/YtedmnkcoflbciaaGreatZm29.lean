/-
  Layer 15, the program: rows of values, slices made whole, rows that lie apart; a value's cell.
  Layer 19, the program: a sheet in memory: a block of slices, each of which is a row of its own; names and keys are added.
  Layer 19, the program: a name is added to two rows of a sheet.
-/
import Derived.Test.YtedmnkcoflbciaaGreatZm28
import Derived.Test.YtedmnkcoflbciaaGreatZm12
import Derived.Test.YtedmnkcoflbciaaGreatZm04
import Derived.Test.YtedmnkcoflbciaaGreatZm19
namespace Go.Proofs.YtedmnkcoflbciaaGreat
open Go.RowKit Mem Go.Lib RleM LebM VaM
attribute [local go_sem ↓] Go.wp_at_zero Go.wp_at_succ
set_option linter.unusedVariables false

def OwnV (w : World) (base : Nat) (A : Option Addr) (c : Nat) (L : List V) : Prop := w.ownsRow base 52 4 (.slice A L.length c) L.length (L.flatMap vls)
theorem OwnV.nil (w : World) (base : Nat) : OwnV w base none 0 [] := World.ownsRow_nil _ _ _ _
theorem OwnV.base {w : World} {b b' c : Nat} {A : Option Addr} {L : List V} (h : OwnV w b A c L) (hb : b' ≤ b) : OwnV w b' A c L := own_base h hb
theorem OwnV.fr {w w' : World} {base c : Nat} {A : Option Addr} {L : List V} (h : OwnV w base A c L) (hf : Fr (fun _ => False) w w') : OwnV w' base A c L := hf.own h (fun _ _ h => h)
theorem OwnV.snoc {w : World} {base c : Nat} {A : Option Addr} {L : List V} {t : V} {N : Nat} (hN : N = L.length + 1) (h : w.ownsRow base 52 4 (.slice A N c) N (L.flatMap vls ++ vls t)) : OwnV w base A c (L ++ [t]) := by
  unfold OwnV
  rw [List.flatMap_append, List.flatMap_singleton, List.length_append, List.length_singleton, ← hN]
  exact h
theorem OwnV.vls {w : World} {base c : Nat} {A : Option Addr} {L : List V} (h : OwnV w base A c L) : Vls w A L.length L := by
  refine ⟨rfl, fun k t ht => ?_⟩
  have hk := (List.getElem?_eq_some_iff.1 ht).1
  rcases h.2 with ⟨hv, h0⟩ | ⟨g, cap, cur, hv, _⟩
  · injection hv with _ h1 h2
    omega
  · have hA : A = some ⟨g, 0, none⟩ := by injection hv
    subst hA
    have hc := h.cells (g := g) rfl
    have hadd : ∀ j, (⟨g, 0, none⟩ : Addr).add j = ⟨g, j, none⟩ := fun j => by unfold Addr.add; split <;> simp_all
    have hf := v_flat L k t ht
    refine ⟨g, 0, rfl, (h.lt g rfl).2, ?_, ?_, ?_, ?_⟩
    all_goals rw [Nat.zero_add, ← hadd]
    · exact hc _ _ (by rw [show k * 4 = k * 4 + 0 from rfl, hf 0 (by omega)]; rfl)
    · exact hc _ _ (by rw [hf 1 (by omega)]; rfl)
    · exact hc _ _ (by rw [hf 2 (by omega)]; rfl)
    · exact hc _ _ (by rw [hf 3 (by omega)]; rfl)
/-- rows of unlike elements lie apart -/
theorem own_apart {w : World} {b1 b2 s1 s2 n1 n2 : Nat} {e1 e2 : TypeId} {v1 v2 : Value} {x1 x2 : List Value} (h1 : w.ownsRow b1 e1 s1 v1 n1 x1) (h2 : w.ownsRow b2 e2 s2 v2 n2 x2) (hne : e1 ≠ e2) {k : Nat} (hk : v1.ownBlock = some k) : v2.ownBlock ≠ some k := by
  rcases h1.2 with ⟨rfl, _⟩ | ⟨g, cap, cur, rfl, _, hr, _⟩
  · cases hk
  · rcases h2.2 with ⟨rfl, _⟩ | ⟨g', cap', cur', rfl, _, hr', _⟩
    · intro h; cases h
    · intro h
      have e1' : g = k := by simpa [Value.ownBlock] using hk
      have e2' : g' = k := by simpa [Value.ownBlock] using h
      rw [e1'] at hr
      rw [e2', hr] at hr'
      injection hr' with hr'
      injection hr' with _ hr' _
      exact hne hr'
theorem own_list15 {w : World} {base c N : Nat} {A : Option Addr} {B C D : List UInt8} (hD : D = B ++ C) (hN : N = D.length) (h : w.ownsRow base 5 1 (.slice A N c) N (B.map bytec ++ C.map bytec)) : Own w base A c D := by
  unfold Own
  rw [← hN, hD, List.map_append]
  exact h
theorem valTC : ElemTyS Tryz.prog 70 52 (valc zeroV) 4 40 := ⟨Tryz.underlying70, by kernel_rfl, rfl, by decide⟩

theorem cSz : (Tryz.prog.info? 77).map (·.size) = some 2 := by kernel_rfl
theorem c_one (a : Bool) (x : Int) : ([Value.bool a, .int .i64 x] : List Value).toArray.all (·.oneCell') = true := by simp [Value.oneCell']
def cellc (c : Bool × Int) : Value := .agg #[.bool c.1, .int .i64 c.2]
set_option maxRecDepth 100000 in
set_option maxHeartbeats 1600000 in
theorem cellOf_any (k : Int) (m : Nat) (w : World) (hk : 0 ≤ k ∧ k ≤ 8) (hm : m ≤ 4000) :
    Calls Tryz.prog 89 #[.int .i64 k, .int .i64 (m : Int)] w fun e w' => e = .returned (cellc (if k = 0 then (false, 0) else (true, 16 * (m : Int) + k))) ∧ Fr (fun _ => False) w w' := by
  obtain ⟨g, hg⟩ : ∃ g, w.heap.size = g := ⟨_, rfl⟩
  obtain ⟨w1, hw1⟩ : ∃ w1, w.alloc (.cells #[.bool false, .int .i64 0] 77) = w1 := ⟨_, rfl⟩
  have hf1 : Fr (fun _ => False) w w1 := by rw [← hw1]; exact (Fr.refl _ _).alloc _
  have hr1 : Row w1 g 77 [.bool false, .int .i64 0] := by rw [← hw1, ← hg]; exact Row.new w _ _
  have HF1 := Lib.hid hf1
  have HR1 := Lib.hid hr1
  have HG := Lib.hid hg
  clear hf1 hr1
  by_cases h0 : k = 0
  · subst h0
    rw [if_pos rfl]
    clear hk
    go_enter Tryz.func89, Tryz.ntmps89
    go_upto_region 1 with fail
    clear hw1 hg
    go_wp2_with (refine store_st cSz rfl (.tmp 4) (.tmp 7) rfl g (by rfl) [.bool false, .int .i64 0] (by rfl) _ _ HR1.out rfl rfl (c_one _ _) ?_)
    intro w5 hr5 hf5
    have HF5 : Hid (Fr (fun _ => False) w w5) := Lib.hid (HF1.out.trans hf5 (fun b hb h => by have h1 := HG.out; omega))
    have d0 : w5.cell? ⟨g, 0, none⟩ = some (.bool false) := hr5.cell rfl
    have d1 : w5.cell? ⟨g, 1, none⟩ = some (.int .i64 0) := hr5.cell rfl
    clear hr5 hf5
    go_wp2_with fail
    exact bodyPost_ret (v := cellc (false, 0)) (by simp [results, cellc, Tryz.results89, go_sem, d0, d1]) rfl ⟨rfl, HF5.out⟩
  · rw [if_neg h0]
    have t0 : (k == 0) = false := by simp; exact h0
    have r1 : IntKind.i64.wrap ((m : Int) * 16) = (m : Int) * 16 := by rw [IntKind.wrap_i64]; omega
    have r2 : IntKind.i64.wrap ((m : Int) * 16 + k) = 16 * (m : Int) + k := by rw [IntKind.wrap_i64]; omega
    clear hk hm h0
    go_enter Tryz.func89, Tryz.ntmps89
    go_upto_region 1 with fail
    clear hw1 hg
    go_wp2_with (refine store_st cSz rfl (.tmp 4) (.tmp 12) rfl g (by rfl) [.bool true, .int .i64 (16 * (m : Int) + k)] (by rfl) _ _ HR1.out rfl rfl (c_one _ _) ?_)
    intro w5 hr5 hf5
    have HF5 : Hid (Fr (fun _ => False) w w5) := Lib.hid (HF1.out.trans hf5 (fun b hb h => by have h1 := HG.out; omega))
    have d0 : w5.cell? ⟨g, 0, none⟩ = some (.bool true) := hr5.cell rfl
    have d1 : w5.cell? ⟨g, 1, none⟩ = some (.int .i64 (16 * (m : Int) + k)) := hr5.cell rfl
    clear hr5 hf5
    go_wp2_with fail
    exact bodyPost_ret (v := cellc (true, 16 * (m : Int) + k)) (by simp [results, cellc, Tryz.results89, go_sem, d0, d1]) rfl ⟨rfl, HF5.out⟩
end Go.Proofs.YtedmnkcoflbciaaGreat
namespace Go.Proofs.YtedmnkcoflbciaaGreat
open Go.RowKit Mem Go.Lib LebM UtfM VaM OpM AcM RleM CsM
attribute [local go_sem ↓] Go.wp_at_zero Go.wp_at_succ
set_option linter.unusedVariables false

/-- what a row holds: its elements' type, their size, how many, all cells; where it lies -/
structure Ct where
  e : TypeId
  s : Nat
  n : Nat
  xs : List Value
structure Rw where
  ct : Ct
  A : Option Addr
  c : Nat
def Rw.v (r : Rw) : Value := .slice r.A r.ct.n r.c
def Rw.own (w : World) (base : Nat) (r : Rw) : Prop := w.ownsRow base r.ct.e r.ct.s r.v r.ct.n r.ct.xs
def apartR (r q : Rw) : Prop := ∀ k, r.v.ownBlock = some k → q.v.ownBlock ≠ some k
/-- D: blocks that aren't the sheet's -/
structure ShT (st : TypeId) (w : World) (base g : Nat) (D : Nat → Prop) (R : List Rw) : Prop where
  row : Row w g st (R.map Rw.v)
  all : ∀ r ∈ R, r.own w base
  sep : R.Pairwise apartR
  off : ∀ r ∈ R, r.v.ownBlock ≠ some g
  base : base ≤ g
  far : ∀ k, D k → k ≠ g ∧ ∀ r ∈ R, r.v.ownBlock ≠ some k
  lt : ∀ k, D k → k < w.heap.size
/-- block g is a sheet whose rows hold this -/
def SheetT (st : TypeId) (w : World) (base g : Nat) (D : Nat → Prop) (X : List Ct) : Prop := ∃ R, ShT st w base g D R ∧ R.map Rw.ct = X
def ctC (L : List C) : Ct := ⟨77, 2, L.length, L.flatMap (ccells nv)⟩
def ctW (L : List (Bool × List UInt8)) : Ct := ⟨80, 2, L.length, L.flatMap (ccells sv)⟩
def ctB (L : List Bool) : Ct := ⟨4, 1, L.length, L.map boc⟩
def ctV (L : List V) : Ct := ⟨52, 4, L.length, L.flatMap vls⟩
section
variable {st : TypeId}
/-- all but the sheet's own blocks stand -/
theorem ShT.fr {S D : Nat → Prop} {w w' : World} {base g : Nat} {R : List Rw} (h : ShT st w base g D R) (hf : Fr S w w') (hS : ∀ k, base ≤ k → ¬ S k) : ShT st w' base g D R :=
  ⟨h.row.fr hf (hS g h.base), fun r hr => hf.own (h.all r hr) (fun k hk => hS k ((h.all r hr).lt k hk).1), h.sep, h.off, h.base, h.far, fun k hk => Nat.lt_of_lt_of_le (h.lt k hk) hf.size⟩
theorem SheetT.fr {S D : Nat → Prop} {w w' : World} {base g : Nat} {X : List Ct} (h : SheetT st w base g D X) (hf : Fr S w w') (hS : ∀ k, base ≤ k → ¬ S k) : SheetT st w' base g D X := by
  obtain ⟨R, h, e⟩ := h
  exact ⟨R, h.fr hf hS, e⟩
theorem SheetT.fr0 {D : Nat → Prop} {w w' : World} {base g : Nat} {X : List Ct} (h : SheetT st w base g D X) (hf : Fr (fun _ => False) w w') : SheetT st w' base g D X := h.fr hf (fun _ _ h => h)
end
theorem pw_set {α : Type} {p : α → α → Prop} (hc : ∀ a b, p a b → p b a) : ∀ {l : List α} {i : Nat} {x : α}, l.Pairwise p → (∀ j y, j ≠ i → l[j]? = some y → p x y) → (l.set i x).Pairwise p
  | [], i, x, _, _ => by simp
  | y :: l, 0, x, h, hx => by
    rw [List.pairwise_cons] at h
    rw [List.set_cons_zero, List.pairwise_cons]
    refine ⟨fun z hz => ?_, h.2⟩
    obtain ⟨j, hj⟩ := List.mem_iff_getElem?.1 hz
    exact hx (j + 1) z (by omega) (by simpa using hj)
  | y :: l, i + 1, x, h, hx => by
    rw [List.pairwise_cons] at h
    rw [List.set_cons_succ, List.pairwise_cons]
    refine ⟨fun z hz => ?_, pw_set hc h.2 (fun j z hj hz => hx (j + 1) z (by omega) (by simpa using hz))⟩
    rcases List.mem_or_eq_of_mem_set hz with hz | rfl
    · exact h.1 z hz
    · exact hc _ _ (hx 0 y (by omega) (by simp))
theorem apart_comm (r q : Rw) (h : apartR r q) : apartR q r := fun k h1 h2 => h k h2 h1
theorem pw_get {α : Type} {p : α → α → Prop} (hc : ∀ a b, p a b → p b a) {l : List α} (h : l.Pairwise p) {i j : Nat} {x y : α} (hi : l[i]? = some x) (hj : l[j]? = some y) (hne : j ≠ i) : p x y := by
  obtain ⟨h1, e1⟩ := List.getElem?_eq_some_iff.1 hi
  obtain ⟨h2, e2⟩ := List.getElem?_eq_some_iff.1 hj
  have hp := List.pairwise_iff_getElem.1 h
  rcases Nat.lt_or_ge i j with hlt | hge
  · have := hp i j h1 h2 hlt
    rwa [e1, e2] at this
  · have := hp j i h2 h1 (by omega)
    rw [e1, e2] at this
    exact hc _ _ this
section
variable {st : TypeId}
/-- row i turned within its own block, or moved into a new one; its slice is stored -/
theorem ShT.turn {D : Nat → Prop} {w w2 : World} {base g i : Nat} {R : List Rw} {r q : Rw} (h : ShT st w base g D R) (hi : R[i]? = some r) (hf : Fr (fun k => r.v.ownBlock = some k) w w2) (hq : q.own w2 base)
    (hat : q.v.ownBlock = r.v.ownBlock ∨ q.v.ownBlock = some w.heap.size) : ShT st (w2.setCell ⟨g, i, none⟩ q.v) base g D (R.set i q) ∧ Fr (fun k => k = g ∨ r.v.ownBlock = some k) w (w2.setCell ⟨g, i, none⟩ q.v) := by
  have hr := h.all r (List.mem_of_getElem? hi)
  have hg : r.v.ownBlock ≠ some g := h.off r (List.mem_of_getElem? hi)
  have hgl := h.row.lt
  have hqg : q.v.ownBlock ≠ some g := by
    rcases hat with e | e
    · rw [e]; exact hg
    · rw [e]; intro e2; injection e2 with e2; omega
  have hqa : ∀ j y, j ≠ i → R[j]? = some y → apartR q y := by
    intro j y hj hy k hk hk2
    have h1 := pw_get apart_comm h.sep hi hy hj
    rcases hat with e | e
    · rw [e] at hk; exact h1 k hk hk2
    · rw [e] at hk
      injection hk with hk
      have := own_lt (h.all y (List.mem_of_getElem? hy)) hk2
      omega
  have hs := Fr.set1 w2 g i q.v
  refine ⟨⟨?_, ?_, pw_set apart_comm h.sep hqa, ?_, h.base, ?_, ?_⟩, ?_⟩
  · have := (h.row.fr hf hg).set i q.v
    rwa [← List.map_set] at this
  · intro y hy
    obtain ⟨j, hj⟩ := List.mem_iff_getElem?.1 hy
    by_cases hji : j = i
    · subst hji
      have hl := (List.getElem?_eq_some_iff.1 hi).1
      rw [List.getElem?_set_self hl] at hj
      injection hj with hj
      rw [← hj]
      exact hs.own hq (fun k hk e => hqg (by rw [hk, e]))
    · rw [List.getElem?_set_ne (fun e => hji e.symm)] at hj
      have hy2 := h.all y (List.mem_of_getElem? hj)
      refine hs.own (hf.own hy2 (fun k hk e => pw_get apart_comm h.sep hi hj hji k e hk)) (fun k hk e => ?_)
      exact h.off y (List.mem_of_getElem? hj) (by rw [hk, e])
  · intro y hy
    rcases List.mem_or_eq_of_mem_set hy with hy | rfl
    · exact h.off y hy
    · exact hqg
  · intro k hk
    refine ⟨(h.far k hk).1, fun y hy e => ?_⟩
    rcases List.mem_or_eq_of_mem_set hy with hy | rfl
    · exact (h.far k hk).2 y hy e
    · rcases hat with e2 | e2
      · rw [e2] at e; exact (h.far k hk).2 r (List.mem_of_getElem? hi) e
      · rw [e2] at e
        injection e with e
        have := h.lt k hk
        omega
  · intro k hk
    exact Nat.lt_of_lt_of_le (h.lt k hk) (Nat.le_trans hf.size hs.size)
  · exact (hf.mono (fun k hk e => .inr e)).trans hs (fun k hk e => .inl e)
theorem ShT.wide {D : Nat → Prop} {w w' : World} {base g : Nat} {R : List Rw} {r : Rw} (h : ShT st w base g D R) (hr : r ∈ R) (hf : Fr (fun k => k = g ∨ r.v.ownBlock = some k) w w') : Fr (fun k => base ≤ k ∧ ¬ D k) w w' :=
  hf.mono (fun k hk e => by
    rcases e with rfl | e
    · exact ⟨h.base, fun hd => (h.far _ hd).1 rfl⟩
    · exact ⟨((h.all r hr).lt k e).1, fun hd => (h.far _ hd).2 r hr e⟩)
/-- append onto row i, from the world behind a new element -/
theorem ShT.grow {D : Nat → Prop} {w w1 w2 : World} {base g i N : Nat} {R : List Rw} {t : Ct} {A A' : Option Addr} {c c' : Nat} {news : List Value} (h : ShT st w base g D R) (hi : R[i]? = some ⟨t, A, c⟩) (h1 : Fr (fun _ => False) w w1)
    (hf : Fr (fun k => (Value.slice A t.n c).ownBlock = some k) w1 w2) (hq : w2.ownsRow base t.e t.s (.slice A' N c') N (t.xs ++ news)) (hat : (Value.slice A' N c').ownBlock = (Value.slice A t.n c).ownBlock ∨ (Value.slice A' N c').ownBlock = some w1.heap.size) :
    (ShT st (w2.setCell ⟨g, i, none⟩ (.slice A' N c')) base g D (R.set i ⟨⟨t.e, t.s, N, t.xs ++ news⟩, A', c'⟩) ∧ Fr (fun k => k = g ∨ (Value.slice A t.n c).ownBlock = some k) w (w2.setCell ⟨g, i, none⟩ (.slice A' N c'))) ∧ w2.cell? ⟨g, i, none⟩ = some (.slice A t.n c) ∧ w2.frozen? ⟨g, i, none⟩ = false := by
  have hrow := (h.row.fr h1 (fun h => h)).fr hf (h.off _ (List.mem_of_getElem? hi))
  obtain ⟨h2, h3⟩ := (h.fr h1 (fun _ _ h => h)).turn (q := ⟨⟨t.e, t.s, N, t.xs ++ news⟩, A', c'⟩) hi hf hq hat
  exact ⟨⟨h2, (h1.mono (fun _ _ h => h.elim)).trans h3 (fun _ _ h => h)⟩, hrow.cell (by rw [List.getElem?_map, hi]; rfl), hrow.free i⟩
theorem ShT.cell {D : Nat → Prop} {w : World} {base g i : Nat} {R : List Rw} {r : Rw} (h : ShT st w base g D R) (hi : R[i]? = some r) : w.cell? ⟨g, i, none⟩ = some r.v := h.row.cell (by rw [List.getElem?_map, hi]; rfl)
/-- a block that isn't the sheet's is turned -/
theorem ShT.scratch {D : Nat → Prop} {w w' : World} {base g p : Nat} {R : List Rw} (h : ShT st w base g D R) (hp : D p) (hf : Fr (fun k => k = p) w w') : ShT st w' base g D R :=
  ⟨h.row.fr hf (fun e => (h.far p hp).1 e.symm), fun r hr => hf.own (h.all r hr) (fun k hk e => (h.far p hp).2 r hr (by rw [hk, e])), h.sep, h.off, h.base, h.far, fun k hk => Nat.lt_of_lt_of_le (h.lt k hk) hf.size⟩
/-- more blocks that aren't the sheet's: new ones -/
theorem SheetT.more {D D' : Nat → Prop} {w w' : World} {base g : Nat} {X : List Ct} (h : SheetT st w base g D X) (hf : Fr (fun _ => False) w w') (hD : ∀ k, D' k → (D k ∨ w.heap.size ≤ k) ∧ k < w'.heap.size) : SheetT st w' base g D' X := by
  obtain ⟨R, h, e⟩ := h
  have h2 := h.fr hf (fun _ _ h => h)
  refine ⟨R, ⟨h2.row, h2.all, h2.sep, h2.off, h2.base, fun k hk => ?_, fun k hk => (hD k hk).2⟩, e⟩
  rcases (hD k hk).1 with hd | hd
  · exact h.far k hd
  · have := h.row.lt
    exact ⟨by omega, fun r hr e => by have := own_lt (h.all r hr) e; omega⟩
theorem SheetT.less {D D' : Nat → Prop} {w : World} {base g : Nat} {X : List Ct} (h : SheetT st w base g D' X) (hD : ∀ k, D k → D' k) : SheetT st w base g D X := by
  obtain ⟨R, h, e⟩ := h
  exact ⟨R, ⟨h.row, h.all, h.sep, h.off, h.base, fun k hk => h.far k (hD k hk), fun k hk => h.lt k (hD k hk)⟩, e⟩
/-- one more block that isn't the sheet's -/
theorem SheetT.one {D : Nat → Prop} {w w' : World} {base g b : Nat} {X : List Ct} (h : SheetT st w base g D X) (hf : Fr (fun _ => False) w w') (hb : w.heap.size ≤ b) (hb' : b < w'.heap.size) : SheetT st w' base g (fun k => D k ∨ k = b) X :=
  h.more hf (fun k hk => by
    rcases hk with hk | rfl
    · obtain ⟨R, h, _⟩ := h
      exact ⟨.inl hk, Nat.lt_of_lt_of_le (h.lt k hk) hf.size⟩
    · exact ⟨.inr hb, hb'⟩)
theorem ShT.nth {i : Nat} {R : List Rw} {X : List Ct} {t : Ct} (e : R.map Rw.ct = X) (hX : X[i]? = some t) : ∃ A c, R[i]? = some ⟨t, A, c⟩ := by
  rw [← e, List.getElem?_map] at hX
  cases hr : R[i]? with
  | none => rw [hr] at hX; cases hX
  | some r =>
    rw [hr] at hX
    injection hX with hX
    obtain ⟨t', A, c⟩ := r
    exact ⟨A, c, by rw [← hX]⟩
end
abbrev Sheet := SheetT 72
end Go.Proofs.YtedmnkcoflbciaaGreat
namespace Go.Proofs.YtedmnkcoflbciaaGreat
open Go.RowKit Mem Go.Lib LebM UtfM VaM OpM AcM RleM CsM
attribute [local go_sem ↓] Go.wp_at_zero Go.wp_at_succ
set_option linter.unusedVariables false

/-- a row's elements, as append asks -/
theorem Rw.form {w : World} {base : Nat} {t : Ct} {A : Option Addr} {c : Nat} (h : Rw.own w base ⟨t, A, c⟩) : w.ownsRow base t.e t.s (.slice A t.n c) t.n t.xs := h
theorem ctC_snoc (L : List C) (x : C) : ctC (L ++ [x]) = ⟨77, 2, L.length + 1, L.flatMap (ccells nv) ++ [.bool x.1, .int .i64 x.2]⟩ := by
  unfold ctC
  simp [ccells, nv]
theorem two_one (a : Bool) (x : Int) : ∀ u ∈ [Value.bool a, .int .i64 x], u.oneCell' = true := by
  intro u hu
  simp at hu
  rcases hu with rfl | rfl <;> rfl
set_option maxRecDepth 100000 in
set_option maxHeartbeats 3200000 in
theorem addName_any (m nT : Nat) (T : List Tx) (x : Nm) (g j base : Nat) (D : Nat → Prop) (La Lc : List C) (X : List Ct) (w : World) (hj : X[j]? = some (ctC La)) (hj2 : X[j + 1]? = some (ctC Lc)) (h : Sheet w base g D X)
    (hmp : MpI w m nT (pl T)) (hm : m < base) (hb : base ≤ w.heap.size) (hx : x.a.length ≤ 1000000) (hla : La.length ≤ 1000000) (hlc : Lc.length ≤ 1000000) :
    Calls Tryz.prog 46 #[.pointer (some ⟨g, j, none⟩), .map (some m), .agg #[.int .i64 x.c, .string (txt x.a)]] w fun e w' =>
      e = .returned (.tuple #[]) ∧ Sheet w' base g D ((X.set j (ctC (La ++ [oneA T x]))).set (j + 1) (ctC (Lc ++ [oneC x]))) ∧ Fr (fun k => base ≤ k ∧ ¬ D k) w w' := by
  obtain ⟨b, hbb⟩ : ∃ b, w.heap.size = b := ⟨_, rfl⟩
  obtain ⟨w1, hw1⟩ : ∃ w1, w.alloc (.cells #[.int .i64 x.c, .string (txt x.a)] 49) = w1 := ⟨_, rfl⟩
  have hf1 : Fr (fun _ => False) w w1 := by rw [← hw1]; exact (Fr.refl _ _).alloc _
  have hr1 : RowN w1 b x := by rw [← hw1, ← hbb]; exact RowN.new w x
  obtain ⟨p, hp⟩ : ∃ p, w1.heap.size = p := ⟨_, rfl⟩
  obtain ⟨w2, hw2⟩ : ∃ w2, w1.alloc (.cells #[.bool false, .int .i64 0] 77) = w2 := ⟨_, rfl⟩
  have hf2 : Fr (fun _ => False) w1 w2 := by rw [← hw2]; exact (Fr.refl _ _).alloc _
  have hp2 : Row w2 p 77 [.bool false, .int .i64 0] := by rw [← hw2, ← hp]; exact Row.new w1 _ _
  obtain ⟨q, hq⟩ : ∃ q, w2.heap.size = q := ⟨_, rfl⟩
  obtain ⟨w3, hw3⟩ : ∃ w3, w2.alloc (.cells #[.bool false, .int .i64 0] 77) = w3 := ⟨_, rfl⟩
  have hf3 : Fr (fun _ => False) w2 w3 := by rw [← hw3]; exact (Fr.refl _ _).alloc _
  have hq3 : Row w3 q 77 [.bool false, .int .i64 0] := by rw [← hw3, ← hq]; exact Row.new w2 _ _
  have HNE : Hid (b ≠ p ∧ b ≠ q ∧ p ≠ q ∧ w.heap.size = b ∧ b < p ∧ p < q) := Lib.hid (by have h1 := hr1.lt; have h2 := hp2.lt; omega)
  have HB3 := Lib.hid ((hr1.fr hf2 (fun h => h)).fr hf3 (fun h => h))
  have HP3 := Lib.hid (hp2.fr hf3 (fun h => h))
  have HQ3 := Lib.hid hq3
  have HF3 := Lib.hid ((hf1.trans hf2 (fun _ _ h => h)).trans hf3 (fun _ _ h => h))
  have HSH := Lib.hid h
  have HMP := Lib.hid hmp
  have HZ := Lib.hid (fun w => zero_any x w)
  have HJ := Lib.hid (And.intro hj hj2)
  have HBS := Lib.hid hb
  obtain ⟨z, hz⟩ : ∃ z, zeroB x = z := ⟨_, rfl⟩
  unfold nmc at HZ
  rw [hz] at HZ
  have HZB := Lib.hid hz
  clear h hmp hf1 hf2 hf3 hr1 hp2 hq3 hz hj hj2 hb
  go_enter Tryz.func46, Tryz.ntmps46
  obtain ⟨d0, d1⟩ := HB3.out.cells
  cases z
  go_wp2_with fail
  clear hw1 hw2 hw3 hp hq hbb
  refine (HZ.out _).mono ?_
  rintro e w4 ⟨rfl, hf4⟩
  have HB4 : Hid (RowN w4 b x) := Lib.hid (HB3.out.fr hf4 (fun h => h))
  have HP4 := Lib.hid (HP3.out.fr hf4 (fun h => h))
  have HQ4 := Lib.hid (HQ3.out.fr hf4 (fun h => h))
  have HF4 := Lib.hid (HF3.out.trans hf4 (fun _ _ h => h))
  clear hf4 d0 d1
  go_upto_region 3 with fail
  refine wp_region_head 7 (fun w' => Fr (fun _ => False) w4 w' ∧ w'.cell? ⟨b, 0, none⟩ = some (.int .i64 x.c) ∧ w'.cell? ⟨b, 1, none⟩ = some (.string (txt x.a))) ⟨(Fr.refl _ _).drew, HB4.out.cells⟩ (fun hH => ?_)
  refine tk 0 hH ?_
  refine tk 1 hH ?_
  refine tk 2 hH ?_
  refine tk 4 hH ?_
  refine tk 5 hH ?_
  refine rd1 3 (fun K hK => ?_)
  go_simp
  refine (pcell_any m nT T x.a _ (HMP.out.fr HF4.out.drew (fun h => h)) hx).mono ?_
  rintro e w5 ⟨rfl, hf5⟩
  have hg5 : Fr (fun _ => False) w4 w5 := (Fr.refl _ _).drew.trans hf5 (fun _ _ h => h)
  refine hK.out _ _ ⟨hg5, (HB4.out.fr hg5 (fun h => h)).cells⟩ ?_
  clear hK K
  refine rd1 6 (fun K hK => ?_)
  go_simp
  refine (cnumber_any x.c _).mono ?_
  rintro e w6 ⟨rfl, hf6⟩
  have hg6 : Fr (fun _ => False) w4 w6 := hg5.trans hf6 (fun _ _ h => h)
  refine hK.out _ _ ⟨hg6, (HB4.out.fr hg6 (fun h => h)).cells⟩ ?_
  refine hdone ?_
  have HP6 := Lib.hid (HP4.out.fr hg6 (fun h => h))
  have HQ6 := Lib.hid (HQ4.out.fr hg6 (fun h => h))
  have HF6 := Lib.hid (HF4.out.trans hg6 (fun _ _ h => h))
  clear hK K hf5 hg5 hf6 hg6 hH
  go_wp2_with (refine store_st ccSz rfl (.tmp 6) (.tmp 14) rfl p (by rfl) [.bool true, .int .i64 (idxA x.a T)] (by rfl) _ _ HP6.out rfl rfl (cc_one (true, idxA x.a T)) ?_)
  intro w7 hr7 hf7
  have HQ7 := Lib.hid (HQ6.out.fr hf7 (fun e => HNE.out.2.2.1 e.symm))
  have HF7 : Hid (Fr (fun _ => False) w w7) := Lib.hid (HF6.out.trans hf7 (fun k hk e => by have := HNE.out; omega))
  go_wp2_with (refine store_st ccSz rfl (.tmp 7) (.tmp 17) rfl q (by rfl) [.bool true, .int .i64 x.c] (by rfl) _ _ HQ7.out rfl rfl (cc_one (true, x.c)) ?_)
  intro wz hr8 hf8
  have hpz : Row wz p 77 [.bool (CsM.oneA T x).1, .int .i64 (CsM.oneA T x).2] := by
    rw [show CsM.oneA T x = (true, idxA x.a T) from if_neg (by rw [HZB.out]; simp)]
    exact Row.fr hr7 hf8 HNE.out.2.2.1
  have hqz : Row wz q 77 [.bool (oneC x).1, .int .i64 (oneC x).2] := by
    rw [show oneC x = (true, x.c) from if_neg (by rw [HZB.out]; simp)]
    exact hr8
  have HFZ : Hid (Fr (fun _ => False) w wz) := Lib.hid (HF7.out.trans hf8 (fun k hk e => by have := HNE.out; omega))
  have HPZ := Lib.hid hpz
  have HQZ := Lib.hid hqz
  clear hr7 hf7 hr8 hf8 hpz hqz HP6 HQ6 HF6 HQ7 HF7 HB4 HP4 HQ4 HF4
  go_upto_region 4 with fail
  rotate_left
  go_wp2_with fail
  clear hw1 hw2 hw3 hp hq hbb
  refine (HZ.out _).mono ?_
  rintro e wz ⟨rfl, hf4⟩
  have hpz : Row wz p 77 [.bool (CsM.oneA T x).1, .int .i64 (CsM.oneA T x).2] := by
    rw [show CsM.oneA T x = (false, 0) from if_pos HZB.out]
    exact HP3.out.fr hf4 (fun h => h)
  have hqz : Row wz q 77 [.bool (oneC x).1, .int .i64 (oneC x).2] := by
    rw [show oneC x = (false, 0) from if_pos HZB.out]
    exact HQ3.out.fr hf4 (fun h => h)
  have HFZ := Lib.hid (HF3.out.trans hf4 (fun _ _ h => h))
  have HPZ := Lib.hid hpz
  have HQZ := Lib.hid hqz
  clear hf4 hpz hqz
  go_upto_region 4 with fail
  all_goals
    clear HB3 HP3 HQ3 HF3 HZ HZB HMP
    obtain ⟨cA, hcA⟩ : ∃ cA, CsM.oneA T x = cA := ⟨_, rfl⟩
    obtain ⟨cC, hcC⟩ : ∃ cC, oneC x = cC := ⟨_, rfl⟩
    rw [hcA] at HPZ
    rw [hcC] at HQZ
    have HCC := Lib.hid (And.intro hcA hcC)
    clear hcA hcC
    obtain ⟨R, hSh, hRX⟩ := HSH.out
    have HPB : Hid (∀ k, b ≤ k → ∀ r ∈ R, ¬ r.v.ownBlock = some k) := Lib.hid (fun k hk r hr e => by have h1 := own_lt (hSh.all r hr) e; have := HNE.out; omega)
    have HGW : Hid (g < b ∧ base ≤ b) := Lib.hid (by have h1 := hSh.row.lt; have h2 := HNE.out; have h3 := HBS.out; omega)
    have HSZ := Lib.hid (hSh.fr HFZ.out (fun _ _ h => h))
    have HBZ : Hid (base ≤ wz.heap.size) := Lib.hid (by have h1 := HBS.out; have h2 := HFZ.out.size; omega)
    have HRX := Lib.hid hRX
    clear hSh hRX
    obtain ⟨A1, c1, hr1⟩ := ShT.nth HRX.out HJ.out.1
    have hs := HSZ.out
    have hmem := List.mem_of_getElem? hr1
    have HO1 := Lib.hid (Rw.form (hs.all _ hmem))
    have h0 := hs.cell hr1
    have hne := hs.off _ hmem
    unfold Rw.v at h0 hne
    dsimp only at h0 hne
    have h1 := HPZ.out.cell (i := 0) rfl
    have hn1 : ¬ (Value.slice A1 (ctC La).n c1).ownBlock = some p := HPB.out p (by have := HNE.out; omega) _ (List.mem_of_getElem? hr1)
    have h2 := HPZ.out.cell (i := 1) rfl
    have hn2 : ¬ (Value.slice A1 (ctC La).n c1).ownBlock = some p := HPB.out p (by have := HNE.out; omega) _ (List.mem_of_getElem? hr1)
    refine wp_region_head 8 (fun w' => w'.cell? ⟨g, j, none⟩ = some (.slice A1 (ctC La).n c1) ∧ w'.cell? ⟨p, 0, none⟩ = some (.bool cA.1) ∧ w'.cell? ⟨p, 1, none⟩ = some (.int .i64 cA.2)) ⟨h0, h1, h2⟩ (fun hH => ?_)
    clear hs
    refine tk 0 hH ?_
    refine tk 1 hH ?_
    refine tk 2 hH ?_
    refine tk 3 hH ?_
    refine tk 4 hH ?_
    refine tk 5 hH ?_
    refine rd1 6 (fun K hK => ?_)
    go_simp
    obtain ⟨r, hr⟩ : ∃ r, wz.heap.size = r := ⟨_, rfl⟩
    obtain ⟨wa, hwa⟩ : ∃ y, (wz.alloc (.cells #[.bool cA.1, .int .i64 cA.2] 77)).drew = y := ⟨_, rfl⟩
    rw [hr, hwa]
    have hfa : Fr (fun _ => False) wz wa := by rw [← hwa]; exact ((Fr.refl _ _).alloc _).drew
    have hra : Row wa r 77 [.bool cA.1, .int .i64 cA.2] := by rw [← hwa, ← hr]; exact Row.new wz _ _
    refine hK.out _ _ ⟨hfa.cell h0 (fun h => h), hfa.cell h1 (fun h => h), hfa.cell h2 (fun h => h)⟩ ?_
    clear hK K hwa hr
    refine rd1 7 (fun K hK => ?_)
    have hbd : La.length + 1 ≤ 1000001 := by omega
    refine step_appS cellTC _ (by rfl) _ _ (by rfl) base _ _ _ (by rfl) (hfa.own HO1.out (fun _ _ h => h)) ⟨r, 0, none⟩ 1 [.bool cA.1, .int .i64 cA.2] (by rfl) rfl (fun k u hu => by rw [Mem.addr_add]; exact hra.cell hu) (two_one _ _) (La.length + 1) rfl (by have := hbd; unfold maxLen; omega) (by have := hbd; omega) (by have h1 := HBZ.out; have h3 := hfa.size; omega) ?_
    intro An cn w2b hown2 hc2 hf2 hat2
    obtain ⟨hgr, hgc, hgz⟩ := ShT.grow HSZ.out hr1 hfa hf2 hown2 hat2
    refine hK.out _ _ ⟨hgc, hf2.cell (hfa.cell h1 (fun h => h)) hn1, hf2.cell (hfa.cell h2 (fun h => h)) hn2⟩ ?_
    refine hdone ?_
    obtain ⟨wb1, hwb⟩ : ∃ y, w2b.setCell ⟨g, j, none⟩ (.slice An (La.length + 1) cn) = y := ⟨_, rfl⟩
    rw [hwb] at hgr
    have HG1 := Lib.hid hgr
    clear hK K hown2 hf2 hat2 hgr hfa hra hH hmem hne hbd h0 h1 h2
    clear hn1
    clear hn2
    go_upto_region 5 with fail
    clear hwb hgc hgz hc2 w2b
    have HQB : Hid (Row wb1 q 77 [.bool cC.1, .int .i64 cC.2]) := Lib.hid (Row.fr HQZ.out HG1.out.2 (fun e => by
      rcases e with e | e
      · have h1 := HGW.out; have h2 := HNE.out; omega
      · exact HPB.out q (by have := HNE.out; omega) _ (List.mem_of_getElem? hr1) e))
    obtain ⟨R1, hR1⟩ : ∃ R1, R.set j ⟨⟨(ctC La).e, (ctC La).s, La.length + 1, (ctC La).xs ++ [.bool cA.1, .int .i64 cA.2]⟩, An, cn⟩ = R1 := ⟨_, rfl⟩
    rw [hR1] at HG1
    have HSB := Lib.hid HG1.out.1
    have HBB : Hid (base ≤ wb1.heap.size) := Lib.hid (by have h1 := HBZ.out; have h2 := HG1.out.2.size; omega)
    have HFB := Lib.hid (HSZ.out.wide (List.mem_of_getElem? hr1) HG1.out.2)
    obtain ⟨Ao, co, hro⟩ := ShT.nth HRX.out HJ.out.2
    have HRO := Lib.hid hro
    have HR2 : Hid (R1[j + 1]? = some ⟨ctC Lc, Ao, co⟩) := Lib.hid (by rw [← hR1, List.getElem?_set_ne (by omega)]; exact hro)
    have HX1 : Hid (R1.map Rw.ct = X.set j (ctC (La ++ [cA]))) := Lib.hid (by rw [← hR1, List.map_set, HRX.out, ctC_snoc]; rfl)
    clear HG1 hR1 hro hr1
    have hr2 := HR2.out
    have hs := HSB.out
    have hmem := List.mem_of_getElem? hr2
    have HO2 := Lib.hid (Rw.form (hs.all _ hmem))
    have h0 := hs.cell hr2
    have hne := hs.off _ hmem
    unfold Rw.v at h0 hne
    dsimp only at h0 hne
    have h1 := HQB.out.cell (i := 0) rfl
    have hn1 : ¬ (Value.slice Ao (ctC Lc).n co).ownBlock = some q := HPB.out q (by have := HNE.out; omega) _ (List.mem_of_getElem? HRO.out)
    have h2 := HQB.out.cell (i := 1) rfl
    have hn2 : ¬ (Value.slice Ao (ctC Lc).n co).ownBlock = some q := HPB.out q (by have := HNE.out; omega) _ (List.mem_of_getElem? HRO.out)
    refine wp_region_head 8 (fun w' => w'.cell? ⟨g, j + 1, none⟩ = some (.slice Ao (ctC Lc).n co) ∧ w'.cell? ⟨q, 0, none⟩ = some (.bool cC.1) ∧ w'.cell? ⟨q, 1, none⟩ = some (.int .i64 cC.2)) ⟨h0, h1, h2⟩ (fun hH => ?_)
    clear hs
    refine tk 0 hH ?_
    refine tk 1 hH ?_
    refine tk 2 hH ?_
    refine tk 3 hH ?_
    refine tk 4 hH ?_
    refine tk 5 hH ?_
    refine rd1 6 (fun K hK => ?_)
    go_simp
    obtain ⟨r, hr⟩ : ∃ r, wb1.heap.size = r := ⟨_, rfl⟩
    obtain ⟨wa, hwa⟩ : ∃ y, (wb1.alloc (.cells #[.bool cC.1, .int .i64 cC.2] 77)).drew = y := ⟨_, rfl⟩
    rw [hr, hwa]
    have hfa : Fr (fun _ => False) wb1 wa := by rw [← hwa]; exact ((Fr.refl _ _).alloc _).drew
    have hra : Row wa r 77 [.bool cC.1, .int .i64 cC.2] := by rw [← hwa, ← hr]; exact Row.new wb1 _ _
    refine hK.out _ _ ⟨hfa.cell h0 (fun h => h), hfa.cell h1 (fun h => h), hfa.cell h2 (fun h => h)⟩ ?_
    clear hK K hwa hr
    refine rd1 7 (fun K hK => ?_)
    have hbd : Lc.length + 1 ≤ 1000001 := by omega
    refine step_appS cellTC _ (by rfl) _ _ (by rfl) base _ _ _ (by rfl) (hfa.own HO2.out (fun _ _ h => h)) ⟨r, 0, none⟩ 1 [.bool cC.1, .int .i64 cC.2] (by rfl) rfl (fun k u hu => by rw [Mem.addr_add]; exact hra.cell hu) (two_one _ _) (Lc.length + 1) rfl (by have := hbd; unfold maxLen; omega) (by have := hbd; omega) (by have h1 := HBB.out; have h3 := hfa.size; omega) ?_
    intro An cn w2b hown2 hc2 hf2 hat2
    obtain ⟨hgr, hgc, hgz⟩ := ShT.grow HSB.out hr2 hfa hf2 hown2 hat2
    refine hK.out _ _ ⟨hgc, hf2.cell (hfa.cell h1 (fun h => h)) hn1, hf2.cell (hfa.cell h2 (fun h => h)) hn2⟩ ?_
    refine hdone ?_
    obtain ⟨wb2, hwb⟩ : ∃ y, w2b.setCell ⟨g, j + 1, none⟩ (.slice An (Lc.length + 1) cn) = y := ⟨_, rfl⟩
    rw [hwb] at hgr
    have HG2 := Lib.hid hgr
    clear hK K hown2 hf2 hat2 hgr hfa hra hH hmem hne hbd h0 h1 h2
    clear hn1
    clear hn2
    go_wp2_with fail
    clear hwb hgc hgz hc2
    have HFW := Lib.hid (HSB.out.wide (List.mem_of_getElem? hr2) HG2.out.2)
    go_end0
    refine ⟨rfl, ⟨_, HG2.out.1, ?_⟩, ?_⟩
    · rw [List.map_set, HX1.out, HCC.out.1, HCC.out.2, ctC_snoc Lc]
      rfl
    · exact ((HFZ.out.mono (fun _ _ h => h.elim)).trans HFB.out (fun _ _ h => h)).trans HFW.out (fun _ _ h => h)
end Go.Proofs.YtedmnkcoflbciaaGreat
