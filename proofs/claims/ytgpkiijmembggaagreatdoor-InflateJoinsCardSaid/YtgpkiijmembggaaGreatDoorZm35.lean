/-
  Contracts of layer 7's program: LengthOf, DistanceOf (written by gen_lenof.py).
  Layer 10's program: how an opener, and the coders of a block, lie in memory; what a call may turn.
  Layer 6's program, further: what Add turns is the row alone that it adds to.
-/
import Derived.Test.YtgpkiijmembggaaGreatDoorZm34
import Derived.Test.YtgpkiijmembggaaGreatDoorZm13
import Derived.Test.YtgpkiijmembggaaGreatDoorZm14
import Derived.Test.YtgpkiijmembggaaGreatDoorZm17
import Derived.Test.YtgpkiijmembggaaGreatDoorZm21
import Derived.Test.YtgpkiijmembggaaGreatDoorZm32
import Derived.Test.YtgpkiijmembggaaGreatDoorZm05
import Derived.Test.YtgpkiijmembggaaGreatDoorZm15
namespace Go.Proofs.YtgpkiijmembggaaGreatDoor
open Go.RowKit SyM LzM Mem Go.Lib
attribute [local go_sem ↓] Go.wp_at_zero Go.wp_at_succ
set_option linter.unusedVariables false

set_option maxRecDepth 100000 in
set_option maxHeartbeats 1600000 in
theorem lengthOf_any (s : Int) (w : World) (hG : Gl w) (hs : inI s) : Calls Tryz.prog 103 #[.int .i64 s] w fun e w' => e = .returned (trip (lenOfV s)) ∧ Fr (fun _ => False) w w' := by
  obtain ⟨h1, h2⟩ := hs
  by_cases hlo : s < 257
  · have ev : lenOfV s = (0, 0, false) := by unfold lenOfV; rw [if_neg (by omega)]
    rw [ev]
    clear ev hG
    unfold trip
    go_enter Tryz.func103, Tryz.ntmps103
    go_wp2_with fail
    exact bodyPost_ret (v := .tuple #[.int .i64 0, .int .i64 0, .bool false]) (by simp [results, Tryz.results103, go_sem]) rfl ⟨rfl, Fr.refl _ _⟩
  by_cases hhi : 286 ≤ s
  · have ev : lenOfV s = (0, 0, false) := by unfold lenOfV; rw [if_neg (by omega)]
    rw [ev]
    clear ev hG
    unfold trip
    go_enter Tryz.func103, Tryz.ntmps103
    go_wp2_with fail
    exact bodyPost_ret (v := .tuple #[.int .i64 0, .int .i64 0, .bool false]) (by simp [results, Tryz.results103, go_sem]) rfl ⟨rfl, Fr.refl _ _⟩
  obtain ⟨k, hk⟩ : ∃ k : Nat, (k : Int) = s - 257 := ⟨(s - 257).toNat, by omega⟩
  have hk29 : k < 29 := by omega
  obtain ⟨a, ha⟩ : ∃ a, a = least lens k := ⟨_, rfl⟩
  obtain ⟨b, hb⟩ : ∃ b, b = wid lens k := ⟨_, rfl⟩
  have ev : lenOfV s = (a, b, true) := by unfold lenOfV; rw [if_pos (by omega)]; rw [show (s - 257).toNat = k by omega, ← ha, ← hb]
  rw [ev]
  obtain ⟨e0, e1⟩ := hG.1 k hk29
  rw [← ha] at e0
  rw [← hb] at e1
  have hki : (k : Int) < 29 := by omega
  obtain ⟨z, hz⟩ : ∃ z : Nat, s = (z : Int) := ⟨s.toNat, by omega⟩
  subst hz
  have hzk : (z : Int) - 257 = (k : Int) := by omega
  have hz1 : decide ((z : Int) < 257) = false := decide_eq_false (by omega)
  have hz2 : decide (286 ≤ (z : Int)) = false := decide_eq_false (by omega)
  have hz3 : decide ((z : Int) ≥ 286) = false := decide_eq_false (by omega)
  have hzw : IntKind.i64.wrap ((z : Int) - 257) = (k : Int) := by rw [IntKind.wrap_i64]; omega
  have hzb : (z : Int) < 1000 := by omega

  clear ev hG ha hb hk29 hk h1 h2 hlo hhi
  unfold trip
  go_enter Tryz.func103, Tryz.ntmps103
  go_upto_region 3 with fail
  go_wp2_with fail
  obtain ⟨w1, hw1⟩ : ∃ w1, w1 = w.alloc (.cells #[Value.int .i64 (a : Int), .int .i64 (b : Int)] 115) := ⟨_, rfl⟩
  have hr1 : Row w1 w.heap.size 115 [Value.int .i64 (a : Int), .int .i64 (b : Int)] := by rw [hw1]; exact Row.new w _ _
  have hf1 : Fr (fun _ => False) w w1 := by rw [hw1]; exact (Fr.refl _ w).alloc _
  obtain ⟨p, hp⟩ : ∃ p, p = w.heap.size := ⟨_, rfl⟩
  rw [← hw1]
  rw [← hp] at hr1 ⊢
  have d0 : w1.cell? ⟨p, 0, none⟩ = some (.int .i64 (a : Int)) := hr1.cell rfl
  have d1 : w1.cell? ⟨p, 1, none⟩ = some (.int .i64 (b : Int)) := hr1.cell rfl
  have HF1 := Lib.hid hf1
  clear hw1 hr1 hf1 hp e0 e1
  go_still (by kernel_rfl)
  go_wp2_with fail
  exact bodyPost_ret (v := .tuple #[.int .i64 (a : Int), .int .i64 (b : Int), .bool true]) (by simp [results, Tryz.results103, go_sem]) rfl ⟨rfl, HF1.out.drew⟩

set_option maxRecDepth 100000 in
set_option maxHeartbeats 1600000 in
theorem distanceOf_any (s : Int) (w : World) (hG : Gl w) (hs : inI s) : Calls Tryz.prog 104 #[.int .i64 s] w fun e w' => e = .returned (trip (distOfV s)) ∧ Fr (fun _ => False) w w' := by
  obtain ⟨h1, h2⟩ := hs
  by_cases hlo : s < 0
  · have ev : distOfV s = (0, 0, false) := by unfold distOfV; rw [if_neg (by omega)]
    rw [ev]
    clear ev hG
    unfold trip
    go_enter Tryz.func104, Tryz.ntmps104
    go_wp2_with fail
    exact bodyPost_ret (v := .tuple #[.int .i64 0, .int .i64 0, .bool false]) (by simp [results, Tryz.results104, go_sem]) rfl ⟨rfl, Fr.refl _ _⟩
  by_cases hhi : 30 ≤ s
  · have ev : distOfV s = (0, 0, false) := by unfold distOfV; rw [if_neg (by omega)]
    rw [ev]
    clear ev hG
    unfold trip
    go_enter Tryz.func104, Tryz.ntmps104
    go_wp2_with fail
    exact bodyPost_ret (v := .tuple #[.int .i64 0, .int .i64 0, .bool false]) (by simp [results, Tryz.results104, go_sem]) rfl ⟨rfl, Fr.refl _ _⟩
  obtain ⟨k, hk⟩ : ∃ k : Nat, (k : Int) = s - 0 := ⟨(s - 0).toNat, by omega⟩
  have hk29 : k < 30 := by omega
  obtain ⟨a, ha⟩ : ∃ a, a = least dists k := ⟨_, rfl⟩
  obtain ⟨b, hb⟩ : ∃ b, b = wid dists k := ⟨_, rfl⟩
  have ev : distOfV s = (a, b, true) := by unfold distOfV; rw [if_pos (by omega)]; rw [show (s).toNat = k by omega, ← ha, ← hb]
  rw [ev]
  obtain ⟨e0, e1⟩ := hG.2 k hk29
  rw [← ha] at e0
  rw [← hb] at e1
  have hki : (k : Int) < 30 := by omega
  obtain rfl : s = (k : Int) := by omega
  have hz1 : decide ((k : Int) < 0) = false := decide_eq_false (by omega)
  have hz2 : decide (30 ≤ (k : Int)) = false := decide_eq_false (by omega)

  clear ev hG ha hb hk29 hk h1 h2 hlo hhi
  unfold trip
  go_enter Tryz.func104, Tryz.ntmps104
  go_upto_region 3 with fail
  go_wp2_with fail
  obtain ⟨w1, hw1⟩ : ∃ w1, w1 = w.alloc (.cells #[Value.int .i64 (a : Int), .int .i64 (b : Int)] 115) := ⟨_, rfl⟩
  have hr1 : Row w1 w.heap.size 115 [Value.int .i64 (a : Int), .int .i64 (b : Int)] := by rw [hw1]; exact Row.new w _ _
  have hf1 : Fr (fun _ => False) w w1 := by rw [hw1]; exact (Fr.refl _ w).alloc _
  obtain ⟨p, hp⟩ : ∃ p, p = w.heap.size := ⟨_, rfl⟩
  rw [← hw1]
  rw [← hp] at hr1 ⊢
  have d0 : w1.cell? ⟨p, 0, none⟩ = some (.int .i64 (a : Int)) := hr1.cell rfl
  have d1 : w1.cell? ⟨p, 1, none⟩ = some (.int .i64 (b : Int)) := hr1.cell rfl
  have HF1 := Lib.hid hf1
  clear hw1 hr1 hf1 hp e0 e1
  go_still (by kernel_rfl)
  go_wp2_with fail
  exact bodyPost_ret (v := .tuple #[.int .i64 (a : Int), .int .i64 (b : Int), .bool true]) (by simp [results, Tryz.results104, go_sem]) rfl ⟨rfl, HF1.out.drew⟩
end Go.Proofs.YtgpkiijmembggaaGreatDoor
namespace Go.Proofs.YtgpkiijmembggaaGreatDoor
open Go.RowKit CoM BitsM HuffM LzM Mem Go.Lib
set_option linter.unusedVariables false
set_option maxRecDepth 100000

theorem Gl.fr {S : Nat → Prop} {w w' : World} (h : Gl w) (hf : Fr S w w') (hS : ∀ k, S k → top7 ≤ k) : Gl w' :=
  ⟨h.1.fr hf (fun h => by have := hS _ h; unfold top7 at this; omega), h.2.fr hf (fun h => by have := hS _ h; unfold top7 at this; omega)⟩
/-- the tables lie below this block -/
def top9 : Nat := max top7 top8
theorem Gl9.fr {S : Nat → Prop} {w w' : World} (h : Gl9 w) (hf : Fr S w w') (hS : ∀ k, S k → top9 ≤ k) : Gl9 w' :=
  ⟨h.1.fr hf (fun k hk => by have := hS k hk; unfold top9 at this; omega), h.2.fr hf (fun k hk => by have := hS k hk; unfold top9 at this; omega)⟩
theorem Gl9.size {w : World} (h : Gl9 w) : top9 ≤ w.heap.size := by
  have h1 := h.1.size
  have h2 := h.2.size
  unfold top9
  omega
/-- an opener in block o, its reader in block r -/
structure Opn (w : World) (base o r c : Nat) (A : Option Addr) (B : List UInt8) (p : Nat) (ao : Option Addr) (co : Nat) (out : List UInt8) (most : Int) (pl pd : Option Addr) : Prop where
  row : Row w o 57 [.pointer (some ⟨r, 0, none⟩), .slice ao out.length co, .int .i64 most, .pointer pl, .pointer pd]
  re : Re w r A c B p
  own : Own w base ao co out
  ne : ∀ k, bl ao = some k → bl A ≠ some k
  gl : Gl9 w
  tb : top9 ≤ base
  bo : base ≤ o
  br : base ≤ r
  lB : B.length ≤ 100000
  lo : out.length ≤ 100000
  lm : -9223372036854775808 ≤ most
  hm : most ≤ 100000
/-- what a method of the opener may turn -/
def Fo (o r : Nat) (ao : Option Addr) (k : Nat) : Prop := k = o ∨ k = r ∨ bl ao = some k
section
variable {w w' : World} {base o r c : Nat} {A : Option Addr} {B : List UInt8} {p : Nat} {ao : Option Addr} {co : Nat} {out : List UInt8} {most : Int} {pl pd : Option Addr}
theorem Opn.bs (h : Opn w base o r c A B p ao co out most pl pd) : base ≤ w.heap.size := Nat.le_of_lt (Nat.lt_of_le_of_lt h.bo h.row.lt)
theorem Opn.rLt (h : Opn w base o r c A B p ao co out most pl pd) : r < w.heap.size := lt_of_heap h.re.1
theorem Opn.aLt (h : Opn w base o r c A B p ao co out most pl pd) (k : Nat) (hk : bl ao = some k) : base ≤ k ∧ k < w.heap.size := h.own.lt k (by rw [bl_own]; exact hk)
theorem Opn.ALt (h : Opn w base o r c A B p ao co out most pl pd) (k : Nat) (hk : bl A = some k) : k < w.heap.size := (h.re.2.1.lt k (by rw [bl_own]; exact hk)).2
theorem row_ne {w : World} {g g' : Nat} {t t' : TypeId} {cs cs' : Array Value} {m m' : Nat × Nat} (h : w.heap[g]? = some (.cells cs t m)) (h' : w.heap[g']? = some (.cells cs' t' m')) (hne : t ≠ t') : g ≠ g' := by
  intro e
  subst e
  rw [h] at h'
  injection h' with h'
  injection h' with _ h2
  exact hne h2
theorem Opn.or (h : Opn w base o r c A B p ao co out most pl pd) : o ≠ r := row_ne h.row h.re.1 (by decide)
/-- blocks of other types are not turned -/
theorem Opn.off (h : Opn w base o r c A B p ao co out most pl pd) {g : Nat} {t : TypeId} {cs : Array Value} {m : Nat × Nat} (hg : w.heap[g]? = some (.cells cs t m)) (h1 : t ≠ 57) (h2 : t ≠ 82) (h3 : 5 ≠ t) : ¬ Fo o r ao g := by
  rintro (e | e | e)
  · exact row_ne hg h.row h1 e
  · exact row_ne hg h.re.1 h2 e
  · exact own_ne h.own hg h3 (by rw [bl_own]; exact e)
theorem Opn.fo (h : Opn w base o r c A B p ao co out most pl pd) (k : Nat) (hk : Fo o r ao k) : base ≤ k := by
  rcases hk with rfl | rfl | hk
  · exact h.bo
  · exact h.br
  · exact (h.aLt k hk).1
theorem Opn.aNo (h : Opn w base o r c A B p ao co out most pl pd) (k : Nat) (hk : bl ao = some k) : k ≠ r ∧ k ≠ o := by
  constructor
  · intro e; subst e; exact own_ne h.own h.re.1 (by decide) (by rw [bl_own]; exact hk)
  · intro e; subst e; exact own_ne h.own h.row (by decide) (by rw [bl_own]; exact hk)
theorem Opn.ANo (h : Opn w base o r c A B p ao co out most pl pd) (k : Nat) (hk : bl A = some k) : ¬ Fo o r ao k := by
  rintro (e | e | e)
  · subst e; exact own_ne h.re.2.1 h.row (by decide) (by rw [bl_own]; exact hk)
  · subst e; exact own_ne h.re.2.1 h.re.1 (by decide) (by rw [bl_own]; exact hk)
  · exact h.ne k e hk
/-- only the reader is turned -/
theorem Opn.read (h : Opn w base o r c A B p ao co out most pl pd) {p' : Nat} (hf : Fr (fun k => k = r) w w') (hre : Re w' r A c B p') : Opn w' base o r c A B p' ao co out most pl pd where
  row := h.row.fr hf h.or
  re := hre
  own := hf.own h.own (fun k hk e => own_ne h.own h.re.1 (by decide) (by rw [hk, e]))
  ne := h.ne
  gl := h.gl.fr hf (fun k hk => by have := h.br; have := h.tb; omega)
  tb := h.tb
  bo := h.bo
  br := h.br
  lB := h.lB
  lo := h.lo
  lm := h.lm
  hm := h.hm
theorem Opn.fr0 (h : Opn w base o r c A B p ao co out most pl pd) (hf : Fr (fun _ => False) w w') : Opn w' base o r c A B p ao co out most pl pd :=
  h.read (hf.mono (fun _ _ h => h.elim)) (h.re.fr hf (fun h => h) (fun _ _ h => h))
theorem Opn.drew (h : Opn w base o r c A B p ao co out most pl pd) : Opn w.drew base o r c A B p ao co out most pl pd := h.fr0 (Fr.refl _ _).drew
theorem CB.fo {G : Nat → Prop} {pa : Addr} {L : List Int} (h : CB w G pa L) (H : Opn w base o r c A B p ao co out most pl pd) (hf : Fr (Fo o r ao) w w') : CB w' G pa L := by
  obtain ⟨p, gs, m, cs, e, h1, h2, h3, h4, h5, h6, rest, h7⟩ := h
  exact ⟨p, gs, m, cs, e, h1, h2, h3, h4, h5, h6.fr hf (H.off h6 (by decide) (by decide) (by decide)), rest, h7.fr hf (H.off h7 (by decide) (by decide) (by decide))⟩
theorem CB.off {G : Nat → Prop} {pa : Addr} {L : List Int} (h : CB w G pa L) (H : Opn w base o r c A B p ao co out most pl pd) : CB w (fun k => k ≠ r) pa L := by
  obtain ⟨p, gs, m, cs, e, h1, h2, h3, h4, h5, h6, rest, h7⟩ := h
  exact ⟨p, gs, m, cs, e, row_ne h6 H.re.1 (by decide), row_ne h7 H.re.1 (by decide), h3, h4, h5, h6, rest, h7⟩
/-- the coders of a block -/
def Cod (w : World) (a b : List Nat) (pl pd : Option Addr) : Prop :=
  ∃ la, pl = some la ∧ CB w (fun _ => True) la (ints a) ∧ rightB (ints a) = true ∧ (InM.noneB b = true ∧ pd = none ∨ InM.noneB b = false ∧ ∃ da, pd = some da ∧ CB w (fun _ => True) da (ints b) ∧ rightB (ints b) = true)
theorem Cod.fo {a b : List Nat} {ql qd : Option Addr} (h : Cod w a b ql qd) (H : Opn w base o r c A B p ao co out most pl pd) (hf : Fr (Fo o r ao) w w') : Cod w' a b ql qd := by
  obtain ⟨la, h1, h2, h3, h4⟩ := h
  refine ⟨la, h1, h2.fo H hf, h3, ?_⟩
  rcases h4 with h4 | ⟨h4, da, h5, h6, h7⟩
  · exact .inl h4
  · exact .inr ⟨h4, da, h5, h6.fo H hf, h7⟩
theorem Cod.fr0 {a b : List Nat} {ql qd : Option Addr} (h : Cod w a b ql qd) (hf : Fr (fun _ => False) w w') : Cod w' a b ql qd := by
  obtain ⟨la, h1, h2, h3, h4⟩ := h
  refine ⟨la, h1, h2.fr hf (fun _ _ h => h), h3, ?_⟩
  rcases h4 with h4 | ⟨h4, da, h5, h6, h7⟩
  · exact .inl h4
  · exact .inr ⟨h4, da, h5, h6.fr hf (fun _ _ h => h), h7⟩
/-- the coders that are agreed upon, once they are made -/
def Agr (w : World) (pl pd : Option Addr) : Prop := pl = none ∨ Cod w SyM.fixA SyM.fixB pl pd
theorem Agr.fo {ql qd : Option Addr} (h : Agr w ql qd) (H : Opn w base o r c A B p ao co out most pl pd) (hf : Fr (Fo o r ao) w w') : Agr w' ql qd := h.imp id (fun h => h.fo H hf)
theorem Agr.fr0 {ql qd : Option Addr} (h : Agr w ql qd) (hf : Fr (fun _ => False) w w') : Agr w' ql qd := h.imp id (fun h => h.fr0 hf)
/-- where what is opened lies: where it lay, or in a new block -/
def Nxo (w : World) (ao ao' : Option Addr) : Prop := ∀ k, bl ao' = some k → bl ao = some k ∨ w.heap.size ≤ k
theorem Nxo.refl (w : World) (ao : Option Addr) : Nxo w ao ao := fun k hk => .inl hk
theorem Nxo.trans {ao ao' ao'' : Option Addr} (h : Nxo w ao ao') (h' : Nxo w' ao' ao'') (hs : w.heap.size ≤ w'.heap.size) : Nxo w ao ao'' := by
  intro k hk
  rcases h' k hk with h1 | h1
  · exact h k h1
  · exact .inr (by omega)
theorem fo_trans {w'' : World} {ao' : Option Addr} (hf : Fr (Fo o r ao) w w') (hn : Nxo w ao ao') (hf' : Fr (Fo o r ao') w' w'') : Fr (Fo o r ao) w w'' :=
  hf.trans hf' (fun b hb hk => by
    rcases hk with hk | hk | hk
    · exact .inl hk
    · exact .inr (.inl hk)
    · rcases hn b hk with h | h
      · exact .inr (.inr h)
      · omega)
theorem to_fo (hf : Fr (fun k => k = r) w w') : Fr (Fo o r ao) w w' := hf.mono (fun _ _ h => .inr (.inl h))
theorem to_fo0 (hf : Fr (fun _ => False) w w') : Fr (Fo o r ao) w w' := hf.mono (fun _ _ h => h.elim)
end
/-- what a method that opens bytes answers: OK, and where the opener stands; or the error -/
def OutP (w w' : World) (e : Ending) (base o r c : Nat) (A : Option Addr) (B : List UInt8) (ao : Option Addr) (most : Int) : Except Nat (List UInt8 × List Bool) → Prop
  | .ok (X, rest) => e = .returned (.int .i64 0) ∧ ∃ ao' co' p' pl' pd', Opn w' base o r c A B p' ao' co' X most pl' pd' ∧ Agr w' pl' pd' ∧ rest = (bitsOf B).drop p' ∧ Nxo w ao ao' ∧ Fr (Fo o r ao) w w'
  | .error k => e = .returned (.int .i64 (k : Int)) ∧ Fr (Fo o r ao) w w'
end Go.Proofs.YtgpkiijmembggaaGreatDoor
namespace Go.Proofs.YtgpkiijmembggaaGreatDoor
open Go.RowKit LzM Mem Go.Lib
set_option linter.unusedVariables false

set_option maxRecDepth 100000 in
set_option maxHeartbeats 1600000 in
theorem pAddG_any (base : Nat) (A : Option Addr) (c : Nat) (B : List UInt8) (t : Tok) (w : World) (hO : Own w base A c B) (hr : rightT t (B.length : Nat) = true) (hl : B.length ≤ 258000000) (hb : base ≤ w.heap.size) :
    Calls Tryz.prog 106 #[.slice A B.length c, tokc t] w fun e w' => ∃ A' c', e = .returned (.slice A' (addT B t).length c') ∧ Own w' base A' c' (addT B t) ∧ Nxo w A A' ∧ Fr (fun k => bl A = some k) w w' := by
  have HO := Lib.hid hO
  have HR := Lib.hid hr
  obtain ⟨n, hn⟩ : ∃ n, n = B.length := ⟨_, rfl⟩
  have HN := Lib.hid hn
  rw [← hn] at hl ⊢
  have hwt : ∀ T : Tok, ∃ g, g = w.heap.size ∧ (w.alloc (.cells #[bytec T.b, .int .i64 T.l, .int .i64 T.d] 71)).heap[g]? = some (.cells #[bytec T.b, .int .i64 T.l, .int .i64 T.d] 71 (0, 0)) := fun T => ⟨_, rfl, heap_alloc_new w _⟩
  rcases right_cases hr with ⟨b, rfl⟩ | ⟨L, D, rfl, hL1, hL2, hD1, hD2, hD3⟩
  · obtain ⟨u, hu⟩ : ∃ u, u = b.toNat := ⟨_, rfl⟩
    have HU := Lib.hid hu
    have hR : ∀ w, Calls Tryz.prog 105 #[.agg #[.int .u8 (u : Int), .int .i64 0, .int .i64 0], .int .i64 (n : Int)] w fun e w' => e = .returned (.bool true) ∧ Fr (fun _ => False) w w' := by
      intro w
      have h := pRightT_any ⟨b, 0, 0⟩ n w
      rw [show rightT ⟨b, 0, 0⟩ (n : Int) = true from by rw [hn]; exact hr] at h
      rw [hu]
      exact h
    have HRT := Lib.hid hR
    obtain ⟨B3, hB3⟩ : ∃ B3, B3 = addT B ⟨b, 0, 0⟩ := ⟨_, rfl⟩
    rw [← hB3]
    have hB3' : B3 = B ++ [b] := by rw [hB3, addT, if_pos rfl]
    have hb3 : B3.length = n + 1 := by rw [hB3', hn]; simp
    have HB3 := Lib.hid hB3'
    have HBL := Lib.hid hb3
    unfold tokc bytec
    simp only
    rw [← hu]
    clear hO hr hn hwt hR hu hB3 hB3' hb3
    go_enter Tryz.func106, Tryz.ntmps106
    go_wp2_with fail
    obtain ⟨w1, hw1⟩ : ∃ w1, w.alloc (.cells #[.int .u8 (u : Int), .int .i64 0, .int .i64 0] 71) = w1 := ⟨_, rfl⟩
    rw [hw1]
    obtain ⟨g, hg⟩ : ∃ g, w.heap.size = g := ⟨_, rfl⟩
    rw [hg]
    have hf1 : Fr (fun _ => False) w w1 := by rw [← hw1]; exact (Fr.refl _ _).alloc _
    have hg1 : w1.heap[g]? = some (.cells #[.int .u8 (u : Int), .int .i64 0, .int .i64 0] 71 (0, 0)) := by rw [← hw1, ← hg]; exact heap_alloc_new w _
    refine (HRT.out w1).mono ?_
    rintro e w2 ⟨rfl, hf2⟩
    have hf12 := hf1.trans hf2 (fun _ _ h => h)
    have HF2 := Lib.hid hf12
    have HO2 := Lib.hid (HO.out.fr hf12)
    have hg2 := hf2.blk hg1 (fun h => h)
    have k0 : w2.cell? ⟨g, 0, none⟩ = some (.int .u8 (u : Int)) := by rw [cell_of hg2 0]; rfl
    have k1 : w2.cell? ⟨g, 1, none⟩ = some (.int .i64 0) := by rw [cell_of hg2 1]; rfl
    have hbs : base ≤ w2.heap.size := by have := hf12.size; omega
    clear hw1 hg hf1 hg1 hf2 hf12 hg2
    have HO2' : Hid (w2.ownsRow base 5 1 (.slice A n c) n (B.map bytec)) := Lib.hid (by have h := HO2.out; unfold Own at h; rw [← HN.out] at h; exact h)
    go_wp2_with (at_builtin; refine wpList_appN u8T _ rfl _ _ rfl base _ _ _ rfl (HO2'.out.alloc _) _ _ _ [.int .u8 (u : Int)] rfl (Rd.one _ _ _) (one_one _ _) B3.length (by rw [HBL.out]) (by rw [HBL.out]; unfold maxLen; omega) (by rw [HBL.out]; omega) (by simp; omega) ?_)
    intro A' c' w' _ _ hown' hfr' hnb
    have HNX : Hid (Nxo w A A') := Lib.hid (fun k hk => by
      rw [bl_own, bl_own] at hnb
      rcases hnb with h | h
      · exact .inl (h ▸ hk)
      · rw [h] at hk
        injection hk with hk
        have := HF2.out.size
        (try simp at hk)
        exact .inr (by omega))
    have HO4 : Hid (Own w' base A' c' B3) := by
      show w'.ownsRow base _ 1 _ _ (B3.map bytec)
      have e : B3.map bytec = B.map bytec ++ [.int .u8 (u : Int)] := by rw [HB3.out, List.map_append, HU.out]; rfl
      rw [e]
      exact hown'
    have HF4 : Hid (Fr (fun k => bl A = some k) w w') := Lib.hid (((HF2.out.alloc _).mono (T := fun k => bl A = some k) (fun _ _ h => h.elim)).trans hfr' (fun b hb h => by rw [bl_own] at h; exact h))
    clear hown' hfr' hnb
    go_wp2_with fail
    go_ret
    exact ⟨A', c', rfl, HO4.out, HNX.out, HF4.out⟩
  · have hR : ∀ w, Calls Tryz.prog 105 #[.agg #[.int .u8 0, .int .i64 (L : Int), .int .i64 (D : Int)], .int .i64 (n : Int)] w fun e w' => e = .returned (.bool true) ∧ Fr (fun _ => False) w w' := by
      intro w
      have h := pRightT_any ⟨0, (L : Int), (D : Int)⟩ n w
      rw [show rightT ⟨0, (L : Int), (D : Int)⟩ (n : Int) = true from by rw [hn]; exact hr] at h
      exact h
    have HRT := Lib.hid hR
    have ha : addT B ⟨0, (L : Int), (D : Int)⟩ = copy D L B := by unfold addT; rw [if_neg (by simp only; omega)]; simp
    rw [ha]
    have hL0 : ((L : Int) == 0) = false := by simp; omega
    obtain ⟨R, hRR⟩ : ∃ R, R = copy D L B := ⟨_, rfl⟩
    rw [← hRR]
    have HRR := Lib.hid hRR
    have hDn : D ≤ n := by omega
    unfold tokc
    show Calls Tryz.prog 106 #[.slice A n c, .agg #[.int .u8 0, .int .i64 (L : Int), .int .i64 (D : Int)]] w _
    clear hO hr hn hwt hR ha hRR hD3
    go_enter Tryz.func106, Tryz.ntmps106
    go_wp2_with fail
    obtain ⟨w1, hw1⟩ : ∃ w1, w.alloc (.cells #[.int .u8 0, .int .i64 (L : Int), .int .i64 (D : Int)] 71) = w1 := ⟨_, rfl⟩
    rw [hw1]
    obtain ⟨g, hg⟩ : ∃ g, w.heap.size = g := ⟨_, rfl⟩
    rw [hg]
    have hf1 : Fr (fun _ => False) w w1 := by rw [← hw1]; exact (Fr.refl _ _).alloc _
    have hg1 : w1.heap[g]? = some (.cells #[.int .u8 0, .int .i64 (L : Int), .int .i64 (D : Int)] 71 (0, 0)) := by rw [← hw1, ← hg]; exact heap_alloc_new w _
    refine (HRT.out w1).mono ?_
    rintro e w2 ⟨rfl, hf2⟩
    have hf12 := hf1.trans hf2 (fun _ _ h => h)
    have HF2 := Lib.hid (hf12.mono (T := fun k => bl A = some k) (fun _ _ h => h.elim))
    have HO2 := Lib.hid (HO.out.fr hf12)
    have hg2 := hf2.blk hg1 (fun h => h)
    have HG2 := Lib.hid hg2
    have k1 : w2.cell? ⟨g, 1, none⟩ = some (.int .i64 (L : Int)) := by rw [cell_of hg2 1]; rfl
    have HBW : Hid (base ≤ w.heap.size) := Lib.hid hb
    clear hw1 hg hf1 hg1 hf2 hf12 hg2
    go_wp2_with fail
    have HN2 := HN
    go_loopw [0, 21] (fun s i wx => ∃ (j : Nat) (B' : List UInt8) (A2 : Option Addr) (c2 : Nat), j ≤ L ∧ i = .int .i64 (j : Int) ∧ s = .slice A2 B'.length c2 ∧ Hid (B' = copy D j B) ∧ Hid (Own wx base A2 c2 B') ∧ Hid (wx.heap[g]? = some (.cells #[.int .u8 0, .int .i64 (L : Int), .int .i64 (D : Int)] 71 (0, 0))) ∧ Hid (Nxo w A A2) ∧ Hid (Fr (fun k => bl A = some k) w wx)) (fun _ i _ => L - (intOf i).toNat)
    case atStart => exact ⟨0, B, A, c, by omega, rfl, by rw [← HN.out], (rfl : B = copy D 0 B), HO2.out, HG2.out, Nxo.refl _ _, HF2.out⟩
    case round =>
      obtain ⟨j, B', A2, c2, hj, rfl, rfl, HB', HO3, HG3, HN3, HF3⟩ := hrel
      rename World => wx
      have hlen : B'.length = n + j := by rw [HB'.out, copy_length, HN.out]
      by_cases hjl : j < L
      · have k1' : wx.cell? ⟨g, 2, none⟩ = some (.int .i64 (D : Int)) := by rw [cell_of HG3.out 2]; rfl
        have hbs : base ≤ wx.heap.size := by have := HF3.out.size; have := HBW.out; omega
        obtain ⟨M, hM⟩ : ∃ M, M = B'.length := ⟨_, rfl⟩
        obtain ⟨P, hP⟩ : ∃ P, P + D = M := ⟨M - D, by omega⟩
        obtain ⟨b, hb⟩ : ∃ b, b = B'[P]! := ⟨_, rfl⟩
        have hb1 : B'[P]? = some b := by rw [hb, getElem!_pos B' P (by omega)]; exact List.getElem?_eq_getElem (by omega)
        obtain ⟨B3, hB3⟩ : ∃ B3, B3 = B' ++ [b] := ⟨_, rfl⟩
        have hb3 : B3.length ≤ 258000600 := by rw [hB3]; simp; omega
        have HB3 := Lib.hid hB3
        have hcp : B3 = copy D (j + 1) B := by rw [hB3, copy_succ, ← HB'.out, hb, show B'.length - D = P by omega]
        have HCP := Lib.hid hcp
        obtain ⟨ad, rfl, had⟩ := own_at HO3.out (i := P) (u := bytec b) (by rw [List.getElem?_map, hb1]; rfl)
        obtain ⟨hcell, -⟩ := had
        have hPl : P < B'.length := by omega
        have hsub : ((B'.length : Int) - (D : Int)) = (P : Int) := by omega
        have hsubw : IntKind.i64.wrap ((B'.length : Int) - (D : Int)) = (P : Int) := by rw [IntKind.wrap_i64]; omega
        unfold bytec at hcell
        have hlb : B'.length ≤ 258000300 := by omega
        clear hB3 hcp hb hb1 hM hP hlen
        go_wp2_with (at_builtin; refine wpList_appN u8T _ rfl _ _ rfl base _ _ _ rfl (HO3.out.alloc _) _ _ _ _ rfl (Rd.one _ _ _) (bytec_one [b]) B3.length (by rw [HB3.out, List.length_append]; rfl) (by unfold maxLen; omega) (by omega) (by simp; omega) ?_)
        intro A' c' w' _ _ hown' hfr' hnb
        have HN4 : Hid (Nxo w A A') := Lib.hid (fun k hk => by
          rw [bl_own, bl_own] at hnb
          rcases hnb with h | h
          · exact HN3.out k (h ▸ hk)
          · rw [h] at hk
            injection hk with hk
            have := HF3.out.size
            (try simp at hk)
            exact .inr (by omega))
        have HO4 : Hid (Own w' base A' c' B3) := by
          show w'.ownsRow base _ 1 _ _ (B3.map bytec)
          have e : B3.map bytec = B'.map bytec ++ [bytec b] := by rw [HB3.out, List.map_append]; rfl
          rw [e]
          exact hown'
        have HF4 : Hid (Fr (fun k => bl A = some k) w w') := Lib.hid ((HF3.out.alloc _).trans hfr' (fun b hb h => by
          rw [bl_own] at h
          rcases HN3.out b h with h | h
          · exact h
          · omega))
        have HG4 := Lib.hid (hfr'.blk (((Fr.refl (fun _ => False) _).alloc _).blk HG3.out (fun h => h)) (fun h => own_tok HO3.out HG3.out _ h rfl))
        clear hown' hfr' hnb
        go_wp2
        go_roundw
        case rel => exact ⟨j + 1, B3, A', c', by omega, by go_num, rfl, HCP.out, HO4.out, HG4.out, HN4.out, HF4.out⟩
        case measure => simp [intOf] <;> omega
      · obtain rfl : j = L := by omega
        have hBR : B' = R := by rw [HB'.out, HRR.out]
        have HBR := Lib.hid hBR
        clear hBR hlen
        go_wp2_with fail
        go_ret
        exact ⟨A2, c2, by rw [← HBR.out]; rfl, by rw [← HBR.out]; exact HO3.out, HN3.out, HF3.out⟩
end Go.Proofs.YtgpkiijmembggaaGreatDoor
