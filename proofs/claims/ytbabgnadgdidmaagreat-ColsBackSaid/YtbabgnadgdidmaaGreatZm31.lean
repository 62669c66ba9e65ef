import Derived.Test.YtbabgnadgdidmaaGreatZm00
import Derived.Test.YtbabgnadgdidmaaGreatZm28
import Derived.Test.YtbabgnadgdidmaaGreatZm10
import Derived.Test.YtbabgnadgdidmaaGreatZm30
import Derived.Test.YtbabgnadgdidmaaGreatZm05
import Derived.Test.YtbabgnadgdidmaaGreatZm29
import Derived.Test.YtbabgnadgdidmaaGreatZm06
import Derived.Test.YtbabgnadgdidmaaGreatZm19
set_option linter.unusedVariables false
set_option maxRecDepth 100000
set_option maxHeartbeats 12800000
namespace Go.Proofs.YtbabgnadgdidmaaGreat
section
open Go.RowKit Mem Go.Lib RleM LebM VaM
attribute [local go_sem ↓] Go.wp_at_zero Go.wp_at_succ
def OwnV (w : World) (base : Nat) (A : Option Addr) (c : Nat) (L : List V) : Prop := w.ownsRow base 53 4 (.slice A L.length c) L.length (L.flatMap vls)
theorem OwnV.nil (w : World) (base : Nat) : OwnV w base none 0 [] := World.ownsRow_nil _ _ _ _
theorem OwnV.base {w : World} {b b' c : Nat} {A : Option Addr} {L : List V} (h : OwnV w b A c L) (hb : b' ≤ b) : OwnV w b' A c L := own_base h hb
theorem OwnV.fr {w w' : World} {base c : Nat} {A : Option Addr} {L : List V} (h : OwnV w base A c L) (hf : Fr (fun _ => False) w w') : OwnV w' base A c L := hf.own h (fun _ _ h => h)
theorem OwnV.snoc {w : World} {base c : Nat} {A : Option Addr} {L : List V} {t : V} {N : Nat} (hN : N = L.length + 1) (h : w.ownsRow base 53 4 (.slice A N c) N (L.flatMap vls ++ vls t)) : OwnV w base A c (L ++ [t]) := by
 unfold OwnV;rw [List.flatMap_append, List.flatMap_singleton, List.length_append, List.length_singleton, ← hN];exact h
theorem OwnV.vls {w : World} {base c : Nat} {A : Option Addr} {L : List V} (h : OwnV w base A c L) : Vls w A L.length L := by
 refine ⟨rfl, fun k t ht => ?_⟩;have hk := (List.getElem?_eq_some_iff.1 ht).1;rcases h.2 with ⟨hv, h0⟩ | ⟨g, cap, cur, hv, _⟩
 · injection hv with _ h1 h2
   omega
 · have hA : A = some ⟨g, 0, none⟩ := by injection hv
   subst hA;have hc := h.cells (g := g) rfl;have hadd : ∀ j, (⟨g, 0, none⟩ : Addr).add j = ⟨g, j, none⟩ := fun j => by unfold Addr.add; split <;> simp_all
   have hf := v_flat L k t ht;refine ⟨g, 0, rfl, (h.lt g rfl).2, ?_, ?_, ?_, ?_⟩
   all_goals rw [Nat.zero_add, ← hadd]
   · exact hc _ _ (by rw [show k * 4 = k * 4 + 0 from rfl, hf 0 (by omega)]; rfl)
   · exact hc _ _ (by rw [hf 1 (by omega)]; rfl)
   · exact hc _ _ (by rw [hf 2 (by omega)]; rfl)
   · exact hc _ _ (by rw [hf 3 (by omega)]; rfl)
theorem own_apart {w : World} {b1 b2 s1 s2 n1 n2 : Nat} {e1 e2 : TypeId} {v1 v2 : Value} {x1 x2 : List Value} (h1 : w.ownsRow b1 e1 s1 v1 n1 x1) (h2 : w.ownsRow b2 e2 s2 v2 n2 x2) (hne : e1 ≠ e2) {k : Nat} (hk : v1.ownBlock = some k) : v2.ownBlock ≠ some k := by
 rcases h1.2 with ⟨rfl, _⟩ | ⟨g, cap, cur, rfl, _, hr, _⟩
 · cases hk
 · rcases h2.2 with ⟨rfl, _⟩ | ⟨g', cap', cur', rfl, _, hr', _⟩
   · intro h; cases h
   · intro h;have e1' : g = k := by simpa [Value.ownBlock] using hk
     have e2' : g' = k := by simpa [Value.ownBlock] using h
     rw [e1'] at hr;rw [e2', hr] at hr';injection hr' with hr'
     injection hr' with _ hr' _
     exact hne hr'
theorem made_rep (zs : List Value) (hz : 0 < zs.length) : ∀ n : Nat, madeCells zs.toArray (n * zs.length) = ((List.replicate n zs).flatten).toArray := by
 intro n;apply Array.ext';show (madeCells _ _).toList = (List.replicate n zs).flatten;simp only [madeCells, Array.toList_map, Array.toList_range]
 induction n with
 | zero => simp
 | succ n ih =>
  rw [Nat.add_mul, Nat.one_mul, List.range_add, List.map_append, ih, List.replicate_succ', List.flatten_append, List.flatten_singleton];congr 1;rw [List.map_map];apply List.ext_getElem (by simp);intro j h1 h2;have e : (n * zs.length + j) % zs.length = j := by rw [Nat.mul_comm, Nat.mul_add_mod, Nat.mod_eq_of_lt h2]
  simp [e, h2]
theorem own_list15 {w : World} {base c N : Nat} {A : Option Addr} {B C D : List UInt8} (hD : D = B ++ C) (hN : N = D.length) (h : w.ownsRow base 5 1 (.slice A N c) N (B.map bytec ++ C.map bytec)) : Own w base A c D := by
 unfold Own;rw [← hN, hD, List.map_append];exact h
theorem valTC : ElemTyS Tryz.prog 71 53 (valc zeroV) 4 40 := ⟨Tryz.underlying71, by kernel_rfl, rfl, by decide⟩
theorem mkCn (m : Nat) (hm : m ≤ 4000000) (w : World) : (Instr.makeSlice 64 (.int .i64 (m : Int)) (.int .i64 (m : Int))).run Tryz.prog w = .ok (.slice (some ⟨w.heap.size, 0, none⟩) m m) (w.alloc (.cells ((List.replicate m ((false, 0) : Bool × Int)).flatMap (ccells nv)).toArray 78)) := by
 obtain ⟨i, hi, hz, hs, hb⟩ : ∃ i, Tryz.prog.info? 78 = some i ∧ i.zero = some (.agg #[.bool false, (.int .i64 0)]) ∧ i.size = 2 ∧ i.bytes = 16 := by
  have h := cellTC.info;cases hq : Tryz.prog.info? 78 with
  | none => rw [hq] at h; cases h
  | some i =>
   rw [hq] at h;simp only [Option.map_some, Option.some.injEq, Prod.mk.injEq] at h;exact ⟨i, rfl, h.1, h.2.1, h.2.2⟩
 have h := run_makeSlice (P := Tryz.prog) w 64 78 i _ Tryz.underlying64 hi hz .i64 .i64 (m : Int) (m : Int) (by omega) (by omega) (by rw [hs]; omega) (by rw [hb]; omega) (by omega);rw [h, hs, Int.toNat_natCast];refine congrArg (fun q => Result.ok _ (w.alloc (.cells q 78))) ?_;have e := made_rep [.bool false, .int .i64 0] (by simp) m;rw [List.flatMap_def, List.map_replicate];exact e
theorem mkVn (m : Nat) (hm : m ≤ 1000000) (w : World) : (Instr.makeSlice 71 (.int .i64 (m : Int)) (.int .i64 (m : Int))).run Tryz.prog w = .ok (.slice (some ⟨w.heap.size, 0, none⟩) m m) (w.alloc (.cells ((List.replicate m zeroV).flatMap vls).toArray 53)) := by
 obtain ⟨i, hi, hz, hs, hb⟩ : ∃ i, Tryz.prog.info? 53 = some i ∧ i.zero = some (valc zeroV) ∧ i.size = 4 ∧ i.bytes = 40 := by
  have h := valTC.info;cases hq : Tryz.prog.info? 53 with
  | none => rw [hq] at h; cases h
  | some i =>
   rw [hq] at h;simp only [Option.map_some, Option.some.injEq, Prod.mk.injEq] at h;exact ⟨i, rfl, h.1, h.2.1, h.2.2⟩
 have h := run_makeSlice (P := Tryz.prog) w 71 53 i _ Tryz.underlying71 hi hz .i64 .i64 (m : Int) (m : Int) (by omega) (by omega) (by rw [hs]; omega) (by rw [hb]; omega) (by omega);rw [h, hs, Int.toNat_natCast];refine congrArg (fun q => Result.ok _ (w.alloc (.cells q 53))) ?_;have e := made_rep (vls zeroV) (by simp [vls]) m;rw [List.flatMap_def, List.map_replicate];exact e
theorem vls_len (L : List V) : (L.flatMap vls).length = L.length * 4 := flat_klen _ 4 (fun _ => rfl) L
theorem own_rowV {w : World} {base g n : Nat} {G : List V} (hn : G.length = n) (hr : Row w g 53 (G.flatMap vls)) (hb : base ≤ g) (hx : n ≤ maxLen) : OwnV w base (some ⟨g, 0, none⟩) n G := by
 subst hn;exact ⟨vls_len G, .inr ⟨g, G.length, (G.flatMap vls).toArray, rfl, hb, hr, Nat.le_refl _, hx, by rw [List.size_toArray, vls_len], by rw [← vls_len]; exact List.take_length⟩⟩
theorem own_rowC {w : World} {base g n : Nat} {G : List (Bool × Int)} (hn : G.length = n) (hr : Row w g 78 (G.flatMap (ccells nv))) (hb : base ≤ g) (hx : n ≤ maxLen) : OwnC nv 78 w base (some ⟨g, 0, none⟩) n G := by
 subst hn;have e : (G.flatMap (ccells nv)).length = G.length * 2 := flat_klen _ 2 (fun _ => rfl) G;exact ⟨e, .inr ⟨g, G.length, (G.flatMap (ccells nv)).toArray, rfl, hb, hr, Nat.le_refl _, hx, by simp [e], by rw [← e]; exact List.take_length⟩⟩
def fillV (F : List V) (n : Nat) : List V := F ++ List.replicate (n - F.length) zeroV
theorem fillV_full (F : List V) : fillV F F.length = F := by simp [fillV]
theorem fillV_set (F : List V) (n : Nat) (t : V) (h : F.length < n) : (fillV F n).set F.length t = fillV (F ++ [t]) n := by
 unfold fillV;obtain ⟨m, hm⟩ : ∃ m, n - F.length = m + 1 := ⟨n - F.length - 1, by omega⟩
 have hm2 : n - (F ++ [t]).length = m := by rw [List.length_append, List.length_singleton]; omega
 rw [hm, hm2, List.set_append_right _ _ (Nat.le_refl _), Nat.sub_self, List.replicate_succ, List.set_cons_zero, List.append_assoc, List.singleton_append]
theorem fillV_at (F : List V) (n : Nat) (h : F.length < n) : (fillV F n)[F.length]? = some zeroV := by
 unfold fillV;rw [List.getElem?_append_right (Nat.le_refl _), Nat.sub_self, List.getElem?_replicate, if_pos (by omega)]
theorem vls_set : ∀ (G : List V) (k : Nat) (t : V), ((((G.flatMap vls).set (k * 4) (.int .i64 t.k)).set (k * 4 + 1) (.int .u64 (t.u : Int))).set (k * 4 + 2) (.int .i64 t.n)).set (k * 4 + 3) (.string (txt t.s)) = (G.set k t).flatMap vls
 | [], k, t => rfl
 | x :: G, 0, t => rfl
 | x :: G, k + 1, t => by
  have e : (k + 1) * 4 = k * 4 + 1 + 1 + 1 + 1 := by omega
  rw [e];show _ :: _ :: _ :: _ :: ((((G.flatMap vls).set (k * 4) (.int .i64 t.k)).set (k * 4 + 1) (.int .u64 (t.u : Int))).set (k * 4 + 2) (.int .i64 t.n)).set (k * 4 + 3) (.string (txt t.s)) = _ :: _ :: _ :: _ :: (G.set k t).flatMap vls;rw [vls_set G k t]
theorem cSz : (Tryz.prog.info? 78).map (·.size) = some 2 := by kernel_rfl
theorem c_one (a : Bool) (x : Int) : ([Value.bool a, .int .i64 x] : List Value).toArray.all (·.oneCell') = true := by simp [Value.oneCell']
def cellc (c : Bool × Int) : Value := .agg #[.bool c.1, .int .i64 c.2]
theorem cellOf_any (k : Int) (m : Nat) (w : World) (hk : 0 ≤ k ∧ k ≤ 8) (hm : m ≤ 4000) :
    Calls Tryz.prog 90 #[.int .i64 k, .int .i64 (m : Int)] w fun e w' => e = .returned (cellc (if k = 0 then (false, 0) else (true, 16 * (m : Int) + k))) ∧ Fr (fun _ => False) w w' := by
 obtain ⟨g, hg⟩ := nm_ w.heap.size;obtain ⟨w1, hw1⟩ := nm_ (w.alloc (.cells #[.bool false, .int .i64 0] 78));have hf1 : Fr (fun _ => False) w w1 := by rw [← hw1]; exact (Fr.refl _ _).alloc _
 have hr1 : Row w1 g 78 [.bool false, .int .i64 0] := by rw [← hw1, ← hg]; exact Row.new w _ _
 have HF1 := hid hf1;have HR1 := hid hr1;have HG := hid hg;clear hf1 hr1;by_cases h0 : k = 0
 · subst h0;rw [if_pos rfl];clear hk;go_enter Tryz.func90, Tryz.ntmps90
   go_upto_region 1 with fail
   clear hw1 hg;go_wp2_with (refine store_st cSz rfl (.tmp 4) (.tmp 7) rfl g (by rfl) [.bool false, .int .i64 0] (by rfl) _ _ HR1.out rfl rfl (c_one _ _) ?_)
   intro w5 hr5 hf5;have HF5 : Hid (Fr (fun _ => False) w w5) := hid (HF1.out.trans hf5 (fun b hb h => by have h1 := HG.out; omega));have d0 : w5.cell? ⟨g, 0, none⟩ = some (.bool false) := hr5.cell rfl;have d1 : w5.cell? ⟨g, 1, none⟩ = some (.int .i64 0) := hr5.cell rfl;clear hr5 hf5;go_wp2_with fail;exact bodyPost_ret (v := cellc (false, 0)) (by simp [results, cellc, Tryz.results90, go_sem, d0, d1]) rfl ⟨rfl, HF5.out⟩
 · rw [if_neg h0];have t0 : (k == 0) = false := by simp; exact h0
   have r1 : IntKind.i64.wrap ((m : Int) * 16) = (m : Int) * 16 := by rw [IntKind.wrap_i64]; omega
   have r2 : IntKind.i64.wrap ((m : Int) * 16 + k) = 16 * (m : Int) + k := by rw [IntKind.wrap_i64]; omega
   clear hk hm h0;go_enter Tryz.func90, Tryz.ntmps90
   go_upto_region 1 with fail
   clear hw1 hg;go_wp2_with (refine store_st cSz rfl (.tmp 4) (.tmp 12) rfl g (by rfl) [.bool true, .int .i64 (16 * (m : Int) + k)] (by rfl) _ _ HR1.out rfl rfl (c_one _ _) ?_)
   intro w5 hr5 hf5;have HF5 : Hid (Fr (fun _ => False) w w5) := hid (HF1.out.trans hf5 (fun b hb h => by have h1 := HG.out; omega));have d0 : w5.cell? ⟨g, 0, none⟩ = some (.bool true) := hr5.cell rfl;have d1 : w5.cell? ⟨g, 1, none⟩ = some (.int .i64 (16 * (m : Int) + k)) := hr5.cell rfl;clear hr5 hf5;go_wp2_with fail;exact bodyPost_ret (v := cellc (true, 16 * (m : Int) + k)) (by simp [results, cellc, Tryz.results90, go_sem, d0, d1]) rfl ⟨rfl, HF5.out⟩
end
section
open Go.RowKit Mem Go.Lib LebM UtfM VaM OpM AcM RleM CsM
attribute [local go_sem ↓] Go.wp_at_zero Go.wp_at_succ
structure Ct where
 e : TypeId
 s : Nat
 n : Nat
 xs : List Value
structure Rw where
 ct : Ct
 A : Option Addr
 c : Nat
def Rw.v (r : Rw) : Value := .slice r.A r.ct.n r.c
def Rw.own (w : World) (base : Nat) (r : Rw) : Prop := w.ownsRow base r.ct.e r.ct.s r.v r.ct.n r.ct.xs
def apartR (r q : Rw) : Prop := ∀ k, r.v.ownBlock = some k → q.v.ownBlock ≠ some k
structure ShT (st : TypeId) (w : World) (base g : Nat) (D : Nat → Prop) (R : List Rw) : Prop where
 row : Row w g st (R.map Rw.v)
 all : ∀ r ∈ R, r.own w base
 sep : R.Pairwise apartR
 off : ∀ r ∈ R, r.v.ownBlock ≠ some g
 base : base ≤ g
 far : ∀ k, D k → k ≠ g ∧ ∀ r ∈ R, r.v.ownBlock ≠ some k
 lt : ∀ k, D k → k < w.heap.size
def SheetT (st : TypeId) (w : World) (base g : Nat) (D : Nat → Prop) (X : List Ct) : Prop := ∃ R, ShT st w base g D R ∧ R.map Rw.ct = X
def ctC (L : List C) : Ct := ⟨78, 2, L.length, L.flatMap (ccells nv)⟩
def ctW (L : List (Bool × List UInt8)) : Ct := ⟨81, 2, L.length, L.flatMap (ccells sv)⟩
def ctB (L : List Bool) : Ct := ⟨4, 1, L.length, L.map boc⟩
def ctV (L : List V) : Ct := ⟨53, 4, L.length, L.flatMap vls⟩
section
variable {st : TypeId}
theorem ShT.fr {S D : Nat → Prop} {w w' : World} {base g : Nat} {R : List Rw} (h : ShT st w base g D R) (hf : Fr S w w') (hS : ∀ k, base ≤ k → ¬ S k) : ShT st w' base g D R :=
 ⟨h.row.fr hf (hS g h.base), fun r hr => hf.own (h.all r hr) (fun k hk => hS k ((h.all r hr).lt k hk).1), h.sep, h.off, h.base, h.far, fun k hk => Nat.lt_of_lt_of_le (h.lt k hk) hf.size⟩
theorem SheetT.fr {S D : Nat → Prop} {w w' : World} {base g : Nat} {X : List Ct} (h : SheetT st w base g D X) (hf : Fr S w w') (hS : ∀ k, base ≤ k → ¬ S k) : SheetT st w' base g D X := by
 obtain ⟨R, h, e⟩ := h;exact ⟨R, h.fr hf hS, e⟩
theorem SheetT.fr0 {D : Nat → Prop} {w w' : World} {base g : Nat} {X : List Ct} (h : SheetT st w base g D X) (hf : Fr (fun _ => False) w w') : SheetT st w' base g D X := h.fr hf (fun _ _ h => h)
end
theorem pw_set {α : Type} {p : α → α → Prop} (hc : ∀ a b, p a b → p b a) : ∀ {l : List α} {i : Nat} {x : α}, l.Pairwise p → (∀ j y, j ≠ i → l[j]? = some y → p x y) → (l.set i x).Pairwise p
 | [], i, x, _, _ => by simp
 | y :: l, 0, x, h, hx => by
  rw [List.pairwise_cons] at h;rw [List.set_cons_zero, List.pairwise_cons];refine ⟨fun z hz => ?_, h.2⟩;obtain ⟨j, hj⟩ := List.mem_iff_getElem?.1 hz;exact hx (j + 1) z (by omega) (by simpa using hj)
 | y :: l, i + 1, x, h, hx => by
  rw [List.pairwise_cons] at h;rw [List.set_cons_succ, List.pairwise_cons];refine ⟨fun z hz => ?_, pw_set hc h.2 (fun j z hj hz => hx (j + 1) z (by omega) (by simpa using hz))⟩;rcases List.mem_or_eq_of_mem_set hz with hz | rfl
  · exact h.1 z hz
  · exact hc _ _ (hx 0 y (by omega) (by simp))
theorem apart_comm (r q : Rw) (h : apartR r q) : apartR q r := fun k h1 h2 => h k h2 h1
theorem pw_get {α : Type} {p : α → α → Prop} (hc : ∀ a b, p a b → p b a) {l : List α} (h : l.Pairwise p) {i j : Nat} {x y : α} (hi : l[i]? = some x) (hj : l[j]? = some y) (hne : j ≠ i) : p x y := by
 obtain ⟨h1, e1⟩ := List.getElem?_eq_some_iff.1 hi;obtain ⟨h2, e2⟩ := List.getElem?_eq_some_iff.1 hj;have hp := List.pairwise_iff_getElem.1 h;rcases Nat.lt_or_ge i j with hlt | hge
 · have := hp i j h1 h2 hlt;rwa [e1, e2] at this
 · have := hp j i h2 h1 (by omega);rw [e1, e2] at this;exact hc _ _ this
section
variable {st : TypeId}
theorem ShT.turn {D : Nat → Prop} {w w2 : World} {base g i : Nat} {R : List Rw} {r q : Rw} (h : ShT st w base g D R) (hi : R[i]? = some r) (hf : Fr (fun k => r.v.ownBlock = some k) w w2) (hq : q.own w2 base)
    (hat : q.v.ownBlock = r.v.ownBlock ∨ q.v.ownBlock = some w.heap.size) : ShT st (w2.setCell ⟨g, i, none⟩ q.v) base g D (R.set i q) ∧ Fr (fun k => k = g ∨ r.v.ownBlock = some k) w (w2.setCell ⟨g, i, none⟩ q.v) := by
 have hr := h.all r (List.mem_of_getElem? hi);have hg : r.v.ownBlock ≠ some g := h.off r (List.mem_of_getElem? hi);have hgl := h.row.lt;have hqg : q.v.ownBlock ≠ some g := by
  rcases hat with e | e
  · rw [e]; exact hg
  · rw [e]; intro e2; injection e2 with e2; omega
 have hqa : ∀ j y, j ≠ i → R[j]? = some y → apartR q y := by
  intro j y hj hy k hk hk2;have h1 := pw_get apart_comm h.sep hi hy hj;rcases hat with e | e
  · rw [e] at hk; exact h1 k hk hk2
  · rw [e] at hk;injection hk with hk
    have := own_lt (h.all y (List.mem_of_getElem? hy)) hk2;omega
 have hs := Fr.set1 w2 g i q.v;refine ⟨⟨?_, ?_, pw_set apart_comm h.sep hqa, ?_, h.base, ?_, ?_⟩, ?_⟩
 · have := (h.row.fr hf hg).set i q.v;rwa [← List.map_set] at this
 · intro y hy;obtain ⟨j, hj⟩ := List.mem_iff_getElem?.1 hy;by_cases hji : j = i
   · subst hji;have hl := (List.getElem?_eq_some_iff.1 hi).1;rw [List.getElem?_set_self hl] at hj;injection hj with hj
     rw [← hj];exact hs.own hq (fun k hk e => hqg (by rw [hk, e]))
   · rw [List.getElem?_set_ne (fun e => hji e.symm)] at hj;have hy2 := h.all y (List.mem_of_getElem? hj);refine hs.own (hf.own hy2 (fun k hk e => pw_get apart_comm h.sep hi hj hji k e hk)) (fun k hk e => ?_);exact h.off y (List.mem_of_getElem? hj) (by rw [hk, e])
 · intro y hy;rcases List.mem_or_eq_of_mem_set hy with hy | rfl
   · exact h.off y hy
   · exact hqg
 · intro k hk;refine ⟨(h.far k hk).1, fun y hy e => ?_⟩;rcases List.mem_or_eq_of_mem_set hy with hy | rfl
   · exact (h.far k hk).2 y hy e
   · rcases hat with e2 | e2
     · rw [e2] at e; exact (h.far k hk).2 r (List.mem_of_getElem? hi) e
     · rw [e2] at e;injection e with e
       have := h.lt k hk;omega
 · intro k hk;exact Nat.lt_of_lt_of_le (h.lt k hk) (Nat.le_trans hf.size hs.size)
 · exact (hf.mono (fun k hk e => .inr e)).trans hs (fun k hk e => .inl e)
theorem ShT.wide {D : Nat → Prop} {w w' : World} {base g : Nat} {R : List Rw} {r : Rw} (h : ShT st w base g D R) (hr : r ∈ R) (hf : Fr (fun k => k = g ∨ r.v.ownBlock = some k) w w') : Fr (fun k => base ≤ k ∧ ¬ D k) w w' :=
 hf.mono (fun k hk e => by
  rcases e with rfl | e
  · exact ⟨h.base, fun hd => (h.far _ hd).1 rfl⟩
  · exact ⟨((h.all r hr).lt k e).1, fun hd => (h.far _ hd).2 r hr e⟩)
theorem ShT.grow {D : Nat → Prop} {w w1 w2 : World} {base g i N : Nat} {R : List Rw} {t : Ct} {A A' : Option Addr} {c c' : Nat} {news : List Value} (h : ShT st w base g D R) (hi : R[i]? = some ⟨t, A, c⟩) (h1 : Fr (fun _ => False) w w1)
    (hf : Fr (fun k => (Value.slice A t.n c).ownBlock = some k) w1 w2) (hq : w2.ownsRow base t.e t.s (.slice A' N c') N (t.xs ++ news)) (hat : (Value.slice A' N c').ownBlock = (Value.slice A t.n c).ownBlock ∨ (Value.slice A' N c').ownBlock = some w1.heap.size) :
    (ShT st (w2.setCell ⟨g, i, none⟩ (.slice A' N c')) base g D (R.set i ⟨⟨t.e, t.s, N, t.xs ++ news⟩, A', c'⟩) ∧ Fr (fun k => k = g ∨ (Value.slice A t.n c).ownBlock = some k) w (w2.setCell ⟨g, i, none⟩ (.slice A' N c'))) ∧ w2.cell? ⟨g, i, none⟩ = some (.slice A t.n c) ∧ w2.frozen? ⟨g, i, none⟩ = false := by
 have hrow := (h.row.fr h1 (fun h => h)).fr hf (h.off _ (List.mem_of_getElem? hi));obtain ⟨h2, h3⟩ := (h.fr h1 (fun _ _ h => h)).turn (q := ⟨⟨t.e, t.s, N, t.xs ++ news⟩, A', c'⟩) hi hf hq hat;exact ⟨⟨h2, (h1.mono (fun _ _ h => h.elim)).trans h3 im_⟩, hrow.cell (by rw [List.getElem?_map, hi]; rfl), hrow.free i⟩
theorem ShT.cell {D : Nat → Prop} {w : World} {base g i : Nat} {R : List Rw} {r : Rw} (h : ShT st w base g D R) (hi : R[i]? = some r) : w.cell? ⟨g, i, none⟩ = some r.v := h.row.cell (by rw [List.getElem?_map, hi]; rfl)
theorem ShT.scratch {D : Nat → Prop} {w w' : World} {base g p : Nat} {R : List Rw} (h : ShT st w base g D R) (hp : D p) (hf : Fr (fun k => k = p) w w') : ShT st w' base g D R :=
 ⟨h.row.fr hf (fun e => (h.far p hp).1 e.symm), fun r hr => hf.own (h.all r hr) (fun k hk e => (h.far p hp).2 r hr (by rw [hk, e])), h.sep, h.off, h.base, h.far, fun k hk => Nat.lt_of_lt_of_le (h.lt k hk) hf.size⟩
theorem SheetT.more {D D' : Nat → Prop} {w w' : World} {base g : Nat} {X : List Ct} (h : SheetT st w base g D X) (hf : Fr (fun _ => False) w w') (hD : ∀ k, D' k → (D k ∨ w.heap.size ≤ k) ∧ k < w'.heap.size) : SheetT st w' base g D' X := by
 obtain ⟨R, h, e⟩ := h;have h2 := h.fr hf (fun _ _ h => h);refine ⟨R, ⟨h2.row, h2.all, h2.sep, h2.off, h2.base, fun k hk => ?_, fun k hk => (hD k hk).2⟩, e⟩;rcases (hD k hk).1 with hd | hd
 · exact h.far k hd
 · have := h.row.lt;exact ⟨by omega, fun r hr e => by have := own_lt (h.all r hr) e; omega⟩
theorem SheetT.less {D D' : Nat → Prop} {w : World} {base g : Nat} {X : List Ct} (h : SheetT st w base g D' X) (hD : ∀ k, D k → D' k) : SheetT st w base g D X := by
 obtain ⟨R, h, e⟩ := h;exact ⟨R, ⟨h.row, h.all, h.sep, h.off, h.base, fun k hk => h.far k (hD k hk), fun k hk => h.lt k (hD k hk)⟩, e⟩
theorem SheetT.one {D : Nat → Prop} {w w' : World} {base g b : Nat} {X : List Ct} (h : SheetT st w base g D X) (hf : Fr (fun _ => False) w w') (hb : w.heap.size ≤ b) (hb' : b < w'.heap.size) : SheetT st w' base g (fun k => D k ∨ k = b) X :=
 h.more hf (fun k hk => by
  rcases hk with hk | rfl
  · obtain ⟨R, h, _⟩ := h;exact ⟨.inl hk, Nat.lt_of_lt_of_le (h.lt k hk) hf.size⟩
  · exact ⟨.inr hb, hb'⟩)
theorem ShT.nth {i : Nat} {R : List Rw} {X : List Ct} {t : Ct} (e : R.map Rw.ct = X) (hX : X[i]? = some t) : ∃ A c, R[i]? = some ⟨t, A, c⟩ := by
 rw [← e, List.getElem?_map] at hX;cases hr : R[i]? with
 | none => rw [hr] at hX; cases hX
 | some r =>
  rw [hr] at hX;injection hX with hX
  obtain ⟨t', A, c⟩ := r;exact ⟨A, c, by rw [← hX]⟩
end
abbrev Sheet := SheetT 73
end
end Go.Proofs.YtbabgnadgdidmaaGreat
