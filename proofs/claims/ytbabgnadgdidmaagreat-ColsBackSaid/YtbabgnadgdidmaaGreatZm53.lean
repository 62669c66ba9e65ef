import Derived.Test.YtbabgnadgdidmaaGreatZm52
import Derived.Test.YtbabgnadgdidmaaGreatZm00
import Derived.Test.YtbabgnadgdidmaaGreatZm06
import Derived.Test.YtbabgnadgdidmaaGreatZm13
import Derived.Test.YtbabgnadgdidmaaGreatZm05
import Derived.BigQuiet
set_option linter.unusedVariables false
set_option maxRecDepth 100000
set_option maxHeartbeats 12800000
namespace Go.Proofs.YtbabgnadgdidmaaGreat
section
open Go Go.RowKit LebM UtfM RleM VaM OpM AcM DirM
namespace CsM
theorem bput_le (L : List Bool) (hL : L.length < 18446744073709551616) : (BooM.putB L).length ≤ 10 * (L.length + 1) := by
 have h1 := BooM.nums_len L;have h2 := BooM.nums_le L;have h3 : ∀ (N : List Nat), (∀ n ∈ N, n < 18446744073709551616) → (N.flatMap u).length ≤ 10 * N.length := by
  intro N
  induction N with
  | nil => intro _; simp
  | cons n N ih =>
   intro h;have a := ih (fun m hm => h m (List.mem_cons_of_mem _ hm));have b := u_len10 (h n (List.mem_cons_self ..));rw [List.flatMap_cons, List.length_append, List.length_cons];omega
 unfold BooM.putB;split
 · simp
 · have := h3 (BooM.numsB L) (fun n hn => by have := h2 n hn; omega);omega
theorem flat_le {α : Type} {f : α → List UInt8} {M : Nat} : ∀ {L : List α}, (∀ x ∈ L, (f x).length ≤ M) → (L.flatMap f).length ≤ L.length * M
 | [], _ => by simp
 | x :: L, h => by
  have h1 := h x (List.mem_cons_self ..);have h2 := flat_le (L := L) (fun y hy => h y (List.mem_cons_of_mem _ hy));rw [List.flatMap_cons, List.length_append, List.length_cons, Nat.add_mul];omega
theorem tU_le {L : List C} {N : Nat} (hL : L.length ≤ N) (hN : N ≤ 33000) (h : ∀ c ∈ L, mayU c) : (tU L).length ≤ 1000000 := by
 have := (tell_le (K := kU) L 10 N hL (by omega) (fun c hc => putU10 (h c hc).2)).2;unfold tU;omega
theorem tD_le {L : List C} {N : Nat} (hL : L.length ≤ N) (hN : N ≤ 33000) (h : ∀ c ∈ L, mayS c) : (tD L).length ≤ 1000000 := by
 have := (tell_le (K := kS) (stepsF 0 L) 10 N (by rw [steps_len]; exact hL) (by omega) (fun c hc => putS10 (steps_may 0 L h c hc).2)).2;unfold tD;omega
section
variable {T : List Tx} {l : List O}
theorem put_some (h : Fit T l) (hw : (tW (l.map keyT)).length ≤ 1000000) (hv : (putB (l.map O.val)).length ≤ 1000000) : ∀ c ∈ putS T l, c.2.length ≤ 1000000 := by
 intro c hc;have hc := (List.mem_filter.1 hc).1;have hl := h.len;have hp := h.plen;have hm : ∀ {α : Type} (f : O → α), (l.map f).length ≤ 2001 := fun f => by rw [List.length_map]; exact hl
 have hq : ∀ {α : Type} (f : Nm → α), ((prs l).map f).length ≤ 32016 := fun f => by rw [List.length_map]; exact hp
 unfold colsA at hc;simp only [List.mem_cons, List.not_mem_nil, or_false] at hc;rcases hc with rfl | rfl | rfl | rfl | rfl | rfl | rfl | rfl | rfl | rfl | rfl | rfl
 · exact tU_le (hm _) (by omega) h.m1
 · exact tU_le (hm _) (by omega) h.m2
 · exact tU_le (hm _) (by omega) h.m3
 · exact tD_le (hm _) (by omega) h.m4
 · exact hw
 · have := bput_le (l.map O.ins) (by have := hm O.ins; omega);show (BooM.putB _).length ≤ _;have := hm O.ins;omega
 · exact tU_le (hm _) (by omega) h.m7
 · exact tU_le (L := (l.map O.val).map metaC) (by have := hm O.val; rw [List.length_map]; exact this) (by omega) (putM_may h.m8)
 · exact hv
 · exact tU_le (hm _) (by omega) h.m10
 · exact tU_le (hq _) (by omega) h.m11
 · exact tD_le (hq _) (by omega) h.m12
theorem put_few (h : Fit T l) (hl : l.length ≤ 60) : ∀ c ∈ putS T l, c.2.length ≤ 1000000 := by
 refine put_some h ?_ ?_
 · have := (tell_le (K := kW) (l.map keyT) 4010 60 (by rw [List.length_map]; exact hl) (by omega) (fun c hc => by
    have h1 := (h.m5 c hc).2;have := putW10 (c := c) (by omega);omega)).2
   unfold tW;omega
 · have := flat_le (L := l.map O.val) (f := putV) (M := 4000) (fun v hv => right_put (h.m8 v hv).1 (h.m8 v hv).2);rw [List.length_map] at this;show ((l.map O.val).flatMap putV).length ≤ _;have h2 := Nat.mul_le_mul_right 4000 hl;omega
end
end CsM
end
section
open Go.RowKit Mem Go.Lib LebM UtfM VaM OpM
attribute [local go_sem ↓] Go.wp_at_zero Go.wp_at_succ
theorem rsameO_any (A : Option Addr) (n c : Nat) (L : List Om) (A' : Option Addr) (n' c' : Nat) (M : List Om) (w : World) (hL : Ops w A n L) (hM : Ops w A' n' M) (hn : n ≤ 1000000) (hn' : n' ≤ 1000000) (hpl : ∀ x ∈ L, x.o.pr.length ≤ 1000000) (hpm : ∀ x ∈ M, x.o.pr.length ≤ 1000000) (r : Bool) (hr : r = true ↔ L.map Om.o = M.map Om.o) :
    Calls Tryz.prog 17 #[.slice A n c, .slice A' n' c'] w fun e w' => e = .returned (.bool r) ∧ Fr (fun _ => False) w w' := by
 have HR := hid hr;have HL := hid hL;have HM := hid hM;have HLN := hid hL.len;have HMN := hid hM.len;have HPL := hid hpl;have HPM := hid hpm;clear hL hM hr hpl hpm;by_cases hnn : n = n'
 · subst hnn;have t0 : ((n : Int) != (n : Int)) = false := by simp
   go_enter Tryz.func17, Tryz.ntmps17;go_wp2_with fail
   go_loopw [5] (fun v wr => ∃ k : Nat, k ≤ n ∧ v = .int .i64 (k : Int) ∧ Hid ((L.take k).map Om.o = (M.take k).map Om.o) ∧ Hid (Fr (fun _ => False) w wr)) (fun v _ => n - (intOf v).toNat)
   case atStart => exact ⟨0, Nat.zero_le _, rfl, (rfl : (L.take 0).map Om.o = (M.take 0).map Om.o), Fr.refl _ _⟩
   case round =>
    obtain ⟨k, hk, rfl, HE, HF⟩ := hrel
    rename World => wr
    by_cases hlt : k < n
    · obtain ⟨x, hx⟩ : ∃ x, L[k]? = some x := ⟨_, List.getElem?_eq_getElem (by have := HLN.out; omega)⟩
      obtain ⟨y, hy⟩ : ∃ y, M[k]? = some y := ⟨_, List.getElem?_eq_getElem (by have := HMN.out; omega)⟩
      obtain ⟨gl, ol, rfl, _, hax⟩ := HL.out.1.2 k x hx;obtain ⟨gk, om, rfl, _, hay⟩ := HM.out.1.2 k y hy;have HAX : Hid (∀ w', Fr (fun _ => False) wr w' → Oat w' gl (ol + k * 13) x) := hid (fun w' hf => hax.fr (HF.out.trans hf im_) (fun h => h));have HAY : Hid (∀ w', Fr (fun _ => False) wr w' → Oat w' gk (om + k * 13) y) := hid (fun w' hf => hay.fr (HF.out.trans hf im_) (fun h => h));have HPX := hid (HL.out.2 x (List.mem_of_getElem? hx));have HPY := hid (HM.out.2 y (List.mem_of_getElem? hy));obtain ⟨lp, hlp⟩ := nm_ x.o.pr.length;obtain ⟨lq, hlq⟩ := nm_ y.o.pr.length;have hbx := HPL.out x (List.mem_of_getElem? hx);have hby := HPM.out y (List.mem_of_getElem? hy);rw [hlp] at hbx;rw [hlq] at hby;have HLP := hid hlp;have HLPY := hid hlq;have HX := hid hx;have HY := hid hy;have HB : Hid (eqO x.o y.o = false → r = false) := hid (fun h => by
       cases r with
       | false => rfl
       | true =>
        have e := HR.out.1 rfl;have h1 : (L.map Om.o)[k]? = some x.o := by rw [List.getElem?_map, HX.out]; rfl
        have h2 : (M.map Om.o)[k]? = some y.o := by rw [List.getElem?_map, HY.out]; rfl
        rw [e, h2] at h1;injection h1 with h1
        rw [h1, eqO_self] at h;cases h)
      have he : eqO x.o y.o = (eqN x.o.obj y.o.obj && decide (x.o.key = y.o.key) && (x.o.keyed == y.o.keyed) && eqN x.o.elem y.o.elem && (x.o.ins == y.o.ins) && decide (x.o.act = y.o.act) && eqV x.o.val y.o.val && eqNs x.o.pr y.o.pr) := rfl;obtain ⟨q1a, q1b⟩ := n_neq x.o.obj y.o.obj;obtain ⟨q4a, q4b⟩ := n_neq x.o.elem y.o.elem;obtain ⟨q7a, q7b⟩ := v_neq x.o.val y.o.val;have t2 := beq_txt x.o.key y.o.key;have t6 : (x.o.act != y.o.act) = !decide (x.o.act = y.o.act) := rfl;obtain ⟨b1, hb1⟩ := nm_ (eqN x.o.obj y.o.obj);obtain ⟨b2, hb2⟩ := nm_ (decide (x.o.key = y.o.key));obtain ⟨b3, t3⟩ := nm_ ((x.o.keyed == y.o.keyed));obtain ⟨b4, hb4⟩ := nm_ (eqN x.o.elem y.o.elem);obtain ⟨b5, t5⟩ := nm_ ((x.o.ins == y.o.ins));obtain ⟨b6, hb6⟩ := nm_ (decide (x.o.act = y.o.act));obtain ⟨b7, hb7⟩ := nm_ (eqV x.o.val y.o.val);rw [hb1, hb2, t3, hb4, t5, hb6, hb7] at he;rw [hb1] at q1b;rw [hb2] at t2;rw [hb4] at q4b;rw [hb6] at t6;rw [hb7] at q7b;have HBAD : Hid (x.o.pr ≠ y.o.pr → r = false) := hid (fun h => HB.out (by
       cases hh : eqO x.o y.o with
       | false => rfl
       | true => exact absurd (congrArg O.pr ((eqO_iff _ _).1 hh)) h))
      have HNX : Hid (b1 = true → b2 = true → b3 = true → b4 = true → b5 = true → b6 = true → b7 = true → x.o.pr = y.o.pr → (L.take (k + 1)).map Om.o = (M.take (k + 1)).map Om.o) := hid (fun e1 e2 e3 e4 e5 e6 e7 h => by
       have : eqO x.o y.o = true := by rw [he, e1, e2, e3, e4, e5, e6, e7, (eqNs_iff _ _).2 h]; rfl
       rw [List.take_add_one, List.take_add_one, HX.out, HY.out, List.map_append, List.map_append, HE.out, Option.toList_some, Option.toList_some, List.map_cons, List.map_cons, (eqO_iff _ _).1 this])
      have HEQ := hid he;have hlt' : (k : Int) < (n : Int) := by omega
      clear hx hy hax hay hlp hlq he hb1 hb2 hb4 hb6 hb7
      go_upto_region 6 with fail
      go_cut [6, 7] (fun a b wx => ∃ ga gb, a = .pointer (some ⟨ga, 0, none⟩) ∧ b = .pointer (some ⟨gb, 0, none⟩) ∧ RowO wx ga x ∧ RowO wx gb y ∧ Fr (fun _ => False) w wx)
      case first =>
       refine wp_region_noPanic ?_;refine wp_region_held_drew (S := fun w' => Fr (fun _ => False) wr w') (by kernel_rfl) ?_ (fun hHeld => ?_)
       · exact (Fr.refl _ _).drew
       refine tk 0 hHeld ?_;refine tk 1 hHeld ?_;refine tk 2 hHeld ?_;refine tk 3 hHeld ?_ (hy := by intro w hSw; (try dsimp only at hSw); obtain ⟨k0, k1, k2, k3, k4, k5, k6, k7, k8, k9, k10, k11, k12⟩ := HAX.out w hSw; go_simp; try (with_reducible rfl));refine tk 4 hHeld ?_;refine tk 5 hHeld ?_;refine tk 6 hHeld ?_;refine tk 7 hHeld ?_ (hy := by intro w hSw; (try dsimp only at hSw); obtain ⟨k0, k1, k2, k3, k4, k5, k6, k7, k8, k9, k10, k11, k12⟩ := HAY.out w hSw; go_simp; try (with_reducible rfl));refine wpAnyH_ready (rs := [8, 9]) (by kernel_rfl) (by simp) ?_;refine AllReadyH.cons rfl (fun Kx hKx => ?_) ?_
       · go_simp
         obtain ⟨wa, hwa⟩ : ∃ y, (wr.alloc (.cells #[.int .i64 0, .string ⟨#[]⟩, .string ⟨#[]⟩, .bool false, .int .i64 0, .string ⟨#[]⟩, .bool false, .int .i64 0, .int .i64 0, .int .u64 0, .int .i64 0, .string ⟨#[]⟩, .slice none 0 0] 56)).drew = y := ⟨_, rfl⟩
         rw [hwa];obtain ⟨ga, hpp⟩ := nm_ wr.heap.size
         try rw [hpp]
         have hfa : Fr (fun _ => False) wr wa := by rw [← hwa]; exact ((Fr.refl _ _).alloc _).drew
         have hpa : RowO wa ga zeroM := by rw [← hwa, ← hpp]; exact RowO.new wr zeroM
         have HPwa := hid hpa;have HNwa : Hid (wr.heap.size ≤ ga) := hid (by omega);have HFwa : Hid (Fr (fun _ => False) wr wa) := hid hfa;clear hwa hpp hfa hpa;refine hKx.out _ _ ?_ (fun hHeld => ?_)
         · exact HFwa.out
         clear hKx Kx;refine rdo 9 (fun Kx hKx => ?_)
         go_simp
         obtain ⟨wb, hwa⟩ : ∃ y, (wa.alloc (.cells #[.int .i64 0, .string ⟨#[]⟩, .string ⟨#[]⟩, .bool false, .int .i64 0, .string ⟨#[]⟩, .bool false, .int .i64 0, .int .i64 0, .int .u64 0, .int .i64 0, .string ⟨#[]⟩, .slice none 0 0] 56)) = y := ⟨_, rfl⟩
         rw [hwa];obtain ⟨gb, hpp⟩ := nm_ wa.heap.size
         try rw [hpp]
         have hfa : Fr (fun _ => False) wa wb := by rw [← hwa]; exact ((Fr.refl _ _).alloc _)
         have hpa : RowO wb gb zeroM := by rw [← hwa, ← hpp]; exact RowO.new wa zeroM
         have HPwb := hid hpa;have HNwb : Hid (wa.heap.size ≤ gb) := hid (by omega);have HOwb := hid (HPwa.out.fr hfa (fun h => h));have HNE : Hid (ga ≠ gb ∧ wr.heap.size ≤ gb) := hid (by have h1 := HPwa.out.lt; have h2 := HFwa.out.size; omega);have HFwb : Hid (Fr (fun _ => False) wr wb) := hid (HFwa.out.trans hfa im_);clear hwa hpp hfa hpa;refine hKx.out _ _ ?_ (fun hHeld => ?_)
         · exact HFwb.out
         clear hKx Kx
         (try simp only [Act.put, List.setIfInBounds_toArray, List.set_cons_zero, List.set_cons_succ, List.getElem_toArray, List.getElem_cons_zero, List.getElem_cons_succ])
         have HGE : Hid (wr.heap.size ≤ ga ∧ wr.heap.size ≤ gb ∧ ga ≠ gb) := hid (by have h1 := HNE.out; have h2 := HNwa.out; omega);refine rdo 10 (fun Kx hKx => ?_);refine step_store_whole oSz (by rfl) _ _ (by rfl) ga (by rfl) (ols x).toArray (by rfl) _ _ HOwb.out rfl rfl (o_one x) ?_;intro wc hr8 hf8;have HRwc : Hid (RowO wc ga x) := hid hr8;have HY1 := hid (HPwb.out.fr hf8 (fun h => HGE.out.2.2 h.symm));have HFwc : Hid (Fr (fun _ => False) wr wc) := hid (HFwb.out.trans hf8 (fun b hb h => by have := HGE.out; omega));clear hr8 hf8;refine hKx.out _ _ ?_ (fun hHeld => ?_)
         · exact HFwc.out
         clear hKx Kx;refine rdo 11 (fun Kx hKx => ?_);refine step_store_whole oSz (by rfl) _ _ (by rfl) gb (by rfl) (ols y).toArray (by rfl) _ _ HY1.out rfl rfl (o_one y) ?_;intro wd hr8 hf8;have HRwd : Hid (RowO wd gb y) := hid hr8;have HX1 := hid (HRwc.out.fr hf8 HGE.out.2.2);have HFwd : Hid (Fr (fun _ => False) wr wd) := hid (HFwc.out.trans hf8 (fun b hb h => by have := HGE.out; omega));clear hr8 hf8;refine hKx.out _ _ ?_ (fun hHeld => ?_)
         · exact HFwd.out
         clear hKx Kx
         (try simp only [Act.put, List.getElem_toArray, List.getElem_cons_zero, List.getElem_cons_succ])
         refine wpAnyH_done (by kernel_rfl) ?_ _;refine NoPanic.normal ?_;go_wp2_with fail
         go_meet
         exact ⟨ga, gb, rfl, rfl, HX1.out, HRwd.out, HF.out.trans HFwd.out im_⟩
       refine AllReadyH.cons rfl (fun Kx hKx => ?_) AllReadyH.nil
       go_simp
       obtain ⟨wa, hwa⟩ : ∃ y, (wr.alloc (.cells #[.int .i64 0, .string ⟨#[]⟩, .string ⟨#[]⟩, .bool false, .int .i64 0, .string ⟨#[]⟩, .bool false, .int .i64 0, .int .i64 0, .int .u64 0, .int .i64 0, .string ⟨#[]⟩, .slice none 0 0] 56)).drew = y := ⟨_, rfl⟩
       rw [hwa];obtain ⟨gb, hpp⟩ := nm_ wr.heap.size
       try rw [hpp]
       have hfa : Fr (fun _ => False) wr wa := by rw [← hwa]; exact ((Fr.refl _ _).alloc _).drew
       have hpa : RowO wa gb zeroM := by rw [← hwa, ← hpp]; exact RowO.new wr zeroM
       have HPwa := hid hpa;have HNwa : Hid (wr.heap.size ≤ gb) := hid (by omega);have HFwa : Hid (Fr (fun _ => False) wr wa) := hid hfa;clear hwa hpp hfa hpa;refine hKx.out _ _ ?_ (fun hHeld => ?_)
       · exact HFwa.out
       clear hKx Kx;refine rdo 8 (fun Kx hKx => ?_)
       go_simp
       obtain ⟨wb, hwa⟩ : ∃ y, (wa.alloc (.cells #[.int .i64 0, .string ⟨#[]⟩, .string ⟨#[]⟩, .bool false, .int .i64 0, .string ⟨#[]⟩, .bool false, .int .i64 0, .int .i64 0, .int .u64 0, .int .i64 0, .string ⟨#[]⟩, .slice none 0 0] 56)) = y := ⟨_, rfl⟩
       rw [hwa];obtain ⟨ga, hpp⟩ := nm_ wa.heap.size
       try rw [hpp]
       have hfa : Fr (fun _ => False) wa wb := by rw [← hwa]; exact ((Fr.refl _ _).alloc _)
       have hpa : RowO wb ga zeroM := by rw [← hwa, ← hpp]; exact RowO.new wa zeroM
       have HPwb := hid hpa;have HNwb : Hid (wa.heap.size ≤ ga) := hid (by omega);have HOwb := hid (HPwa.out.fr hfa (fun h => h));have HNE : Hid (gb ≠ ga ∧ wr.heap.size ≤ ga) := hid (by have h1 := HPwa.out.lt; have h2 := HFwa.out.size; omega);have HFwb : Hid (Fr (fun _ => False) wr wb) := hid (HFwa.out.trans hfa im_);clear hwa hpp hfa hpa;refine hKx.out _ _ ?_ (fun hHeld => ?_)
       · exact HFwb.out
       clear hKx Kx
       (try simp only [Act.put, List.setIfInBounds_toArray, List.set_cons_zero, List.set_cons_succ, List.getElem_toArray, List.getElem_cons_zero, List.getElem_cons_succ])
       have HGE : Hid (wr.heap.size ≤ ga ∧ wr.heap.size ≤ gb ∧ ga ≠ gb) := hid (by have h1 := HNE.out; have h2 := HNwa.out; omega);refine rdo 10 (fun Kx hKx => ?_);refine step_store_whole oSz (by rfl) _ _ (by rfl) ga (by rfl) (ols x).toArray (by rfl) _ _ HPwb.out rfl rfl (o_one x) ?_;intro wc hr8 hf8;have HRwc : Hid (RowO wc ga x) := hid hr8;have HY1 := hid (HOwb.out.fr hf8 (fun h => HGE.out.2.2 h.symm));have HFwc : Hid (Fr (fun _ => False) wr wc) := hid (HFwb.out.trans hf8 (fun b hb h => by have := HGE.out; omega));clear hr8 hf8;refine hKx.out _ _ ?_ (fun hHeld => ?_)
       · exact HFwc.out
       clear hKx Kx;refine rdo 11 (fun Kx hKx => ?_);refine step_store_whole oSz (by rfl) _ _ (by rfl) gb (by rfl) (ols y).toArray (by rfl) _ _ HY1.out rfl rfl (o_one y) ?_;intro wd hr8 hf8;have HRwd : Hid (RowO wd gb y) := hid hr8;have HX1 := hid (HRwc.out.fr hf8 HGE.out.2.2);have HFwd : Hid (Fr (fun _ => False) wr wd) := hid (HFwc.out.trans hf8 (fun b hb h => by have := HGE.out; omega));clear hr8 hf8;refine hKx.out _ _ ?_ (fun hHeld => ?_)
       · exact HFwd.out
       clear hKx Kx
       (try simp only [Act.put, List.getElem_toArray, List.getElem_cons_zero, List.getElem_cons_succ])
       refine wpAnyH_done (by kernel_rfl) ?_ _;refine NoPanic.normal ?_;go_wp2_with fail
       go_meet
       exact ⟨ga, gb, rfl, rfl, HX1.out, HRwd.out, HF.out.trans HFwd.out im_⟩
      case rest =>
      obtain ⟨ga, gb, rfl, rfl, hx2, hy2, hf2⟩ := hcut
      rename World => w2
      obtain ⟨c0, c1, c2, c3, c4, c5, c6, c7, c8, c9, c10, c11, c12⟩ := hx2.cells;obtain ⟨d0, d1, d2, d3, d4, d5, d6, d7, d8, d9, d10, d11, d12⟩ := hy2.cells;rw [HLP.out] at c12;rw [HLPY.out] at d12;have HX2 := hid hx2;have HY2 := hid hy2;have HF2 := hid hf2;clear hx2 hy2 hf2;cases b1 with
      | false =>
       have HRF : Hid (r = false) := hid (HB.out (by rw [HEQ.out]; simp));go_wp2_with fail;go_ret;exact ⟨by rw [HRF.out]; rfl, HF2.out⟩
      | true =>
       cases b2 with
       | false =>
        have HRF : Hid (r = false) := hid (HB.out (by rw [HEQ.out]; simp));go_wp2_with fail;go_ret;exact ⟨by rw [HRF.out]; rfl, HF2.out⟩
       | true =>
        cases b3 with
        | false =>
         have HRF : Hid (r = false) := hid (HB.out (by rw [HEQ.out]; simp));go_wp2_with fail;go_ret;exact ⟨by rw [HRF.out]; rfl, HF2.out⟩
        | true =>
         cases b4 with
         | false =>
          have HRF : Hid (r = false) := hid (HB.out (by rw [HEQ.out]; simp));go_wp2_with fail;go_ret;exact ⟨by rw [HRF.out]; rfl, HF2.out⟩
         | true =>
          cases b5 with
          | false =>
           have HRF : Hid (r = false) := hid (HB.out (by rw [HEQ.out]; simp));go_wp2_with fail;go_ret;exact ⟨by rw [HRF.out]; rfl, HF2.out⟩
          | true =>
           cases b6 with
           | false =>
            have HRF : Hid (r = false) := hid (HB.out (by rw [HEQ.out]; simp));go_wp2_with fail;go_ret;exact ⟨by rw [HRF.out]; rfl, HF2.out⟩
           | true =>
            cases b7 with
            | false =>
             have HRF : Hid (r = false) := hid (HB.out (by rw [HEQ.out]; simp));go_wp2_with fail;go_ret;exact ⟨by rw [HRF.out]; rfl, HF2.out⟩
            | true =>
             by_cases h8 : lp = lq
             · subst h8;have t8 : ((lp : Int) != (lp : Int)) = false := by simp
               have HNX2 := hid (HNX.out rfl rfl rfl rfl rfl rfl rfl);clear HNX;obtain ⟨Ax, hAx⟩ := nm_ x.A;obtain ⟨Ay, hAy⟩ := nm_ y.A;rw [hAx] at c12;rw [hAy] at d12;have HAx := hid hAx;have HAy := hid hAy;clear hAx hAy;go_wp2_with fail;clear q1a q1b q4a q4b q7a q7b t2 t6 c0 c1 c2 c3 c4 c5 c6 c7 c8 c9 c10 c11 c12 d0 d1 d2 d3 d4 d5 d6 d7 d8 d9 d10 d11 d12
               go_loopw [8] (fun v wq => ∃ j : Nat, j ≤ lp ∧ v = .int .i64 (j : Int) ∧ Hid (x.o.pr.take j = y.o.pr.take j) ∧ Hid (RowO wq ga x) ∧ Hid (RowO wq gb y) ∧ Hid (Fr (fun _ => False) w wq)) (fun v _ => lp - (intOf v).toNat)
               case atStart => exact ⟨0, Nat.zero_le _, rfl, (by simp : x.o.pr.take 0 = y.o.pr.take 0), HX2, HY2, HF2⟩
               case round =>
                obtain ⟨j, hj, rfl, HE2, HX3, HY3, HF3⟩ := hrel
                rename World => wq
                obtain ⟨c0, c1, c2, c3, c4, c5, c6, c7, c8, c9, c10, c11, c12⟩ := HX3.out.cells;obtain ⟨d0, d1, d2, d3, d4, d5, d6, d7, d8, d9, d10, d11, d12⟩ := HY3.out.cells;rw [HLP.out, HAx.out] at c12;rw [HLPY.out, HAy.out] at d12;by_cases hlt2 : j < lp
                · obtain ⟨u, hu⟩ : ∃ u, x.o.pr[j]? = some u := ⟨_, List.getElem?_eq_getElem (by have := HLP.out; omega)⟩
                  obtain ⟨v, hv⟩ : ∃ u, y.o.pr[j]? = some u := ⟨_, List.getElem?_eq_getElem (by have := HLPY.out; omega)⟩
                  obtain ⟨gu, ou, hau, _, m0, m1⟩ := (HPX.out.fr0 HF3.out).1.2 j u hu;obtain ⟨gv, ov, hav, _, n0, n1⟩ := (HPY.out.fr0 HF3.out).1.2 j v hv;simp only [ncc, nac] at m0 m1 n0 n1;have hau2 := HAx.out.symm.trans hau;have hav2 := HAy.out.symm.trans hav;subst hau2 hav2;obtain ⟨q1, q2⟩ := n_neq u v;obtain ⟨q, hq⟩ := nm_ (eqN u v);rw [hq] at q2;have HQ := hid hq;have HU := hid hu;have HV := hid hv;clear hu hv hau hav hq;cases q with
                  | true =>
                   have HN2 : Hid (x.o.pr.take (j + 1) = y.o.pr.take (j + 1)) := hid (by rw [List.take_add_one, List.take_add_one, HE2.out, HU.out, HV.out, (eqN_iff u v).1 HQ.out]);go_wp2_with fail
                   go_quiet (fail)
                   have HF4 := hid (HF3.out.drewN nq);have HX4 : Hid (RowO (wq.drewN nq) ga x) := hid HX3.out;have HY4 : Hid (RowO (wq.drewN nq) gb y) := hid HY3.out;clear m0 m1 n0 n1 q1 q2 c0 c1 c2 c3 c4 c5 c6 c7 c8 c9 c10 c11 c12 d0 d1 d2 d3 d4 d5 d6 d7 d8 d9 d10 d11 d12;go_wp2_with fail;exact ⟨⟨j + 1, by omega, by go_num, HN2, HX4, HY4, HF4⟩, by simp [intOf]; omega⟩
                  | false =>
                   have HRF : Hid (r = false) := hid (HBAD.out (fun e => by
                    have h1 := HU.out;rw [e, HV.out] at h1;injection h1 with h1
                    have h2 := HQ.out;rw [← h1, eqN_self] at h2;cases h2))
                   go_wp2_with fail
                   go_quiet (fail)
                   have HF4 := hid (HF3.out.drewN nq);clear m0 m1 n0 n1 q1 q2 c0 c1 c2 c3 c4 c5 c6 c7 c8 c9 c10 c11 c12 d0 d1 d2 d3 d4 d5 d6 d7 d8 d9 d10 d11 d12;go_wp2_with fail;go_ret;exact ⟨by rw [HRF.out]; rfl, HF4.out⟩
                · obtain rfl : j = lp := by omega
                  have HN2 : Hid ((L.take (k + 1)).map Om.o = (M.take (k + 1)).map Om.o) := hid (HNX2.out (by
                   have h := HE2.out;rwa [List.take_of_length_le (by have := HLP.out; omega), List.take_of_length_le (by have := HLPY.out; omega)] at h))
                  go_wp2_with fail;exact ⟨⟨k + 1, by omega, by go_num, HN2, HF3⟩, by simp [intOf]; omega⟩
             · have t8 : ((lp : Int) != (lq : Int)) = true := by simp; omega
               have HRF : Hid (r = false) := hid (HBAD.out (fun e => h8 (by rw [← HLP.out, ← HLPY.out, e])));clear h8;go_wp2_with fail;go_ret;exact ⟨by rw [HRF.out]; rfl, HF2.out⟩
    · obtain rfl : k = n := by omega
      have HX2 : Hid (r = true) := hid (HR.out.2 (by
       have h := HE.out;rwa [List.take_of_length_le (by have := HLN.out; omega), List.take_of_length_le (by have := HMN.out; omega)] at h))
      go_wp2_with fail;go_ret;exact ⟨by rw [HX2.out]; rfl, HF.out⟩
 · have t0 : ((n : Int) != (n' : Int)) = true := by simp; omega
   have HX2 : Hid (r = false) := hid (by
    cases r with
    | false => rfl
    | true =>
     have e := congrArg List.length (HR.out.1 rfl);rw [List.length_map, List.length_map, HLN.out, HMN.out] at e;omega)
   clear hnn;go_enter Tryz.func17, Tryz.ntmps17;go_wp2_with fail;go_ret;exact ⟨by rw [HX2.out]; rfl, Fr.refl _ _⟩
end
end Go.Proofs.YtbabgnadgdidmaaGreat
