import Derived.Test.YtbabgnadgdidmaaGreatZm00
import Derived.Test.YtbabgnadgdidmaaGreatZm38
import Derived.Test.YtbabgnadgdidmaaGreatZm40
import Derived.Test.YtbabgnadgdidmaaGreatZm41
import Derived.Test.YtbabgnadgdidmaaGreatZm42
import Derived.Test.YtbabgnadgdidmaaGreatZm28
set_option maxRecDepth 100000
set_option maxHeartbeats 12800000
namespace Go.Proofs.YtbabgnadgdidmaaGreat
section
open Go.RowKit Mem Go.Lib LebM UtfM VaM OpM AcM RleM CsM
attribute [local go_sem ↓] Go.wp_at_zero Go.wp_at_succ
set_option linter.unusedVariables false
theorem fit_right (a : Tx) {L : List Om} {n : Nat} (hn : L.length = n) (h60 : n ≤ 60) (hf : fewB L = true) (hv : ∀ x ∈ L, x.o.val.ok) (ha : a.length ≤ 100) {M : List Om} (hM : M = L.filter (fun x => rightO x.o)) :
    Fit (tabA a (namesM M)) (M.map Om.o) ∧ (∀ x ∈ tabA a (namesM M), x.length ≤ 1000000) ∧ (tabA a (namesM M)).length ≤ 10000 ∧ (∀ x ∈ M, x.short ∧ x.o.pr.length ≤ 40) ∧ M.length ≤ 60 := by
 have hm : ∀ x ∈ M, x ∈ L ∧ rightO x.o = true := fun x hx => by rw [hM] at hx; exact ⟨(List.mem_filter.1 hx).1, by simpa using (List.mem_filter.1 hx).2⟩
 have hs : ∀ x ∈ M, x.short ∧ x.o.pr.length ≤ 40 := fun x hx => few_short hf x (hm x hx).1;have hml : M.length ≤ 60 := by rw [hM]; exact Nat.le_trans (List.length_filter_le _ _) (by omega)
 have hnl : (namesM M).length ≤ 2520 := by
  have h1 := namesM_len (L := M) (fun x hx => (by have := (hs x hx).2; omega : x.o.pr.length ≤ 1000));have h2 : ∀ l : List Om, (∀ x ∈ l, x.o.pr.length ≤ 40) → (namesM l).length ≤ l.length * 42 := by
   intro l
   induction l with
   | nil => intro _; simp [namesM]
   | cons x l ih =>
    intro h;have h3 := ih (fun y hy => h y (List.mem_cons_of_mem _ hy));have h4 := h x (List.mem_cons_self ..);have h5 : (namesO x.o).length ≤ x.o.pr.length + 2 := by
     unfold namesO;exact Nat.le_trans (List.length_filter_le _ _) (by simp)
    unfold namesM at h3 ⊢;rw [List.flatMap_cons, List.length_append, List.length_cons, Nat.add_mul];omega
  have := h2 M (fun x hx => (hs x hx).2);omega
 have hol := others_len a (namesM M);have hin : ∀ x ∈ M, ∀ y ∈ x.o.obj :: x.o.elem :: x.o.pr, zeroB y = false → y.a ∈ tabA a (namesM M) := fun x hx y hy hz => by
  have h1 : y ∈ namesM M := List.mem_flatMap.2 ⟨x, hx, List.mem_filter.2 ⟨hy, by simp [hz]⟩⟩;unfold tabA;by_cases e : y.a = a
  · rw [e]; exact List.mem_cons_self ..
  · exact List.mem_cons_of_mem _ ((AcM.others_mem a _ _).2 ⟨e, y, h1, rfl⟩)
 have hns := names_shortR (fun x hx => (hs x hx).1);refine ⟨⟨fun o ho => ?_, fun o ho => ?_, fun o ho => ?_, by rw [List.length_map]; omega, by unfold tabA; rw [List.length_cons]; omega⟩, fun x hx => ?_, by unfold tabA; rw [List.length_cons]; omega, hs, hml⟩
 · obtain ⟨x, hx, rfl⟩ := List.mem_map.1 ho;exact (hm x hx).2
 · obtain ⟨x, hx, rfl⟩ := List.mem_map.1 ho;exact hv x (hm x hx).1
 · obtain ⟨x, hx, rfl⟩ := List.mem_map.1 ho;exact ⟨hin x hx _ (by simp), hin x hx _ (by simp), fun y hy => hin x hx y (by simp [hy])⟩
 · rcases List.mem_cons.1 hx with rfl | hx
   · omega
   · obtain ⟨_, y, hy, rfl⟩ := (AcM.others_mem a _ x).1 hx;exact hns y hy
theorem tU_none {L : List C} (h : ∀ c ∈ L, c = (false, 0)) : tU L = [] := told_none h
theorem example19 : putS [[97]] [zeroO] = [(19, [127, 0]), (66, [127, 0])] := by
 have hz : zeroB zeroN = true := eqN_self _;have s0 : s 0 = [0] := by rw [s_small (by omega)]; rfl
 have s1 : s (-1) = [127] := by rw [s_small (by omega)]; rfl
 have u0 : u 0 = [0] := by rw [u_small (by omega)]; rfl
 have e1 : tU [((false, 0) : C)] = [] := tU_none (by simp);have e2 : tD [((true, 0) : C)] = [127, 0] := by
  have h1 : stepsF 0 [((true, 0) : C)] = [(true, 0)] := by decide
  unfold tD;rw [h1];show tellW kS [(((true, 0) : C), 1)] = _;rw [tellW_one (by simp [kS]), tell_other (by simp [kS]) (by omega)];simp [othersG, kS, puts, tell_nil, s0, s1]
 have e3 : tU [((true, 0) : C)] = [127, 0] := by
  unfold tU;show tellW kU [(((true, 0) : C), 1)] = _;rw [tellW_one (by simp [kU]), tell_other (by simp [kU]) (by omega)];simp [othersG, kU, puts, tell_nil, u0, s1]
 have e4 : tW [((false, []) : Bool × List UInt8)] = [] := told_none (K := kW) (x := [((false, []) : Bool × List UInt8)]) (by simp [kW]);have e5 : BooM.putB [false] = [] := by
  have h : (BooM.numsB [false]).length = 1 := (BooM.nums_some _).2 (by simp);unfold BooM.putB;rw [if_pos h]
 have e6 : putM [zeroV] = [] ∧ putB [zeroV] = [] := by
  have := put_nulls 1
  simpa using this
 have e7 : tU [] = [] := rfl;have e8 : tD [] = [] := rfl;unfold putS colsA DirM.full prs;simp [zeroO, CsM.oneA, oneC, keyC, keyT, numC, hz, e1, e2, e3, e4, e5, e6.1, e6.2, e7, e8]
theorem fit_zero : Fit [[97]] [zeroO] := by
 have hz : zeroB zeroN = true := eqN_self _;refine ⟨fun o ho => ?_, fun o ho => ?_, fun o ho => ?_, by simp, by simp⟩
 · simp at ho; subst ho; decide
 · simp at ho; subst ho; exact ⟨by decide, by decide, by decide⟩
 · simp at ho; subst ho;exact ⟨(fun h => absurd h (by rw [show zeroO.obj = zeroN from rfl, hz]; simp)), (fun h => absurd h (by rw [show zeroO.elem = zeroN from rfl, hz]; simp)), (fun x hx => by cases hx)⟩
theorem awake19_any (w : World) : Calls Tryz.prog 7 #[] w fun e w' => e = .returned (.bool true) ∧ Fr (fun _ => False) w w' := by
 obtain ⟨w1, hw1⟩ : ∃ w1, w.alloc (.cells #[.string ⟨#[97]⟩] 9) = w1 := ⟨_, rfl⟩
 obtain ⟨q, hq⟩ := nm_ w.heap.size;have hf1 : Fr (fun _ => False) w w1 := by rw [← hw1]; exact (Fr.refl _ _).alloc _
 have ht1 : Rd w1 (some ⟨q, 0, none⟩) 1 ([[97]].map tc) := by rw [← hw1]; exact Rd.cells hq.symm [.string ⟨#[97]⟩] _
 obtain ⟨p, w2, hp, hw2, hz2, hf2⟩ := new_zero w1;have hops : Ops w2 (some ⟨p, 0, none⟩) 1 [⟨zeroO, none, 0⟩] := Ops.row (L := [⟨zeroO, none, 0⟩]) (by have h : Row w2 p 56 (ols ⟨zeroO, none, 0⟩) := hz2; simpa using h) (fun x hx => by simp at hx; subst hx; exact ⟨Prs.nil _ _, Nat.le_refl _, Nat.zero_le _⟩);have hput := cPut_any (some ⟨q, 0, none⟩) 1 1 [[97]] (some ⟨p, 0, none⟩) 1 1 _ w2 (ht1.fr hf2 (fun _ _ h => h)) (by omega) (by simp) hops (by intro x hx; simp at hx; subst hx; exact ⟨by decide, by decide, by decide, by decide, by decide, fun y hy => by cases hy⟩) fit_zero;rw [show ([⟨zeroO, none, 0⟩] : List Om).map Om.o = [zeroO] from rfl, example19] at hput;have HPUT := hid hput;have HF2 := hid (hf1.trans hf2 im_);clear hput hops ht1 hf1 hf2;clear hz2;go_enter Tryz.func7, Tryz.ntmps7;go_wp2_with fail;clear hw1 hw2 hp hq;refine HPUT.out.mono ?_;rintro e w3 ⟨A, n, c, K, rfl, hC, hK, hn, hc, _, hf3⟩;have HF3 := hid (HF2.out.trans hf3 im_);have hln := hC.1.1;have hk2 : K.length = 2 := by have := congrArg List.length hK; simpa using this
 obtain ⟨x, y, rfl⟩ : ∃ x y, K = [x, y] := by
  match K, hk2 with
  | [x, y], _ => exact ⟨x, y, rfl⟩
 · obtain rfl : 2 = n := hln;simp only [List.map_cons, List.map_nil, List.cons.injEq, Cl.v, Prod.mk.injEq, and_true] at hK;obtain ⟨⟨i1, b1⟩, i2, b2⟩ := hK;obtain ⟨g, o, rfl, _, c0, c1⟩ := hC.1.2 0 x rfl;obtain ⟨g2, o2, e2, _, c2, c3⟩ := hC.1.2 1 y rfl;injection e2 with e2
   injection e2 with e3 e4
   subst e3 e4;have r1 := str_rd (hC.2 x (by simp)).1 x.c;have r2 := str_rd (hC.2 y (by simp)).1 y.c;simp only [idc, dac, i1, i2, b1, b2] at c0 c1 c2 c3 r1 r2;rw [show o + 0 * 2 = o by omega] at c0 c1;rw [show o + 1 * 2 = o + 2 by omega] at c2 c3;rw [show ((19 : Nat) : Int) = 19 from rfl] at c0;rw [show ((66 : Nat) : Int) = 66 from rfl] at c2;rw [show ([127, 0] : List UInt8).length = 2 from rfl] at c1 c3 r1 r2;rw [show txt [127, 0] = ⟨#[127, 0]⟩ from rfl] at r1 r2;clear hC hf3 i1 b1 i2 b2;go_wp2_with fail;exact bodyPost_ret (v := .bool true) (by simp [results, Tryz.results7, go_sem]) rfl ⟨rfl, HF3.out⟩
theorem right19_any (A : Option Addr) (n c : Nat) (L : List Om) (w : World) (hL : Ops w A n L) (hn : n ≤ 1000000) (hok : ∀ x ∈ L, x.short ∧ x.o.val.ok) :
    Calls Tryz.prog 9 #[.slice A n c] w fun e w' => ∃ A' c' M, M = L.filter (fun x => rightO x.o) ∧ e = .returned (.slice A' M.length c') ∧ OwnO w' w.heap.size A' c' M ∧ Ops w' A' M.length M ∧ Fr (fun _ => False) w w' := by
 have HL := hid hL;have HLN := hid hL.len;have HOK := hid hok;clear hL hok;go_enter Tryz.func9, Tryz.ntmps9;go_wp2_with fail
 go_loopw [3, 4] (fun v i wr => ∃ k : Nat, k ≤ n ∧ i = .int .i64 (k : Int) ∧ ∃ A1 c1 M, v = .slice A1 M.length c1 ∧ Hid (M = (L.take k).filter (fun x => rightO x.o)) ∧ Hid (OwnO wr w.heap.size A1 c1 M) ∧ Hid (Fr (fun _ => False) w wr)) (fun _ i _ => n - (intOf i).toNat)
 case atStart => exact ⟨0, Nat.zero_le _, rfl, none, 0, [], rfl, (rfl : ([] : List Om) = _), OwnO.nil _ _, hid (Fr.refl _ _)⟩
 case round =>
  obtain ⟨k, hk, rfl, A1, c1, M, rfl, HM, HO, HF⟩ := hrel
  rename World => wr
  by_cases hlt : k < n
  · obtain ⟨x, hx⟩ : ∃ x, L[k]? = some x := ⟨_, List.getElem?_eq_getElem (by have := HLN.out; omega)⟩
    have hLr := HL.out.fr HF.out;obtain ⟨b, o, rfl, hb, hat⟩ := hLr.1.2 k x hx;obtain ⟨k0, k1, k2, k3, k4, k5, k6, k7, k8, k9, k10, k11, k12⟩ := hat;have hxm := List.mem_of_getElem? hx;have hro := roRight_any x wr (HOK.out x hxm).1 (HOK.out x hxm).2 (hLr.2 x hxm);have hml : M.length ≤ k := by
     rw [HM.out];exact Nat.le_trans (List.length_filter_le _ _) (by rw [List.length_take]; exact Nat.min_le_left _ _)
    have HMK : Hid ((L.take (k + 1)).filter (fun x => rightO x.o) = if rightO x.o = true then M ++ [x] else M) := hid (by
     rw [List.take_add_one, hx, List.filter_append, HM.out];cases h : rightO x.o <;> simp [h])
    obtain ⟨r, hr⟩ := nm_ (rightO x.o);rw [hr] at hro HMK;simp only [opc] at hro;have HRO := hid hro;have HAT : Hid (Oat wr b (o + k * 13) x) := hid ⟨k0, k1, k2, k3, k4, k5, k6, k7, k8, k9, k10, k11, k12⟩;clear hx hxm hro hr hLr hb;go_wp2_with fail;refine HRO.out.mono ?_;rintro e w2 ⟨rfl, hf2⟩;have HF2 := hid (HF.out.trans hf2 im_);have HO2 := hid (HO.out.fr hf2);have hat2 := HAT.out.fr hf2 (fun h => h);clear hf2 k0 k1 k2 k3 k4 k5 k6 k7 k8 k9 k10 k11 k12;cases r with
    | false =>
     have HM2 : Hid (M = (L.take (k + 1)).filter (fun x => rightO x.o)) := hid (by rw [HMK.out]; simp);go_wp2_with fail;exact ⟨⟨k + 1, by omega, by go_num, A1, c1, M, rfl, HM2, HO2, HF2⟩, by simp [intOf]; omega⟩
    | true =>
     obtain ⟨k0, k1, k2, k3, k4, k5, k6, k7, k8, k9, k10, k11, k12⟩ := hat2;obtain ⟨q, w4, hq, hw4, hr4, hf4⟩ := new_ols w2 x;have hcs : ∀ j u, (ols x)[j]? = some u → w4.cell? ((⟨q, 0, none⟩ : Addr).add j) = some u := fun j u hu => by
      rw [mid_add, Nat.zero_add];exact Row.cell hr4 hu
     have HCS := hid hcs;have HO4 := hid (HO2.out.fr hf4);have HF4 := hid (HF2.out.trans hf4 im_);have HB4 : Hid (w.heap.size ≤ w4.heap.size) := hid HF4.out.size;obtain ⟨N, hN⟩ : ∃ N, N = M.length + 1 := ⟨_, rfl⟩
     have hNk : N ≤ 1000001 := by omega
     have HN := hid hN;clear hcs hr4 hf4 hN;go_wp2_with (at_builtin; refine wpList_appS opTS _ rfl _ _ rfl w.heap.size _ M.length (M.flatMap ols) rfl HO4.out ⟨q, 0, none⟩ 1 (ols x) rfl rfl HCS.out (fun u hu => ocell_one [x] u (by simpa using hu)) N HN.out (by unfold maxLen; omega) (by omega) HB4.out ?_)
     intro A5 c5 w5 ho5 _ hf5;obtain ⟨Q, hQ⟩ := nm_ (M ++ [x]);have hQl : N = Q.length := by rw [HN.out, ← hQ]; simp
     have HM5 : Hid (Q = (L.take (k + 1)).filter (fun x => rightO x.o)) := hid (by rw [HMK.out, ← hQ]; simp);have HO5 : Hid (OwnO w5 w.heap.size A5 c5 Q) := hid (by
      unfold OwnO;rw [← hQl, ← hQ, List.flatMap_append, List.flatMap_singleton];exact ho5)
     have HF5 : Hid (Fr (fun _ => False) w w5) := hid (HF4.out.trans hf5 (fun b hb h => by
      have := (HO4.out.lt b h).1;omega))
     subst hQl;clear ho5 hf5 hQ hw4 hq k0 k1 k2 k3 k4 k5 k6 k7 k8 k9 k10 k11 k12;go_wp2_with fail;exact ⟨⟨k + 1, by omega, by go_num, A5, c5, Q, rfl, HM5, HO5, HF5⟩, by simp [intOf]; omega⟩
  · obtain rfl : k = n := by omega
    have hM : M = L.filter (fun x => rightO x.o) := by rw [HM.out, List.take_of_length_le (by have := HLN.out; omega)]
    go_wp2_with fail;refine bodyPost_ret (v := .slice A1 M.length c1) (by simp [results, Tryz.results9, go_sem]) rfl ⟨A1, c1, M, hM, rfl, HO.out, HO.out.ops (fun x hx => ?_), HF.out⟩;rw [hM] at hx;exact (HL.out.2 x (List.mem_filter.1 hx).1).fr0 HF.out
end
section
open Go Go.RowKit LebM UtfM RleM VaM OpM AcM DirM
namespace CsM
def colF {α : Type} (z : α) (n : Nat) (X : List α × Nat) : List α × Bool := if X.2 = 0 ∧ X.1.length = 0 then (List.replicate n z, false) else (X.1, !decide (X.2 = 0) || !decide (X.1.length = n))
def gU (cs : List Col) (id : Int) (n : Nat) : List C × Nat := toC (readG kU n (findC cs id))
def gD (cs : List Col) (id : Int) (n : Nat) : List C × Nat := (sumsF 0 (toC (readG kS n (findC cs id))).1, (toC (readG kS n (findC cs id))).2)
def gW (cs : List Col) (id : Int) (n : Nat) : List (Bool × List UInt8) × Nat := toC (readG kW n (findC cs id))
noncomputable def gB (cs : List Col) (id : Int) (n : Nat) : List Bool × Nat := BooM.getB n (findC cs id)
def colU (cs : List Col) (id : Int) (n : Nat) := colF ((false, 0) : C) n (gU cs id n)
def colD (cs : List Col) (id : Int) (n : Nat) := colF ((false, 0) : C) n (gD cs id n)
def colW (cs : List Col) (id : Int) (n : Nat) := colF ((false, []) : Bool × List UInt8) n (gW cs id n)
noncomputable def colB (cs : List Col) (id : Int) (n : Nat) := colF false n (gB cs id n)
def sumR (L : List C) : Nat := (L.map fun x => (min x.2 16).toNat).sum
def manyR (L : List C) : Bool := L.any fun x => decide (16 < x.2)
def actR (cs : List Col) : List C × Nat := gU cs 66 2000
def nA (cs : List Col) : Nat := (actR cs).1.length
def rowV (cs : List Col) : List V × Nat := getM (findC cs 86) (findC cs 87) (nA cs)
def cntR (cs : List Col) := colU cs 112 (nA cs)
def nP (cs : List Col) : Nat := sumR (cntR cs).1
structure Srd where
 ka : List C
 kc : List C
 kt : List (Bool × List UInt8)
 oa : List C
 oc : List C
 ins : List Bool
 act : List C
 val : List V
 cnt : List C
 pa : List C
 pc : List C
noncomputable def rdS (cs : List Col) : Srd :=
 ⟨(colU cs 17 (nA cs)).1, (colD cs 19 (nA cs)).1, (colW cs 21 (nA cs)).1, (colU cs 1 (nA cs)).1, (colU cs 2 (nA cs)).1, (colB cs 52 (nA cs)).1, (actR cs).1, (rowV cs).1, (cntR cs).1, (colU cs 113 (nP cs)).1, (colD cs 115 (nP cs)).1⟩
noncomputable def badS (cs : List Col) : Bool :=
 ((((((((((((false || !decide ((actR cs).2 = 0)) || (colU cs 1 (nA cs)).2) || (colU cs 2 (nA cs)).2) || (colU cs 17 (nA cs)).2) || (colD cs 19 (nA cs)).2) || (colW cs 21 (nA cs)).2) || (colB cs 52 (nA cs)).2) || !decide ((rowV cs).2 = 0)) || (cntR cs).2) || manyR (cntR cs).1) || (colU cs 113 (nP cs)).2) || (colD cs 115 (nP cs)).2)
def nameP (T : List Tx) (La Lc : List C) (k : Nat) : Nm :=
 ⟨(Lc.getD k (false, 0)).2, if (La.getD k (false, 0)).1 = true ∧ (La.getD k (false, 0)).2 < T.length then T.getD (La.getD k (false, 0)).2.toNat [] else []⟩
def cntN (s : Srd) (k : Nat) : Nat := (s.cnt.getD k (false, 0)).2.toNat
def opR (T : List Tx) (s : Srd) (k x : Nat) : O :=
 ⟨nameP T s.oa s.oc k, (s.kt.getD k (false, [])).2, (s.kt.getD k (false, [])).1, nameP T s.ka s.kc k, s.ins.getD k false, (s.act.getD k (false, 0)).2, s.val.getD k zeroV, (List.range (cntN s k)).map fun j => nameP T s.pa s.pc (x + j)⟩
def opsR (T : List Tx) (s : Srd) : Nat → List O × Nat
 | 0 => ([], 0)
 | k + 1 => ((opsR T s k).1 ++ [opR T s k (opsR T s k).2], (opsR T s k).2 + cntN s k)
noncomputable def getS (T : List Tx) (cs : List Col) : Option (List O) :=
 if badS cs = true then none else
 if ((opsR T (rdS cs) (nA cs)).1.all rightO && decide (putS T (opsR T (rdS cs) (nA cs)).1 = cs)) = true then some (opsR T (rdS cs) (nA cs)).1 else none
theorem sumR_snoc (L : List C) (x : C) : sumR (L ++ [x]) = sumR L + (min x.2 16).toNat := by simp [sumR]
theorem manyR_snoc (L : List C) (x : C) : manyR (L ++ [x]) = (manyR L || decide (16 < x.2)) := by simp [manyR]
theorem sumR_le (L : List C) : sumR L ≤ L.length * 16 := by
 induction L with
 | nil => simp [sumR]
 | cons x L ih =>
  have e : sumR (x :: L) = (min x.2 16).toNat + sumR L := by simp [sumR]
  rw [e, List.length_cons, Nat.add_mul];omega
theorem goodU' : RleM.Good kU mayU := by
 refine ⟨⟨fun _ => rfl, goodU.zero⟩, fun B hB => ⟨⟨?_, (goodU.bd B hB).1⟩, (goodU.bd B hB).2⟩, goodU.pos⟩;by_cases h1 : (gu B).2.2 ≠ 0
 · have e : kU.get B = ((false, 0), 0, (gu B).2.2) := if_pos h1;rw [e];exact fun _ => rfl
 · by_cases h2 : 9223372036854775807 < (gu B).1
   · have e : kU.get B = ((false, 0), 0, 4) := (if_neg h1).trans (if_pos h2);rw [e];exact fun _ => rfl
   · have e : kU.get B = ((true, ((gu B).1 : Int)), (gu B).2.1, 0) := (if_neg h1).trans (if_neg h2);rw [e];intro h;cases h
theorem read_most {κ : Type} [DecidableEq κ] {K : Kd κ} {p : κ → Prop} (hb : Back K p) (hG : RleM.Good K p) {most : Nat} (hm : most ≤ 1000000) {B : List UInt8} (hB : B.length ≤ 1000000) {gs : List (κ × Nat)} (h : readG K most B = .ok gs) : (spreadG gs).length ≤ most := by
 obtain ⟨h1, h2, h3⟩ := read_ok hG (by omega) hB h;by_cases hz : ∃ c ∈ spreadG gs, c ≠ K.zero
 · obtain ⟨c, hc, hz⟩ := hz;have := read_back hb h2 hc hz (by omega) most (by omega);rw [h1, h] at this;split at this
   · omega
   · cases this
 · have hn : B = [] := by
    rw [← h1];exact told_none (fun c hc => Decidable.byContradiction (fun h => hz ⟨c, hc, h⟩))
   subst hn;rw [read_nil _ (by omega)] at h;injection h with h
   subst h;simp [spreadG]
theorem toC_most {κ : Type} [DecidableEq κ] {K : Kd κ} {p : κ → Prop} (hb : Back K p) (hG : RleM.Good K p) {most : Nat} (hm : most ≤ 1000000) {B : List UInt8} (hB : B.length ≤ 1000000) : (toC (readG K most B)).1.length ≤ most ∧ ∀ c ∈ (toC (readG K most B)).1, p c := by
 cases h : readG K most B with
 | ok g => exact ⟨read_most hb hG hm hB h, (read_ok hG (by omega) hB h).2.1⟩
 | error e => exact ⟨Nat.zero_le _, fun c hc => by cases hc⟩
theorem gU_may {cs : List Col} {id : Int} {n : Nat} (hn : n ≤ 1000000) (hB : (findC cs id).length ≤ 1000000) : (gU cs id n).1.length ≤ n ∧ ∀ c ∈ (gU cs id n).1, mayU c := toC_most backU goodU' hn hB
theorem colU_may {cs : List Col} {id : Int} {n : Nat} (hn : n ≤ 1000000) (hB : (findC cs id).length ≤ 1000000) : (colU cs id n).1.length ≤ n ∧ ∀ c ∈ (colU cs id n).1, mayU c := by
 have h := gU_may hn hB;unfold colU colF;split
 · exact ⟨by simp, fun c hc => by rw [(List.mem_replicate.1 hc).2]; exact ⟨fun _ => rfl, goodU.zero⟩⟩
 · exact h
theorem colF_len {α : Type} {z : α} {n : Nat} {X : List α × Nat} (h : (colF z n X).2 = false) : (colF z n X).1.length = n := by
 unfold colF at h ⊢;split
 · simp
 · next hh =>
   rw [if_neg hh] at h;simp at h;exact h.2
end CsM
end
end Go.Proofs.YtbabgnadgdidmaaGreat
