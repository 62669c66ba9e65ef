/-
  Layer 17's laws: awake; Right of one op, of two; what Few tells.
  Layer 19, what the laws share: the document's example; the ops that may be.
  A region that draws its order, walked by an invariant over all orders: from each state that meets I with n operations left, whatever may come up leads to a state with one fewer. Nothing of any program here.
  Layer 19, the reference: a block of slices, some of which have been turned, but aren't stored yet (several appends in one statement).
  Several appends in one statement, each of a slice of one new element: whatever order is drawn (written by layer19/gen_chn.py).
-/
import Derived.Test.YtedmnkcoflbciaaGreatOpW
import Derived.Test.YtedmnkcoflbciaaGreatOpY
import Derived.Test.YtedmnkcoflbciaaGreatOpE
import Derived.Test.YtedmnkcoflbciaaGreatZm35
import Derived.Test.YtedmnkcoflbciaaGreatZm39
import Derived.Deep.RegionHeld3
import Derived.Deep.DrawnRows
import Derived.Lib.Hide
import Derived.Test.YtedmnkcoflbciaaGreatZm29
import Derived.Test.YtedmnkcoflbciaaGreatZm04
namespace Go.Proofs.YtedmnkcoflbciaaGreat
open Go.RowKit Mem Go.Lib LebM UtfM VaM OpM
attribute [local go_sem ↓] Go.wp_at_zero Go.wp_at_succ
set_option linter.unusedVariables false

def Om.lens (x : Om) : Prop := x.o.obj.a.length ≤ 9223372036854775807 ∧ x.o.elem.a.length ≤ 9223372036854775807 ∧ x.o.key.length ≤ 9223372036854775807 ∧ x.o.val.s.length ≤ 9223372036854775807 ∧ x.o.pr.length ≤ 9223372036854775807 ∧ ∀ y ∈ x.o.pr, y.a.length ≤ 9223372036854775807
theorem few_short {L : List Om} (h : fewB L = true) : ∀ x ∈ L, x.short ∧ x.o.pr.length ≤ 40 := by
  intro x hx
  have h1 := List.all_eq_true.1 h x hx
  unfold fewO at h1
  simp only [Bool.and_eq_true, decide_eq_true_eq, List.all_eq_true] at h1
  obtain ⟨⟨⟨⟨⟨h1, h2⟩, h3⟩, h4⟩, h5⟩, h6⟩ := h1
  exact ⟨⟨by omega, by omega, by omega, by omega, by omega, fun y hy => by have := h6 y hy; omega⟩, h1⟩
end Go.Proofs.YtedmnkcoflbciaaGreat
namespace Go.Proofs.YtedmnkcoflbciaaGreat
open Go.RowKit Mem Go.Lib LebM UtfM VaM OpM AcM RleM CsM
attribute [local go_sem ↓] Go.wp_at_zero Go.wp_at_succ
set_option linter.unusedVariables false

/-- the table of the ops that may be -/
theorem fit_right (a : Tx) {L : List Om} {n : Nat} (hn : L.length = n) (h60 : n ≤ 60) (hf : fewB L = true) (hv : ∀ x ∈ L, x.o.val.ok) (ha : a.length ≤ 100) {M : List Om} (hM : M = L.filter (fun x => rightO x.o)) :
    Fit (tabA a (namesM M)) (M.map Om.o) ∧ (∀ x ∈ tabA a (namesM M), x.length ≤ 1000000) ∧ (tabA a (namesM M)).length ≤ 10000 ∧ (∀ x ∈ M, x.short ∧ x.o.pr.length ≤ 40) ∧ M.length ≤ 60 := by
  have hm : ∀ x ∈ M, x ∈ L ∧ rightO x.o = true := fun x hx => by rw [hM] at hx; exact ⟨(List.mem_filter.1 hx).1, by simpa using (List.mem_filter.1 hx).2⟩
  have hs : ∀ x ∈ M, x.short ∧ x.o.pr.length ≤ 40 := fun x hx => few_short hf x (hm x hx).1
  have hml : M.length ≤ 60 := by rw [hM]; exact Nat.le_trans (List.length_filter_le _ _) (by omega)
  have hnl : (namesM M).length ≤ 2520 := by
    have h1 := namesM_len (L := M) (fun x hx => (by have := (hs x hx).2; omega : x.o.pr.length ≤ 1000))
    have h2 : ∀ l : List Om, (∀ x ∈ l, x.o.pr.length ≤ 40) → (namesM l).length ≤ l.length * 42 := by
      intro l
      induction l with
      | nil => intro _; simp [namesM]
      | cons x l ih =>
        intro h
        have h3 := ih (fun y hy => h y (List.mem_cons_of_mem _ hy))
        have h4 := h x (List.mem_cons_self ..)
        have h5 : (namesO x.o).length ≤ x.o.pr.length + 2 := by
          unfold namesO
          exact Nat.le_trans (List.length_filter_le _ _) (by simp)
        unfold namesM at h3 ⊢
        rw [List.flatMap_cons, List.length_append, List.length_cons, Nat.add_mul]
        omega
    have := h2 M (fun x hx => (hs x hx).2)
    omega
  have hol := others_len a (namesM M)
  have hin : ∀ x ∈ M, ∀ y ∈ x.o.obj :: x.o.elem :: x.o.pr, zeroB y = false → y.a ∈ tabA a (namesM M) := fun x hx y hy hz => by
    have h1 : y ∈ namesM M := List.mem_flatMap.2 ⟨x, hx, List.mem_filter.2 ⟨hy, by simp [hz]⟩⟩
    unfold tabA
    by_cases e : y.a = a
    · rw [e]; exact List.mem_cons_self ..
    · exact List.mem_cons_of_mem _ ((AcM.others_mem a _ _).2 ⟨e, y, h1, rfl⟩)
  have hns := names_shortR (fun x hx => (hs x hx).1)
  refine ⟨⟨fun o ho => ?_, fun o ho => ?_, fun o ho => ?_, by rw [List.length_map]; omega, by unfold tabA; rw [List.length_cons]; omega⟩, fun x hx => ?_, by unfold tabA; rw [List.length_cons]; omega, hs, hml⟩
  · obtain ⟨x, hx, rfl⟩ := List.mem_map.1 ho
    exact (hm x hx).2
  · obtain ⟨x, hx, rfl⟩ := List.mem_map.1 ho
    exact hv x (hm x hx).1
  · obtain ⟨x, hx, rfl⟩ := List.mem_map.1 ho
    exact ⟨hin x hx _ (by simp), hin x hx _ (by simp), fun y hy => hin x hx y (by simp [hy])⟩
  · rcases List.mem_cons.1 hx with rfl | hx
    · omega
    · obtain ⟨_, y, hy, rfl⟩ := (AcM.others_mem a _ x).1 hx
      exact hns y hy
theorem tU_none {L : List C} (h : ∀ c ∈ L, c = (false, 0)) : tU L = [] := told_none h
theorem example19 : putS [[97]] [zeroO] = [(19, [127, 0]), (66, [127, 0])] := by
  have hz : zeroB zeroN = true := eqN_self _
  have s0 : s 0 = [0] := by rw [s_small (by omega)]; rfl
  have s1 : s (-1) = [127] := by rw [s_small (by omega)]; rfl
  have u0 : u 0 = [0] := by rw [u_small (by omega)]; rfl
  have e1 : tU [((false, 0) : C)] = [] := tU_none (by simp)
  have e2 : tD [((true, 0) : C)] = [127, 0] := by
    have h1 : stepsF 0 [((true, 0) : C)] = [(true, 0)] := by decide
    unfold tD
    rw [h1]
    show tellW kS [(((true, 0) : C), 1)] = _
    rw [tellW_one (by simp [kS]), tell_other (by simp [kS]) (by omega)]
    simp [othersG, kS, puts, tell_nil, s0, s1]
  have e3 : tU [((true, 0) : C)] = [127, 0] := by
    unfold tU
    show tellW kU [(((true, 0) : C), 1)] = _
    rw [tellW_one (by simp [kU]), tell_other (by simp [kU]) (by omega)]
    simp [othersG, kU, puts, tell_nil, u0, s1]
  have e4 : tW [((false, []) : Bool × List UInt8)] = [] := told_none (K := kW) (x := [((false, []) : Bool × List UInt8)]) (by simp [kW])
  have e5 : BooM.putB [false] = [] := by
    have h : (BooM.numsB [false]).length = 1 := (BooM.nums_some _).2 (by simp)
    unfold BooM.putB
    rw [if_pos h]
  have e6 : putM [zeroV] = [] ∧ putB [zeroV] = [] := by
    have := put_nulls 1
    simpa using this
  have e7 : tU [] = [] := rfl
  have e8 : tD [] = [] := rfl
  unfold putS colsA DirM.full prs
  simp [zeroO, CsM.oneA, oneC, keyC, keyT, numC, hz, e1, e2, e3, e4, e5, e6.1, e6.2, e7, e8]
theorem fit_zero : Fit [[97]] [zeroO] := by
  have hz : zeroB zeroN = true := eqN_self _
  refine ⟨fun o ho => ?_, fun o ho => ?_, fun o ho => ?_, by simp, by simp⟩
  · simp at ho; subst ho; decide
  · simp at ho; subst ho; exact ⟨by decide, by decide, by decide⟩
  · simp at ho; subst ho
    exact ⟨(fun h => absurd h (by rw [show zeroO.obj = zeroN from rfl, hz]; simp)), (fun h => absurd h (by rw [show zeroO.elem = zeroN from rfl, hz]; simp)), (fun x hx => by cases hx)⟩
set_option maxRecDepth 100000 in
set_option maxHeartbeats 6400000 in
theorem awake19_any (w : World) : Calls Tryz.prog 6 #[] w fun e w' => e = .returned (.bool true) ∧ Fr (fun _ => False) w w' := by
  obtain ⟨w1, hw1⟩ : ∃ w1, w.alloc (.cells #[.string ⟨#[97]⟩] 9) = w1 := ⟨_, rfl⟩
  obtain ⟨q, hq⟩ : ∃ q, w.heap.size = q := ⟨_, rfl⟩
  have hf1 : Fr (fun _ => False) w w1 := by rw [← hw1]; exact (Fr.refl _ _).alloc _
  have ht1 : Rd w1 (some ⟨q, 0, none⟩) 1 ([[97]].map tc) := by rw [← hw1]; exact Rd.cells hq.symm [.string ⟨#[97]⟩] _
  obtain ⟨p, w2, hp, hw2, hz2, hf2⟩ := new_zero w1
  have hops : Ops w2 (some ⟨p, 0, none⟩) 1 [⟨zeroO, none, 0⟩] := Ops.row (L := [⟨zeroO, none, 0⟩]) (by have h : Row w2 p 55 (ols ⟨zeroO, none, 0⟩) := hz2; simpa using h) (fun x hx => by simp at hx; subst hx; exact ⟨Prs.nil _ _, Nat.le_refl _, Nat.zero_le _⟩)
  have hput := cPut_any (some ⟨q, 0, none⟩) 1 1 [[97]] (some ⟨p, 0, none⟩) 1 1 _ w2 (ht1.fr hf2 (fun _ _ h => h)) (by omega) (by simp) hops (by intro x hx; simp at hx; subst hx; exact ⟨by decide, by decide, by decide, by decide, by decide, fun y hy => by cases hy⟩) fit_zero
  rw [show ([⟨zeroO, none, 0⟩] : List Om).map Om.o = [zeroO] from rfl, example19] at hput
  have HPUT := Lib.hid hput
  have HF2 := Lib.hid (hf1.trans hf2 (fun _ _ h => h))
  clear hput hops ht1 hf1 hf2
  clear hz2
  go_enter Tryz.func6, Tryz.ntmps6
  go_wp2_with fail
  clear hw1 hw2 hp hq
  refine HPUT.out.mono ?_
  rintro e w3 ⟨A, n, c, K, rfl, hC, hK, hn, hc, _, hf3⟩
  have HF3 := Lib.hid (HF2.out.trans hf3 (fun _ _ h => h))
  have hln := hC.1.1
  have hk2 : K.length = 2 := by have := congrArg List.length hK; simpa using this
  obtain ⟨x, y, rfl⟩ : ∃ x y, K = [x, y] := by
    match K, hk2 with
    | [x, y], _ => exact ⟨x, y, rfl⟩
  · obtain rfl : 2 = n := hln
    simp only [List.map_cons, List.map_nil, List.cons.injEq, Cl.v, Prod.mk.injEq, and_true] at hK
    obtain ⟨⟨i1, b1⟩, i2, b2⟩ := hK
    obtain ⟨g, o, rfl, _, c0, c1⟩ := hC.1.2 0 x rfl
    obtain ⟨g2, o2, e2, _, c2, c3⟩ := hC.1.2 1 y rfl
    injection e2 with e2
    injection e2 with e3 e4
    subst e3 e4
    have r1 := str_rd (hC.2 x (by simp)).1 x.c
    have r2 := str_rd (hC.2 y (by simp)).1 y.c
    simp only [idc, dac, i1, i2, b1, b2] at c0 c1 c2 c3 r1 r2
    rw [show o + 0 * 2 = o by omega] at c0 c1
    rw [show o + 1 * 2 = o + 2 by omega] at c2 c3
    rw [show ((19 : Nat) : Int) = 19 from rfl] at c0
    rw [show ((66 : Nat) : Int) = 66 from rfl] at c2
    rw [show ([127, 0] : List UInt8).length = 2 from rfl] at c1 c3 r1 r2
    rw [show txt [127, 0] = ⟨#[127, 0]⟩ from rfl] at r1 r2
    clear hC hf3 i1 b1 i2 b2
    go_wp2_with fail
    exact bodyPost_ret (v := .bool true) (by simp [results, Tryz.results6, go_sem]) rfl ⟨rfl, HF3.out⟩
set_option maxRecDepth 100000 in
set_option maxHeartbeats 6400000 in
/-- those of any ops that may be -/
theorem right19_any (A : Option Addr) (n c : Nat) (L : List Om) (w : World) (hL : Ops w A n L) (hn : n ≤ 1000000) (hok : ∀ x ∈ L, x.short ∧ x.o.val.ok) :
    Calls Tryz.prog 8 #[.slice A n c] w fun e w' => ∃ A' c' M, M = L.filter (fun x => rightO x.o) ∧ e = .returned (.slice A' M.length c') ∧ OwnO w' w.heap.size A' c' M ∧ Ops w' A' M.length M ∧ Fr (fun _ => False) w w' := by
  have HL := Lib.hid hL
  have HLN := Lib.hid hL.len
  have HOK := Lib.hid hok
  clear hL hok
  go_enter Tryz.func8, Tryz.ntmps8
  go_wp2_with fail
  go_loopw [3, 4] (fun v i wr => ∃ k : Nat, k ≤ n ∧ i = .int .i64 (k : Int) ∧ ∃ A1 c1 M, v = .slice A1 M.length c1 ∧ Hid (M = (L.take k).filter (fun x => rightO x.o)) ∧ Hid (OwnO wr w.heap.size A1 c1 M) ∧ Hid (Fr (fun _ => False) w wr)) (fun _ i _ => n - (intOf i).toNat)
  case atStart => exact ⟨0, Nat.zero_le _, rfl, none, 0, [], rfl, (rfl : ([] : List Om) = _), OwnO.nil _ _, Lib.hid (Fr.refl _ _)⟩
  case round =>
    obtain ⟨k, hk, rfl, A1, c1, M, rfl, HM, HO, HF⟩ := hrel
    rename World => wr
    by_cases hlt : k < n
    · obtain ⟨x, hx⟩ : ∃ x, L[k]? = some x := ⟨_, List.getElem?_eq_getElem (by have := HLN.out; omega)⟩
      have hLr := HL.out.fr HF.out
      obtain ⟨b, o, rfl, hb, hat⟩ := hLr.1.2 k x hx
      obtain ⟨k0, k1, k2, k3, k4, k5, k6, k7, k8, k9, k10, k11, k12⟩ := hat
      have hxm := List.mem_of_getElem? hx
      have hro := roRight_any x wr (HOK.out x hxm).1 (HOK.out x hxm).2 (hLr.2 x hxm)
      have hml : M.length ≤ k := by
        rw [HM.out]
        exact Nat.le_trans (List.length_filter_le _ _) (by rw [List.length_take]; exact Nat.min_le_left _ _)
      have HMK : Hid ((L.take (k + 1)).filter (fun x => rightO x.o) = if rightO x.o = true then M ++ [x] else M) := Lib.hid (by
        rw [List.take_add_one, hx, List.filter_append, HM.out]
        cases h : rightO x.o <;> simp [h])
      obtain ⟨r, hr⟩ : ∃ r, rightO x.o = r := ⟨_, rfl⟩
      rw [hr] at hro HMK
      simp only [opc] at hro
      have HRO := Lib.hid hro
      have HAT : Hid (Oat wr b (o + k * 13) x) := Lib.hid ⟨k0, k1, k2, k3, k4, k5, k6, k7, k8, k9, k10, k11, k12⟩
      clear hx hxm hro hr hLr hb
      go_wp2_with fail
      refine HRO.out.mono ?_
      rintro e w2 ⟨rfl, hf2⟩
      have HF2 := Lib.hid (HF.out.trans hf2 (fun _ _ h => h))
      have HO2 := Lib.hid (HO.out.fr hf2)
      have hat2 := HAT.out.fr hf2 (fun h => h)
      clear hf2 k0 k1 k2 k3 k4 k5 k6 k7 k8 k9 k10 k11 k12
      cases r with
      | false =>
        have HM2 : Hid (M = (L.take (k + 1)).filter (fun x => rightO x.o)) := Lib.hid (by rw [HMK.out]; simp)
        go_wp2_with fail
        exact ⟨⟨k + 1, by omega, by go_num, A1, c1, M, rfl, HM2, HO2, HF2⟩, by simp [intOf]; omega⟩
      | true =>
        obtain ⟨k0, k1, k2, k3, k4, k5, k6, k7, k8, k9, k10, k11, k12⟩ := hat2
        obtain ⟨q, w4, hq, hw4, hr4, hf4⟩ := new_ols w2 x
        have hcs : ∀ j u, (ols x)[j]? = some u → w4.cell? ((⟨q, 0, none⟩ : Addr).add j) = some u := fun j u hu => by
          rw [mid_add, Nat.zero_add]
          exact Row.cell hr4 hu
        have HCS := Lib.hid hcs
        have HO4 := Lib.hid (HO2.out.fr hf4)
        have HF4 := Lib.hid (HF2.out.trans hf4 (fun _ _ h => h))
        have HB4 : Hid (w.heap.size ≤ w4.heap.size) := Lib.hid HF4.out.size
        obtain ⟨N, hN⟩ : ∃ N, N = M.length + 1 := ⟨_, rfl⟩
        have hNk : N ≤ 1000001 := by omega
        have HN := Lib.hid hN
        clear hcs hr4 hf4 hN
        go_wp2_with (at_builtin; refine wpList_appS opTS _ rfl _ _ rfl w.heap.size _ M.length (M.flatMap ols) rfl HO4.out ⟨q, 0, none⟩ 1 (ols x) rfl rfl HCS.out (fun u hu => ocell_one [x] u (by simpa using hu)) N HN.out (by unfold maxLen; omega) (by omega) HB4.out ?_)
        intro A5 c5 w5 ho5 _ hf5
        obtain ⟨Q, hQ⟩ : ∃ Q, M ++ [x] = Q := ⟨_, rfl⟩
        have hQl : N = Q.length := by rw [HN.out, ← hQ]; simp
        have HM5 : Hid (Q = (L.take (k + 1)).filter (fun x => rightO x.o)) := Lib.hid (by rw [HMK.out, ← hQ]; simp)
        have HO5 : Hid (OwnO w5 w.heap.size A5 c5 Q) := Lib.hid (by
          unfold OwnO
          rw [← hQl, ← hQ, List.flatMap_append, List.flatMap_singleton]
          exact ho5)
        have HF5 : Hid (Fr (fun _ => False) w w5) := Lib.hid (HF4.out.trans hf5 (fun b hb h => by
          have := (HO4.out.lt b h).1
          omega))
        subst hQl
        clear ho5 hf5 hQ hw4 hq k0 k1 k2 k3 k4 k5 k6 k7 k8 k9 k10 k11 k12
        go_wp2_with fail
        exact ⟨⟨k + 1, by omega, by go_num, A5, c5, Q, rfl, HM5, HO5, HF5⟩, by simp [intOf]; omega⟩
    · obtain rfl : k = n := by omega
      have hM : M = L.filter (fun x => rightO x.o) := by rw [HM.out, List.take_of_length_le (by have := HLN.out; omega)]
      go_wp2_with fail
      refine bodyPost_ret (v := .slice A1 M.length c1) (by simp [results, Tryz.results8, go_sem]) rfl ⟨A1, c1, M, hM, rfl, HO.out, HO.out.ops (fun x hx => ?_), HF.out⟩
      rw [hM] at hx
      exact (HL.out.2 x (List.mem_filter.1 hx).1).fr0 HF.out
end Go.Proofs.YtedmnkcoflbciaaGreat
namespace Go.Proofs.YtedmnkcoflbciaaGreat
open Go

theorem wpAnyH_inv {P : Program} {md : Region.Mode} {ops : Array Oper} {Q : Exit → Act → World → Prop} {S : World → Prop} {f0 : Nat} (I : Nat → Array Bool → Act → World → Prop)
    (h0 : ∀ l a w, I 0 l a w → wpAnyH P md ops Q S f0 l a w)
    (hs : ∀ n l a w, I (n + 1) l a w → (∀ m, m ≤ n → ∀ l a w, I m l a w → wpAnyH P md ops Q S (f0 + m) l a w) →
      Region.ready md ops l ≠ [] ∧ ∀ i ∈ Region.ready md ops l, ∀ K : Act → World → Prop, Shut (∀ a' w', S w' → wpAnyH P md ops Q S (f0 + n) (l.setIfInBounds i true) a' w' → K a' w') → wpOp P ops Q i K a w) :
    ∀ (n : Nat) (l : Array Bool) (a : Act) (w : World), I n l a w → wpAnyH P md ops Q S (f0 + n) l a w := by
  intro n
  induction n using Nat.strongRecOn with
  | _ n ih =>
    intro l a w h
    cases n with
    | zero => exact h0 l a w h
    | succ n =>
      have h2 := hs n l a w h (fun m hm => ih m (by omega))
      exact ⟨fun e => absurd e h2.1, fun i hi => h2.2 i hi _ (fun a' w' h1 h2 => ⟨h1, h2⟩)⟩
/-- an operation, written out -/
theorem wpOp_at {P : Program} {ops : Array Oper} {Q : Exit → Act → World → Prop} {i : Nat} {o : Oper} {K : Act → World → Prop} {a : Act} {w : World} (ho : ops[i]? = some o)
    (h : if Region.wanted o (yielded ops a.tmps) = true then Oper.wp P o a w K Q else K (a.put o.dst undef) w) : wpOp P ops Q i K a w := by
  unfold wpOp
  simp only [ho]
  split
  · next hw => rw [if_pos hw] at h; exact .inl h
  · next hw => rw [if_neg hw] at h; exact h
end Go.Proofs.YtedmnkcoflbciaaGreat
namespace Go.Proofs.YtedmnkcoflbciaaGreat
open Go.RowKit Mem Go.Lib LebM UtfM VaM OpM AcM RleM CsM
set_option linter.unusedVariables false

/-- V lies in block g; R are the rows as they are by now -/
structure ShL (st : TypeId) (w : World) (base g : Nat) (D : Nat → Prop) (V : List Value) (R : List Rw) : Prop where
  row : Row w g st V
  all : ∀ r ∈ R, r.own w base
  sep : R.Pairwise apartR
  off : ∀ r ∈ R, r.v.ownBlock ≠ some g
  base : base ≤ g
  far : ∀ k, D k → k ≠ g ∧ ∀ r ∈ R, r.v.ownBlock ≠ some k
  lt : ∀ k, D k → k < w.heap.size
section
variable {st : TypeId} {w w' : World} {base g : Nat} {D D' : Nat → Prop} {V : List Value} {R : List Rw}
theorem ShL.fr0 (h : ShL st w base g D V R) (hf : Fr (fun _ => False) w w') : ShL st w' base g D V R :=
  ⟨h.row.fr hf (fun h => h), fun r hr => hf.own (h.all r hr) (fun _ _ h => h), h.sep, h.off, h.base, h.far, fun k hk => Nat.lt_of_lt_of_le (h.lt k hk) hf.size⟩
/-- other blocks that aren't the rows': new ones among them -/
theorem ShL.more (h : ShL st w base g D V R) (hf : Fr (fun _ => False) w w') (hD : ∀ k, D' k → (D k ∨ w.heap.size ≤ k) ∧ k < w'.heap.size) : ShL st w' base g D' V R := by
  have h2 := h.fr0 hf
  refine ⟨h2.row, h2.all, h2.sep, h2.off, h2.base, fun k hk => ?_, fun k hk => (hD k hk).2⟩
  rcases (hD k hk).1 with hd | hd
  · exact h.far k hd
  · have := h.row.lt
    exact ⟨by omega, fun r hr e => by have := own_lt (h.all r hr) e; omega⟩
theorem ShL.less (h : ShL st w base g D V R) (hD : ∀ k, D' k → D k) : ShL st w base g D' V R := ⟨h.row, h.all, h.sep, h.off, h.base, fun k hk => h.far k (hD k hk), fun k hk => h.lt k (hD k hk)⟩
/-- row i turned within its own block, or moved into a new one -/
theorem ShL.turn {w2 : World} {i : Nat} {r q : Rw} (h : ShL st w base g D V R) (hi : R[i]? = some r) (hf : Fr (fun k => r.v.ownBlock = some k) w w2) (hq : q.own w2 base)
    (hat : q.v.ownBlock = r.v.ownBlock ∨ q.v.ownBlock = some w.heap.size) : ShL st w2 base g D V (R.set i q) := by
  have hg : r.v.ownBlock ≠ some g := h.off r (List.mem_of_getElem? hi)
  have hgl := h.row.lt
  have hqg : q.v.ownBlock ≠ some g := by
    rcases hat with e | e
    · rw [e]; exact hg
    · rw [e]; intro e2; injection e2 with e2; omega
  have hqa : ∀ j y, j ≠ i → R[j]? = some y → apartR q y := by
    intro j y hj hy k hk hk2
    have h1 := pw_get apart_comm h.sep hi hy hj
    rcases hat with e | e
    · rw [e] at hk; exact h1 k hk hk2
    · rw [e] at hk
      injection hk with hk
      have := own_lt (h.all y (List.mem_of_getElem? hy)) hk2
      omega
  refine ⟨h.row.fr hf hg, ?_, pw_set apart_comm h.sep hqa, ?_, h.base, ?_, fun k hk => Nat.lt_of_lt_of_le (h.lt k hk) hf.size⟩
  · intro y hy
    obtain ⟨j, hj⟩ := List.mem_iff_getElem?.1 hy
    by_cases hji : j = i
    · subst hji
      rw [List.getElem?_set_self (List.getElem?_eq_some_iff.1 hi).1] at hj
      injection hj with hj
      rw [← hj]
      exact hq
    · rw [List.getElem?_set_ne (fun e => hji e.symm)] at hj
      exact hf.own (h.all y (List.mem_of_getElem? hj)) (fun k hk e => pw_get apart_comm h.sep hi hj hji k e hk)
  · intro y hy
    rcases List.mem_or_eq_of_mem_set hy with hy | rfl
    · exact h.off y hy
    · exact hqg
  · intro k hk
    refine ⟨(h.far k hk).1, fun y hy e => ?_⟩
    rcases List.mem_or_eq_of_mem_set hy with hy | rfl
    · exact (h.far k hk).2 y hy e
    · rcases hat with e2 | e2
      · rw [e2] at e; exact (h.far k hk).2 r (List.mem_of_getElem? hi) e
      · rw [e2] at e
        injection e with e
        have := h.lt k hk
        omega
/-- a slice is stored -/
theorem ShL.store (h : ShL st w base g D V R) (i : Nat) (v : Value) : ShL st (w.setCell ⟨g, i, none⟩ v) base g D (V.set i v) R := by
  have hs := Fr.set1 w g i v
  exact ⟨h.row.set i v, fun r hr => hs.own (h.all r hr) (fun k hk e => h.off r hr (by rw [hk, e])), h.sep, h.off, h.base, h.far, fun k hk => Nat.lt_of_lt_of_le (h.lt k hk) hs.size⟩
end
end Go.Proofs.YtedmnkcoflbciaaGreat
namespace Go.Proofs.YtedmnkcoflbciaaGreat
open Go Mem

/-- where one of several appends stands: its element isn't made; it is made, in block k; it is appended -/
structure Chn (w : World) (D : Nat → Prop) (r : Rw) (cs : List Value) (b a : Bool) (x y : Value) (q : Rw) : Prop where
  old : a = false → q = r
  made : b = true → a = false → ∃ k, x = .slice (some ⟨k, 0, none⟩) 1 1 ∧ Row w k r.ct.e cs ∧ D k
  done : a = true → ∃ A c, y = .slice A (r.ct.n + 1) c ∧ q = ⟨⟨r.ct.e, r.ct.s, r.ct.n + 1, r.ct.xs ++ cs⟩, A, c⟩
theorem Chn.zero {w : World} {D : Nat → Prop} {r : Rw} {cs : List Value} {x y : Value} : Chn w D r cs false false x y r := ⟨fun _ => rfl, (fun h => by cases h), (fun h => by cases h)⟩
theorem Chn.fr {S : Nat → Prop} {w w' : World} {D D' : Nat → Prop} {r q : Rw} {cs : List Value} {b a : Bool} {x y : Value} (h : Chn w D r cs b a x y q) (hf : Fr S w w') (hS : ∀ k, D k → ¬ S k) (hD : ∀ k, D k → D' k) : Chn w' D' r cs b a x y q :=
  ⟨h.old, fun h1 h2 => by obtain ⟨k, e, hr, hk⟩ := h.made h1 h2; exact ⟨k, e, hr.fr hf (hS k hk), hD k hk⟩, h.done⟩
theorem cnt_c (b : Bool) : (bif b then 0 else 1) = 0 → b = true := by cases b <;> simp
theorem mem_bb (b : Bool) : b ∈ [false, true] := by cases b <;> simp
def ok3 (b0 b1 b2 a0 a1 a2 : Bool) : Bool := (b0 || !a0) && (b1 || !a1) && (b2 || !a2) && (a0 || !a1) && (a1 || !a2)
def cnt3 (b0 b1 b2 a0 a1 a2 : Bool) : Nat := (bif b0 then 0 else 1) + (bif b1 then 0 else 1) + (bif b2 then 0 else 1) + (bif a0 then 0 else 1) + (bif a1 then 0 else 1) + (bif a2 then 0 else 1)
def chk3 (md : Region.Mode) (ops : Array Oper) (F : Bool → Bool → Bool → Bool → Bool → Bool → Array Bool) (e0 e1 e2 d0 d1 d2 : Nat) : Bool :=
  [false, true].all fun b0 => [false, true].all fun b1 => [false, true].all fun b2 => [false, true].all fun a0 => [false, true].all fun a1 => [false, true].all fun a2 => !(ok3 b0 b1 b2 a0 a1 a2) || (b0 && b1 && b2 && a0 && a1 && a2) || (!(Region.ready md ops (F b0 b1 b2 a0 a1 a2)).isEmpty && (Region.ready md ops (F b0 b1 b2 a0 a1 a2)).all fun i => (i == e0 && !b0) || (i == e1 && !b1) || (i == e2 && !b2) || (i == d0 && (b0 && (!a0))) || (i == d1 && (b1 && (!a1 && a0))) || (i == d2 && (b2 && (!a2 && a1))))
theorem rdy3 {md : Region.Mode} {ops : Array Oper} (F : Bool → Bool → Bool → Bool → Bool → Bool → Array Bool) (e0 e1 e2 d0 d1 d2 : Nat) (h : chk3 md ops F e0 e1 e2 d0 d1 d2 = true) {b0 b1 b2 a0 a1 a2 : Bool} (hok : ok3 b0 b1 b2 a0 a1 a2 = true) (hn : (b0 && b1 && b2 && a0 && a1 && a2) = false) {p : Nat → Prop}
    (hb0 : b0 = false → p e0) (hb1 : b1 = false → p e1) (hb2 : b2 = false → p e2)
    (hg0 : b0 = true → a0 = false → p d0) (hg1 : b1 = true → a1 = false → a0 = true → p d1) (hg2 : b2 = true → a2 = false → a1 = true → p d2) :
    Region.ready md ops (F b0 b1 b2 a0 a1 a2) ≠ [] ∧ ∀ i ∈ Region.ready md ops (F b0 b1 b2 a0 a1 a2), p i := by
  unfold chk3 at h
  replace h := List.all_eq_true.1 h b0 (mem_bb _)
  replace h := List.all_eq_true.1 h b1 (mem_bb _)
  replace h := List.all_eq_true.1 h b2 (mem_bb _)
  replace h := List.all_eq_true.1 h a0 (mem_bb _)
  replace h := List.all_eq_true.1 h a1 (mem_bb _)
  replace h := List.all_eq_true.1 h a2 (mem_bb _)
  simp only [hok, hn, Bool.not_true, Bool.false_or, Bool.and_eq_true] at h
  refine ⟨fun e => by rw [e] at h; simp at h, fun i hi => ?_⟩
  have h2 := List.all_eq_true.1 h.2 i hi
  simp only [Bool.or_eq_true, Bool.and_eq_true, beq_iff_eq, Bool.not_eq_true'] at h2
  rcases h2 with (((((h2 | h2) | h2) | h2) | h2) | h2)
  · rw [h2.1]; exact hb0 h2.2
  · rw [h2.1]; exact hb1 h2.2
  · rw [h2.1]; exact hb2 h2.2
  · rw [h2.1]; exact hg0 h2.2.1 h2.2.2
  · rw [h2.1]; exact hg1 h2.2.1 h2.2.2.1 h2.2.2.2
  · rw [h2.1]; exact hg2 h2.2.1 h2.2.2.1 h2.2.2.2
theorem cnt3_zero {b0 b1 b2 a0 a1 a2 : Bool} (h : 0 = cnt3 b0 b1 b2 a0 a1 a2) : b0 = true ∧ b1 = true ∧ b2 = true ∧ a0 = true ∧ a1 = true ∧ a2 = true := by
  unfold cnt3 at h
  exact ⟨cnt_c _ (by omega), cnt_c _ (by omega), cnt_c _ (by omega), cnt_c _ (by omega), cnt_c _ (by omega), cnt_c _ (by omega)⟩
theorem cnt3_full {b0 b1 b2 a0 a1 a2 : Bool} {n : Nat} (h : n + 1 = cnt3 b0 b1 b2 a0 a1 a2) : (b0 && b1 && b2 && a0 && a1 && a2) = false := by
  cases hf : (b0 && b1 && b2 && a0 && a1 && a2) with
  | false => rfl
  | true =>
    simp only [Bool.and_eq_true] at hf
    obtain ⟨⟨⟨⟨⟨e0, e1⟩, e2⟩, e3⟩, e4⟩, e5⟩ := hf
    subst_vars
    simp [cnt3] at h
def ok4 (b0 b1 b2 b3 a0 a1 a2 a3 : Bool) : Bool := (b0 || !a0) && (b1 || !a1) && (b2 || !a2) && (b3 || !a3) && (a0 || !a1) && (a1 || !a2) && (a2 || !a3)
def cnt4 (b0 b1 b2 b3 a0 a1 a2 a3 : Bool) : Nat := (bif b0 then 0 else 1) + (bif b1 then 0 else 1) + (bif b2 then 0 else 1) + (bif b3 then 0 else 1) + (bif a0 then 0 else 1) + (bif a1 then 0 else 1) + (bif a2 then 0 else 1) + (bif a3 then 0 else 1)
def chk4 (md : Region.Mode) (ops : Array Oper) (F : Bool → Bool → Bool → Bool → Bool → Bool → Bool → Bool → Array Bool) (e0 e1 e2 e3 d0 d1 d2 d3 : Nat) : Bool :=
  [false, true].all fun b0 => [false, true].all fun b1 => [false, true].all fun b2 => [false, true].all fun b3 => [false, true].all fun a0 => [false, true].all fun a1 => [false, true].all fun a2 => [false, true].all fun a3 => !(ok4 b0 b1 b2 b3 a0 a1 a2 a3) || (b0 && b1 && b2 && b3 && a0 && a1 && a2 && a3) || (!(Region.ready md ops (F b0 b1 b2 b3 a0 a1 a2 a3)).isEmpty && (Region.ready md ops (F b0 b1 b2 b3 a0 a1 a2 a3)).all fun i => (i == e0 && !b0) || (i == e1 && !b1) || (i == e2 && !b2) || (i == e3 && !b3) || (i == d0 && (b0 && (!a0))) || (i == d1 && (b1 && (!a1 && a0))) || (i == d2 && (b2 && (!a2 && a1))) || (i == d3 && (b3 && (!a3 && a2))))
theorem rdy4 {md : Region.Mode} {ops : Array Oper} (F : Bool → Bool → Bool → Bool → Bool → Bool → Bool → Bool → Array Bool) (e0 e1 e2 e3 d0 d1 d2 d3 : Nat) (h : chk4 md ops F e0 e1 e2 e3 d0 d1 d2 d3 = true) {b0 b1 b2 b3 a0 a1 a2 a3 : Bool} (hok : ok4 b0 b1 b2 b3 a0 a1 a2 a3 = true) (hn : (b0 && b1 && b2 && b3 && a0 && a1 && a2 && a3) = false) {p : Nat → Prop}
    (hb0 : b0 = false → p e0) (hb1 : b1 = false → p e1) (hb2 : b2 = false → p e2) (hb3 : b3 = false → p e3)
    (hg0 : b0 = true → a0 = false → p d0) (hg1 : b1 = true → a1 = false → a0 = true → p d1) (hg2 : b2 = true → a2 = false → a1 = true → p d2) (hg3 : b3 = true → a3 = false → a2 = true → p d3) :
    Region.ready md ops (F b0 b1 b2 b3 a0 a1 a2 a3) ≠ [] ∧ ∀ i ∈ Region.ready md ops (F b0 b1 b2 b3 a0 a1 a2 a3), p i := by
  unfold chk4 at h
  replace h := List.all_eq_true.1 h b0 (mem_bb _)
  replace h := List.all_eq_true.1 h b1 (mem_bb _)
  replace h := List.all_eq_true.1 h b2 (mem_bb _)
  replace h := List.all_eq_true.1 h b3 (mem_bb _)
  replace h := List.all_eq_true.1 h a0 (mem_bb _)
  replace h := List.all_eq_true.1 h a1 (mem_bb _)
  replace h := List.all_eq_true.1 h a2 (mem_bb _)
  replace h := List.all_eq_true.1 h a3 (mem_bb _)
  simp only [hok, hn, Bool.not_true, Bool.false_or, Bool.and_eq_true] at h
  refine ⟨fun e => by rw [e] at h; simp at h, fun i hi => ?_⟩
  have h2 := List.all_eq_true.1 h.2 i hi
  simp only [Bool.or_eq_true, Bool.and_eq_true, beq_iff_eq, Bool.not_eq_true'] at h2
  rcases h2 with (((((((h2 | h2) | h2) | h2) | h2) | h2) | h2) | h2)
  · rw [h2.1]; exact hb0 h2.2
  · rw [h2.1]; exact hb1 h2.2
  · rw [h2.1]; exact hb2 h2.2
  · rw [h2.1]; exact hb3 h2.2
  · rw [h2.1]; exact hg0 h2.2.1 h2.2.2
  · rw [h2.1]; exact hg1 h2.2.1 h2.2.2.1 h2.2.2.2
  · rw [h2.1]; exact hg2 h2.2.1 h2.2.2.1 h2.2.2.2
  · rw [h2.1]; exact hg3 h2.2.1 h2.2.2.1 h2.2.2.2
theorem cnt4_zero {b0 b1 b2 b3 a0 a1 a2 a3 : Bool} (h : 0 = cnt4 b0 b1 b2 b3 a0 a1 a2 a3) : b0 = true ∧ b1 = true ∧ b2 = true ∧ b3 = true ∧ a0 = true ∧ a1 = true ∧ a2 = true ∧ a3 = true := by
  unfold cnt4 at h
  exact ⟨cnt_c _ (by omega), cnt_c _ (by omega), cnt_c _ (by omega), cnt_c _ (by omega), cnt_c _ (by omega), cnt_c _ (by omega), cnt_c _ (by omega), cnt_c _ (by omega)⟩
theorem ok3_b0 {b1 b2 a0 a1 a2 : Bool} (h : ok3 false b1 b2 a0 a1 a2 = true) : a0 = false := by
  cases a0 with
  | false => rfl
  | true => simp [ok3] at h
theorem ok3_c0 {b1 b2 a1 a2 : Bool} (h : ok3 false b1 b2 false a1 a2 = true) : ok3 true b1 b2 false a1 a2 = true := by
  cases b1 <;> cases b2 <;> cases a1 <;> cases a2 <;> first | rfl | exact absurd h (by decide)
theorem ok3_d0 {b1 b2 a1 a2 : Bool} (h : ok3 true b1 b2 false a1 a2 = true) : ok3 true b1 b2 true a1 a2 = true := by
  cases b1 <;> cases b2 <;> cases a1 <;> cases a2 <;> first | rfl | exact absurd h (by decide)
theorem ok3_b1 {b0 b2 a0 a1 a2 : Bool} (h : ok3 b0 false b2 a0 a1 a2 = true) : a1 = false := by
  cases a1 with
  | false => rfl
  | true => simp [ok3] at h
theorem ok3_c1 {b0 b2 a0 a2 : Bool} (h : ok3 b0 false b2 a0 false a2 = true) : ok3 b0 true b2 a0 false a2 = true := by
  cases b0 <;> cases b2 <;> cases a0 <;> cases a2 <;> first | rfl | exact absurd h (by decide)
theorem ok3_d1 {b0 b2 a2 : Bool} (h : ok3 b0 true b2 true false a2 = true) : ok3 b0 true b2 true true a2 = true := by
  cases b0 <;> cases b2 <;> cases a2 <;> first | rfl | exact absurd h (by decide)
theorem ok3_b2 {b0 b1 a0 a1 a2 : Bool} (h : ok3 b0 b1 false a0 a1 a2 = true) : a2 = false := by
  cases a2 with
  | false => rfl
  | true => simp [ok3] at h
theorem ok3_c2 {b0 b1 a0 a1 : Bool} (h : ok3 b0 b1 false a0 a1 false = true) : ok3 b0 b1 true a0 a1 false = true := by
  cases b0 <;> cases b1 <;> cases a0 <;> cases a1 <;> first | rfl | exact absurd h (by decide)
theorem ok3_d2 {b0 b1 a0 : Bool} (h : ok3 b0 b1 true a0 true false = true) : ok3 b0 b1 true a0 true true = true := by
  cases b0 <;> cases b1 <;> cases a0 <;> first | rfl | exact absurd h (by decide)
theorem ok4_e {b0 b1 b2 b3 a1 a2 a3 : Bool} (h : ok4 b0 b1 b2 b3 false a1 a2 a3 = true) : a1 = false ∧ a2 = false ∧ a3 = false := by
  cases b0 <;> cases b1 <;> cases b2 <;> cases b3 <;> cases a1 <;> cases a2 <;> cases a3 <;> first | exact ⟨rfl, rfl, rfl⟩ | exact absurd h (by decide)
theorem ok4_b0 {b1 b2 b3 a0 a1 a2 a3 : Bool} (h : ok4 false b1 b2 b3 a0 a1 a2 a3 = true) : a0 = false := by
  cases a0 with
  | false => rfl
  | true => simp [ok4] at h
theorem ok4_c0 {b1 b2 b3 a1 a2 a3 : Bool} (h : ok4 false b1 b2 b3 false a1 a2 a3 = true) : ok4 true b1 b2 b3 false a1 a2 a3 = true := by
  cases b1 <;> cases b2 <;> cases b3 <;> cases a1 <;> cases a2 <;> cases a3 <;> first | rfl | exact absurd h (by decide)
theorem ok4_d0 {b1 b2 b3 a1 a2 a3 : Bool} (h : ok4 true b1 b2 b3 false a1 a2 a3 = true) : ok4 true b1 b2 b3 true a1 a2 a3 = true := by
  cases b1 <;> cases b2 <;> cases b3 <;> cases a1 <;> cases a2 <;> cases a3 <;> first | rfl | exact absurd h (by decide)
theorem ok4_b1 {b0 b2 b3 a0 a1 a2 a3 : Bool} (h : ok4 b0 false b2 b3 a0 a1 a2 a3 = true) : a1 = false := by
  cases a1 with
  | false => rfl
  | true => simp [ok4] at h
theorem ok4_c1 {b0 b2 b3 a0 a2 a3 : Bool} (h : ok4 b0 false b2 b3 a0 false a2 a3 = true) : ok4 b0 true b2 b3 a0 false a2 a3 = true := by
  cases b0 <;> cases b2 <;> cases b3 <;> cases a0 <;> cases a2 <;> cases a3 <;> first | rfl | exact absurd h (by decide)
theorem ok4_d1 {b0 b2 b3 a2 a3 : Bool} (h : ok4 b0 true b2 b3 true false a2 a3 = true) : ok4 b0 true b2 b3 true true a2 a3 = true := by
  cases b0 <;> cases b2 <;> cases b3 <;> cases a2 <;> cases a3 <;> first | rfl | exact absurd h (by decide)
theorem ok4_b2 {b0 b1 b3 a0 a1 a2 a3 : Bool} (h : ok4 b0 b1 false b3 a0 a1 a2 a3 = true) : a2 = false := by
  cases a2 with
  | false => rfl
  | true => simp [ok4] at h
theorem ok4_c2 {b0 b1 b3 a0 a1 a3 : Bool} (h : ok4 b0 b1 false b3 a0 a1 false a3 = true) : ok4 b0 b1 true b3 a0 a1 false a3 = true := by
  cases b0 <;> cases b1 <;> cases b3 <;> cases a0 <;> cases a1 <;> cases a3 <;> first | rfl | exact absurd h (by decide)
theorem ok4_d2 {b0 b1 b3 a0 a3 : Bool} (h : ok4 b0 b1 true b3 a0 true false a3 = true) : ok4 b0 b1 true b3 a0 true true a3 = true := by
  cases b0 <;> cases b1 <;> cases b3 <;> cases a0 <;> cases a3 <;> first | rfl | exact absurd h (by decide)
theorem ok4_b3 {b0 b1 b2 a0 a1 a2 a3 : Bool} (h : ok4 b0 b1 b2 false a0 a1 a2 a3 = true) : a3 = false := by
  cases a3 with
  | false => rfl
  | true => simp [ok4] at h
theorem ok4_c3 {b0 b1 b2 a0 a1 a2 : Bool} (h : ok4 b0 b1 b2 false a0 a1 a2 false = true) : ok4 b0 b1 b2 true a0 a1 a2 false = true := by
  cases b0 <;> cases b1 <;> cases b2 <;> cases a0 <;> cases a1 <;> cases a2 <;> first | rfl | exact absurd h (by decide)
theorem ok4_d3 {b0 b1 b2 a0 a1 : Bool} (h : ok4 b0 b1 b2 true a0 a1 true false = true) : ok4 b0 b1 b2 true a0 a1 true true = true := by
  cases b0 <;> cases b1 <;> cases b2 <;> cases a0 <;> cases a1 <;> first | rfl | exact absurd h (by decide)
end Go.Proofs.YtedmnkcoflbciaaGreat
