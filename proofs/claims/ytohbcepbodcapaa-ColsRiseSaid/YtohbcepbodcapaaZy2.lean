/-
  Layer 19, what the laws share: the document's example; the ops that may be.
  Layer 19, the law ColsRise (written by gen_laws19.py).
-/
import Derived.Test.YtohbcepbodcapaaZm48
import Derived.Test.YtohbcepbodcapaaZm50
import Derived.Test.YtohbcepbodcapaaZm51
import Derived.Test.YtohbcepbodcapaaZy1
import Derived.Test.YtohbcepbodcapaaZm09
import Derived.BigQuiet
import Derived.WalkMore
namespace Go.Proofs.Ytohbcepbodcapaa
open Go.RowKit Mem Go.Lib LebM UtfM VaM OpM AcM RleM CsM
attribute [local go_sem ↓] Go.wp_at_zero Go.wp_at_succ
set_option linter.unusedVariables false

/-- the table of the ops that may be -/
theorem fit_right (a : Tx) {L : List Om} {n : Nat} (hn : L.length = n) (h60 : n ≤ 60) (hf : fewB L = true) (hv : ∀ x ∈ L, x.o.val.ok) (ha : a.length ≤ 100) {M : List Om} (hM : M = L.filter (fun x => rightO x.o)) :
    Fit (tabA a (namesM M)) (M.map Om.o) ∧ (∀ x ∈ tabA a (namesM M), x.length ≤ 1000000) ∧ (tabA a (namesM M)).length ≤ 10000 ∧ (∀ x ∈ M, x.short ∧ x.o.pr.length ≤ 40) ∧ M.length ≤ 60 := by
  have hm : ∀ x ∈ M, x ∈ L ∧ rightO x.o = true := fun x hx => by rw [hM] at hx; exact ⟨(List.mem_filter.1 hx).1, by simpa using (List.mem_filter.1 hx).2⟩
  have hs : ∀ x ∈ M, x.short ∧ x.o.pr.length ≤ 40 := fun x hx => few_short hf x (hm x hx).1
  have hml : M.length ≤ 60 := by rw [hM]; exact Nat.le_trans (List.length_filter_le _ _) (by omega)
  have hnl : (namesM M).length ≤ 2520 := by
    have h1 := namesM_len (L := M) (fun x hx => (by have := (hs x hx).2; omega : x.o.pr.length ≤ 1000))
    have h2 : ∀ l : List Om, (∀ x ∈ l, x.o.pr.length ≤ 40) → (namesM l).length ≤ l.length * 42 := by
      intro l
      induction l with
      | nil => intro _; simp [namesM]
      | cons x l ih =>
        intro h
        have h3 := ih (fun y hy => h y (List.mem_cons_of_mem _ hy))
        have h4 := h x (List.mem_cons_self ..)
        have h5 : (namesO x.o).length ≤ x.o.pr.length + 2 := by
          unfold namesO
          exact Nat.le_trans (List.length_filter_le _ _) (by simp)
        unfold namesM at h3 ⊢
        rw [List.flatMap_cons, List.length_append, List.length_cons, Nat.add_mul]
        omega
    have := h2 M (fun x hx => (hs x hx).2)
    omega
  have hol := others_len a (namesM M)
  have hin : ∀ x ∈ M, ∀ y ∈ x.o.obj :: x.o.elem :: x.o.pr, zeroB y = false → y.a ∈ tabA a (namesM M) := fun x hx y hy hz => by
    have h1 : y ∈ namesM M := List.mem_flatMap.2 ⟨x, hx, List.mem_filter.2 ⟨hy, by simp [hz]⟩⟩
    unfold tabA
    by_cases e : y.a = a
    · rw [e]; exact List.mem_cons_self ..
    · exact List.mem_cons_of_mem _ ((AcM.others_mem a _ _).2 ⟨e, y, h1, rfl⟩)
  have hns := names_shortR (fun x hx => (hs x hx).1)
  refine ⟨⟨fun o ho => ?_, fun o ho => ?_, fun o ho => ?_, by rw [List.length_map]; omega, by unfold tabA; rw [List.length_cons]; omega⟩, fun x hx => ?_, by unfold tabA; rw [List.length_cons]; omega, hs, hml⟩
  · obtain ⟨x, hx, rfl⟩ := List.mem_map.1 ho
    exact (hm x hx).2
  · obtain ⟨x, hx, rfl⟩ := List.mem_map.1 ho
    exact hv x (hm x hx).1
  · obtain ⟨x, hx, rfl⟩ := List.mem_map.1 ho
    exact ⟨hin x hx _ (by simp), hin x hx _ (by simp), fun y hy => hin x hx y (by simp [hy])⟩
  · rcases List.mem_cons.1 hx with rfl | hx
    · omega
    · obtain ⟨_, y, hy, rfl⟩ := (AcM.others_mem a _ x).1 hx
      exact hns y hy
theorem tU_none {L : List C} (h : ∀ c ∈ L, c = (false, 0)) : tU L = [] := told_none h
theorem example19 : putS [[97]] [zeroO] = [(19, [127, 0]), (66, [127, 0])] := by
  have hz : zeroB zeroN = true := eqN_self _
  have s0 : s 0 = [0] := by rw [s_small (by omega)]; rfl
  have s1 : s (-1) = [127] := by rw [s_small (by omega)]; rfl
  have u0 : u 0 = [0] := by rw [u_small (by omega)]; rfl
  have e1 : tU [((false, 0) : C)] = [] := tU_none (by simp)
  have e2 : tD [((true, 0) : C)] = [127, 0] := by
    have h1 : stepsF 0 [((true, 0) : C)] = [(true, 0)] := by decide
    unfold tD
    rw [h1]
    show tellW kS [(((true, 0) : C), 1)] = _
    rw [tellW_one (by simp [kS]), tell_other (by simp [kS]) (by omega)]
    simp [othersG, kS, puts, tell_nil, s0, s1]
  have e3 : tU [((true, 0) : C)] = [127, 0] := by
    unfold tU
    show tellW kU [(((true, 0) : C), 1)] = _
    rw [tellW_one (by simp [kU]), tell_other (by simp [kU]) (by omega)]
    simp [othersG, kU, puts, tell_nil, u0, s1]
  have e4 : tW [((false, []) : Bool × List UInt8)] = [] := told_none (K := kW) (x := [((false, []) : Bool × List UInt8)]) (by simp [kW])
  have e5 : BooM.putB [false] = [] := by
    have h : (BooM.numsB [false]).length = 1 := (BooM.nums_some _).2 (by simp)
    unfold BooM.putB
    rw [if_pos h]
  have e6 : putM [zeroV] = [] ∧ putB [zeroV] = [] := by
    have := put_nulls 1
    simpa using this
  have e7 : tU [] = [] := rfl
  have e8 : tD [] = [] := rfl
  unfold putS colsA DirM.full prs
  simp [zeroO, CsM.oneA, oneC, keyC, keyT, numC, hz, e1, e2, e3, e4, e5, e6.1, e6.2, e7, e8]
theorem fit_zero : Fit [[97]] [zeroO] := by
  have hz : zeroB zeroN = true := eqN_self _
  refine ⟨fun o ho => ?_, fun o ho => ?_, fun o ho => ?_, by simp, by simp⟩
  · simp at ho; subst ho; decide
  · simp at ho; subst ho; exact ⟨by decide, by decide, by decide⟩
  · simp at ho; subst ho
    exact ⟨(fun h => absurd h (by rw [show zeroO.obj = zeroN from rfl, hz]; simp)), (fun h => absurd h (by rw [show zeroO.elem = zeroN from rfl, hz]; simp)), (fun x hx => by cases hx)⟩
set_option maxRecDepth 100000 in
set_option maxHeartbeats 6400000 in
theorem awake19_any (w : World) : Calls Try.prog 4 #[] w fun e w' => e = .returned (.bool true) ∧ Fr (fun _ => False) w w' := by
  obtain ⟨w1, hw1⟩ : ∃ w1, w.alloc (.cells #[.string ⟨#[97]⟩] 9) = w1 := ⟨_, rfl⟩
  obtain ⟨q, hq⟩ : ∃ q, w.heap.size = q := ⟨_, rfl⟩
  have hf1 : Fr (fun _ => False) w w1 := by rw [← hw1]; exact (Fr.refl _ _).alloc _
  have ht1 : Rd w1 (some ⟨q, 0, none⟩) 1 ([[97]].map tc) := by rw [← hw1]; exact Rd.cells hq.symm [.string ⟨#[97]⟩] _
  obtain ⟨p, w2, hp, hw2, hz2, hf2⟩ := new_zero w1
  have hops : Ops w2 (some ⟨p, 0, none⟩) 1 [⟨zeroO, none, 0⟩] := Ops.row (L := [⟨zeroO, none, 0⟩]) (by have h : Row w2 p 41 (ols ⟨zeroO, none, 0⟩) := hz2; simpa using h) (fun x hx => by simp at hx; subst hx; exact ⟨Prs.nil _ _, Nat.le_refl _, Nat.zero_le _⟩)
  have hput := cPut_any (some ⟨q, 0, none⟩) 1 1 [[97]] (some ⟨p, 0, none⟩) 1 1 _ w2 (ht1.fr hf2 (fun _ _ h => h)) (by omega) (by simp) hops (by intro x hx; simp at hx; subst hx; exact ⟨by decide, by decide, by decide, by decide, by decide, fun y hy => by cases hy⟩) fit_zero
  rw [show ([⟨zeroO, none, 0⟩] : List Om).map Om.o = [zeroO] from rfl, example19] at hput
  have HPUT := Lib.hid hput
  have HF2 := Lib.hid (hf1.trans hf2 (fun _ _ h => h))
  clear hput hops ht1 hf1 hf2
  clear hz2
  go_enter Try.func4, Try.ntmps4
  go_wp2_with fail
  clear hw1 hw2 hp hq
  refine HPUT.out.mono ?_
  rintro e w3 ⟨A, n, c, K, rfl, hC, hK, hn, hc, _, hf3⟩
  have HF3 := Lib.hid (HF2.out.trans hf3 (fun _ _ h => h))
  have hln := hC.1.1
  have hk2 : K.length = 2 := by have := congrArg List.length hK; simpa using this
  obtain ⟨x, y, rfl⟩ : ∃ x y, K = [x, y] := by
    match K, hk2 with
    | [x, y], _ => exact ⟨x, y, rfl⟩
  · obtain rfl : 2 = n := hln
    simp only [List.map_cons, List.map_nil, List.cons.injEq, Cl.v, Prod.mk.injEq, and_true] at hK
    obtain ⟨⟨i1, b1⟩, i2, b2⟩ := hK
    obtain ⟨g, o, rfl, _, c0, c1⟩ := hC.1.2 0 x rfl
    obtain ⟨g2, o2, e2, _, c2, c3⟩ := hC.1.2 1 y rfl
    injection e2 with e2
    injection e2 with e3 e4
    subst e3 e4
    have r1 := str_rd (hC.2 x (by simp)).1 x.c
    have r2 := str_rd (hC.2 y (by simp)).1 y.c
    simp only [idc, dac, i1, i2, b1, b2] at c0 c1 c2 c3 r1 r2
    rw [show o + 0 * 2 = o by omega] at c0 c1
    rw [show o + 1 * 2 = o + 2 by omega] at c2 c3
    rw [show ((19 : Nat) : Int) = 19 from rfl] at c0
    rw [show ((66 : Nat) : Int) = 66 from rfl] at c2
    rw [show ([127, 0] : List UInt8).length = 2 from rfl] at c1 c3 r1 r2
    rw [show txt [127, 0] = ⟨#[127, 0]⟩ from rfl] at r1 r2
    clear hC hf3 i1 b1 i2 b2
    go_wp2_with fail
    exact bodyPost_ret (v := .bool true) (by simp [results, Try.results4, go_sem]) rfl ⟨rfl, HF3.out⟩
set_option maxRecDepth 100000 in
set_option maxHeartbeats 6400000 in
/-- those of any ops that may be -/
theorem right19_any (A : Option Addr) (n c : Nat) (L : List Om) (w : World) (hL : Ops w A n L) (hn : n ≤ 1000000) (hok : ∀ x ∈ L, x.short ∧ x.o.val.ok) :
    Calls Try.prog 6 #[.slice A n c] w fun e w' => ∃ A' c' M, M = L.filter (fun x => rightO x.o) ∧ e = .returned (.slice A' M.length c') ∧ OwnO w' w.heap.size A' c' M ∧ Ops w' A' M.length M ∧ Fr (fun _ => False) w w' := by
  have HL := Lib.hid hL
  have HLN := Lib.hid hL.len
  have HOK := Lib.hid hok
  clear hL hok
  go_enter Try.func6, Try.ntmps6
  go_wp2_with fail
  go_loopw [3, 4] (fun v i wr => ∃ k : Nat, k ≤ n ∧ i = .int .i64 (k : Int) ∧ ∃ A1 c1 M, v = .slice A1 M.length c1 ∧ Hid (M = (L.take k).filter (fun x => rightO x.o)) ∧ Hid (OwnO wr w.heap.size A1 c1 M) ∧ Hid (Fr (fun _ => False) w wr)) (fun _ i _ => n - (intOf i).toNat)
  case atStart => exact ⟨0, Nat.zero_le _, rfl, none, 0, [], rfl, (rfl : ([] : List Om) = _), OwnO.nil _ _, Lib.hid (Fr.refl _ _)⟩
  case round =>
    obtain ⟨k, hk, rfl, A1, c1, M, rfl, HM, HO, HF⟩ := hrel
    rename World => wr
    by_cases hlt : k < n
    · obtain ⟨x, hx⟩ : ∃ x, L[k]? = some x := ⟨_, List.getElem?_eq_getElem (by have := HLN.out; omega)⟩
      have hLr := HL.out.fr HF.out
      obtain ⟨b, o, rfl, hb, hat⟩ := hLr.1.2 k x hx
      obtain ⟨k0, k1, k2, k3, k4, k5, k6, k7, k8, k9, k10, k11, k12⟩ := hat
      have hxm := List.mem_of_getElem? hx
      have hro := roRight_any x wr (HOK.out x hxm).1 (HOK.out x hxm).2 (hLr.2 x hxm)
      have hml : M.length ≤ k := by
        rw [HM.out]
        exact Nat.le_trans (List.length_filter_le _ _) (by rw [List.length_take]; exact Nat.min_le_left _ _)
      have HMK : Hid ((L.take (k + 1)).filter (fun x => rightO x.o) = if rightO x.o = true then M ++ [x] else M) := Lib.hid (by
        rw [List.take_add_one, hx, List.filter_append, HM.out]
        cases h : rightO x.o <;> simp [h])
      obtain ⟨r, hr⟩ : ∃ r, rightO x.o = r := ⟨_, rfl⟩
      rw [hr] at hro HMK
      simp only [opc] at hro
      have HRO := Lib.hid hro
      have HAT : Hid (Oat wr b (o + k * 13) x) := Lib.hid ⟨k0, k1, k2, k3, k4, k5, k6, k7, k8, k9, k10, k11, k12⟩
      clear hx hxm hro hr hLr hb
      go_wp2_with fail
      refine HRO.out.mono ?_
      rintro e w2 ⟨rfl, hf2⟩
      have HF2 := Lib.hid (HF.out.trans hf2 (fun _ _ h => h))
      have HO2 := Lib.hid (HO.out.fr hf2)
      have hat2 := HAT.out.fr hf2 (fun h => h)
      clear hf2 k0 k1 k2 k3 k4 k5 k6 k7 k8 k9 k10 k11 k12
      cases r with
      | false =>
        have HM2 : Hid (M = (L.take (k + 1)).filter (fun x => rightO x.o)) := Lib.hid (by rw [HMK.out]; simp)
        go_wp2_with fail
        exact ⟨⟨k + 1, by omega, by go_num, A1, c1, M, rfl, HM2, HO2, HF2⟩, by simp [intOf]; omega⟩
      | true =>
        obtain ⟨k0, k1, k2, k3, k4, k5, k6, k7, k8, k9, k10, k11, k12⟩ := hat2
        obtain ⟨q, w4, hq, hw4, hr4, hf4⟩ := new_ols w2 x
        have hcs : ∀ j u, (ols x)[j]? = some u → w4.cell? ((⟨q, 0, none⟩ : Addr).add j) = some u := fun j u hu => by
          rw [mid_add, Nat.zero_add]
          exact Row.cell hr4 hu
        have HCS := Lib.hid hcs
        have HO4 := Lib.hid (HO2.out.fr hf4)
        have HF4 := Lib.hid (HF2.out.trans hf4 (fun _ _ h => h))
        have HB4 : Hid (w.heap.size ≤ w4.heap.size) := Lib.hid HF4.out.size
        obtain ⟨N, hN⟩ : ∃ N, N = M.length + 1 := ⟨_, rfl⟩
        have hNk : N ≤ 1000001 := by omega
        have HN := Lib.hid hN
        clear hcs hr4 hf4 hN
        go_wp2_with (at_builtin; refine wpList_appS opTS _ rfl _ _ rfl w.heap.size _ M.length (M.flatMap ols) rfl HO4.out ⟨q, 0, none⟩ 1 (ols x) rfl rfl HCS.out (fun u hu => ocell_one [x] u (by simpa using hu)) N HN.out (by unfold maxLen; omega) (by omega) HB4.out ?_)
        intro A5 c5 w5 ho5 _ hf5
        obtain ⟨Q, hQ⟩ : ∃ Q, M ++ [x] = Q := ⟨_, rfl⟩
        have hQl : N = Q.length := by rw [HN.out, ← hQ]; simp
        have HM5 : Hid (Q = (L.take (k + 1)).filter (fun x => rightO x.o)) := Lib.hid (by rw [HMK.out, ← hQ]; simp)
        have HO5 : Hid (OwnO w5 w.heap.size A5 c5 Q) := Lib.hid (by
          unfold OwnO
          rw [← hQl, ← hQ, List.flatMap_append, List.flatMap_singleton]
          exact ho5)
        have HF5 : Hid (Fr (fun _ => False) w w5) := Lib.hid (HF4.out.trans hf5 (fun b hb h => by
          have := (HO4.out.lt b h).1
          omega))
        subst hQl
        clear ho5 hf5 hQ hw4 hq k0 k1 k2 k3 k4 k5 k6 k7 k8 k9 k10 k11 k12
        go_wp2_with fail
        exact ⟨⟨k + 1, by omega, by go_num, A5, c5, Q, rfl, HM5, HO5, HF5⟩, by simp [intOf]; omega⟩
    · obtain rfl : k = n := by omega
      have hM : M = L.filter (fun x => rightO x.o) := by rw [HM.out, List.take_of_length_le (by have := HLN.out; omega)]
      go_wp2_with fail
      refine bodyPost_ret (v := .slice A1 M.length c1) (by simp [results, Try.results6, go_sem]) rfl ⟨A1, c1, M, hM, rfl, HO.out, HO.out.ops (fun x hx => ?_), HF.out⟩
      rw [hM] at hx
      exact (HL.out.2 x (List.mem_filter.1 hx).1).fr0 HF.out
end Go.Proofs.Ytohbcepbodcapaa
namespace Go.Proofs.Ytohbcepbodcapaa
open Go.RowKit Mem Go.Lib LebM UtfM VaM OpM AcM RleM CsM
attribute [local go_sem ↓] Go.wp_at_zero Go.wp_at_succ
set_option linter.unusedVariables false

set_option maxRecDepth 100000 in
set_option maxHeartbeats 12800000 in
theorem colsrise_law (a : Tx) (A : Option Addr) (n c : Nat) (L : List Om) (w : World) (hL : Ops w A n L) (hn : n ≤ 9223372036854775807) (hlen : ∀ x ∈ L, x.lens) (hv : ∀ x ∈ L, x.o.val.ok) (ha : a.length ≤ 9223372036854775807) :
    Calls Try.prog 3 #[.string (txt a), .slice A n c] w fun e w' => e = .returned (.bool true) ∧ Fr (fun _ => False) w w' := by
  have HAW := Lib.hid (fun w' => awake19_any w')
  have HL := Lib.hid hL
  have HV := Lib.hid hv
  have hsza := txt_sz a
  obtain ⟨ma, hma⟩ : ∃ m, m = a.length := ⟨_, rfl⟩
  rw [← hma] at hsza
  have HLa : Hid (a.length = ma) := Lib.hid hma.symm
  have hfw := fun w' (hf : Fr (fun _ => False) w w') => rfew_any A n c L 60 w' (hL.fr hf) hn (by omega) hlen
  obtain ⟨b, hb⟩ : ∃ b, (decide (n ≤ 60) && fewB L) = b := ⟨_, rfl⟩
  simp only [hb] at hfw
  have hfw2 : ∀ w' (hf : Fr (fun _ => False) w w'), Calls Try.prog 5 #[.slice A n c, .int .i64 60] w' fun e w'' => e = .returned (.bool b) ∧ w' = w'' := hfw
  have HFW := Lib.hid hfw2
  clear hma hfw hfw2 hL hn hlen hv
  by_cases hq : 100 < ma
  · have tq : decide ((100 : Int) < (ma : Int)) = true := decide_eq_true (by omega)
    have tq' : decide (100 < ma) = true := decide_eq_true hq
    clear hq
    go_enter Try.func3, Try.ntmps3
    go_wp2_with fail
    refine (HAW.out _).mono ?_
    rintro e w1 ⟨rfl, hf⟩
    have HF1 := Lib.hid (hf)
    clear hf
    go_wp2_with fail
    refine (HAW.out _).mono ?_
    rintro e w3 ⟨rfl, hf⟩
    have HF3 := Lib.hid (HF1.out.trans hf (fun _ _ h => h))
    clear hf
    go_wp2_with fail
    go_ret
    exact ⟨rfl, HF3.out⟩
  · have tq : decide ((100 : Int) < (ma : Int)) = false := decide_eq_false (by omega)
    have tq' : decide (100 < ma) = false := decide_eq_false hq
    cases b with
    | false =>
      clear hb
      go_enter Try.func3, Try.ntmps3
      go_wp2_with fail
      refine (HAW.out _).mono ?_
      rintro e w1 ⟨rfl, hf⟩
      have HF1 := Lib.hid (hf)
      clear hf
      go_wp2_with fail
      refine (HFW.out _ HF1.out).mono ?_
      rintro e w2 ⟨rfl, rfl⟩
      go_wp2_with fail
      refine (HAW.out _).mono ?_
      rintro e w3 ⟨rfl, hf⟩
      have HF3 := Lib.hid (HF1.out.trans hf (fun _ _ h => h))
      clear hf
      go_wp2_with fail
      go_ret
      exact ⟨rfl, HF3.out⟩
    | true =>
      rw [Bool.and_eq_true, decide_eq_true_eq] at hb
      have HRT := Lib.hid (fun w' (hf : Fr (fun _ => False) w w') => right19_any A n c L w' (HL.out.fr hf) (by omega) (fun x hx => ⟨(few_short hb.2 x hx).1, HV.out x hx⟩))
      have HFIT := Lib.hid (fun (M : List Om) (hM : M = L.filter (fun x => rightO x.o)) => fit_right a HL.out.len hb.1 hb.2 HV.out (by have := HLa.out; omega) hM)
      clear hb
      go_enter Try.func3, Try.ntmps3
      go_wp2_with fail
      refine (HAW.out _).mono ?_
      rintro e w1 ⟨rfl, hf⟩
      have HF1 := Lib.hid (hf)
      clear hf
      go_wp2_with fail
      refine (HFW.out _ HF1.out).mono ?_
      rintro e w2 ⟨rfl, rfl⟩
      go_wp2_with fail
      refine (HRT.out _ HF1.out).mono ?_
      rintro e w3 ⟨A1, c1, M, hM, rfl, hO1, hops, hf3⟩
      obtain ⟨hfit, htx, htl, hsh, hml⟩ := HFIT.out M hM
      have hmo : M = [] ∨ M ≠ [] := by cases M <;> simp
      obtain ⟨nm, hnm⟩ : ∃ n, M.length = n := ⟨_, rfl⟩
      rw [hnm] at hops hml
      have HM := Lib.hid hM
      have HNM := Lib.hid hnm
      have HO := Lib.hid hops
      have HOW := Lib.hid hO1
      have HF3 := Lib.hid (HF1.out.trans hf3 (fun _ _ h => h))
      have HTB := Lib.hid (fun w' (hf : Fr (fun _ => False) w3 w') => racTable_any a A1 nm c1 M w' (hops.fr hf) (by omega) (by have := HLa.out; omega) (fun x hx => ⟨(hsh x hx).1, by have := (hsh x hx).2; omega⟩))
      obtain ⟨T, hT⟩ : ∃ T, tabA a (namesM M) = T := ⟨_, rfl⟩
      rw [hT] at hfit htx htl
      have HFT := Lib.hid hfit
      have HTT := Lib.hid hT
      have HTX := Lib.hid (And.intro htx htl)
      have HSH := Lib.hid hsh
      clear hM hops hO1 hf3 hfit htx htl hsh hT HRT HFIT HFW
      rw [hnm]
      clear hnm
      go_wp2_with fail
      refine (HTB.out _ (Fr.refl _ _)).mono ?_
      rintro e w4 ⟨A4, c4, rfl, ho4, hf4⟩
      rw [HTT.out] at ho4
      rw [HTT.out]
      obtain ⟨nt, hnt⟩ : ∃ k, T.length = k := ⟨_, rfl⟩
      rw [hnt]
      have HRD : Hid (Rd w4 A4 nt (T.map tc)) := Lib.hid (by have h := ho4.rd; rwa [hnt] at h)
      have HNT : Hid (nt ≤ 10000) := Lib.hid (by rw [← hnt]; exact HTX.out.2)
      have HO4 := Lib.hid (HO.out.fr hf4)
      have HF4 := Lib.hid (HF3.out.trans hf4 (fun _ _ h => h))
      have HPUT := Lib.hid (fun w' (hf : Fr (fun _ => False) w4 w') => cPut_any A4 nt c4 T A1 nm c1 M w' (HRD.out.fr hf (fun _ _ h => h)) (by have := HNT.out; omega) HTX.out.1 (HO4.out.fr hf) (fun x hx => (HSH.out x hx).1) HFT.out)
      clear ho4 hf4 hnt HTB
      go_wp2_with fail
      refine (HPUT.out _ (Fr.refl _ _)).mono ?_
      rintro e w5 ⟨A5, n5, c5, K, rfl, hC, hKv, hn5, hc5, _, hf5⟩
      have HF5 := Lib.hid (HF4.out.trans hf5 (fun _ _ h => h))
      have HC := Lib.hid hC
      have hkl := hC.1.1
      have h12 := put_len T (M.map Om.o)
      have hrise := put_rise T (M.map Om.o)
      have hfull := put_full T (M.map Om.o)
      have hact := put_act T (M.map Om.o)
      rw [← hKv] at h12 hrise hfull hact
      rw [List.length_map, hkl] at h12
      have HRISE : Hid (∀ k x y, K[k]? = some x → K[k + 1]? = some y → x.id < y.id) := Lib.hid (fun k x y hx hy => by
        have h1 := (List.getElem?_eq_some_iff.1 hx)
        have h2 := (List.getElem?_eq_some_iff.1 hy)
        obtain ⟨l1, e1⟩ := h1
        obtain ⟨l2, e2⟩ := h2
        have := List.pairwise_iff_getElem.1 hrise k (k + 1) (by simpa using l1) (by simpa using l2) (by omega)
        simp only [List.getElem_map, e1, e2] at this
        exact this)
      have HFULL : Hid (∀ x ∈ K, 0 < x.B.length) := Lib.hid (fun x hx => hfull x.v (List.mem_map.2 ⟨x, hx, rfl⟩))
      obtain ⟨act, hac⟩ : ∃ act, (K.any fun x => decide (x.id = 66)) = act := ⟨_, rfl⟩
      have HACT : Hid (act = decide (0 < nm) ∧ (0 < nm ∨ n5 = 0)) := Lib.hid (by
        have h1 : (act = true) ↔ 0 < nm := by
          rw [← hac, List.any_eq_true, ← HNM.out, List.length_pos_iff]
          constructor
          · rintro ⟨x, hx, he⟩
            have := hact.1 ⟨x.v, List.mem_map.2 ⟨x, hx, rfl⟩, by have := of_decide_eq_true he; exact this⟩
            simpa using this
          · intro h
            obtain ⟨cc, hcc, he⟩ := hact.2 (by simpa using h)
            obtain ⟨x, hx, rfl⟩ := List.mem_map.1 hcc
            exact ⟨x, hx, decide_eq_true he⟩
        refine ⟨by rw [Bool.eq_iff_iff, h1, decide_eq_true_eq], ?_⟩
        rcases Nat.eq_zero_or_pos nm with h0 | h0
        · right
          have hM0 : M = [] := List.eq_nil_of_length_eq_zero (by rw [HNM.out, h0])
          have h2 := hKv
          rw [hM0] at h2
          rw [List.map_nil, put_nil] at h2
          have := congrArg List.length h2
          simp at this
          rw [← hkl, this]
          rfl
        · exact Or.inl h0)
      have HK := Lib.hid hkl
      have HAC := Lib.hid hac
      clear hC hKv hf5 hrise hfull hact hac hkl hmo
      go_wp2_with fail
      go_loopw [7, 8] (fun u v wr => ∃ k : Nat, k ≤ n5 ∧ v = .int .i64 (k : Int) ∧ u = .bool ((K.take k).any fun x => decide (x.id = 66)) ∧ Hid (Fr (fun _ => False) w5 wr)) (fun _ v _ => n5 - (intOf v).toNat)
      case atStart => exact ⟨0, Nat.zero_le _, rfl, rfl, Lib.hid (Fr.refl _ _)⟩
      case round =>
        obtain ⟨k, hk, rfl, rfl, HFK⟩ := hrel
        rename World => wr
        by_cases hlt : k < n5
        · obtain ⟨x, hx⟩ : ∃ x, K[k]? = some x := ⟨_, List.getElem?_eq_getElem (by have := HK.out; omega)⟩
          obtain ⟨g, o, rfl, hg, c0, c1⟩ := (HC.out.fr HFK.out).1.2 k x hx
          have hpos := HFULL.out x (List.mem_of_getElem? hx)
          have hst : ((K.take (k + 1)).any fun x => decide (x.id = 66)) = ((K.take k).any (fun x => decide (x.id = 66)) || decide (x.id = 66)) := by
            rw [List.take_add_one, hx, List.any_append]
            simp
          obtain ⟨u, hu⟩ : ∃ u, ((K.take k).any fun x => decide (x.id = 66)) = u := ⟨_, rfl⟩
          rw [hu] at hst ⊢
          obtain ⟨lx, hlx⟩ : ∃ l, x.B.length = l := ⟨_, rfl⟩
          simp only [idc, dac, hlx] at c0 c1
          rw [hlx] at hpos
          obtain ⟨ix, hix⟩ : ∃ i, x.id = i := ⟨_, rfl⟩
          rw [hix] at c0 hst
          have HX := Lib.hid hx
          have HIX := Lib.hid hix
          have t0 : ((lx : Int) == 0) = false := by simp; omega
          obtain ⟨i6, hi6⟩ : ∃ b, decide (ix = 66) = b := ⟨_, rfl⟩
          have t6 : ((ix : Int) == 66) = i6 := by rw [← hi6]; exact (Bool.eq_iff_iff.2 (by simp; omega))
          rw [hi6] at hst
          have HST := Lib.hid hst
          clear hx hu hix hi6 hst hlx hpos hg
          have hrel : ∀ q : Nat, Hid (Fr (fun _ => False) w5 (wr.drewN q)) := fun q => Lib.hid (HFK.out.drewN q)
          rcases Nat.eq_zero_or_pos k with hk0 | hk0
          · have t1 : decide ((0 : Int) < (k : Int)) = false := decide_eq_false (by omega)
            have t1n : decide (0 < k) = false := decide_eq_false (by omega)
            clear hk0
            go_upto_region 9 with fail
            go_quiet (fail)
            cases u <;> cases i6 <;> (
              go_wp2_with fail
              go_roundw
              case rel => exact ⟨k + 1, by omega, by go_num, by rw [HST.out]; rfl, hrel _⟩
              case measure => simp [intOf] <;> omega)
          · obtain ⟨j, rfl⟩ : ∃ j, k = j + 1 := ⟨k - 1, by omega⟩
            obtain ⟨y, hy⟩ : ∃ y, K[j]? = some y := ⟨_, List.getElem?_eq_getElem (by have := HK.out; omega)⟩
            obtain ⟨g2, o2, e2, _, c2, _⟩ := (HC.out.fr HFK.out).1.2 j y hy
            injection e2 with e2
            injection e2 with e3 e4
            subst e3 e4
            have hlt2 := HRISE.out j y x hy HX.out
            rw [HIX.out] at hlt2
            obtain ⟨iy, hiy⟩ : ∃ i, y.id = i := ⟨_, rfl⟩
            simp only [idc, hiy] at c2
            rw [hiy] at hlt2
            obtain ⟨kk, hkk⟩ : ∃ kk, j + 1 = kk := ⟨_, rfl⟩
            rw [hkk] at c0 c1 hk hlt HST ⊢
            have tw : IntKind.i64.wrap ((kk : Int) - 1) = (j : Int) := by rw [IntKind.wrap_i64]; omega
            have t1 : decide ((0 : Int) < (kk : Int)) = true := decide_eq_true (by omega)
            have t1n : decide (0 < kk) = true := decide_eq_true (by omega)
            have t2n : decide (ix ≤ iy) = false := decide_eq_false (by omega)
            have t2 : decide ((ix : Int) ≤ (iy : Int)) = false := decide_eq_false (by omega)
            have hj5 : j < n5 := by omega
            have HKK := Lib.hid hkk
            clear hy hiy hlt2 hkk hk0
            go_upto_region 9 with fail
            go_quiet (fail)
            cases u <;> cases i6 <;> (
              go_wp2_with fail
              go_roundw
              case rel => exact ⟨kk + 1, by omega, by go_num, by rw [HST.out]; rfl, hrel _⟩
              case measure => simp [intOf] <;> omega)
        · obtain rfl : k = n5 := by omega
          have hall : K.take k = K := List.take_of_length_le (by have := HK.out; omega)
          rw [hall, HAC.out]
          have h1 := HACT.out.1
          have h2 := HACT.out.2
          have t12 : decide ((k : Int) ≤ 12) = true := decide_eq_true (by omega)
          have hp : decide (0 < nm) = act := h1.symm
          clear h1
          have tp : decide ((0 : Int) < (nm : Int)) = act := by rw [← hp]; exact decide_eq_decide.2 (by omega)
          have HF6 := Lib.hid (HF5.out.trans HFK.out (fun _ _ h => h))
          have t12n : decide (k ≤ 12) = true := decide_eq_true (by omega)
          have tpn : decide (0 < nm) = act := hp
          cases act with
          | true =>
            clear h2 hp
            go_wp2_with fail
            exact bodyPost_ret (v := .bool true) (by simp [results, Try.results3, go_sem]) rfl ⟨rfl, HF6.out⟩
          | false =>
            have hz : k = 0 := by
              have := of_decide_eq_false hp
              omega
            have tz : ((k : Int) == 0) = true := by simp; omega
            have tzn : (k == 0) = true := by simpa using hz
            clear h2 hp hz
            go_wp2_with fail
            exact bodyPost_ret (v := .bool true) (by simp [results, Try.results3, go_sem]) rfl ⟨rfl, HF6.out⟩

end Go.Proofs.Ytohbcepbodcapaa
