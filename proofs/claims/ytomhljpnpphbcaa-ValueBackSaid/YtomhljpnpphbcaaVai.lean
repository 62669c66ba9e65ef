/-
  Layer 14, the law ValueBack (written by gen_laws14.py).
-/
import Derived.Test.YtomhljpnpphbcaaVad
import Derived.Test.YtomhljpnpphbcaaLebC
import Derived.Test.YtomhljpnpphbcaaReg
namespace Go.Proofs.Ytomhljpnpphbcaa
open Go.RowKit Mem Go.Lib VaM LebM UtfM
attribute [local go_sem ↓] Go.wp_at_zero Go.wp_at_succ
set_option linter.unusedVariables false


theorem vright_at (K : VaC) (v : V) (w : World) (k : Nat) (h : RowV w k v) (hv : v.ok) (hl : v.s.length ≤ 1000000) :
    Calls Try.prog 10 #[.slice (some ⟨k, 0, none⟩) 1 1] w fun e w' => e = .returned (.bool (rightV v)) ∧ Fr (fun _ => False) w w' := by
  refine (K.right (some ⟨k, 0, none⟩) 1 1 [v] _ (Vls.row (show Row w k _ ([v].flatMap vls) from h)) (by omega) (by simp [hv, hl])).mono ?_
  rintro e w' ⟨rfl, hf⟩
  exact ⟨by simp, hf⟩
theorem get_len {k : Int} {B : List UInt8} : (getV k B).1.s.length ≤ B.length := by
  unfold getV
  have hc := cl_le k
  rcases (show cl k = 0 ∨ cl k = 1 ∨ cl k = 2 ∨ cl k = 3 ∨ cl k = 4 ∨ cl k = 5 by omega) with e | e | e | e | e | e
  all_goals rw [e]
  all_goals simp only [getC]
  all_goals (try split)
  all_goals (try simp [zeroV])

set_option maxRecDepth 100000 in
set_option maxHeartbeats 6400000 in
theorem vback_law (K : VaC) (v : V) (k : Int) (A : Option Addr) (n c : Nat) (B : List UInt8) (w : World) (hv : v.ok) (hmv : v.s.length ≤ maxLen) (hk : -9223372036854775808 ≤ k ∧ k < 9223372036854775808) (hrd : Rd w A n (B.map bytec)) (hc : n ≤ c) (hm : n ≤ maxLen) :
    Calls Try.prog 5 #[valc v, .int .i64 k, .slice A n c] w fun e w' => e = .returned (.bool true) ∧ Fr (fun _ => False) w w' := by
  have hxn : n ≤ 9223372036854775807 := hm
  have hBn : B.length = n := by simpa using hrd.1
  obtain ⟨l, hl⟩ : ∃ l, l = v.s.length := ⟨_, rfl⟩
  have hszl : (txt v.s).size = l := by rw [txt_sz, hl]
  rw [← hl] at hmv
  have hxl : l ≤ 9223372036854775807 := hmv
  obtain ⟨g, hg⟩ : ∃ g, w.heap.size = g := ⟨_, rfl⟩
  obtain ⟨w1, hw⟩ : ∃ w', w.alloc (.cells #[.int .i64 v.k, .int .u64 (v.u : Int), .int .i64 v.n, .string (txt v.s)] 24) = w' := ⟨_, rfl⟩
  have hfb : Fr (fun _ => False) w w1 := by rw [← hw]; exact (Fr.refl _ _).alloc _
  have hr : RowV w1 g v := by rw [← hw, ← hg]; exact RowV.new w v
  have haw := fun w => awake14_any K w
  have HAW := Lib.hid haw
  have HR1 := Lib.hid hr
  have HFw1 := Lib.hid hfb
  have HRD := Lib.hid hrd
  unfold valc
  clear hr hfb haw hrd hm
  by_cases hbig : 5000 < l
  · have tl : decide ((5000 : Int) < (l : Int)) = true := by simp; omega
    have ul : decide (5000 < l) = true := by simp; omega
    clear hl hv hBn
    go_enter Try.func5, Try.ntmps5
    go_wp2_with fail
    clear hw hg
    refine (HAW.out _).mono ?_
    rintro e w2 ⟨rfl, hf⟩
    have HFw2 := Lib.hid (HFw1.out.trans hf (fun _ _ h => h))
    have HR2 := Lib.hid (HR1.out.fr hf (fun h => h))
    clear hf
    obtain ⟨c0, c1, c2, c3⟩ := HR2.out.cells
    go_wp2_with fail
    refine (HAW.out _).mono ?_
    rintro e w3 ⟨rfl, hf⟩
    have HFw3 := Lib.hid (HFw2.out.trans hf (fun _ _ h => h))
    clear hf
    go_wp2_with fail
    go_ret
    exact ⟨rfl, HFw3.out⟩
  by_cases hbig2 : 5000 < n
  · have tl : decide ((5000 : Int) < (l : Int)) = false := by simp; omega
    have ul : decide (5000 < l) = false := by simp; omega
    have tn : decide ((5000 : Int) < (n : Int)) = true := by simp; omega
    have un : decide (5000 < n) = true := by simp; omega
    clear hl hv hBn
    go_enter Try.func5, Try.ntmps5
    go_wp2_with fail
    clear hw hg
    refine (HAW.out _).mono ?_
    rintro e w2 ⟨rfl, hf⟩
    have HFw2 := Lib.hid (HFw1.out.trans hf (fun _ _ h => h))
    have HR2 := Lib.hid (HR1.out.fr hf (fun h => h))
    clear hf
    obtain ⟨c0, c1, c2, c3⟩ := HR2.out.cells
    go_wp2_with fail
    refine (HAW.out _).mono ?_
    rintro e w3 ⟨rfl, hf⟩
    have HFw3 := Lib.hid (HFw2.out.trans hf (fun _ _ h => h))
    clear hf
    go_wp2_with fail
    go_ret
    exact ⟨rfl, HFw3.out⟩
  have tl : decide ((5000 : Int) < (l : Int)) = false := by simp; omega
  have ul : decide (5000 < l) = false := by simp; omega
  have tn : decide ((5000 : Int) < (n : Int)) = false := by simp; omega
  have un : decide (5000 < n) = false := by simp; omega
  have h1 := fun (w : World) => vright1 K v w rfl hv (by omega)
  obtain ⟨a, ha⟩ : ∃ a, rightV v = a := ⟨_, rfl⟩
  simp only [ha] at h1
  have H1 := Lib.hid h1
  obtain ⟨z, ok2, hz⟩ : ∃ z ok2, getV k B = (z, ok2) := ⟨_, _, rfl⟩
  obtain ⟨E2, hE2⟩ : ∃ E2 : Int, (if ok2 = true then 0 else 3) = E2 := ⟨_, rfl⟩
  have hpg := fun w' (hf : Fr (fun _ => False) w w') => K.get k A n c B w' (HRD.out.fr hf (fun _ _ h => h)) hc (by omega)
  simp only [hz, getR, valc, hE2] at hpg
  have HPG := Lib.hid hpg
  have hzo := get_ok (B := B) hk
  rw [hz] at hzo
  have hzl := get_len (k := k) (B := B)
  rw [hz, hBn] at hzl
  have HZ := Lib.hid hz
  have HZO := Lib.hid hzo
  have HZL := Lib.hid hzl
  have HBN := Lib.hid hBn
  obtain ⟨P, mm, x, ok, E, hP, hmm, hx, hE, hput, hget⟩ := putget_of v hv (by omega)
  have hxv : a = true → x = v ∧ E = 0 := by
    intro h
    rw [h] at ha
    rw [get_put hv ha] at hx
    simp only [Prod.mk.injEq] at hx
    rw [hE, hx.1, hx.2]
    exact ⟨rfl, rfl⟩
  have HXV := Lib.hid hxv
  have HPT := Lib.hid hput
  have HGT := Lib.hid hget
  have HKB := Lib.hid hk
  have HE2 := Lib.hid hE2
  clear h1 ha hz hE2 hpg hzo hzl hBn hP hmm hx hE hput hget hxv hv hl hk
  cases a
  · clear HPT HGT HXV
    go_enter Try.func5, Try.ntmps5
    go_wp2_with fail
    clear hw hg
    refine (HAW.out _).mono ?_
    rintro e w2 ⟨rfl, hf⟩
    have HFw2 := Lib.hid (HFw1.out.trans hf (fun _ _ h => h))
    have HR2 := Lib.hid (HR1.out.fr hf (fun h => h))
    clear hf
    obtain ⟨c0, c1, c2, c3⟩ := HR2.out.cells
    go_wp2_with fail
    refine (H1.out _).mono ?_
    rintro e w3 ⟨rfl, hf⟩
    have HFw3 := Lib.hid (HFw2.out.trans hf (fun _ _ h => h))
    have HR3 := Lib.hid (HR2.out.fr hf (fun h => h))
    clear hf c0 c1 c2 c3
    clear HAW H1 HR1 HR2 HR3
    go_wp2_with fail
    refine (HPG.out w3 HFw3.out).mono ?_
    rintro e wg ⟨rfl, hf⟩
    have HFwg := Lib.hid (HFw3.out.trans hf (fun _ _ h => h))
    clear hf
    obtain ⟨p, hp⟩ : ∃ p, wg.heap.size = p := ⟨_, rfl⟩
    obtain ⟨wa, hwa⟩ : ∃ w', wg.alloc (.cells #[.int .i64 0, .int .u64 0, .int .i64 0, .string ⟨#[]⟩] 24) = w' := ⟨_, rfl⟩
    have hfa : Fr (fun _ => False) wg wa := by rw [← hwa]; exact (Fr.refl _ _).alloc _
    have hpa : RowV wa p zeroV := by rw [← hwa, ← hp]; exact RowV.new wg zeroV
    have HPAp := Lib.hid hpa
    have HPp := Lib.hid hp
    have HFAp := Lib.hid hfa
    clear hfa hpa
    go_upto_region 8 with (refine store_st vSz rfl (.tmp 9) (.tmp 47) rfl p (by rfl) (vls z) (by rfl) _ _ HPAp.out rfl rfl (v_one _) ?_)
    intro wh hrn hfn
    have HXp : Hid (RowV wh p z) := Lib.hid hrn
    have HFNp : Hid (Fr (fun _ => False) wg wh) := Lib.hid (HFAp.out.trans hfn (fun b hb h => by have := HPp.out; omega))
    clear hrn hfn hwa hp
    have HFwh := Lib.hid (HFwg.out.trans HFNp.out (fun _ _ h => h))
    clear HFwg HFNp HPAp HPp HFAp HPG
    cases ok2
    · obtain rfl : E2 = 3 := HE2.out.symm
      have hzz := get_no (k := k) (B := B) (by rw [HZ.out])
      rw [HZ.out] at hzz
      simp only [Prod.mk.injEq, and_true] at hzz
      subst hzz
      have c0 : wh.cell? ⟨p, 0, none⟩ = some (.int .i64 0) := HXp.out.c0
      have c1 : wh.cell? ⟨p, 1, none⟩ = some (.int .u64 0) := HXp.out.c1
      have c2 : wh.cell? ⟨p, 2, none⟩ = some (.int .i64 0) := HXp.out.c2
      have c3 : wh.cell? ⟨p, 3, none⟩ = some (.string ⟨#[]⟩) := HXp.out.c3
      have q1 : ∀ (x y : Operand) (w : World), (eqGuard .eql 24 x y (.agg #[.int .i64 0, .int .u64 0, .int .i64 0, .string ⟨#[]⟩]) (.agg #[.int .i64 0, .int .u64 0, .int .i64 0, .string ⟨#[]⟩])).run Try.prog w = .ok () w := (v_eql zeroV zeroV).1
      have q2 : ∀ w : World, (binOp .eql 24 (.agg #[.int .i64 0, .int .u64 0, .int .i64 0, .string ⟨#[]⟩]) (.agg #[.int .i64 0, .int .u64 0, .int .i64 0, .string ⟨#[]⟩])).run Try.prog w = .ok (.bool true) w := (v_eql zeroV zeroV).2
      go_wp2_with fail
      go_ret
      exact ⟨rfl, HFwh.out⟩
    · obtain rfl : E2 = 0 := HE2.out.symm
      have hzz := put_get (k := k) (B := B) HZ.out
      have HZK := Lib.hid hzz.1
      have hra := fun w q h => vright_at K z w q h HZO.out (by have := HZL.out; omega)
      rw [hzz.2.1] at hra
      have hpz := fun w => K.put z w HZO.out
      rw [hzz.2.2] at hpz
      simp only [valc, hzz.1] at hpz
      have HRA := Lib.hid hra
      have HPZ := Lib.hid hpz
      clear hzz hra hpz
      go_upto_region 10 with fail
      refine wp_region_held_drew (S := fun w' => Fr (fun _ => False) wh w') (by kernel_rfl) ?_ (fun hHeld => ?_)
      · exact (Fr.refl _ _).drew
      refine wpAnyH_take (i := 0) (v := ?vz90) rfl (by kernel_rfl) (by kernel_rfl) (by kernel_rfl) (fun _ _ _ h => h) (Or.inl ⟨by rfl, ?hyz90⟩) hHeld ?restz90
      case hyz90 => intro w hSw; (try dsimp only at hSw); go_simp; try (with_reducible rfl)
      (try simp only [Act.put, List.setIfInBounds_toArray, List.set_cons_zero, List.set_cons_succ, List.getElem_toArray, List.getElem_cons_zero])
      refine wpAnyH_take (i := 1) (v := ?vz91) rfl (by kernel_rfl) (by kernel_rfl) (by kernel_rfl) (fun _ _ _ h => h) (Or.inl ⟨by rfl, ?hyz91⟩) hHeld ?restz91
      case hyz91 => intro w hSw; (try dsimp only at hSw); obtain ⟨c0, c1, c2, c3⟩ := (HXp.out.fr hSw (fun h => h)).cells; try rw [HZK.out] at c0; go_simp; try (with_reducible rfl)
      (try simp only [Act.put, List.setIfInBounds_toArray, List.set_cons_zero, List.set_cons_succ, List.getElem_toArray, List.getElem_cons_zero, List.getElem_cons_succ])
      refine wpAnyH_take (i := 2) (v := ?vz92) rfl (by kernel_rfl) (by kernel_rfl) (by kernel_rfl) (fun _ _ _ h => h) (Or.inl ⟨by rfl, ?hyz92⟩) hHeld ?restz92
      case hyz92 => intro w hSw; (try dsimp only at hSw); go_simp; try (with_reducible rfl)
      (try simp only [Act.put, List.setIfInBounds_toArray, List.set_cons_zero, List.set_cons_succ, List.getElem_toArray, List.getElem_cons_zero, List.getElem_cons_succ])
      refine wpAnyH_take (i := 3) (v := ?vz93) rfl (by kernel_rfl) (by kernel_rfl) (by kernel_rfl) (fun _ _ _ h => h) (Or.inl ⟨by rfl, ?hyz93⟩) hHeld ?restz93
      case hyz93 => intro w hSw; (try dsimp only at hSw); go_simp; try (with_reducible rfl)
      (try simp only [Act.put, List.setIfInBounds_toArray, List.set_cons_zero, List.set_cons_succ, List.getElem_toArray, List.getElem_cons_zero, List.getElem_cons_succ])
      refine wpAnyH_take (i := 4) (v := ?vz94) rfl (by kernel_rfl) (by kernel_rfl) (by kernel_rfl) (fun _ _ _ h => h) (Or.inl ⟨by rfl, ?hyz94⟩) hHeld ?restz94
      case hyz94 => intro w hSw; (try dsimp only at hSw); go_simp; try (with_reducible rfl)
      (try simp only [Act.put, List.setIfInBounds_toArray, List.set_cons_zero, List.set_cons_succ, List.getElem_toArray, List.getElem_cons_zero, List.getElem_cons_succ])
      refine wpAnyH_take (i := 5) (v := ?vz95) rfl (by kernel_rfl) (by kernel_rfl) (by kernel_rfl) (fun _ _ _ h => h) (Or.inl ⟨by rfl, ?hyz95⟩) hHeld ?restz95
      case hyz95 => intro w hSw; (try dsimp only at hSw); obtain ⟨c0, c1, c2, c3⟩ := (HXp.out.fr hSw (fun h => h)).cells; try rw [HZK.out] at c0; go_simp; try (with_reducible rfl)
      (try simp only [Act.put, List.setIfInBounds_toArray, List.set_cons_zero, List.set_cons_succ, List.getElem_toArray, List.getElem_cons_zero, List.getElem_cons_succ])
      refine wpAnyH_ready (rs := [6]) (by kernel_rfl) (by simp) ?_
      refine AllReadyH.cons rfl (fun Kx hKx => ?_) AllReadyH.nil
      go_simp
      obtain ⟨wm, hwm⟩ : ∃ y, (wh.alloc (.cells #[.int .i64 k, .int .u64 (z.u : Int), .int .i64 z.n, .string (txt z.s)] 24)).drew = y := ⟨_, rfl⟩
      rw [hwm]
      obtain ⟨pm, hpm⟩ : ∃ q, wh.heap.size = q := ⟨_, rfl⟩
      try rw [hpm]
      have hff : Fr (fun _ => False) wh.drew wm := by rw [← hwm]; exact ⟨rfl, rfl, rfl, by simp, fun b hb _ => Below.heap_alloc wh _ b hb⟩
      have hrm : RowV wm pm z := by rw [← hwm, ← hpm]; have h : RowV (wh.alloc (.cells (vls z).toArray 24)).drew wh.heap.size z := RowV.new wh z; rw [show (vls z).toArray = #[.int .i64 k, .int .u64 (z.u : Int), .int .i64 z.n, .string (txt z.s)] from by simp [vls, HZK.out]] at h; exact h
      have HRM := Lib.hid hrm
      clear hwm hpm hrm
      have HFwm : Hid (Fr (fun _ => False) wh wm) := Lib.hid ((Fr.refl _ _).drew.trans hff (fun _ _ h => h))
      refine hKx.out _ _ ?_ (fun hHeld => ?_)
      · exact HFwm.out
      clear hKx Kx hff
      (try simp only [Act.put, List.setIfInBounds_toArray, List.set_cons_zero, List.set_cons_succ, List.getElem_toArray, List.getElem_cons_zero, List.getElem_cons_succ])
      refine wpAnyH_more (fun w' => Fr (fun _ => False) wm w') (fun _ h => HFwm.out.trans h (fun _ _ h => h)) ?_ (fun hHeld => ?_)
      · exact Fr.refl _ _
      refine wpAnyH_ready (rs := [7]) (by kernel_rfl) (by simp) ?_
      refine AllReadyH.cons rfl (fun Kx hKx => ?_) AllReadyH.nil
      go_simp
      have hcon := HRA.out wm pm HRM.out
      with_reducible refine hcon.mono ?_
      clear hcon
      rintro e' wn ⟨rfl, hff⟩
      have HFwn : Hid (Fr (fun _ => False) wm wn) := Lib.hid (hff)
      refine hKx.out _ _ ?_ (fun hHeld => ?_)
      · exact HFwn.out
      clear hKx Kx hff
      (try simp only [Act.put, List.setIfInBounds_toArray, List.set_cons_zero, List.set_cons_succ, List.getElem_toArray, List.getElem_cons_zero, List.getElem_cons_succ])
      refine wpAnyH_more (fun w' => Fr (fun _ => False) wn w') (fun _ h => HFwn.out.trans h (fun _ _ h => h)) ?_ (fun hHeld => ?_)
      · exact Fr.refl _ _
      refine wpAnyH_take (i := 8) (v := ?vz98) rfl (by kernel_rfl) (by kernel_rfl) (by kernel_rfl) (fun _ _ _ h => h) (Or.inl ⟨by rfl, ?hyz98⟩) hHeld ?restz98
      case hyz98 => intro w hSw; (try dsimp only at hSw); go_simp; try (with_reducible rfl)
      (try simp only [Act.put, List.setIfInBounds_toArray, List.set_cons_zero, List.set_cons_succ, List.getElem_toArray, List.getElem_cons_zero, List.getElem_cons_succ])
      refine wpAnyH_take (i := 9) (v := ?vz99) rfl (by kernel_rfl) (by kernel_rfl) (by kernel_rfl) (fun _ _ _ h => h) (Or.inl ⟨by rfl, ?hyz99⟩) hHeld ?restz99
      case hyz99 => intro w hSw; (try dsimp only at hSw); go_simp; try (with_reducible rfl)
      (try simp only [Act.put, List.setIfInBounds_toArray, List.set_cons_zero, List.set_cons_succ, List.getElem_toArray, List.getElem_cons_zero, List.getElem_cons_succ])
      refine wpAnyH_take (i := 10) (v := ?vz910) rfl (by kernel_rfl) (by kernel_rfl) (by kernel_rfl) (fun _ _ _ h => h) (Or.inl ⟨by rfl, ?hyz910⟩) hHeld ?restz910
      case hyz910 => intro w hSw; (try dsimp only at hSw); obtain ⟨c0, c1, c2, c3⟩ := (((HXp.out.fr HFwm.out (fun h => h)).fr HFwn.out (fun h => h)).fr hSw (fun h => h)).cells; try rw [HZK.out] at c0; go_simp; try (with_reducible rfl)
      (try simp only [Act.put, List.setIfInBounds_toArray, List.set_cons_zero, List.set_cons_succ, List.getElem_toArray, List.getElem_cons_zero, List.getElem_cons_succ])
      refine wpAnyH_take (i := 13) (v := ?vz913) rfl (by kernel_rfl) (by kernel_rfl) (by kernel_rfl) (fun _ _ _ h => h) (Or.inl ⟨by rfl, ?hyz913⟩) hHeld ?restz913
      case hyz913 => intro w hSw; (try dsimp only at hSw); go_simp; try (with_reducible rfl)
      (try simp only [Act.put, List.setIfInBounds_toArray, List.set_cons_zero, List.set_cons_succ, List.getElem_toArray, List.getElem_cons_zero, List.getElem_cons_succ])
      refine wpAnyH_take (i := 14) (v := ?vz914) rfl (by kernel_rfl) (by kernel_rfl) (by kernel_rfl) (fun _ _ _ h => h) (Or.inl ⟨by rfl, ?hyz914⟩) hHeld ?restz914
      case hyz914 => intro w hSw; (try dsimp only at hSw); have hcv := str_rd (((((HRD.out.fr HFwh.out (fun _ _ h => h)).fr HFwm.out (fun _ _ h => h)).fr HFwn.out (fun _ _ h => h)).fr hSw (fun _ _ h => h))) c; go_simp; try (with_reducible rfl)
      (try simp only [Act.put, List.setIfInBounds_toArray, List.set_cons_zero, List.set_cons_succ, List.getElem_toArray, List.getElem_cons_zero, List.getElem_cons_succ])
      refine wpAnyH_ready (rs := [11]) (by kernel_rfl) (by simp) ?_
      refine AllReadyH.cons rfl (fun Kx hKx => ?_) AllReadyH.nil
      go_simp
      have hcon := HPZ.out wn
      with_reducible refine hcon.mono ?_
      clear hcon
      rintro e' wo ⟨A9, m9, rfl, hc9, hr9, hff⟩
      have HFwo : Hid (Fr (fun _ => False) wn wo) := Lib.hid (hff)
      have HR9 := Lib.hid hr9
      clear hc9 hr9
      refine hKx.out _ _ ?_ (fun hHeld => ?_)
      · exact HFwo.out
      clear hKx Kx hff
      (try simp only [Act.put, List.setIfInBounds_toArray, List.set_cons_zero, List.set_cons_succ, List.getElem_toArray, List.getElem_cons_zero, List.getElem_cons_succ])
      refine wpAnyH_more (fun w' => Fr (fun _ => False) wo w') (fun _ h => HFwo.out.trans h (fun _ _ h => h)) ?_ (fun hHeld => ?_)
      · exact Fr.refl _ _
      refine wpAnyH_take (i := 12) (v := ?vz912) rfl (by kernel_rfl) (by kernel_rfl) (by kernel_rfl) (fun _ _ _ h => h) (Or.inl ⟨by rfl, ?hyz912⟩) hHeld ?restz912
      case hyz912 => intro w hSw; (try dsimp only at hSw); have hcv := str_rd (HR9.out.fr hSw (fun _ _ h => h)) m9; go_simp; try (with_reducible rfl)
      (try simp only [Act.put, List.setIfInBounds_toArray, List.set_cons_zero, List.set_cons_succ, List.getElem_toArray, List.getElem_cons_zero, List.getElem_cons_succ])
      refine wpAnyH_take (i := 15) (v := ?vz915) rfl (by kernel_rfl) (by kernel_rfl) (by kernel_rfl) (fun _ _ _ h => h) (Or.inl ⟨by rfl, ?hyz915⟩) hHeld ?restz915
      case hyz915 => intro w hSw; (try dsimp only at hSw); go_simp; try (with_reducible rfl)
      (try simp only [Act.put, List.setIfInBounds_toArray, List.set_cons_zero, List.set_cons_succ, List.getElem_toArray, List.getElem_cons_zero, List.getElem_cons_succ])
      refine wpAnyH_take (i := 16) (v := ?vz916) rfl (by kernel_rfl) (by kernel_rfl) (by kernel_rfl) (fun _ _ _ h => h) (Or.inl ⟨by rfl, ?hyz916⟩) hHeld ?restz916
      case hyz916 => intro w hSw; (try dsimp only at hSw); go_simp; try (with_reducible rfl)
      (try simp only [Act.put, List.setIfInBounds_toArray, List.set_cons_zero, List.set_cons_succ, List.getElem_toArray, List.getElem_cons_zero, List.getElem_cons_succ])
      refine wpAnyH_take (i := 17) (v := ?vz917) rfl (by kernel_rfl) (by kernel_rfl) (by kernel_rfl) (fun _ _ _ h => h) (Or.inl ⟨by rfl, ?hyz917⟩) hHeld ?restz917
      case hyz917 => intro w hSw; (try dsimp only at hSw); go_simp; try (with_reducible rfl)
      (try simp only [Act.put, List.setIfInBounds_toArray, List.set_cons_zero, List.set_cons_succ, List.getElem_toArray, List.getElem_cons_zero, List.getElem_cons_succ])
      refine wpAnyH_done (by kernel_rfl) ?_ _
      go_wp2_with fail
      go_ret
      exact ⟨rfl, ((HFwh.out.trans HFwm.out (fun _ _ h => h)).trans HFwn.out (fun _ _ h => h)).trans HFwo.out (fun _ _ h => h)⟩
  · have HXW := Lib.hid (HXV.out rfl)
    clear HXV
    go_enter Try.func5, Try.ntmps5
    go_wp2_with fail
    clear hw hg
    refine (HAW.out _).mono ?_
    rintro e w2 ⟨rfl, hf⟩
    have HFw2 := Lib.hid (HFw1.out.trans hf (fun _ _ h => h))
    have HR2 := Lib.hid (HR1.out.fr hf (fun h => h))
    clear hf
    obtain ⟨c0, c1, c2, c3⟩ := HR2.out.cells
    go_wp2_with fail
    refine (H1.out _).mono ?_
    rintro e w3 ⟨rfl, hf⟩
    have HFw3 := Lib.hid (HFw2.out.trans hf (fun _ _ h => h))
    have HR3 := Lib.hid (HR2.out.fr hf (fun h => h))
    clear hf c0 c1 c2 c3
    clear HAW H1 HR1 HR2
    have HR := HR3
    have HF1 := HFw3
    obtain ⟨j0, j1, j2, j3⟩ := HR3.out.cells
    go_upto_region 4 with fail
    go_cut [7, 8] (fun a b wx => ∃ pb, a = .pointer (some ⟨pb, 0, none⟩) ∧ b = .int .i64 E ∧ RowV wx pb x ∧ RowV wx g v ∧ Fr (fun _ => False) w wx)
    case first =>
      refine wp_region_noPanic ?_
      refine wp_region_held_drew (S := fun w' => w'.cell? ⟨g, 0, none⟩ = some (.int .i64 v.k) ∧ w'.cell? ⟨g, 1, none⟩ = some (.int .u64 (v.u : Int)) ∧ w'.cell? ⟨g, 2, none⟩ = some (.int .i64 v.n) ∧ w'.cell? ⟨g, 3, none⟩ = some (.string (txt v.s))) (by kernel_rfl) ?_ (fun hHeld => ?_)
      · exact ⟨j0, j1, j2, j3⟩
      refine wpAnyH_take (i := 0) (v := ?va0) rfl (by kernel_rfl) (by kernel_rfl) (by kernel_rfl) (fun _ _ _ h => h) (Or.inl ⟨by rfl, ?hya0⟩) hHeld ?resta0
      case hya0 => intro w hSw; (try dsimp only at hSw); go_simp; try (with_reducible rfl)
      (try simp only [Act.put, List.setIfInBounds_toArray, List.set_cons_zero, List.set_cons_succ, List.getElem_toArray, List.getElem_cons_zero])
      refine wpAnyH_take (i := 1) (v := ?va1) rfl (by kernel_rfl) (by kernel_rfl) (by kernel_rfl) (fun _ _ _ h => h) (Or.inl ⟨by rfl, ?hya1⟩) hHeld ?resta1
      case hya1 => intro w hSw; (try dsimp only at hSw); go_simp; try (with_reducible rfl)
      (try simp only [Act.put, List.setIfInBounds_toArray, List.set_cons_zero, List.set_cons_succ, List.getElem_toArray, List.getElem_cons_zero, List.getElem_cons_succ])
      refine wpAnyH_take (i := 2) (v := ?va2) rfl (by kernel_rfl) (by kernel_rfl) (by kernel_rfl) (fun _ _ _ h => h) (Or.inl ⟨by rfl, ?hya2⟩) hHeld ?resta2
      case hya2 => intro w hSw; (try dsimp only at hSw); go_simp; try (with_reducible rfl)
      (try simp only [Act.put, List.setIfInBounds_toArray, List.set_cons_zero, List.set_cons_succ, List.getElem_toArray, List.getElem_cons_zero, List.getElem_cons_succ])
      refine wpAnyH_ready (rs := [3, 8]) (by kernel_rfl) (by simp) ?_
      refine AllReadyH.cons rfl (fun Kx hKx => ?_) ?_
      · go_simp
        refine (HPT.out w3.drew).mono ?_
        rintro e w2 ⟨A2, c2, rfl, hc2, hd2, hf2⟩
        have HR2 := Lib.hid ((show RowV w3.drew g v from HR.out).fr hf2 (fun h => h))
        have HF2 := Lib.hid ((HF1.out.drew).trans hf2 (fun _ _ h => h))
        have HC2 := Lib.hid hc2
        have HD2 := Lib.hid hd2
        
        clear hc2 hd2 hf2
        refine hKx.out _ _ ?_ (fun hHeld => ?_)
        · exact HR2.out.cells
        clear hKx Kx
        (try simp only [Act.put, List.setIfInBounds_toArray, List.set_cons_zero, List.set_cons_succ, List.getElem_toArray, List.getElem_cons_zero, List.getElem_cons_succ])
        refine wpAnyH_ready (rs := [4, 8]) (by kernel_rfl) (by simp) ?_
        refine AllReadyH.cons rfl (fun Kx hKx => ?_) ?_
        · go_simp
          refine (HGT.out w2 A2 c2 HD2.out HC2.out).mono ?_
          rintro e w3 ⟨rfl, hf3⟩
          have HR3 := Lib.hid (HR2.out.fr hf3 (fun h => h))
          have HF3 := Lib.hid (HF2.out.trans hf3 (fun _ _ h => h))
          
          clear hf3
          refine hKx.out _ _ ?_ (fun hHeld => ?_)
          · exact HR3.out.cells
          clear hKx Kx
          (try simp only [Act.put, List.setIfInBounds_toArray, List.set_cons_zero, List.set_cons_succ, List.getElem_toArray, List.getElem_cons_zero, List.getElem_cons_succ])
          refine wpAnyH_take (i := 5) (v := ?vc5) rfl (by kernel_rfl) (by kernel_rfl) (by kernel_rfl) (fun _ _ _ h => h) (Or.inl ⟨by rfl, ?hyc5⟩) hHeld ?restc5
          case hyc5 => intro w hSw; (try dsimp only at hSw); go_simp; try (with_reducible rfl)
          (try simp only [Act.put, List.setIfInBounds_toArray, List.set_cons_zero, List.set_cons_succ, List.getElem_toArray, List.getElem_cons_zero, List.getElem_cons_succ])
          refine wpAnyH_take (i := 6) (v := ?vc6) rfl (by kernel_rfl) (by kernel_rfl) (by kernel_rfl) (fun _ _ _ h => h) (Or.inl ⟨by rfl, ?hyc6⟩) hHeld ?restc6
          case hyc6 => intro w hSw; (try dsimp only at hSw); go_simp; try (with_reducible rfl)
          (try simp only [Act.put, List.setIfInBounds_toArray, List.set_cons_zero, List.set_cons_succ, List.getElem_toArray, List.getElem_cons_zero, List.getElem_cons_succ])
          refine wpAnyH_take (i := 7) (v := ?vc7) rfl (by kernel_rfl) (by kernel_rfl) (by kernel_rfl) (fun _ _ _ h => h) (Or.inl ⟨by rfl, ?hyc7⟩) hHeld ?restc7
          case hyc7 => intro w hSw; (try dsimp only at hSw); go_simp; try (with_reducible rfl)
          (try simp only [Act.put, List.setIfInBounds_toArray, List.set_cons_zero, List.set_cons_succ, List.getElem_toArray, List.getElem_cons_zero, List.getElem_cons_succ])
          refine wpAnyH_ready (rs := [8]) (by kernel_rfl) (by simp) ?_
          refine AllReadyH.cons rfl (fun Kx hKx => ?_) AllReadyH.nil
          go_simp
          obtain ⟨w4, hwa⟩ : ∃ y, (w3.alloc (.cells #[.int .i64 0, .int .u64 0, .int .i64 0, .string ⟨#[]⟩] 24)) = y := ⟨_, rfl⟩
          rw [hwa]
          obtain ⟨pb, hpb⟩ : ∃ p, w3.heap.size = p := ⟨_, rfl⟩
          try rw [hpb]
          have hfa : Fr (fun _ => False) w3 w4 := by rw [← hwa]; exact (Fr.refl _ _).alloc _
          have hpa : RowV w4 pb zeroV := by rw [← hwa, ← hpb]; exact RowV.new w3 zeroV
          have HPN : Hid (w.heap.size ≤ pb ∧ g ≠ pb) := Lib.hid (by have h1 := HR3.out.lt; have h2 := HF3.out.size; omega)
          have HRa := Lib.hid (HR3.out.fr hfa (fun h => h))
          have HFa := Lib.hid (HF3.out.trans hfa (fun _ _ h => h))
          have HPa := Lib.hid hpa
          
          clear hwa hpb hfa hpa
          have HR4 := HRa
          have HF4 := HFa
          have HP4 := HPa
          refine hKx.out _ _ ?_ (fun hHeld => ?_)
          · exact HR4.out.cells
          clear hKx Kx
          (try simp only [Act.put, List.setIfInBounds_toArray, List.set_cons_zero, List.set_cons_succ, List.getElem_toArray, List.getElem_cons_zero, List.getElem_cons_succ])
          refine wpAnyH_ready (rs := [9]) (by kernel_rfl) (by simp) ?_
          refine AllReadyH.cons rfl (fun Kx hKx => ?_) AllReadyH.nil
          refine step_store_whole vSz (by rfl) _ _ (by rfl) pb (by rfl) (vls x).toArray (by rfl) _ _ HP4.out rfl rfl (v_one x) ?_
          intro w8 hr8 hf8
          have HX8 : Hid (RowV w8 pb x) := Lib.hid hr8
          have HR8 := Lib.hid (HR4.out.fr hf8 HPN.out.2)
          have HF8 := Lib.hid (HF4.out.trans hf8 (fun b hb h => by have := HPN.out.1; omega))
          clear hr8 hf8
          refine hKx.out _ _ ?_ (fun hHeld => ?_)
          · exact HR8.out.cells
          clear hKx Kx
          (try simp only [Act.put, List.getElem_toArray, List.getElem_cons_zero, List.getElem_cons_succ])
          refine wpAnyH_ready (rs := [10]) (by kernel_rfl) (by simp) ?_
          refine AllReadyH.cons rfl (fun Kx hKx => ?_) AllReadyH.nil
          go_simp
          refine hKx.out _ _ ?_ (fun hHeld => ?_)
          · exact HR8.out.cells
          clear hKx Kx
          (try simp only [Act.put, List.setIfInBounds_toArray, List.set_cons_zero, List.set_cons_succ, List.getElem_toArray, List.getElem_cons_zero, List.getElem_cons_succ])
          refine wpAnyH_done (by kernel_rfl) ?_ _
          refine NoPanic.normal ?_
          all_goals (go_wp2_with fail; go_meet; exact ⟨pb, rfl, rfl, HX8.out, HR8.out, HF8.out⟩)
        refine AllReadyH.cons rfl (fun Kx hKx => ?_) AllReadyH.nil
        go_simp
        obtain ⟨wa, hwa⟩ : ∃ y, (w2.alloc (.cells #[.int .i64 0, .int .u64 0, .int .i64 0, .string ⟨#[]⟩] 24)) = y := ⟨_, rfl⟩
        rw [hwa]
        obtain ⟨pb, hpb⟩ : ∃ p, w2.heap.size = p := ⟨_, rfl⟩
        try rw [hpb]
        have hfa : Fr (fun _ => False) w2 wa := by rw [← hwa]; exact (Fr.refl _ _).alloc _
        have hpa : RowV wa pb zeroV := by rw [← hwa, ← hpb]; exact RowV.new w2 zeroV
        have HPN : Hid (w.heap.size ≤ pb ∧ g ≠ pb) := Lib.hid (by have h1 := HR2.out.lt; have h2 := HF2.out.size; omega)
        have HRa := Lib.hid (HR2.out.fr hfa (fun h => h))
        have HFa := Lib.hid (HF2.out.trans hfa (fun _ _ h => h))
        have HPa := Lib.hid hpa
        have HDa := Lib.hid (HD2.out.fr hfa (fun _ _ h => h))
        clear hwa hpb hfa hpa
        refine hKx.out _ _ ?_ (fun hHeld => ?_)
        · exact HRa.out.cells
        clear hKx Kx
        (try simp only [Act.put, List.setIfInBounds_toArray, List.set_cons_zero, List.set_cons_succ, List.getElem_toArray, List.getElem_cons_zero, List.getElem_cons_succ])
        refine wpAnyH_ready (rs := [4]) (by kernel_rfl) (by simp) ?_
        refine AllReadyH.cons rfl (fun Kx hKx => ?_) AllReadyH.nil
        go_simp
        refine (HGT.out wa A2 c2 HDa.out HC2.out).mono ?_
        rintro e w4 ⟨rfl, hf3⟩
        have HR4 := Lib.hid (HRa.out.fr hf3 (fun h => h))
        have HF4 := Lib.hid (HFa.out.trans hf3 (fun _ _ h => h))
        have HP4 := Lib.hid (HPa.out.fr hf3 (fun h => h))
        clear hf3
        refine hKx.out _ _ ?_ (fun hHeld => ?_)
        · exact HR4.out.cells
        clear hKx Kx
        (try simp only [Act.put, List.setIfInBounds_toArray, List.set_cons_zero, List.set_cons_succ, List.getElem_toArray, List.getElem_cons_zero, List.getElem_cons_succ])
        refine wpAnyH_take (i := 5) (v := ?vd5) rfl (by kernel_rfl) (by kernel_rfl) (by kernel_rfl) (fun _ _ _ h => h) (Or.inl ⟨by rfl, ?hyd5⟩) hHeld ?restd5
        case hyd5 => intro w hSw; (try dsimp only at hSw); go_simp; try (with_reducible rfl)
        (try simp only [Act.put, List.setIfInBounds_toArray, List.set_cons_zero, List.set_cons_succ, List.getElem_toArray, List.getElem_cons_zero, List.getElem_cons_succ])
        refine wpAnyH_take (i := 6) (v := ?vd6) rfl (by kernel_rfl) (by kernel_rfl) (by kernel_rfl) (fun _ _ _ h => h) (Or.inl ⟨by rfl, ?hyd6⟩) hHeld ?restd6
        case hyd6 => intro w hSw; (try dsimp only at hSw); go_simp; try (with_reducible rfl)
        (try simp only [Act.put, List.setIfInBounds_toArray, List.set_cons_zero, List.set_cons_succ, List.getElem_toArray, List.getElem_cons_zero, List.getElem_cons_succ])
        refine wpAnyH_take (i := 7) (v := ?vd7) rfl (by kernel_rfl) (by kernel_rfl) (by kernel_rfl) (fun _ _ _ h => h) (Or.inl ⟨by rfl, ?hyd7⟩) hHeld ?restd7
        case hyd7 => intro w hSw; (try dsimp only at hSw); go_simp; try (with_reducible rfl)
        (try simp only [Act.put, List.setIfInBounds_toArray, List.set_cons_zero, List.set_cons_succ, List.getElem_toArray, List.getElem_cons_zero, List.getElem_cons_succ])
        refine wpAnyH_ready (rs := [9]) (by kernel_rfl) (by simp) ?_
        refine AllReadyH.cons rfl (fun Kx hKx => ?_) AllReadyH.nil
        refine step_store_whole vSz (by rfl) _ _ (by rfl) pb (by rfl) (vls x).toArray (by rfl) _ _ HP4.out rfl rfl (v_one x) ?_
        intro w8 hr8 hf8
        have HX8 : Hid (RowV w8 pb x) := Lib.hid hr8
        have HR8 := Lib.hid (HR4.out.fr hf8 HPN.out.2)
        have HF8 := Lib.hid (HF4.out.trans hf8 (fun b hb h => by have := HPN.out.1; omega))
        clear hr8 hf8
        refine hKx.out _ _ ?_ (fun hHeld => ?_)
        · exact HR8.out.cells
        clear hKx Kx
        (try simp only [Act.put, List.getElem_toArray, List.getElem_cons_zero, List.getElem_cons_succ])
        refine wpAnyH_ready (rs := [10]) (by kernel_rfl) (by simp) ?_
        refine AllReadyH.cons rfl (fun Kx hKx => ?_) AllReadyH.nil
        go_simp
        refine hKx.out _ _ ?_ (fun hHeld => ?_)
        · exact HR8.out.cells
        clear hKx Kx
        (try simp only [Act.put, List.setIfInBounds_toArray, List.set_cons_zero, List.set_cons_succ, List.getElem_toArray, List.getElem_cons_zero, List.getElem_cons_succ])
        refine wpAnyH_done (by kernel_rfl) ?_ _
        refine NoPanic.normal ?_
        all_goals (go_wp2_with fail; go_meet; exact ⟨pb, rfl, rfl, HX8.out, HR8.out, HF8.out⟩)
      refine AllReadyH.cons rfl (fun Kx hKx => ?_) AllReadyH.nil
      go_simp
      obtain ⟨wa, hwa⟩ : ∃ y, (w3.alloc (.cells #[.int .i64 0, .int .u64 0, .int .i64 0, .string ⟨#[]⟩] 24)).drew = y := ⟨_, rfl⟩
      rw [hwa]
      obtain ⟨pb, hpb⟩ : ∃ p, w3.heap.size = p := ⟨_, rfl⟩
      try rw [hpb]
      have hfa : Fr (fun _ => False) w3 wa := by rw [← hwa]; exact ((Fr.refl _ _).alloc _).drew
      have hpa : RowV wa pb zeroV := by rw [← hwa, ← hpb]; exact RowV.new w3 zeroV
      have HPN : Hid (w.heap.size ≤ pb ∧ g ≠ pb) := Lib.hid (by have h1 := HR.out.lt; have h2 := HF1.out.size; omega)
      have HRa := Lib.hid (HR.out.fr hfa (fun h => h))
      have HFa := Lib.hid (HF1.out.trans hfa (fun _ _ h => h))
      have HPa := Lib.hid hpa

      clear hwa hpb hfa hpa
      refine hKx.out _ _ ?_ (fun hHeld => ?_)
      · exact HRa.out.cells
      clear hKx Kx
      (try simp only [Act.put, List.setIfInBounds_toArray, List.set_cons_zero, List.set_cons_succ, List.getElem_toArray, List.getElem_cons_zero, List.getElem_cons_succ])
      refine wpAnyH_ready (rs := [3]) (by kernel_rfl) (by simp) ?_
      refine AllReadyH.cons rfl (fun Kx hKx => ?_) AllReadyH.nil
      go_simp
      refine (HPT.out wa).mono ?_
      rintro e w2 ⟨A2, c2, rfl, hc2, hd2, hf2⟩
      have HR2 := Lib.hid ((HRa.out).fr hf2 (fun h => h))
      have HF2 := Lib.hid ((HFa.out).trans hf2 (fun _ _ h => h))
      have HC2 := Lib.hid hc2
      have HD2 := Lib.hid hd2
      have HP2 := Lib.hid (HPa.out.fr hf2 (fun h => h))
      clear hc2 hd2 hf2
      refine hKx.out _ _ ?_ (fun hHeld => ?_)
      · exact HR2.out.cells
      clear hKx Kx
      (try simp only [Act.put, List.setIfInBounds_toArray, List.set_cons_zero, List.set_cons_succ, List.getElem_toArray, List.getElem_cons_zero, List.getElem_cons_succ])
      refine wpAnyH_ready (rs := [4]) (by kernel_rfl) (by simp) ?_
      refine AllReadyH.cons rfl (fun Kx hKx => ?_) AllReadyH.nil
      go_simp
      refine (HGT.out w2 A2 c2 HD2.out HC2.out).mono ?_
      rintro e w4 ⟨rfl, hf3⟩
      have HR4 := Lib.hid (HR2.out.fr hf3 (fun h => h))
      have HF4 := Lib.hid (HF2.out.trans hf3 (fun _ _ h => h))
      have HP4 := Lib.hid (HP2.out.fr hf3 (fun h => h))
      clear hf3
      refine hKx.out _ _ ?_ (fun hHeld => ?_)
      · exact HR4.out.cells
      clear hKx Kx
      (try simp only [Act.put, List.setIfInBounds_toArray, List.set_cons_zero, List.set_cons_succ, List.getElem_toArray, List.getElem_cons_zero, List.getElem_cons_succ])
      refine wpAnyH_take (i := 5) (v := ?ve5) rfl (by kernel_rfl) (by kernel_rfl) (by kernel_rfl) (fun _ _ _ h => h) (Or.inl ⟨by rfl, ?hye5⟩) hHeld ?reste5
      case hye5 => intro w hSw; (try dsimp only at hSw); go_simp; try (with_reducible rfl)
      (try simp only [Act.put, List.setIfInBounds_toArray, List.set_cons_zero, List.set_cons_succ, List.getElem_toArray, List.getElem_cons_zero, List.getElem_cons_succ])
      refine wpAnyH_take (i := 6) (v := ?ve6) rfl (by kernel_rfl) (by kernel_rfl) (by kernel_rfl) (fun _ _ _ h => h) (Or.inl ⟨by rfl, ?hye6⟩) hHeld ?reste6
      case hye6 => intro w hSw; (try dsimp only at hSw); go_simp; try (with_reducible rfl)
      (try simp only [Act.put, List.setIfInBounds_toArray, List.set_cons_zero, List.set_cons_succ, List.getElem_toArray, List.getElem_cons_zero, List.getElem_cons_succ])
      refine wpAnyH_take (i := 7) (v := ?ve7) rfl (by kernel_rfl) (by kernel_rfl) (by kernel_rfl) (fun _ _ _ h => h) (Or.inl ⟨by rfl, ?hye7⟩) hHeld ?reste7
      case hye7 => intro w hSw; (try dsimp only at hSw); go_simp; try (with_reducible rfl)
      (try simp only [Act.put, List.setIfInBounds_toArray, List.set_cons_zero, List.set_cons_succ, List.getElem_toArray, List.getElem_cons_zero, List.getElem_cons_succ])
      refine wpAnyH_ready (rs := [9]) (by kernel_rfl) (by simp) ?_
      refine AllReadyH.cons rfl (fun Kx hKx => ?_) AllReadyH.nil
      refine step_store_whole vSz (by rfl) _ _ (by rfl) pb (by rfl) (vls x).toArray (by rfl) _ _ HP4.out rfl rfl (v_one x) ?_
      intro w8 hr8 hf8
      have HX8 : Hid (RowV w8 pb x) := Lib.hid hr8
      have HR8 := Lib.hid (HR4.out.fr hf8 HPN.out.2)
      have HF8 := Lib.hid (HF4.out.trans hf8 (fun b hb h => by have := HPN.out.1; omega))
      clear hr8 hf8
      refine hKx.out _ _ ?_ (fun hHeld => ?_)
      · exact HR8.out.cells
      clear hKx Kx
      (try simp only [Act.put, List.getElem_toArray, List.getElem_cons_zero, List.getElem_cons_succ])
      refine wpAnyH_ready (rs := [10]) (by kernel_rfl) (by simp) ?_
      refine AllReadyH.cons rfl (fun Kx hKx => ?_) AllReadyH.nil
      go_simp
      refine hKx.out _ _ ?_ (fun hHeld => ?_)
      · exact HR8.out.cells
      clear hKx Kx
      (try simp only [Act.put, List.setIfInBounds_toArray, List.set_cons_zero, List.set_cons_succ, List.getElem_toArray, List.getElem_cons_zero, List.getElem_cons_succ])
      refine wpAnyH_done (by kernel_rfl) ?_ _
      refine NoPanic.normal ?_
      go_wp2_with fail
      go_meet
      exact ⟨pb, rfl, rfl, HX8.out, HR8.out, HF8.out⟩
    case rest =>
      obtain ⟨pb, rfl, rfl, HX, HR8, HF8⟩ := hcut
      rename World => wc
      obtain ⟨hxv, hE0⟩ := HXW.out
      obtain rfl : x = v := hxv
      obtain rfl : E = 0 := hE0
      obtain ⟨q1, q2⟩ := v_neq x x
      rw [eqV_self] at q2
      obtain ⟨y0, y1, y2, y3⟩ := HX.cells
      obtain ⟨z0, z1, z2, z3⟩ := HR8.cells
      have HFwc := Lib.hid HF8
      clear HX HR8 HF8 j0 j1 j2 j3 HXW HPT HGT HR HF1 HR3 HFw3
      go_wp2_with fail
      clear y0 y1 y2 y3 z0 z1 z2 z3
      refine (HPG.out wc HFwc.out).mono ?_
      rintro e wg ⟨rfl, hf⟩
      have HFwg := Lib.hid (HFwc.out.trans hf (fun _ _ h => h))
      clear hf
      obtain ⟨p, hp⟩ : ∃ p, wg.heap.size = p := ⟨_, rfl⟩
      obtain ⟨wa, hwa⟩ : ∃ w', wg.alloc (.cells #[.int .i64 0, .int .u64 0, .int .i64 0, .string ⟨#[]⟩] 24) = w' := ⟨_, rfl⟩
      have hfa : Fr (fun _ => False) wg wa := by rw [← hwa]; exact (Fr.refl _ _).alloc _
      have hpa : RowV wa p zeroV := by rw [← hwa, ← hp]; exact RowV.new wg zeroV
      have HPAp := Lib.hid hpa
      have HPp := Lib.hid hp
      have HFAp := Lib.hid hfa
      clear hfa hpa
      go_upto_region 8 with (refine store_st vSz rfl (.tmp 9) (.tmp 47) rfl p (by rfl) (vls z) (by rfl) _ _ HPAp.out rfl rfl (v_one _) ?_)
      intro wh hrn hfn
      have HXp : Hid (RowV wh p z) := Lib.hid hrn
      have HFNp : Hid (Fr (fun _ => False) wg wh) := Lib.hid (HFAp.out.trans hfn (fun b hb h => by have := HPp.out; omega))
      clear hrn hfn hwa hp
      have HFwh := Lib.hid (HFwg.out.trans HFNp.out (fun _ _ h => h))
      clear HFwg HFNp HPAp HPp HFAp HPG
      cases ok2
      · obtain rfl : E2 = 3 := HE2.out.symm
        have hzz := get_no (k := k) (B := B) (by rw [HZ.out])
        rw [HZ.out] at hzz
        simp only [Prod.mk.injEq, and_true] at hzz
        subst hzz
        have c0 : wh.cell? ⟨p, 0, none⟩ = some (.int .i64 0) := HXp.out.c0
        have c1 : wh.cell? ⟨p, 1, none⟩ = some (.int .u64 0) := HXp.out.c1
        have c2 : wh.cell? ⟨p, 2, none⟩ = some (.int .i64 0) := HXp.out.c2
        have c3 : wh.cell? ⟨p, 3, none⟩ = some (.string ⟨#[]⟩) := HXp.out.c3
        have q1 : ∀ (x y : Operand) (w : World), (eqGuard .eql 24 x y (.agg #[.int .i64 0, .int .u64 0, .int .i64 0, .string ⟨#[]⟩]) (.agg #[.int .i64 0, .int .u64 0, .int .i64 0, .string ⟨#[]⟩])).run Try.prog w = .ok () w := (v_eql zeroV zeroV).1
        have q2 : ∀ w : World, (binOp .eql 24 (.agg #[.int .i64 0, .int .u64 0, .int .i64 0, .string ⟨#[]⟩]) (.agg #[.int .i64 0, .int .u64 0, .int .i64 0, .string ⟨#[]⟩])).run Try.prog w = .ok (.bool true) w := (v_eql zeroV zeroV).2
        go_wp2_with fail
        go_ret
        exact ⟨rfl, HFwh.out⟩
      · obtain rfl : E2 = 0 := HE2.out.symm
        have hzz := put_get (k := k) (B := B) HZ.out
        have HZK := Lib.hid hzz.1
        have hra := fun w q h => vright_at K z w q h HZO.out (by have := HZL.out; omega)
        rw [hzz.2.1] at hra
        have hpz := fun w => K.put z w HZO.out
        rw [hzz.2.2] at hpz
        simp only [valc, hzz.1] at hpz
        have HRA := Lib.hid hra
        have HPZ := Lib.hid hpz
        clear hzz hra hpz
        go_upto_region 10 with fail
        refine wp_region_held_drew (S := fun w' => Fr (fun _ => False) wh w') (by kernel_rfl) ?_ (fun hHeld => ?_)
        · exact (Fr.refl _ _).drew
        refine wpAnyH_take (i := 0) (v := ?vz100) rfl (by kernel_rfl) (by kernel_rfl) (by kernel_rfl) (fun _ _ _ h => h) (Or.inl ⟨by rfl, ?hyz100⟩) hHeld ?restz100
        case hyz100 => intro w hSw; (try dsimp only at hSw); go_simp; try (with_reducible rfl)
        (try simp only [Act.put, List.setIfInBounds_toArray, List.set_cons_zero, List.set_cons_succ, List.getElem_toArray, List.getElem_cons_zero])
        refine wpAnyH_take (i := 1) (v := ?vz101) rfl (by kernel_rfl) (by kernel_rfl) (by kernel_rfl) (fun _ _ _ h => h) (Or.inl ⟨by rfl, ?hyz101⟩) hHeld ?restz101
        case hyz101 => intro w hSw; (try dsimp only at hSw); obtain ⟨c0, c1, c2, c3⟩ := (HXp.out.fr hSw (fun h => h)).cells; try rw [HZK.out] at c0; go_simp; try (with_reducible rfl)
        (try simp only [Act.put, List.setIfInBounds_toArray, List.set_cons_zero, List.set_cons_succ, List.getElem_toArray, List.getElem_cons_zero, List.getElem_cons_succ])
        refine wpAnyH_take (i := 2) (v := ?vz102) rfl (by kernel_rfl) (by kernel_rfl) (by kernel_rfl) (fun _ _ _ h => h) (Or.inl ⟨by rfl, ?hyz102⟩) hHeld ?restz102
        case hyz102 => intro w hSw; (try dsimp only at hSw); go_simp; try (with_reducible rfl)
        (try simp only [Act.put, List.setIfInBounds_toArray, List.set_cons_zero, List.set_cons_succ, List.getElem_toArray, List.getElem_cons_zero, List.getElem_cons_succ])
        refine wpAnyH_take (i := 3) (v := ?vz103) rfl (by kernel_rfl) (by kernel_rfl) (by kernel_rfl) (fun _ _ _ h => h) (Or.inl ⟨by rfl, ?hyz103⟩) hHeld ?restz103
        case hyz103 => intro w hSw; (try dsimp only at hSw); go_simp; try (with_reducible rfl)
        (try simp only [Act.put, List.setIfInBounds_toArray, List.set_cons_zero, List.set_cons_succ, List.getElem_toArray, List.getElem_cons_zero, List.getElem_cons_succ])
        refine wpAnyH_take (i := 4) (v := ?vz104) rfl (by kernel_rfl) (by kernel_rfl) (by kernel_rfl) (fun _ _ _ h => h) (Or.inl ⟨by rfl, ?hyz104⟩) hHeld ?restz104
        case hyz104 => intro w hSw; (try dsimp only at hSw); go_simp; try (with_reducible rfl)
        (try simp only [Act.put, List.setIfInBounds_toArray, List.set_cons_zero, List.set_cons_succ, List.getElem_toArray, List.getElem_cons_zero, List.getElem_cons_succ])
        refine wpAnyH_take (i := 5) (v := ?vz105) rfl (by kernel_rfl) (by kernel_rfl) (by kernel_rfl) (fun _ _ _ h => h) (Or.inl ⟨by rfl, ?hyz105⟩) hHeld ?restz105
        case hyz105 => intro w hSw; (try dsimp only at hSw); obtain ⟨c0, c1, c2, c3⟩ := (HXp.out.fr hSw (fun h => h)).cells; try rw [HZK.out] at c0; go_simp; try (with_reducible rfl)
        (try simp only [Act.put, List.setIfInBounds_toArray, List.set_cons_zero, List.set_cons_succ, List.getElem_toArray, List.getElem_cons_zero, List.getElem_cons_succ])
        refine wpAnyH_ready (rs := [6]) (by kernel_rfl) (by simp) ?_
        refine AllReadyH.cons rfl (fun Kx hKx => ?_) AllReadyH.nil
        go_simp
        obtain ⟨wm, hwm⟩ : ∃ y, (wh.alloc (.cells #[.int .i64 k, .int .u64 (z.u : Int), .int .i64 z.n, .string (txt z.s)] 24)).drew = y := ⟨_, rfl⟩
        rw [hwm]
        obtain ⟨pm, hpm⟩ : ∃ q, wh.heap.size = q := ⟨_, rfl⟩
        try rw [hpm]
        have hff : Fr (fun _ => False) wh.drew wm := by rw [← hwm]; exact ⟨rfl, rfl, rfl, by simp, fun b hb _ => Below.heap_alloc wh _ b hb⟩
        have hrm : RowV wm pm z := by rw [← hwm, ← hpm]; have h : RowV (wh.alloc (.cells (vls z).toArray 24)).drew wh.heap.size z := RowV.new wh z; rw [show (vls z).toArray = #[.int .i64 k, .int .u64 (z.u : Int), .int .i64 z.n, .string (txt z.s)] from by simp [vls, HZK.out]] at h; exact h
        have HRM := Lib.hid hrm
        clear hwm hpm hrm
        have HFwm : Hid (Fr (fun _ => False) wh wm) := Lib.hid ((Fr.refl _ _).drew.trans hff (fun _ _ h => h))
        refine hKx.out _ _ ?_ (fun hHeld => ?_)
        · exact HFwm.out
        clear hKx Kx hff
        (try simp only [Act.put, List.setIfInBounds_toArray, List.set_cons_zero, List.set_cons_succ, List.getElem_toArray, List.getElem_cons_zero, List.getElem_cons_succ])
        refine wpAnyH_more (fun w' => Fr (fun _ => False) wm w') (fun _ h => HFwm.out.trans h (fun _ _ h => h)) ?_ (fun hHeld => ?_)
        · exact Fr.refl _ _
        refine wpAnyH_ready (rs := [7]) (by kernel_rfl) (by simp) ?_
        refine AllReadyH.cons rfl (fun Kx hKx => ?_) AllReadyH.nil
        go_simp
        have hcon := HRA.out wm pm HRM.out
        with_reducible refine hcon.mono ?_
        clear hcon
        rintro e' wn ⟨rfl, hff⟩
        have HFwn : Hid (Fr (fun _ => False) wm wn) := Lib.hid (hff)
        refine hKx.out _ _ ?_ (fun hHeld => ?_)
        · exact HFwn.out
        clear hKx Kx hff
        (try simp only [Act.put, List.setIfInBounds_toArray, List.set_cons_zero, List.set_cons_succ, List.getElem_toArray, List.getElem_cons_zero, List.getElem_cons_succ])
        refine wpAnyH_more (fun w' => Fr (fun _ => False) wn w') (fun _ h => HFwn.out.trans h (fun _ _ h => h)) ?_ (fun hHeld => ?_)
        · exact Fr.refl _ _
        refine wpAnyH_take (i := 8) (v := ?vz108) rfl (by kernel_rfl) (by kernel_rfl) (by kernel_rfl) (fun _ _ _ h => h) (Or.inl ⟨by rfl, ?hyz108⟩) hHeld ?restz108
        case hyz108 => intro w hSw; (try dsimp only at hSw); go_simp; try (with_reducible rfl)
        (try simp only [Act.put, List.setIfInBounds_toArray, List.set_cons_zero, List.set_cons_succ, List.getElem_toArray, List.getElem_cons_zero, List.getElem_cons_succ])
        refine wpAnyH_take (i := 9) (v := ?vz109) rfl (by kernel_rfl) (by kernel_rfl) (by kernel_rfl) (fun _ _ _ h => h) (Or.inl ⟨by rfl, ?hyz109⟩) hHeld ?restz109
        case hyz109 => intro w hSw; (try dsimp only at hSw); go_simp; try (with_reducible rfl)
        (try simp only [Act.put, List.setIfInBounds_toArray, List.set_cons_zero, List.set_cons_succ, List.getElem_toArray, List.getElem_cons_zero, List.getElem_cons_succ])
        refine wpAnyH_take (i := 10) (v := ?vz1010) rfl (by kernel_rfl) (by kernel_rfl) (by kernel_rfl) (fun _ _ _ h => h) (Or.inl ⟨by rfl, ?hyz1010⟩) hHeld ?restz1010
        case hyz1010 => intro w hSw; (try dsimp only at hSw); obtain ⟨c0, c1, c2, c3⟩ := (((HXp.out.fr HFwm.out (fun h => h)).fr HFwn.out (fun h => h)).fr hSw (fun h => h)).cells; try rw [HZK.out] at c0; go_simp; try (with_reducible rfl)
        (try simp only [Act.put, List.setIfInBounds_toArray, List.set_cons_zero, List.set_cons_succ, List.getElem_toArray, List.getElem_cons_zero, List.getElem_cons_succ])
        refine wpAnyH_take (i := 13) (v := ?vz1013) rfl (by kernel_rfl) (by kernel_rfl) (by kernel_rfl) (fun _ _ _ h => h) (Or.inl ⟨by rfl, ?hyz1013⟩) hHeld ?restz1013
        case hyz1013 => intro w hSw; (try dsimp only at hSw); go_simp; try (with_reducible rfl)
        (try simp only [Act.put, List.setIfInBounds_toArray, List.set_cons_zero, List.set_cons_succ, List.getElem_toArray, List.getElem_cons_zero, List.getElem_cons_succ])
        refine wpAnyH_take (i := 14) (v := ?vz1014) rfl (by kernel_rfl) (by kernel_rfl) (by kernel_rfl) (fun _ _ _ h => h) (Or.inl ⟨by rfl, ?hyz1014⟩) hHeld ?restz1014
        case hyz1014 => intro w hSw; (try dsimp only at hSw); have hcv := str_rd (((((HRD.out.fr HFwh.out (fun _ _ h => h)).fr HFwm.out (fun _ _ h => h)).fr HFwn.out (fun _ _ h => h)).fr hSw (fun _ _ h => h))) c; go_simp; try (with_reducible rfl)
        (try simp only [Act.put, List.setIfInBounds_toArray, List.set_cons_zero, List.set_cons_succ, List.getElem_toArray, List.getElem_cons_zero, List.getElem_cons_succ])
        refine wpAnyH_ready (rs := [11]) (by kernel_rfl) (by simp) ?_
        refine AllReadyH.cons rfl (fun Kx hKx => ?_) AllReadyH.nil
        go_simp
        have hcon := HPZ.out wn
        with_reducible refine hcon.mono ?_
        clear hcon
        rintro e' wo ⟨A9, m9, rfl, hc9, hr9, hff⟩
        have HFwo : Hid (Fr (fun _ => False) wn wo) := Lib.hid (hff)
        have HR9 := Lib.hid hr9
        clear hc9 hr9
        refine hKx.out _ _ ?_ (fun hHeld => ?_)
        · exact HFwo.out
        clear hKx Kx hff
        (try simp only [Act.put, List.setIfInBounds_toArray, List.set_cons_zero, List.set_cons_succ, List.getElem_toArray, List.getElem_cons_zero, List.getElem_cons_succ])
        refine wpAnyH_more (fun w' => Fr (fun _ => False) wo w') (fun _ h => HFwo.out.trans h (fun _ _ h => h)) ?_ (fun hHeld => ?_)
        · exact Fr.refl _ _
        refine wpAnyH_take (i := 12) (v := ?vz1012) rfl (by kernel_rfl) (by kernel_rfl) (by kernel_rfl) (fun _ _ _ h => h) (Or.inl ⟨by rfl, ?hyz1012⟩) hHeld ?restz1012
        case hyz1012 => intro w hSw; (try dsimp only at hSw); have hcv := str_rd (HR9.out.fr hSw (fun _ _ h => h)) m9; go_simp; try (with_reducible rfl)
        (try simp only [Act.put, List.setIfInBounds_toArray, List.set_cons_zero, List.set_cons_succ, List.getElem_toArray, List.getElem_cons_zero, List.getElem_cons_succ])
        refine wpAnyH_take (i := 15) (v := ?vz1015) rfl (by kernel_rfl) (by kernel_rfl) (by kernel_rfl) (fun _ _ _ h => h) (Or.inl ⟨by rfl, ?hyz1015⟩) hHeld ?restz1015
        case hyz1015 => intro w hSw; (try dsimp only at hSw); go_simp; try (with_reducible rfl)
        (try simp only [Act.put, List.setIfInBounds_toArray, List.set_cons_zero, List.set_cons_succ, List.getElem_toArray, List.getElem_cons_zero, List.getElem_cons_succ])
        refine wpAnyH_take (i := 16) (v := ?vz1016) rfl (by kernel_rfl) (by kernel_rfl) (by kernel_rfl) (fun _ _ _ h => h) (Or.inl ⟨by rfl, ?hyz1016⟩) hHeld ?restz1016
        case hyz1016 => intro w hSw; (try dsimp only at hSw); go_simp; try (with_reducible rfl)
        (try simp only [Act.put, List.setIfInBounds_toArray, List.set_cons_zero, List.set_cons_succ, List.getElem_toArray, List.getElem_cons_zero, List.getElem_cons_succ])
        refine wpAnyH_take (i := 17) (v := ?vz1017) rfl (by kernel_rfl) (by kernel_rfl) (by kernel_rfl) (fun _ _ _ h => h) (Or.inl ⟨by rfl, ?hyz1017⟩) hHeld ?restz1017
        case hyz1017 => intro w hSw; (try dsimp only at hSw); go_simp; try (with_reducible rfl)
        (try simp only [Act.put, List.setIfInBounds_toArray, List.set_cons_zero, List.set_cons_succ, List.getElem_toArray, List.getElem_cons_zero, List.getElem_cons_succ])
        refine wpAnyH_done (by kernel_rfl) ?_ _
        go_wp2_with fail
        go_ret
        exact ⟨rfl, ((HFwh.out.trans HFwm.out (fun _ _ h => h)).trans HFwn.out (fun _ _ h => h)).trans HFwo.out (fun _ _ h => h)⟩
end Go.Proofs.Ytomhljpnpphbcaa
