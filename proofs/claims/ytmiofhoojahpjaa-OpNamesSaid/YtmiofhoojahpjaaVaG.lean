/-
  Layer 14, the program: Get (written by gen_pg.py).
-/
import Derived.Test.YtmiofhoojahpjaaVaF
namespace Go.Proofs.Ytmiofhoojahpjaa
open Go.RowKit Mem Go.Lib VaM LebM UtfM
attribute [local go_sem ↓] Go.wp_at_zero Go.wp_at_succ
set_option linter.unusedVariables false


/-- what Get answers -/
def getR (r : V × Bool) : Value := .tuple #[valc r.1, .int .i64 (if r.2 = true then 0 else 3)]
theorem getC_k (c : Nat) (k : Int) (B : List UInt8) : getC c k B = if (getC c 0 B).2 = true then (⟨k, (getC c 0 B).1.u, (getC c 0 B).1.n, (getC c 0 B).1.s⟩, true) else (zeroV, false) := by
  rcases (show c = 0 ∨ c = 1 ∨ c = 2 ∨ c = 3 ∨ c = 4 ∨ 5 ≤ c by omega) with rfl | rfl | rfl | rfl | rfl | h
  all_goals (try (simp only [getC]; split <;> simp))
  match c, h with
  | c + 5, _ => simp [getC]

set_option maxRecDepth 100000 in
set_option maxHeartbeats 3200000 in
theorem vgetO0_any (k : Int) (A : Option Addr) (n c : Nat) (B : List UInt8) (w : World) (h : cl k = 0) (hr : Rd w A n (B.map bytec)) (hc : n ≤ c) (hn : n ≤ 1000000) :
    Calls Try.prog 42 #[.int .i64 k, .slice A n c] w fun e w' => e = .returned (getR (getV k B)) ∧ Fr (fun _ => False) w w' := by
  obtain ⟨x, ok, hx⟩ : ∃ x ok, getC 0 0 B = (x, ok) := ⟨_, _, rfl⟩
  obtain ⟨ans, ha⟩ : ∃ ans, ans = (if ok = true then ((⟨k, x.u, x.n, x.s⟩ : V), true) else (zeroV, false)) := ⟨_, rfl⟩
  rw [show getV k B = ans from by rw [show getV k B = getC 0 k B from by simp [getV, h], getC_k, hx, ha]]
  have HA := Lib.hid ha
  have HX := Lib.hid hx
  obtain ⟨g, hg⟩ : ∃ g, w.heap.size = g := ⟨_, rfl⟩
  obtain ⟨w1, hw1⟩ : ∃ w1, w.alloc (.cells #[.int .i64 0, .int .u64 0, .int .i64 0, .string ⟨#[]⟩] 30) = w1 := ⟨_, rfl⟩
  have hf1 : Fr (fun _ => False) w w1 := by rw [← hw1]; exact (Fr.refl _ _).alloc _
  have hr1 : RowV w1 g zeroV := by rw [← hw1, ← hg]; exact RowV.new w zeroV
  have hcall := kindO0_any k w1 h
  simp only [kindc, fnc] at hcall
  have HCALL := Lib.hid hcall
  have HF1 := Lib.hid hf1
  have HR1 := Lib.hid hr1
  have HRD := Lib.hid hr
  have HG := Lib.hid hg
  clear hf1 hr1 hcall h hr hx ha
  go_enter Try.func42, Try.ntmps42
  go_wp2_with fail
  clear hw1 hg
  refine HCALL.out.mono ?_
  rintro e w2 ⟨rfl, hf2⟩
  obtain ⟨p, hp⟩ : ∃ p, w2.heap.size = p := ⟨_, rfl⟩
  obtain ⟨w3, hw3⟩ : ∃ w3, w2.alloc (.cells #[Value.nilFunc, Value.nilFunc] 69) = w3 := ⟨_, rfl⟩
  have hf3 : Fr (fun _ => False) w2 w3 := by rw [← hw3]; exact (Fr.refl _ _).alloc _
  have hk3 : Row w3 p 69 [Value.nilFunc, Value.nilFunc] := by rw [← hw3]; exact new_row hp.symm _ _
  have HR3 := Lib.hid ((HR1.out.fr hf2 (fun h => h)).fr hf3 (fun h => h))
  have HP := Lib.hid hp
  have HF2 := Lib.hid (HF1.out.trans hf2 (fun _ _ h => h))
  have HF3 := Lib.hid hf3
  have HK3 := Lib.hid hk3
  have HGP : Hid (g < p) := Lib.hid (by rw [← hp]; exact Nat.lt_of_lt_of_le HR1.out.lt hf2.size)
  
  clear hf2 hf3 hk3
  go_upto_region 2 with (refine store_st kSz rfl (.tmp 6) (.tmp 12) rfl p (by rfl) [.func (.func 61) #[] #[], .func (.func 62) #[] #[]] (by rfl) _ _ HK3.out rfl rfl (kind_one _ _ _ _) ?_)
  intro w4 hr4 hf4
  have hf24 : Fr (fun _ => False) w2 w4 := HF3.out.trans hf4 (fun b hb h => by have := HP.out; omega)
  have d0 : w4.cell? ⟨p, 1, none⟩ = some (.func (.func 62) #[] #[]) := hr4.cell rfl
  have hr4v := HR3.out.fr hf4 (by have := HGP.out; intro h; omega)
  have hf04 := HF2.out.trans hf24 (fun _ _ h => h)
  have hrd4 := HRD.out.fr hf04 (fun _ _ h => h)
  have hc := vgetNo_any A n c B w4 hrd4 hn
  rw [HX.out] at hc
  simp only [valR] at hc
  have HC := Lib.hid hc
  have HF4 := Lib.hid hf04
  have HR4 := Lib.hid hr4v
  clear hr4 hf4 hf24 hr4v hc hw3 hp hf04 hrd4
  go_wp2_with fail
  refine HC.out.mono ?_
  rintro e w5 ⟨rfl, hf5⟩
  clear d0
  unfold valc
  obtain ⟨r, hr⟩ : ∃ r, w5.heap.size = r := ⟨_, rfl⟩
  obtain ⟨w6, hw6⟩ : ∃ w6, w5.alloc (.cells #[.int .i64 0, .int .u64 0, .int .i64 0, .string ⟨#[]⟩] 30) = w6 := ⟨_, rfl⟩
  have hf6 : Fr (fun _ => False) w5 w6 := by rw [← hw6]; exact (Fr.refl _ _).alloc _
  have hr6 : RowV w6 r zeroV := by rw [← hw6, ← hr]; exact RowV.new w5 zeroV
  have HR5 := Lib.hid ((HR4.out.fr hf5 (fun h => h)).fr hf6 (fun h => h))
  have HX6 := Lib.hid hr6
  have HF6 := Lib.hid ((HF4.out.trans hf5 (fun _ _ h => h)).trans hf6 (fun _ _ h => h))
  have HGR : Hid (g < r ∧ w.heap.size ≤ r) := Lib.hid (by rw [← hr]; exact ⟨Nat.lt_of_lt_of_le HR4.out.lt hf5.size, Nat.le_trans HF4.out.size hf5.size⟩)
  clear hf5 hf6 hr6
  go_upto_region 5 with (refine store_st vSz rfl (.tmp 8) (.tmp 22) rfl r (by rfl) (vls x) (by rfl) _ _ HX6.out rfl rfl (v_one _) ?_)
  intro w7 hr7 hf7
  clear hw6 hr
  have h7 : RowV w7 r x := hr7
  have HR7 := Lib.hid (HR5.out.fr hf7 (by have := HGR.out.1; omega))
  have HF7 := Lib.hid (HF6.out.trans hf7 (fun b hb h => by have := HGR.out.2; omega))
  cases ok
  · clear hr7 h7 hf7
    go_wp2_with (refine store_st vSz rfl (.tmp 4) (.tmp 26) rfl g (by rfl) (vls zeroV) (by rfl) _ _ HR7.out rfl rfl (v_one _) ?_)
    intro w8 hr8 hf8
    have HR8 : Hid (RowV w8 g zeroV) := Lib.hid hr8
    have HF8 := Lib.hid (HF7.out.trans hf8 (fun b hb h => by have := HG.out; omega))
    have d0 := HR8.out.c0
    have d1 := HR8.out.c1
    have d2 := HR8.out.c2
    have d3 := HR8.out.c3
    clear hr8 hf8
    go_wp2_with fail
    refine bodyPost_ret (v := getR (zeroV, false)) (by simp [results, getR, valc, d0, d1, d2, d3, Try.results42, go_sem]) rfl ⟨by rw [HA.out]; rfl, HF8.out⟩
  · have c0 := h7.c0
    have f0 : w7.frozen? ⟨r, 0, none⟩ = false := Row.free hr7 0
    obtain ⟨y, hy⟩ : ∃ y : V, y = ⟨k, x.u, x.n, x.s⟩ := ⟨_, rfl⟩
    obtain ⟨w8, hw8⟩ : ∃ w8, w7.setCell ⟨r, 0, none⟩ (.int .i64 k) = w8 := ⟨_, rfl⟩
    have h8 := Row.set hr7 0 (.int .i64 k)
    rw [hw8] at h8
    have h9 : RowV w8 r y := by rw [hy]; exact h8
    have HY := Lib.hid hy
    have hf8 : Fr (fun b => b = r) w7 w8 := by rw [← hw8]; exact Fr.set1 _ _ _ _
    have HR8 := Lib.hid (HR7.out.fr hf8 (by have := HGR.out.1; omega))
    have HF8 := Lib.hid (HF7.out.trans hf8 (fun b hb h => by have := HGR.out.2; omega))
    have e0 := h9.c0
    have e1 := h9.c1
    have e2 := h9.c2
    have e3 := h9.c3
    clear hr7 h7 hf7 h8 hf8 h9 hy
    go_wp2_with (refine store_st vSz rfl (.tmp 4) (.tmp 29) rfl g (by rfl) (vls y) (by rfl) _ _ HR8.out rfl rfl (v_one _) ?_)
    intro w9 hr9 hf9
    have HR9 : Hid (RowV w9 g y) := Lib.hid hr9
    have HF9 := Lib.hid (HF8.out.trans hf9 (fun b hb h => by have := HG.out; omega))
    clear e0 e1 e2 e3 c0 f0 hw8
    have d0 := HR9.out.c0
    have d1 := HR9.out.c1
    have d2 := HR9.out.c2
    have d3 := HR9.out.c3
    clear hr9 hf9
    go_wp2_with fail
    refine bodyPost_ret (v := getR (y, true)) (by simp [results, getR, valc, d0, d1, d2, d3, Try.results42, go_sem]) rfl ⟨by rw [HA.out, HY.out]; rfl, HF9.out⟩

set_option maxRecDepth 100000 in
set_option maxHeartbeats 3200000 in
theorem vgetO1_any (k : Int) (A : Option Addr) (n c : Nat) (B : List UInt8) (w : World) (h : cl k = 1) (hr : Rd w A n (B.map bytec)) (hc : n ≤ c) (hn : n ≤ 1000000) :
    Calls Try.prog 42 #[.int .i64 k, .slice A n c] w fun e w' => e = .returned (getR (getV k B)) ∧ Fr (fun _ => False) w w' := by
  obtain ⟨x, ok, hx⟩ : ∃ x ok, getC 1 0 B = (x, ok) := ⟨_, _, rfl⟩
  obtain ⟨ans, ha⟩ : ∃ ans, ans = (if ok = true then ((⟨k, x.u, x.n, x.s⟩ : V), true) else (zeroV, false)) := ⟨_, rfl⟩
  rw [show getV k B = ans from by rw [show getV k B = getC 1 k B from by simp [getV, h], getC_k, hx, ha]]
  have HA := Lib.hid ha
  have HX := Lib.hid hx
  obtain ⟨g, hg⟩ : ∃ g, w.heap.size = g := ⟨_, rfl⟩
  obtain ⟨w1, hw1⟩ : ∃ w1, w.alloc (.cells #[.int .i64 0, .int .u64 0, .int .i64 0, .string ⟨#[]⟩] 30) = w1 := ⟨_, rfl⟩
  have hf1 : Fr (fun _ => False) w w1 := by rw [← hw1]; exact (Fr.refl _ _).alloc _
  have hr1 : RowV w1 g zeroV := by rw [← hw1, ← hg]; exact RowV.new w zeroV
  have hcall := kindO1_any k w1 h
  simp only [kindc, fnc, fnc2] at hcall
  have HCALL := Lib.hid hcall
  have HF1 := Lib.hid hf1
  have HR1 := Lib.hid hr1
  have HRD := Lib.hid hr
  have HG := Lib.hid hg
  clear hf1 hr1 hcall h hr hx ha
  go_enter Try.func42, Try.ntmps42
  go_wp2_with fail
  clear hw1 hg
  refine HCALL.out.mono ?_
  rintro e w2 ⟨a, b, d, rfl, ha2, hb2, hd2, hf2⟩
  obtain ⟨p, hp⟩ : ∃ p, w2.heap.size = p := ⟨_, rfl⟩
  obtain ⟨w3, hw3⟩ : ∃ w3, w2.alloc (.cells #[Value.nilFunc, Value.nilFunc] 69) = w3 := ⟨_, rfl⟩
  have hf3 : Fr (fun _ => False) w2 w3 := by rw [← hw3]; exact (Fr.refl _ _).alloc _
  have hk3 : Row w3 p 69 [Value.nilFunc, Value.nilFunc] := by rw [← hw3]; exact new_row hp.symm _ _
  have HR3 := Lib.hid ((HR1.out.fr hf2 (fun h => h)).fr hf3 (fun h => h))
  have HP := Lib.hid hp
  have HF2 := Lib.hid (HF1.out.trans hf2 (fun _ _ h => h))
  have HF3 := Lib.hid hf3
  have HK3 := Lib.hid hk3
  have HGP : Hid (g < p) := Lib.hid (by rw [← hp]; exact Nat.lt_of_lt_of_le HR1.out.lt hf2.size)
  have Ha2 := Lib.hid ha2
  have Hb2 := Lib.hid hb2
  have Hd2 := Lib.hid hd2
  clear ha2 hb2 hd2
  clear hf2 hf3 hk3
  go_upto_region 2 with (refine store_st kSz rfl (.tmp 6) (.tmp 12) rfl p (by rfl) [.func (.func 63) #[] #[.pointer (some ⟨a, 0, none⟩), .pointer (some ⟨d, 0, none⟩)], .func (.func 64) #[] #[.pointer (some ⟨b, 0, none⟩), .pointer (some ⟨d, 0, none⟩)]] (by rfl) _ _ HK3.out rfl rfl (kind_one _ _ _ _) ?_)
  intro w4 hr4 hf4
  have hf24 : Fr (fun _ => False) w2 w4 := HF3.out.trans hf4 (fun b hb h => by have := HP.out; omega)
  have d0 : w4.cell? ⟨p, 1, none⟩ = some (.func (.func 64) #[] #[.pointer (some ⟨b, 0, none⟩), .pointer (some ⟨d, 0, none⟩)]) := hr4.cell rfl
  have hr4v := HR3.out.fr hf4 (by have := HGP.out; intro h; omega)
  have hf04 := HF2.out.trans hf24 (fun _ _ h => h)
  have hrd4 := HRD.out.fr hf04 (fun _ _ h => h)
  have hc := vgetU_any b d A n c B w4 (hf24.cell Hb2.out (fun h => h)) (hf24.cell Hd2.out (fun h => h)) hrd4 hc hn
  rw [HX.out] at hc
  simp only [valR] at hc
  have HC := Lib.hid hc
  have HF4 := Lib.hid hf04
  have HR4 := Lib.hid hr4v
  clear hr4 hf4 hf24 hr4v hc hw3 hp hf04 hrd4
  go_wp2_with fail
  refine HC.out.mono ?_
  rintro e w5 ⟨rfl, hf5⟩
  clear d0
  unfold valc
  obtain ⟨r, hr⟩ : ∃ r, w5.heap.size = r := ⟨_, rfl⟩
  obtain ⟨w6, hw6⟩ : ∃ w6, w5.alloc (.cells #[.int .i64 0, .int .u64 0, .int .i64 0, .string ⟨#[]⟩] 30) = w6 := ⟨_, rfl⟩
  have hf6 : Fr (fun _ => False) w5 w6 := by rw [← hw6]; exact (Fr.refl _ _).alloc _
  have hr6 : RowV w6 r zeroV := by rw [← hw6, ← hr]; exact RowV.new w5 zeroV
  have HR5 := Lib.hid ((HR4.out.fr hf5 (fun h => h)).fr hf6 (fun h => h))
  have HX6 := Lib.hid hr6
  have HF6 := Lib.hid ((HF4.out.trans hf5 (fun _ _ h => h)).trans hf6 (fun _ _ h => h))
  have HGR : Hid (g < r ∧ w.heap.size ≤ r) := Lib.hid (by rw [← hr]; exact ⟨Nat.lt_of_lt_of_le HR4.out.lt hf5.size, Nat.le_trans HF4.out.size hf5.size⟩)
  clear hf5 hf6 hr6
  go_upto_region 5 with (refine store_st vSz rfl (.tmp 8) (.tmp 22) rfl r (by rfl) (vls x) (by rfl) _ _ HX6.out rfl rfl (v_one _) ?_)
  intro w7 hr7 hf7
  clear hw6 hr
  have h7 : RowV w7 r x := hr7
  have HR7 := Lib.hid (HR5.out.fr hf7 (by have := HGR.out.1; omega))
  have HF7 := Lib.hid (HF6.out.trans hf7 (fun b hb h => by have := HGR.out.2; omega))
  cases ok
  · clear hr7 h7 hf7
    go_wp2_with (refine store_st vSz rfl (.tmp 4) (.tmp 26) rfl g (by rfl) (vls zeroV) (by rfl) _ _ HR7.out rfl rfl (v_one _) ?_)
    intro w8 hr8 hf8
    have HR8 : Hid (RowV w8 g zeroV) := Lib.hid hr8
    have HF8 := Lib.hid (HF7.out.trans hf8 (fun b hb h => by have := HG.out; omega))
    have d0 := HR8.out.c0
    have d1 := HR8.out.c1
    have d2 := HR8.out.c2
    have d3 := HR8.out.c3
    clear hr8 hf8
    go_wp2_with fail
    refine bodyPost_ret (v := getR (zeroV, false)) (by simp [results, getR, valc, d0, d1, d2, d3, Try.results42, go_sem]) rfl ⟨by rw [HA.out]; rfl, HF8.out⟩
  · have c0 := h7.c0
    have f0 : w7.frozen? ⟨r, 0, none⟩ = false := Row.free hr7 0
    obtain ⟨y, hy⟩ : ∃ y : V, y = ⟨k, x.u, x.n, x.s⟩ := ⟨_, rfl⟩
    obtain ⟨w8, hw8⟩ : ∃ w8, w7.setCell ⟨r, 0, none⟩ (.int .i64 k) = w8 := ⟨_, rfl⟩
    have h8 := Row.set hr7 0 (.int .i64 k)
    rw [hw8] at h8
    have h9 : RowV w8 r y := by rw [hy]; exact h8
    have HY := Lib.hid hy
    have hf8 : Fr (fun b => b = r) w7 w8 := by rw [← hw8]; exact Fr.set1 _ _ _ _
    have HR8 := Lib.hid (HR7.out.fr hf8 (by have := HGR.out.1; omega))
    have HF8 := Lib.hid (HF7.out.trans hf8 (fun b hb h => by have := HGR.out.2; omega))
    have e0 := h9.c0
    have e1 := h9.c1
    have e2 := h9.c2
    have e3 := h9.c3
    clear hr7 h7 hf7 h8 hf8 h9 hy
    go_wp2_with (refine store_st vSz rfl (.tmp 4) (.tmp 29) rfl g (by rfl) (vls y) (by rfl) _ _ HR8.out rfl rfl (v_one _) ?_)
    intro w9 hr9 hf9
    have HR9 : Hid (RowV w9 g y) := Lib.hid hr9
    have HF9 := Lib.hid (HF8.out.trans hf9 (fun b hb h => by have := HG.out; omega))
    clear e0 e1 e2 e3 c0 f0 hw8
    have d0 := HR9.out.c0
    have d1 := HR9.out.c1
    have d2 := HR9.out.c2
    have d3 := HR9.out.c3
    clear hr9 hf9
    go_wp2_with fail
    refine bodyPost_ret (v := getR (y, true)) (by simp [results, getR, valc, d0, d1, d2, d3, Try.results42, go_sem]) rfl ⟨by rw [HA.out, HY.out]; rfl, HF9.out⟩

set_option maxRecDepth 100000 in
set_option maxHeartbeats 3200000 in
theorem vgetO2_any (k : Int) (A : Option Addr) (n c : Nat) (B : List UInt8) (w : World) (h : cl k = 2) (hr : Rd w A n (B.map bytec)) (hc : n ≤ c) (hn : n ≤ 1000000) :
    Calls Try.prog 42 #[.int .i64 k, .slice A n c] w fun e w' => e = .returned (getR (getV k B)) ∧ Fr (fun _ => False) w w' := by
  obtain ⟨x, ok, hx⟩ : ∃ x ok, getC 2 0 B = (x, ok) := ⟨_, _, rfl⟩
  obtain ⟨ans, ha⟩ : ∃ ans, ans = (if ok = true then ((⟨k, x.u, x.n, x.s⟩ : V), true) else (zeroV, false)) := ⟨_, rfl⟩
  rw [show getV k B = ans from by rw [show getV k B = getC 2 k B from by simp [getV, h], getC_k, hx, ha]]
  have HA := Lib.hid ha
  have HX := Lib.hid hx
  obtain ⟨g, hg⟩ : ∃ g, w.heap.size = g := ⟨_, rfl⟩
  obtain ⟨w1, hw1⟩ : ∃ w1, w.alloc (.cells #[.int .i64 0, .int .u64 0, .int .i64 0, .string ⟨#[]⟩] 30) = w1 := ⟨_, rfl⟩
  have hf1 : Fr (fun _ => False) w w1 := by rw [← hw1]; exact (Fr.refl _ _).alloc _
  have hr1 : RowV w1 g zeroV := by rw [← hw1, ← hg]; exact RowV.new w zeroV
  have hcall := kindO2_any k w1 h
  simp only [kindc, fnc, fnc2] at hcall
  have HCALL := Lib.hid hcall
  have HF1 := Lib.hid hf1
  have HR1 := Lib.hid hr1
  have HRD := Lib.hid hr
  have HG := Lib.hid hg
  clear hf1 hr1 hcall h hr hx ha
  go_enter Try.func42, Try.ntmps42
  go_wp2_with fail
  clear hw1 hg
  refine HCALL.out.mono ?_
  rintro e w2 ⟨a, b, d, rfl, ha2, hb2, hd2, hf2⟩
  obtain ⟨p, hp⟩ : ∃ p, w2.heap.size = p := ⟨_, rfl⟩
  obtain ⟨w3, hw3⟩ : ∃ w3, w2.alloc (.cells #[Value.nilFunc, Value.nilFunc] 69) = w3 := ⟨_, rfl⟩
  have hf3 : Fr (fun _ => False) w2 w3 := by rw [← hw3]; exact (Fr.refl _ _).alloc _
  have hk3 : Row w3 p 69 [Value.nilFunc, Value.nilFunc] := by rw [← hw3]; exact new_row hp.symm _ _
  have HR3 := Lib.hid ((HR1.out.fr hf2 (fun h => h)).fr hf3 (fun h => h))
  have HP := Lib.hid hp
  have HF2 := Lib.hid (HF1.out.trans hf2 (fun _ _ h => h))
  have HF3 := Lib.hid hf3
  have HK3 := Lib.hid hk3
  have HGP : Hid (g < p) := Lib.hid (by rw [← hp]; exact Nat.lt_of_lt_of_le HR1.out.lt hf2.size)
  have Ha2 := Lib.hid ha2
  have Hb2 := Lib.hid hb2
  have Hd2 := Lib.hid hd2
  clear ha2 hb2 hd2
  clear hf2 hf3 hk3
  go_upto_region 2 with (refine store_st kSz rfl (.tmp 6) (.tmp 12) rfl p (by rfl) [.func (.func 68) #[] #[.pointer (some ⟨a, 0, none⟩), .pointer (some ⟨d, 0, none⟩)], .func (.func 69) #[] #[.pointer (some ⟨b, 0, none⟩), .pointer (some ⟨d, 0, none⟩)]] (by rfl) _ _ HK3.out rfl rfl (kind_one _ _ _ _) ?_)
  intro w4 hr4 hf4
  have hf24 : Fr (fun _ => False) w2 w4 := HF3.out.trans hf4 (fun b hb h => by have := HP.out; omega)
  have d0 : w4.cell? ⟨p, 1, none⟩ = some (.func (.func 69) #[] #[.pointer (some ⟨b, 0, none⟩), .pointer (some ⟨d, 0, none⟩)]) := hr4.cell rfl
  have hr4v := HR3.out.fr hf4 (by have := HGP.out; intro h; omega)
  have hf04 := HF2.out.trans hf24 (fun _ _ h => h)
  have hrd4 := HRD.out.fr hf04 (fun _ _ h => h)
  have hc := vgetS_any b d A n c B w4 (hf24.cell Hb2.out (fun h => h)) (hf24.cell Hd2.out (fun h => h)) hrd4 hc hn
  rw [HX.out] at hc
  simp only [valR] at hc
  have HC := Lib.hid hc
  have HF4 := Lib.hid hf04
  have HR4 := Lib.hid hr4v
  clear hr4 hf4 hf24 hr4v hc hw3 hp hf04 hrd4
  go_wp2_with fail
  refine HC.out.mono ?_
  rintro e w5 ⟨rfl, hf5⟩
  clear d0
  unfold valc
  obtain ⟨r, hr⟩ : ∃ r, w5.heap.size = r := ⟨_, rfl⟩
  obtain ⟨w6, hw6⟩ : ∃ w6, w5.alloc (.cells #[.int .i64 0, .int .u64 0, .int .i64 0, .string ⟨#[]⟩] 30) = w6 := ⟨_, rfl⟩
  have hf6 : Fr (fun _ => False) w5 w6 := by rw [← hw6]; exact (Fr.refl _ _).alloc _
  have hr6 : RowV w6 r zeroV := by rw [← hw6, ← hr]; exact RowV.new w5 zeroV
  have HR5 := Lib.hid ((HR4.out.fr hf5 (fun h => h)).fr hf6 (fun h => h))
  have HX6 := Lib.hid hr6
  have HF6 := Lib.hid ((HF4.out.trans hf5 (fun _ _ h => h)).trans hf6 (fun _ _ h => h))
  have HGR : Hid (g < r ∧ w.heap.size ≤ r) := Lib.hid (by rw [← hr]; exact ⟨Nat.lt_of_lt_of_le HR4.out.lt hf5.size, Nat.le_trans HF4.out.size hf5.size⟩)
  clear hf5 hf6 hr6
  go_upto_region 5 with (refine store_st vSz rfl (.tmp 8) (.tmp 22) rfl r (by rfl) (vls x) (by rfl) _ _ HX6.out rfl rfl (v_one _) ?_)
  intro w7 hr7 hf7
  clear hw6 hr
  have h7 : RowV w7 r x := hr7
  have HR7 := Lib.hid (HR5.out.fr hf7 (by have := HGR.out.1; omega))
  have HF7 := Lib.hid (HF6.out.trans hf7 (fun b hb h => by have := HGR.out.2; omega))
  cases ok
  · clear hr7 h7 hf7
    go_wp2_with (refine store_st vSz rfl (.tmp 4) (.tmp 26) rfl g (by rfl) (vls zeroV) (by rfl) _ _ HR7.out rfl rfl (v_one _) ?_)
    intro w8 hr8 hf8
    have HR8 : Hid (RowV w8 g zeroV) := Lib.hid hr8
    have HF8 := Lib.hid (HF7.out.trans hf8 (fun b hb h => by have := HG.out; omega))
    have d0 := HR8.out.c0
    have d1 := HR8.out.c1
    have d2 := HR8.out.c2
    have d3 := HR8.out.c3
    clear hr8 hf8
    go_wp2_with fail
    refine bodyPost_ret (v := getR (zeroV, false)) (by simp [results, getR, valc, d0, d1, d2, d3, Try.results42, go_sem]) rfl ⟨by rw [HA.out]; rfl, HF8.out⟩
  · have c0 := h7.c0
    have f0 : w7.frozen? ⟨r, 0, none⟩ = false := Row.free hr7 0
    obtain ⟨y, hy⟩ : ∃ y : V, y = ⟨k, x.u, x.n, x.s⟩ := ⟨_, rfl⟩
    obtain ⟨w8, hw8⟩ : ∃ w8, w7.setCell ⟨r, 0, none⟩ (.int .i64 k) = w8 := ⟨_, rfl⟩
    have h8 := Row.set hr7 0 (.int .i64 k)
    rw [hw8] at h8
    have h9 : RowV w8 r y := by rw [hy]; exact h8
    have HY := Lib.hid hy
    have hf8 : Fr (fun b => b = r) w7 w8 := by rw [← hw8]; exact Fr.set1 _ _ _ _
    have HR8 := Lib.hid (HR7.out.fr hf8 (by have := HGR.out.1; omega))
    have HF8 := Lib.hid (HF7.out.trans hf8 (fun b hb h => by have := HGR.out.2; omega))
    have e0 := h9.c0
    have e1 := h9.c1
    have e2 := h9.c2
    have e3 := h9.c3
    clear hr7 h7 hf7 h8 hf8 h9 hy
    go_wp2_with (refine store_st vSz rfl (.tmp 4) (.tmp 29) rfl g (by rfl) (vls y) (by rfl) _ _ HR8.out rfl rfl (v_one _) ?_)
    intro w9 hr9 hf9
    have HR9 : Hid (RowV w9 g y) := Lib.hid hr9
    have HF9 := Lib.hid (HF8.out.trans hf9 (fun b hb h => by have := HG.out; omega))
    clear e0 e1 e2 e3 c0 f0 hw8
    have d0 := HR9.out.c0
    have d1 := HR9.out.c1
    have d2 := HR9.out.c2
    have d3 := HR9.out.c3
    clear hr9 hf9
    go_wp2_with fail
    refine bodyPost_ret (v := getR (y, true)) (by simp [results, getR, valc, d0, d1, d2, d3, Try.results42, go_sem]) rfl ⟨by rw [HA.out, HY.out]; rfl, HF9.out⟩

set_option maxRecDepth 100000 in
set_option maxHeartbeats 3200000 in
theorem vgetO3_any (k : Int) (A : Option Addr) (n c : Nat) (B : List UInt8) (w : World) (h : cl k = 3) (hr : Rd w A n (B.map bytec)) (hc : n ≤ c) (hn : n ≤ 1000000) :
    Calls Try.prog 42 #[.int .i64 k, .slice A n c] w fun e w' => e = .returned (getR (getV k B)) ∧ Fr (fun _ => False) w w' := by
  obtain ⟨x, ok, hx⟩ : ∃ x ok, getC 3 0 B = (x, ok) := ⟨_, _, rfl⟩
  obtain ⟨ans, ha⟩ : ∃ ans, ans = (if ok = true then ((⟨k, x.u, x.n, x.s⟩ : V), true) else (zeroV, false)) := ⟨_, rfl⟩
  rw [show getV k B = ans from by rw [show getV k B = getC 3 k B from by simp [getV, h], getC_k, hx, ha]]
  have HA := Lib.hid ha
  have HX := Lib.hid hx
  obtain ⟨g, hg⟩ : ∃ g, w.heap.size = g := ⟨_, rfl⟩
  obtain ⟨w1, hw1⟩ : ∃ w1, w.alloc (.cells #[.int .i64 0, .int .u64 0, .int .i64 0, .string ⟨#[]⟩] 30) = w1 := ⟨_, rfl⟩
  have hf1 : Fr (fun _ => False) w w1 := by rw [← hw1]; exact (Fr.refl _ _).alloc _
  have hr1 : RowV w1 g zeroV := by rw [← hw1, ← hg]; exact RowV.new w zeroV
  have hcall := kindO3_any k w1 h
  simp only [kindc, fnc, fnc1] at hcall
  have HCALL := Lib.hid hcall
  have HF1 := Lib.hid hf1
  have HR1 := Lib.hid hr1
  have HRD := Lib.hid hr
  have HG := Lib.hid hg
  clear hf1 hr1 hcall h hr hx ha
  go_enter Try.func42, Try.ntmps42
  go_wp2_with fail
  clear hw1 hg
  refine HCALL.out.mono ?_
  rintro e w2 ⟨a, rfl, ha2, hf2⟩
  obtain ⟨p, hp⟩ : ∃ p, w2.heap.size = p := ⟨_, rfl⟩
  obtain ⟨w3, hw3⟩ : ∃ w3, w2.alloc (.cells #[Value.nilFunc, Value.nilFunc] 69) = w3 := ⟨_, rfl⟩
  have hf3 : Fr (fun _ => False) w2 w3 := by rw [← hw3]; exact (Fr.refl _ _).alloc _
  have hk3 : Row w3 p 69 [Value.nilFunc, Value.nilFunc] := by rw [← hw3]; exact new_row hp.symm _ _
  have HR3 := Lib.hid ((HR1.out.fr hf2 (fun h => h)).fr hf3 (fun h => h))
  have HP := Lib.hid hp
  have HF2 := Lib.hid (HF1.out.trans hf2 (fun _ _ h => h))
  have HF3 := Lib.hid hf3
  have HK3 := Lib.hid hk3
  have HGP : Hid (g < p) := Lib.hid (by rw [← hp]; exact Nat.lt_of_lt_of_le HR1.out.lt hf2.size)
  have Ha2 := Lib.hid ha2
  clear ha2
  clear hf2 hf3 hk3
  go_upto_region 2 with (refine store_st kSz rfl (.tmp 6) (.tmp 12) rfl p (by rfl) [.func (.func 71) #[] #[], .func (.func 72) #[] #[.pointer (some ⟨a, 0, none⟩)]] (by rfl) _ _ HK3.out rfl rfl (kind_one _ _ _ _) ?_)
  intro w4 hr4 hf4
  have hf24 : Fr (fun _ => False) w2 w4 := HF3.out.trans hf4 (fun b hb h => by have := HP.out; omega)
  have d0 : w4.cell? ⟨p, 1, none⟩ = some (.func (.func 72) #[] #[.pointer (some ⟨a, 0, none⟩)]) := hr4.cell rfl
  have hr4v := HR3.out.fr hf4 (by have := HGP.out; intro h; omega)
  have hf04 := HF2.out.trans hf24 (fun _ _ h => h)
  have hrd4 := HRD.out.fr hf04 (fun _ _ h => h)
  have hc := vgetT_any a A n c B w4 (hf24.cell Ha2.out (fun h => h)) hrd4 hc hn
  rw [HX.out] at hc
  simp only [valR] at hc
  have HC := Lib.hid hc
  have HF4 := Lib.hid hf04
  have HR4 := Lib.hid hr4v
  clear hr4 hf4 hf24 hr4v hc hw3 hp hf04 hrd4
  go_wp2_with fail
  refine HC.out.mono ?_
  rintro e w5 ⟨rfl, hf5⟩
  clear d0
  unfold valc
  obtain ⟨r, hr⟩ : ∃ r, w5.heap.size = r := ⟨_, rfl⟩
  obtain ⟨w6, hw6⟩ : ∃ w6, w5.alloc (.cells #[.int .i64 0, .int .u64 0, .int .i64 0, .string ⟨#[]⟩] 30) = w6 := ⟨_, rfl⟩
  have hf6 : Fr (fun _ => False) w5 w6 := by rw [← hw6]; exact (Fr.refl _ _).alloc _
  have hr6 : RowV w6 r zeroV := by rw [← hw6, ← hr]; exact RowV.new w5 zeroV
  have HR5 := Lib.hid ((HR4.out.fr hf5 (fun h => h)).fr hf6 (fun h => h))
  have HX6 := Lib.hid hr6
  have HF6 := Lib.hid ((HF4.out.trans hf5 (fun _ _ h => h)).trans hf6 (fun _ _ h => h))
  have HGR : Hid (g < r ∧ w.heap.size ≤ r) := Lib.hid (by rw [← hr]; exact ⟨Nat.lt_of_lt_of_le HR4.out.lt hf5.size, Nat.le_trans HF4.out.size hf5.size⟩)
  clear hf5 hf6 hr6
  go_upto_region 5 with (refine store_st vSz rfl (.tmp 8) (.tmp 22) rfl r (by rfl) (vls x) (by rfl) _ _ HX6.out rfl rfl (v_one _) ?_)
  intro w7 hr7 hf7
  clear hw6 hr
  have h7 : RowV w7 r x := hr7
  have HR7 := Lib.hid (HR5.out.fr hf7 (by have := HGR.out.1; omega))
  have HF7 := Lib.hid (HF6.out.trans hf7 (fun b hb h => by have := HGR.out.2; omega))
  cases ok
  · clear hr7 h7 hf7
    go_wp2_with (refine store_st vSz rfl (.tmp 4) (.tmp 26) rfl g (by rfl) (vls zeroV) (by rfl) _ _ HR7.out rfl rfl (v_one _) ?_)
    intro w8 hr8 hf8
    have HR8 : Hid (RowV w8 g zeroV) := Lib.hid hr8
    have HF8 := Lib.hid (HF7.out.trans hf8 (fun b hb h => by have := HG.out; omega))
    have d0 := HR8.out.c0
    have d1 := HR8.out.c1
    have d2 := HR8.out.c2
    have d3 := HR8.out.c3
    clear hr8 hf8
    go_wp2_with fail
    refine bodyPost_ret (v := getR (zeroV, false)) (by simp [results, getR, valc, d0, d1, d2, d3, Try.results42, go_sem]) rfl ⟨by rw [HA.out]; rfl, HF8.out⟩
  · have c0 := h7.c0
    have f0 : w7.frozen? ⟨r, 0, none⟩ = false := Row.free hr7 0
    obtain ⟨y, hy⟩ : ∃ y : V, y = ⟨k, x.u, x.n, x.s⟩ := ⟨_, rfl⟩
    obtain ⟨w8, hw8⟩ : ∃ w8, w7.setCell ⟨r, 0, none⟩ (.int .i64 k) = w8 := ⟨_, rfl⟩
    have h8 := Row.set hr7 0 (.int .i64 k)
    rw [hw8] at h8
    have h9 : RowV w8 r y := by rw [hy]; exact h8
    have HY := Lib.hid hy
    have hf8 : Fr (fun b => b = r) w7 w8 := by rw [← hw8]; exact Fr.set1 _ _ _ _
    have HR8 := Lib.hid (HR7.out.fr hf8 (by have := HGR.out.1; omega))
    have HF8 := Lib.hid (HF7.out.trans hf8 (fun b hb h => by have := HGR.out.2; omega))
    have e0 := h9.c0
    have e1 := h9.c1
    have e2 := h9.c2
    have e3 := h9.c3
    clear hr7 h7 hf7 h8 hf8 h9 hy
    go_wp2_with (refine store_st vSz rfl (.tmp 4) (.tmp 29) rfl g (by rfl) (vls y) (by rfl) _ _ HR8.out rfl rfl (v_one _) ?_)
    intro w9 hr9 hf9
    have HR9 : Hid (RowV w9 g y) := Lib.hid hr9
    have HF9 := Lib.hid (HF8.out.trans hf9 (fun b hb h => by have := HG.out; omega))
    clear e0 e1 e2 e3 c0 f0 hw8
    have d0 := HR9.out.c0
    have d1 := HR9.out.c1
    have d2 := HR9.out.c2
    have d3 := HR9.out.c3
    clear hr9 hf9
    go_wp2_with fail
    refine bodyPost_ret (v := getR (y, true)) (by simp [results, getR, valc, d0, d1, d2, d3, Try.results42, go_sem]) rfl ⟨by rw [HA.out, HY.out]; rfl, HF9.out⟩

set_option maxRecDepth 100000 in
set_option maxHeartbeats 3200000 in
theorem vgetO4_any (k : Int) (A : Option Addr) (n c : Nat) (B : List UInt8) (w : World) (h : cl k = 4) (hr : Rd w A n (B.map bytec)) (hc : n ≤ c) (hn : n ≤ 1000000) :
    Calls Try.prog 42 #[.int .i64 k, .slice A n c] w fun e w' => e = .returned (getR (getV k B)) ∧ Fr (fun _ => False) w w' := by
  obtain ⟨x, ok, hx⟩ : ∃ x ok, getC 4 0 B = (x, ok) := ⟨_, _, rfl⟩
  obtain ⟨ans, ha⟩ : ∃ ans, ans = (if ok = true then ((⟨k, x.u, x.n, x.s⟩ : V), true) else (zeroV, false)) := ⟨_, rfl⟩
  rw [show getV k B = ans from by rw [show getV k B = getC 4 k B from by simp [getV, h], getC_k, hx, ha]]
  have HA := Lib.hid ha
  have HX := Lib.hid hx
  obtain ⟨g, hg⟩ : ∃ g, w.heap.size = g := ⟨_, rfl⟩
  obtain ⟨w1, hw1⟩ : ∃ w1, w.alloc (.cells #[.int .i64 0, .int .u64 0, .int .i64 0, .string ⟨#[]⟩] 30) = w1 := ⟨_, rfl⟩
  have hf1 : Fr (fun _ => False) w w1 := by rw [← hw1]; exact (Fr.refl _ _).alloc _
  have hr1 : RowV w1 g zeroV := by rw [← hw1, ← hg]; exact RowV.new w zeroV
  have hcall := kindO4_any k w1 h
  simp only [kindc, fnc, fnc1] at hcall
  have HCALL := Lib.hid hcall
  have HF1 := Lib.hid hf1
  have HR1 := Lib.hid hr1
  have HRD := Lib.hid hr
  have HG := Lib.hid hg
  clear hf1 hr1 hcall h hr hx ha
  go_enter Try.func42, Try.ntmps42
  go_wp2_with fail
  clear hw1 hg
  refine HCALL.out.mono ?_
  rintro e w2 ⟨a, rfl, ha2, hf2⟩
  obtain ⟨p, hp⟩ : ∃ p, w2.heap.size = p := ⟨_, rfl⟩
  obtain ⟨w3, hw3⟩ : ∃ w3, w2.alloc (.cells #[Value.nilFunc, Value.nilFunc] 69) = w3 := ⟨_, rfl⟩
  have hf3 : Fr (fun _ => False) w2 w3 := by rw [← hw3]; exact (Fr.refl _ _).alloc _
  have hk3 : Row w3 p 69 [Value.nilFunc, Value.nilFunc] := by rw [← hw3]; exact new_row hp.symm _ _
  have HR3 := Lib.hid ((HR1.out.fr hf2 (fun h => h)).fr hf3 (fun h => h))
  have HP := Lib.hid hp
  have HF2 := Lib.hid (HF1.out.trans hf2 (fun _ _ h => h))
  have HF3 := Lib.hid hf3
  have HK3 := Lib.hid hk3
  have HGP : Hid (g < p) := Lib.hid (by rw [← hp]; exact Nat.lt_of_lt_of_le HR1.out.lt hf2.size)
  have Ha2 := Lib.hid ha2
  clear ha2
  clear hf2 hf3 hk3
  go_upto_region 2 with (refine store_st kSz rfl (.tmp 6) (.tmp 12) rfl p (by rfl) [.func (.func 71) #[] #[], .func (.func 72) #[] #[.pointer (some ⟨a, 0, none⟩)]] (by rfl) _ _ HK3.out rfl rfl (kind_one _ _ _ _) ?_)
  intro w4 hr4 hf4
  have hf24 : Fr (fun _ => False) w2 w4 := HF3.out.trans hf4 (fun b hb h => by have := HP.out; omega)
  have d0 : w4.cell? ⟨p, 1, none⟩ = some (.func (.func 72) #[] #[.pointer (some ⟨a, 0, none⟩)]) := hr4.cell rfl
  have hr4v := HR3.out.fr hf4 (by have := HGP.out; intro h; omega)
  have hf04 := HF2.out.trans hf24 (fun _ _ h => h)
  have hrd4 := HRD.out.fr hf04 (fun _ _ h => h)
  have hc := vgetB_any a A n c B w4 (hf24.cell Ha2.out (fun h => h)) hrd4 hc hn
  rw [HX.out] at hc
  simp only [valR] at hc
  have HC := Lib.hid hc
  have HF4 := Lib.hid hf04
  have HR4 := Lib.hid hr4v
  clear hr4 hf4 hf24 hr4v hc hw3 hp hf04 hrd4
  go_wp2_with fail
  refine HC.out.mono ?_
  rintro e w5 ⟨rfl, hf5⟩
  clear d0
  unfold valc
  obtain ⟨r, hr⟩ : ∃ r, w5.heap.size = r := ⟨_, rfl⟩
  obtain ⟨w6, hw6⟩ : ∃ w6, w5.alloc (.cells #[.int .i64 0, .int .u64 0, .int .i64 0, .string ⟨#[]⟩] 30) = w6 := ⟨_, rfl⟩
  have hf6 : Fr (fun _ => False) w5 w6 := by rw [← hw6]; exact (Fr.refl _ _).alloc _
  have hr6 : RowV w6 r zeroV := by rw [← hw6, ← hr]; exact RowV.new w5 zeroV
  have HR5 := Lib.hid ((HR4.out.fr hf5 (fun h => h)).fr hf6 (fun h => h))
  have HX6 := Lib.hid hr6
  have HF6 := Lib.hid ((HF4.out.trans hf5 (fun _ _ h => h)).trans hf6 (fun _ _ h => h))
  have HGR : Hid (g < r ∧ w.heap.size ≤ r) := Lib.hid (by rw [← hr]; exact ⟨Nat.lt_of_lt_of_le HR4.out.lt hf5.size, Nat.le_trans HF4.out.size hf5.size⟩)
  clear hf5 hf6 hr6
  go_upto_region 5 with (refine store_st vSz rfl (.tmp 8) (.tmp 22) rfl r (by rfl) (vls x) (by rfl) _ _ HX6.out rfl rfl (v_one _) ?_)
  intro w7 hr7 hf7
  clear hw6 hr
  have h7 : RowV w7 r x := hr7
  have HR7 := Lib.hid (HR5.out.fr hf7 (by have := HGR.out.1; omega))
  have HF7 := Lib.hid (HF6.out.trans hf7 (fun b hb h => by have := HGR.out.2; omega))
  cases ok
  · clear hr7 h7 hf7
    go_wp2_with (refine store_st vSz rfl (.tmp 4) (.tmp 26) rfl g (by rfl) (vls zeroV) (by rfl) _ _ HR7.out rfl rfl (v_one _) ?_)
    intro w8 hr8 hf8
    have HR8 : Hid (RowV w8 g zeroV) := Lib.hid hr8
    have HF8 := Lib.hid (HF7.out.trans hf8 (fun b hb h => by have := HG.out; omega))
    have d0 := HR8.out.c0
    have d1 := HR8.out.c1
    have d2 := HR8.out.c2
    have d3 := HR8.out.c3
    clear hr8 hf8
    go_wp2_with fail
    refine bodyPost_ret (v := getR (zeroV, false)) (by simp [results, getR, valc, d0, d1, d2, d3, Try.results42, go_sem]) rfl ⟨by rw [HA.out]; rfl, HF8.out⟩
  · have c0 := h7.c0
    have f0 : w7.frozen? ⟨r, 0, none⟩ = false := Row.free hr7 0
    obtain ⟨y, hy⟩ : ∃ y : V, y = ⟨k, x.u, x.n, x.s⟩ := ⟨_, rfl⟩
    obtain ⟨w8, hw8⟩ : ∃ w8, w7.setCell ⟨r, 0, none⟩ (.int .i64 k) = w8 := ⟨_, rfl⟩
    have h8 := Row.set hr7 0 (.int .i64 k)
    rw [hw8] at h8
    have h9 : RowV w8 r y := by rw [hy]; exact h8
    have HY := Lib.hid hy
    have hf8 : Fr (fun b => b = r) w7 w8 := by rw [← hw8]; exact Fr.set1 _ _ _ _
    have HR8 := Lib.hid (HR7.out.fr hf8 (by have := HGR.out.1; omega))
    have HF8 := Lib.hid (HF7.out.trans hf8 (fun b hb h => by have := HGR.out.2; omega))
    have e0 := h9.c0
    have e1 := h9.c1
    have e2 := h9.c2
    have e3 := h9.c3
    clear hr7 h7 hf7 h8 hf8 h9 hy
    go_wp2_with (refine store_st vSz rfl (.tmp 4) (.tmp 29) rfl g (by rfl) (vls y) (by rfl) _ _ HR8.out rfl rfl (v_one _) ?_)
    intro w9 hr9 hf9
    have HR9 : Hid (RowV w9 g y) := Lib.hid hr9
    have HF9 := Lib.hid (HF8.out.trans hf9 (fun b hb h => by have := HG.out; omega))
    clear e0 e1 e2 e3 c0 f0 hw8
    have d0 := HR9.out.c0
    have d1 := HR9.out.c1
    have d2 := HR9.out.c2
    have d3 := HR9.out.c3
    clear hr9 hf9
    go_wp2_with fail
    refine bodyPost_ret (v := getR (y, true)) (by simp [results, getR, valc, d0, d1, d2, d3, Try.results42, go_sem]) rfl ⟨by rw [HA.out, HY.out]; rfl, HF9.out⟩

set_option maxRecDepth 100000 in
set_option maxHeartbeats 1600000 in
theorem vgetO5_any (k : Int) (A : Option Addr) (n c : Nat) (B : List UInt8) (w : World) (h : cl k = 5) :
    Calls Try.prog 42 #[.int .i64 k, .slice A n c] w fun e w' => e = .returned (getR (getV k B)) ∧ Fr (fun _ => False) w w' := by
  rw [show getV k B = (zeroV, false) from by simp [getV, h, getC]]
  obtain ⟨g, hg⟩ : ∃ g, w.heap.size = g := ⟨_, rfl⟩
  obtain ⟨w1, hw1⟩ : ∃ w1, w.alloc (.cells #[.int .i64 0, .int .u64 0, .int .i64 0, .string ⟨#[]⟩] 30) = w1 := ⟨_, rfl⟩
  have hf1 : Fr (fun _ => False) w w1 := by rw [← hw1]; exact (Fr.refl _ _).alloc _
  have hr1 : RowV w1 g zeroV := by rw [← hw1, ← hg]; exact RowV.new w zeroV
  have hcall := kindO5_any k w1 h
  simp only [kindc] at hcall
  have HCALL := Lib.hid hcall
  have HF1 := Lib.hid hf1
  have HR1 := Lib.hid hr1
  have HG := Lib.hid hg
  clear hf1 hr1 hcall h
  go_enter Try.func42, Try.ntmps42
  go_wp2_with fail
  clear hw1 hg
  refine HCALL.out.mono ?_
  rintro e w2 ⟨rfl, hf2⟩
  obtain ⟨p, hp⟩ : ∃ p, w2.heap.size = p := ⟨_, rfl⟩
  obtain ⟨w3, hw3⟩ : ∃ w3, w2.alloc (.cells #[Value.nilFunc, Value.nilFunc] 69) = w3 := ⟨_, rfl⟩
  have hf3 : Fr (fun _ => False) w2 w3 := by rw [← hw3]; exact (Fr.refl _ _).alloc _
  have hk3 : Row w3 p 69 [Value.nilFunc, Value.nilFunc] := by rw [← hw3]; exact new_row hp.symm _ _
  have HR3 := Lib.hid ((HR1.out.fr hf2 (fun h => h)).fr hf3 (fun h => h))
  have HP := Lib.hid hp
  have HF2 := Lib.hid (HF1.out.trans hf2 (fun _ _ h => h))
  have HF3 := Lib.hid hf3
  have HK3 := Lib.hid hk3
  have HGP : Hid (g < p) := Lib.hid (by rw [← hp]; exact Nat.lt_of_lt_of_le HR1.out.lt hf2.size)
  clear hf2 hf3 hk3
  go_upto_region 2 with (refine store_st kSz rfl (.tmp 6) (.tmp 12) rfl p (by rfl) [Value.nilFunc, Value.nilFunc] (by rfl) _ _ HK3.out rfl rfl (by simp [Value.oneCell']) ?_)
  intro w4 hr4 hf4
  have hf24 : Fr (fun _ => False) w2 w4 := HF3.out.trans hf4 (fun b hb h => by have := HP.out; omega)
  have HR4 := Lib.hid (HR3.out.fr hf4 (by have := HGP.out; intro h; omega))
  have HF4 := Lib.hid (HF2.out.trans hf24 (fun _ _ h => h))
  clear hr4 hf4 hf24 hw3 hp
  go_wp2_with (refine store_st vSz rfl (.tmp 4) (.tmp 16) rfl g (by rfl) (vls zeroV) (by rfl) _ _ HR4.out rfl rfl (v_one _) ?_)
  intro w8 hr8 hf8
  have HR8 : Hid (RowV w8 g zeroV) := Lib.hid hr8
  have HF8 := Lib.hid (HF4.out.trans hf8 (fun b hb h => by have := HG.out; omega))
  have d0 := HR8.out.c0
  have d1 := HR8.out.c1
  have d2 := HR8.out.c2
  have d3 := HR8.out.c3
  clear hr8 hf8
  go_wp2_with fail
  refine bodyPost_ret (v := getR (zeroV, false)) (by simp [results, getR, valc, d0, d1, d2, d3, Try.results42, go_sem]) rfl ⟨rfl, HF8.out⟩
/-- THE CONTRACT of Get -/
theorem pvGet_any (k : Int) (A : Option Addr) (n c : Nat) (B : List UInt8) (w : World) (hr : Rd w A n (B.map bytec)) (hc : n ≤ c) (hn : n ≤ 1000000) :
    Calls Try.prog 42 #[.int .i64 k, .slice A n c] w fun e w' => e = .returned (getR (getV k B)) ∧ Fr (fun _ => False) w w' := by
  have hl := cl_le k
  rcases (show cl k = 0 ∨ cl k = 1 ∨ cl k = 2 ∨ cl k = 3 ∨ cl k = 4 ∨ cl k = 5 by omega) with e | e | e | e | e | e
  · exact vgetO0_any k A n c B w e hr hc hn
  · exact vgetO1_any k A n c B w e hr hc hn
  · exact vgetO2_any k A n c B w e hr hc hn
  · exact vgetO3_any k A n c B w e hr hc hn
  · exact vgetO4_any k A n c B w e hr hc hn
  · exact vgetO5_any k A n c B w e
end Go.Proofs.Ytmiofhoojahpjaa
