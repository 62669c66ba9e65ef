/-
  Layer 14, the program: Put (written by gen_pg.py).
-/
import Derived.Test.YtedmnkcoflbciaaGreatZm09
namespace Go.Proofs.YtedmnkcoflbciaaGreat
open Go.RowKit Mem Go.Lib VaM LebM UtfM
attribute [local go_sem ↓] Go.wp_at_zero Go.wp_at_succ
set_option linter.unusedVariables false


set_option maxRecDepth 100000 in
set_option maxHeartbeats 1600000 in
theorem vputO0_any (v : V) (w : World) (hv : v.ok) (h : cl v.k = 0) : Calls Tryz.prog 88 #[valc v] w (TellsN w (putV v)) := by
  rw [show putV v = [] from by simp [putV, h]]
  obtain ⟨g, hg⟩ : ∃ g, w.heap.size = g := ⟨_, rfl⟩
  obtain ⟨w1, hw1⟩ : ∃ w1, w.alloc (.cells #[.int .i64 v.k, .int .u64 (v.u : Int), .int .i64 v.n, .string (txt v.s)] 52) = w1 := ⟨_, rfl⟩
  have hf1 : Fr (fun _ => False) w w1 := by rw [← hw1]; exact (Fr.refl _ _).alloc _
  have hr1 : RowV w1 g v := by rw [← hw1, ← hg]; exact RowV.new w v
  have e0 := hr1.c0
  have hcall := kindO0_any v.k w1 h
  simp only [kindc, fnc] at hcall
  have HCALL := Lib.hid hcall
  have HF1 := Lib.hid hf1
  have HR1 := Lib.hid hr1
  unfold valc
  clear hf1 hr1 hcall h
  go_enter Tryz.func88, Tryz.ntmps88
  go_wp2_with fail
  clear hw1 hg e0
  refine HCALL.out.mono ?_
  rintro e w2 ⟨rfl, hf2⟩
  obtain ⟨p, hp⟩ : ∃ p, w2.heap.size = p := ⟨_, rfl⟩
  obtain ⟨w3, hw3⟩ : ∃ w3, w2.alloc (.cells #[Value.nilFunc, Value.nilFunc] 201) = w3 := ⟨_, rfl⟩
  have hf3 : Fr (fun _ => False) w2 w3 := by rw [← hw3]; exact (Fr.refl _ _).alloc _
  have hk3 : Row w3 p 201 [Value.nilFunc, Value.nilFunc] := by rw [← hw3]; exact new_row hp.symm _ _
  have HR3 := Lib.hid ((HR1.out.fr hf2 (fun h => h)).fr hf3 (fun h => h))
  have HP := Lib.hid hp
  have HF2 := Lib.hid (HF1.out.trans hf2 (fun _ _ h => h))
  have HF3 := Lib.hid hf3
  have HK3 := Lib.hid hk3
  have HGP : Hid (g < p) := Lib.hid (by rw [← hp]; exact Nat.lt_of_lt_of_le HR1.out.lt hf2.size)
  
  clear hf2 hf3 hk3
  go_upto_region 2 with (refine store_st kSz rfl (.tmp 3) (.tmp 9) rfl p (by rfl) [.func (.func 169) #[] #[], .func (.func 170) #[] #[]] (by rfl) _ _ HK3.out rfl rfl (kind_one _ _ _ _) ?_)
  intro w4 hr4 hf4
  have hf24 : Fr (fun _ => False) w2 w4 := HF3.out.trans hf4 (fun b hb h => by have := HP.out; omega)
  have d0 : w4.cell? ⟨p, 0, none⟩ = some (.func (.func 169) #[] #[]) := hr4.cell rfl
  have hr4v := HR3.out.fr hf4 (by have := HGP.out; intro h; omega)
  have e0 := hr4v.c0
  have e1 := hr4v.c1
  have e2 := hr4v.c2
  have e3 := hr4v.c3
  have hc := vputNo_any v w4
  have HC := Lib.hid hc
  have HF4 := Lib.hid (HF2.out.trans hf24 (fun _ _ h => h))
  simp only [valc] at HC
  clear hr4 hf4 hf24 hr4v hc hw3 hp
  go_wp2_with fail
  refine HC.out.mono ?_
  intro e w5 h5
  obtain ⟨A5, c5, rfl, hc5, hr5, hf5, hn5⟩ := h5
  have HC5 := Lib.hid hc5
  have HR5 := Lib.hid hr5
  have HF5 := Lib.hid (HF4.out.trans hf5 (fun _ _ h => h))
  have HN5 : Hid (∀ ad, A5 = some ad → w.heap.size ≤ ad.block) := Lib.hid (fun ad e => Nat.le_trans HF4.out.size (hn5 ad e))
  clear hc5 hr5 hf5 hn5
  go_wp2_with fail
  go_ret
  exact ⟨A5, c5, rfl, HC5.out, HR5.out, HF5.out, HN5.out⟩

set_option maxRecDepth 100000 in
set_option maxHeartbeats 1600000 in
theorem vputO1_any (v : V) (w : World) (hv : v.ok) (h : cl v.k = 1) : Calls Tryz.prog 88 #[valc v] w (TellsN w (putV v)) := by
  rw [show putV v = u v.u from by simp [putV, h]]
  obtain ⟨g, hg⟩ : ∃ g, w.heap.size = g := ⟨_, rfl⟩
  obtain ⟨w1, hw1⟩ : ∃ w1, w.alloc (.cells #[.int .i64 v.k, .int .u64 (v.u : Int), .int .i64 v.n, .string (txt v.s)] 52) = w1 := ⟨_, rfl⟩
  have hf1 : Fr (fun _ => False) w w1 := by rw [← hw1]; exact (Fr.refl _ _).alloc _
  have hr1 : RowV w1 g v := by rw [← hw1, ← hg]; exact RowV.new w v
  have e0 := hr1.c0
  have hcall := kindO1_any v.k w1 h
  simp only [kindc, fnc, fnc2] at hcall
  have HCALL := Lib.hid hcall
  have HF1 := Lib.hid hf1
  have HR1 := Lib.hid hr1
  unfold valc
  clear hf1 hr1 hcall h
  go_enter Tryz.func88, Tryz.ntmps88
  go_wp2_with fail
  clear hw1 hg e0
  refine HCALL.out.mono ?_
  rintro e w2 ⟨a, b, d, rfl, ha2, hb2, hd2, hf2⟩
  obtain ⟨p, hp⟩ : ∃ p, w2.heap.size = p := ⟨_, rfl⟩
  obtain ⟨w3, hw3⟩ : ∃ w3, w2.alloc (.cells #[Value.nilFunc, Value.nilFunc] 201) = w3 := ⟨_, rfl⟩
  have hf3 : Fr (fun _ => False) w2 w3 := by rw [← hw3]; exact (Fr.refl _ _).alloc _
  have hk3 : Row w3 p 201 [Value.nilFunc, Value.nilFunc] := by rw [← hw3]; exact new_row hp.symm _ _
  have HR3 := Lib.hid ((HR1.out.fr hf2 (fun h => h)).fr hf3 (fun h => h))
  have HP := Lib.hid hp
  have HF2 := Lib.hid (HF1.out.trans hf2 (fun _ _ h => h))
  have HF3 := Lib.hid hf3
  have HK3 := Lib.hid hk3
  have HGP : Hid (g < p) := Lib.hid (by rw [← hp]; exact Nat.lt_of_lt_of_le HR1.out.lt hf2.size)
  have Ha2 := Lib.hid ha2
  have Hb2 := Lib.hid hb2
  have Hd2 := Lib.hid hd2
  clear ha2 hb2 hd2
  clear hf2 hf3 hk3
  go_upto_region 2 with (refine store_st kSz rfl (.tmp 3) (.tmp 9) rfl p (by rfl) [.func (.func 171) #[] #[.pointer (some ⟨a, 0, none⟩), .pointer (some ⟨d, 0, none⟩)], .func (.func 172) #[] #[.pointer (some ⟨b, 0, none⟩), .pointer (some ⟨d, 0, none⟩)]] (by rfl) _ _ HK3.out rfl rfl (kind_one _ _ _ _) ?_)
  intro w4 hr4 hf4
  have hf24 : Fr (fun _ => False) w2 w4 := HF3.out.trans hf4 (fun b hb h => by have := HP.out; omega)
  have d0 : w4.cell? ⟨p, 0, none⟩ = some (.func (.func 171) #[] #[.pointer (some ⟨a, 0, none⟩), .pointer (some ⟨d, 0, none⟩)]) := hr4.cell rfl
  have hr4v := HR3.out.fr hf4 (by have := HGP.out; intro h; omega)
  have e0 := hr4v.c0
  have e1 := hr4v.c1
  have e2 := hr4v.c2
  have e3 := hr4v.c3
  have hc := vputU_any a d v w4 hv (hf24.cell Ha2.out (fun h => h)) (hf24.cell Hd2.out (fun h => h))
  have HC := Lib.hid hc
  have HF4 := Lib.hid (HF2.out.trans hf24 (fun _ _ h => h))
  simp only [valc] at HC
  clear hr4 hf4 hf24 hr4v hc hw3 hp
  go_wp2_with fail
  refine HC.out.mono ?_
  intro e w5 h5
  obtain ⟨A5, c5, rfl, hc5, hr5, hf5, hn5⟩ := h5
  have HC5 := Lib.hid hc5
  have HR5 := Lib.hid hr5
  have HF5 := Lib.hid (HF4.out.trans hf5 (fun _ _ h => h))
  have HN5 : Hid (∀ ad, A5 = some ad → w.heap.size ≤ ad.block) := Lib.hid (fun ad e => Nat.le_trans HF4.out.size (hn5 ad e))
  clear hc5 hr5 hf5 hn5
  go_wp2_with fail
  go_ret
  exact ⟨A5, c5, rfl, HC5.out, HR5.out, HF5.out, HN5.out⟩

set_option maxRecDepth 100000 in
set_option maxHeartbeats 1600000 in
theorem vputO2_any (v : V) (w : World) (hv : v.ok) (h : cl v.k = 2) : Calls Tryz.prog 88 #[valc v] w (TellsN w (putV v)) := by
  rw [show putV v = s v.n from by simp [putV, h]]
  obtain ⟨g, hg⟩ : ∃ g, w.heap.size = g := ⟨_, rfl⟩
  obtain ⟨w1, hw1⟩ : ∃ w1, w.alloc (.cells #[.int .i64 v.k, .int .u64 (v.u : Int), .int .i64 v.n, .string (txt v.s)] 52) = w1 := ⟨_, rfl⟩
  have hf1 : Fr (fun _ => False) w w1 := by rw [← hw1]; exact (Fr.refl _ _).alloc _
  have hr1 : RowV w1 g v := by rw [← hw1, ← hg]; exact RowV.new w v
  have e0 := hr1.c0
  have hcall := kindO2_any v.k w1 h
  simp only [kindc, fnc, fnc2] at hcall
  have HCALL := Lib.hid hcall
  have HF1 := Lib.hid hf1
  have HR1 := Lib.hid hr1
  unfold valc
  clear hf1 hr1 hcall h
  go_enter Tryz.func88, Tryz.ntmps88
  go_wp2_with fail
  clear hw1 hg e0
  refine HCALL.out.mono ?_
  rintro e w2 ⟨a, b, d, rfl, ha2, hb2, hd2, hf2⟩
  obtain ⟨p, hp⟩ : ∃ p, w2.heap.size = p := ⟨_, rfl⟩
  obtain ⟨w3, hw3⟩ : ∃ w3, w2.alloc (.cells #[Value.nilFunc, Value.nilFunc] 201) = w3 := ⟨_, rfl⟩
  have hf3 : Fr (fun _ => False) w2 w3 := by rw [← hw3]; exact (Fr.refl _ _).alloc _
  have hk3 : Row w3 p 201 [Value.nilFunc, Value.nilFunc] := by rw [← hw3]; exact new_row hp.symm _ _
  have HR3 := Lib.hid ((HR1.out.fr hf2 (fun h => h)).fr hf3 (fun h => h))
  have HP := Lib.hid hp
  have HF2 := Lib.hid (HF1.out.trans hf2 (fun _ _ h => h))
  have HF3 := Lib.hid hf3
  have HK3 := Lib.hid hk3
  have HGP : Hid (g < p) := Lib.hid (by rw [← hp]; exact Nat.lt_of_lt_of_le HR1.out.lt hf2.size)
  have Ha2 := Lib.hid ha2
  have Hb2 := Lib.hid hb2
  have Hd2 := Lib.hid hd2
  clear ha2 hb2 hd2
  clear hf2 hf3 hk3
  go_upto_region 2 with (refine store_st kSz rfl (.tmp 3) (.tmp 9) rfl p (by rfl) [.func (.func 173) #[] #[.pointer (some ⟨a, 0, none⟩), .pointer (some ⟨d, 0, none⟩)], .func (.func 174) #[] #[.pointer (some ⟨b, 0, none⟩), .pointer (some ⟨d, 0, none⟩)]] (by rfl) _ _ HK3.out rfl rfl (kind_one _ _ _ _) ?_)
  intro w4 hr4 hf4
  have hf24 : Fr (fun _ => False) w2 w4 := HF3.out.trans hf4 (fun b hb h => by have := HP.out; omega)
  have d0 : w4.cell? ⟨p, 0, none⟩ = some (.func (.func 173) #[] #[.pointer (some ⟨a, 0, none⟩), .pointer (some ⟨d, 0, none⟩)]) := hr4.cell rfl
  have hr4v := HR3.out.fr hf4 (by have := HGP.out; intro h; omega)
  have e0 := hr4v.c0
  have e1 := hr4v.c1
  have e2 := hr4v.c2
  have e3 := hr4v.c3
  have hc := vputS_any a d v w4 hv (hf24.cell Ha2.out (fun h => h)) (hf24.cell Hd2.out (fun h => h))
  have HC := Lib.hid hc
  have HF4 := Lib.hid (HF2.out.trans hf24 (fun _ _ h => h))
  simp only [valc] at HC
  clear hr4 hf4 hf24 hr4v hc hw3 hp
  go_wp2_with fail
  refine HC.out.mono ?_
  intro e w5 h5
  obtain ⟨A5, c5, rfl, hc5, hr5, hf5, hn5⟩ := h5
  have HC5 := Lib.hid hc5
  have HR5 := Lib.hid hr5
  have HF5 := Lib.hid (HF4.out.trans hf5 (fun _ _ h => h))
  have HN5 : Hid (∀ ad, A5 = some ad → w.heap.size ≤ ad.block) := Lib.hid (fun ad e => Nat.le_trans HF4.out.size (hn5 ad e))
  clear hc5 hr5 hf5 hn5
  go_wp2_with fail
  go_ret
  exact ⟨A5, c5, rfl, HC5.out, HR5.out, HF5.out, HN5.out⟩

set_option maxRecDepth 100000 in
set_option maxHeartbeats 1600000 in
theorem vputO3_any (v : V) (w : World) (hv : v.ok) (h : cl v.k = 3) : Calls Tryz.prog 88 #[valc v] w (TellsN w (putV v)) := by
  rw [show putV v = v.s from by simp [putV, h]]
  obtain ⟨g, hg⟩ : ∃ g, w.heap.size = g := ⟨_, rfl⟩
  obtain ⟨w1, hw1⟩ : ∃ w1, w.alloc (.cells #[.int .i64 v.k, .int .u64 (v.u : Int), .int .i64 v.n, .string (txt v.s)] 52) = w1 := ⟨_, rfl⟩
  have hf1 : Fr (fun _ => False) w w1 := by rw [← hw1]; exact (Fr.refl _ _).alloc _
  have hr1 : RowV w1 g v := by rw [← hw1, ← hg]; exact RowV.new w v
  have e0 := hr1.c0
  have hcall := kindO3_any v.k w1 h
  simp only [kindc, fnc, fnc1] at hcall
  have HCALL := Lib.hid hcall
  have HF1 := Lib.hid hf1
  have HR1 := Lib.hid hr1
  unfold valc
  clear hf1 hr1 hcall h
  go_enter Tryz.func88, Tryz.ntmps88
  go_wp2_with fail
  clear hw1 hg e0
  refine HCALL.out.mono ?_
  rintro e w2 ⟨a, rfl, ha2, hf2⟩
  obtain ⟨p, hp⟩ : ∃ p, w2.heap.size = p := ⟨_, rfl⟩
  obtain ⟨w3, hw3⟩ : ∃ w3, w2.alloc (.cells #[Value.nilFunc, Value.nilFunc] 201) = w3 := ⟨_, rfl⟩
  have hf3 : Fr (fun _ => False) w2 w3 := by rw [← hw3]; exact (Fr.refl _ _).alloc _
  have hk3 : Row w3 p 201 [Value.nilFunc, Value.nilFunc] := by rw [← hw3]; exact new_row hp.symm _ _
  have HR3 := Lib.hid ((HR1.out.fr hf2 (fun h => h)).fr hf3 (fun h => h))
  have HP := Lib.hid hp
  have HF2 := Lib.hid (HF1.out.trans hf2 (fun _ _ h => h))
  have HF3 := Lib.hid hf3
  have HK3 := Lib.hid hk3
  have HGP : Hid (g < p) := Lib.hid (by rw [← hp]; exact Nat.lt_of_lt_of_le HR1.out.lt hf2.size)
  have Ha2 := Lib.hid ha2
  clear ha2
  clear hf2 hf3 hk3
  go_upto_region 2 with (refine store_st kSz rfl (.tmp 3) (.tmp 9) rfl p (by rfl) [.func (.func 176) #[] #[], .func (.func 177) #[] #[.pointer (some ⟨a, 0, none⟩)]] (by rfl) _ _ HK3.out rfl rfl (kind_one _ _ _ _) ?_)
  intro w4 hr4 hf4
  have hf24 : Fr (fun _ => False) w2 w4 := HF3.out.trans hf4 (fun b hb h => by have := HP.out; omega)
  have d0 : w4.cell? ⟨p, 0, none⟩ = some (.func (.func 176) #[] #[]) := hr4.cell rfl
  have hr4v := HR3.out.fr hf4 (by have := HGP.out; intro h; omega)
  have e0 := hr4v.c0
  have e1 := hr4v.c1
  have e2 := hr4v.c2
  have e3 := hr4v.c3
  have hc := vputT_any v w4
  have HC := Lib.hid hc
  have HF4 := Lib.hid (HF2.out.trans hf24 (fun _ _ h => h))
  simp only [valc] at HC
  clear hr4 hf4 hf24 hr4v hc hw3 hp
  go_wp2_with fail
  refine HC.out.mono ?_
  intro e w5 h5
  obtain ⟨A5, c5, rfl, hc5, hr5, hf5, hn5⟩ := h5
  have HC5 := Lib.hid hc5
  have HR5 := Lib.hid hr5
  have HF5 := Lib.hid (HF4.out.trans hf5 (fun _ _ h => h))
  have HN5 : Hid (∀ ad, A5 = some ad → w.heap.size ≤ ad.block) := Lib.hid (fun ad e => Nat.le_trans HF4.out.size (hn5 ad e))
  clear hc5 hr5 hf5 hn5
  go_wp2_with fail
  go_ret
  exact ⟨A5, c5, rfl, HC5.out, HR5.out, HF5.out, HN5.out⟩

set_option maxRecDepth 100000 in
set_option maxHeartbeats 1600000 in
theorem vputO4_any (v : V) (w : World) (hv : v.ok) (h : cl v.k = 4) : Calls Tryz.prog 88 #[valc v] w (TellsN w (putV v)) := by
  rw [show putV v = v.s from by simp [putV, h]]
  obtain ⟨g, hg⟩ : ∃ g, w.heap.size = g := ⟨_, rfl⟩
  obtain ⟨w1, hw1⟩ : ∃ w1, w.alloc (.cells #[.int .i64 v.k, .int .u64 (v.u : Int), .int .i64 v.n, .string (txt v.s)] 52) = w1 := ⟨_, rfl⟩
  have hf1 : Fr (fun _ => False) w w1 := by rw [← hw1]; exact (Fr.refl _ _).alloc _
  have hr1 : RowV w1 g v := by rw [← hw1, ← hg]; exact RowV.new w v
  have e0 := hr1.c0
  have hcall := kindO4_any v.k w1 h
  simp only [kindc, fnc, fnc1] at hcall
  have HCALL := Lib.hid hcall
  have HF1 := Lib.hid hf1
  have HR1 := Lib.hid hr1
  unfold valc
  clear hf1 hr1 hcall h
  go_enter Tryz.func88, Tryz.ntmps88
  go_wp2_with fail
  clear hw1 hg e0
  refine HCALL.out.mono ?_
  rintro e w2 ⟨a, rfl, ha2, hf2⟩
  obtain ⟨p, hp⟩ : ∃ p, w2.heap.size = p := ⟨_, rfl⟩
  obtain ⟨w3, hw3⟩ : ∃ w3, w2.alloc (.cells #[Value.nilFunc, Value.nilFunc] 201) = w3 := ⟨_, rfl⟩
  have hf3 : Fr (fun _ => False) w2 w3 := by rw [← hw3]; exact (Fr.refl _ _).alloc _
  have hk3 : Row w3 p 201 [Value.nilFunc, Value.nilFunc] := by rw [← hw3]; exact new_row hp.symm _ _
  have HR3 := Lib.hid ((HR1.out.fr hf2 (fun h => h)).fr hf3 (fun h => h))
  have HP := Lib.hid hp
  have HF2 := Lib.hid (HF1.out.trans hf2 (fun _ _ h => h))
  have HF3 := Lib.hid hf3
  have HK3 := Lib.hid hk3
  have HGP : Hid (g < p) := Lib.hid (by rw [← hp]; exact Nat.lt_of_lt_of_le HR1.out.lt hf2.size)
  have Ha2 := Lib.hid ha2
  clear ha2
  clear hf2 hf3 hk3
  go_upto_region 2 with (refine store_st kSz rfl (.tmp 3) (.tmp 9) rfl p (by rfl) [.func (.func 176) #[] #[], .func (.func 177) #[] #[.pointer (some ⟨a, 0, none⟩)]] (by rfl) _ _ HK3.out rfl rfl (kind_one _ _ _ _) ?_)
  intro w4 hr4 hf4
  have hf24 : Fr (fun _ => False) w2 w4 := HF3.out.trans hf4 (fun b hb h => by have := HP.out; omega)
  have d0 : w4.cell? ⟨p, 0, none⟩ = some (.func (.func 176) #[] #[]) := hr4.cell rfl
  have hr4v := HR3.out.fr hf4 (by have := HGP.out; intro h; omega)
  have e0 := hr4v.c0
  have e1 := hr4v.c1
  have e2 := hr4v.c2
  have e3 := hr4v.c3
  have hc := vputT_any v w4
  have HC := Lib.hid hc
  have HF4 := Lib.hid (HF2.out.trans hf24 (fun _ _ h => h))
  simp only [valc] at HC
  clear hr4 hf4 hf24 hr4v hc hw3 hp
  go_wp2_with fail
  refine HC.out.mono ?_
  intro e w5 h5
  obtain ⟨A5, c5, rfl, hc5, hr5, hf5, hn5⟩ := h5
  have HC5 := Lib.hid hc5
  have HR5 := Lib.hid hr5
  have HF5 := Lib.hid (HF4.out.trans hf5 (fun _ _ h => h))
  have HN5 : Hid (∀ ad, A5 = some ad → w.heap.size ≤ ad.block) := Lib.hid (fun ad e => Nat.le_trans HF4.out.size (hn5 ad e))
  clear hc5 hr5 hf5 hn5
  go_wp2_with fail
  go_ret
  exact ⟨A5, c5, rfl, HC5.out, HR5.out, HF5.out, HN5.out⟩

set_option maxRecDepth 100000 in
set_option maxHeartbeats 1600000 in
theorem vputO5_any (v : V) (w : World) (h : cl v.k = 5) : Calls Tryz.prog 88 #[valc v] w (TellsN w (putV v)) := by
  rw [show putV v = [] from by simp [putV, h]]
  obtain ⟨g, hg⟩ : ∃ g, w.heap.size = g := ⟨_, rfl⟩
  obtain ⟨w1, hw1⟩ : ∃ w1, w.alloc (.cells #[.int .i64 v.k, .int .u64 (v.u : Int), .int .i64 v.n, .string (txt v.s)] 52) = w1 := ⟨_, rfl⟩
  have hf1 : Fr (fun _ => False) w w1 := by rw [← hw1]; exact (Fr.refl _ _).alloc _
  have hr1 : RowV w1 g v := by rw [← hw1, ← hg]; exact RowV.new w v
  have e0 := hr1.c0
  have hcall := kindO5_any v.k w1 h
  simp only [kindc] at hcall
  have HCALL := Lib.hid hcall
  have HF1 := Lib.hid hf1
  unfold valc
  clear hf1 hr1 hcall h
  go_enter Tryz.func88, Tryz.ntmps88
  go_wp2_with fail
  clear hw1 hg e0
  refine HCALL.out.mono ?_
  rintro e w2 ⟨rfl, hf2⟩
  obtain ⟨p, hp⟩ : ∃ p, w2.heap.size = p := ⟨_, rfl⟩
  obtain ⟨w3, hw3⟩ : ∃ w3, w2.alloc (.cells #[Value.nilFunc, Value.nilFunc] 201) = w3 := ⟨_, rfl⟩
  have hf3 : Fr (fun _ => False) w2 w3 := by rw [← hw3]; exact (Fr.refl _ _).alloc _
  have hk3 : Row w3 p 201 [Value.nilFunc, Value.nilFunc] := by rw [← hw3]; exact new_row hp.symm _ _
  have HP := Lib.hid hp
  have HF2 := Lib.hid (HF1.out.trans hf2 (fun _ _ h => h))
  have HF3 := Lib.hid hf3
  have HK3 := Lib.hid hk3
  clear hf2 hf3 hk3
  go_upto_region 2 with (refine store_st kSz rfl (.tmp 3) (.tmp 9) rfl p (by rfl) [Value.nilFunc, Value.nilFunc] (by rfl) _ _ HK3.out rfl rfl (by simp [Value.oneCell']) ?_)
  intro w4 hr4 hf4
  have hf24 : Fr (fun _ => False) w2 w4 := HF3.out.trans hf4 (fun b hb h => by have := HP.out; omega)
  have HF4 := Lib.hid (HF2.out.trans hf24 (fun _ _ h => h))
  clear hr4 hf4 hf24 hw3 hp
  go_wp2_with fail
  go_ret
  exact ⟨none, 0, rfl, Nat.le_refl _, Rd.nil _ _, HF4.out, fun ad e => by cases e⟩
/-- THE CONTRACT of Put -/
theorem pvPutN_any (v : V) (w : World) (hv : v.ok) : Calls Tryz.prog 88 #[valc v] w (TellsN w (putV v)) := by
  have hc := cl_le v.k
  rcases (show cl v.k = 0 ∨ cl v.k = 1 ∨ cl v.k = 2 ∨ cl v.k = 3 ∨ cl v.k = 4 ∨ cl v.k = 5 by omega) with e | e | e | e | e | e
  · exact vputO0_any v w hv e
  · exact vputO1_any v w hv e
  · exact vputO2_any v w hv e
  · exact vputO3_any v w hv e
  · exact vputO4_any v w hv e
  · exact vputO5_any v w e
end Go.Proofs.YtedmnkcoflbciaaGreat
