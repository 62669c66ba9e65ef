/-
  Layer 14, the program: kindOf (written by gen_kind.py).
-/
import Derived.Test.YtmiofhoojahpjaaVaD
namespace Go.Proofs.Ytmiofhoojahpjaa
open Go.RowKit Mem Go.Lib VaM LebM UtfM
attribute [local go_sem ↓] Go.wp_at_zero Go.wp_at_succ
set_option linter.unusedVariables false


set_option maxRecDepth 100000 in
set_option maxHeartbeats 1600000 in
theorem kindO0_any (k : Int) (w : World) (h : cl k = 0) : Calls Try.prog 45 #[.int .i64 k] w fun e w' =>  e = .returned (.tuple #[kindc (fnc 61) (fnc 62), .bool true]) ∧  Fr (fun _ => False) w w' := by
  obtain ⟨g, hg⟩ : ∃ g, w.heap.size = g := ⟨_, rfl⟩
  obtain ⟨w1, hw1⟩ : ∃ w1, w.alloc (.cells #[Value.nilFunc, Value.nilFunc] 69) = w1 := ⟨_, rfl⟩
  have hf1 : Fr (fun _ => False) w w1 := by rw [← hw1]; exact (Fr.refl _ _).alloc _
  have hk1 : Row w1 g 69 [Value.nilFunc, Value.nilFunc] := by rw [← hw1]; exact new_row hg.symm _ _
  have hcall := vbare_any w1
  have HCALL := Lib.hid hcall
  have HF1 := Lib.hid hf1
  have HK1 := Lib.hid hk1
  have HG := Lib.hid hg
  clear hf1 hk1 hcall
  simp only [fnc] at HCALL
  unfold kindc fnc
  rcases cl0 h with rfl | rfl | rfl
  all_goals
    go_enter Try.func45, Try.ntmps45
    go_wp2_with fail
    clear hw1 hg
    refine HCALL.out.mono ?_
    rintro e w2 ⟨rfl,  hf2⟩
    unfold kindc
    have HK2 := Lib.hid (HK1.out.fr hf2 (fun h => h))
    have HF2 := Lib.hid (HF1.out.trans hf2 (fun _ _ h => h))
    
    clear hf2
    go_wp2_with (refine store_st kSz rfl (.tmp 2) (.tmp 10) rfl g (by rfl) [.func (.func 61) #[] #[], .func (.func 62) #[] #[]] (by rfl) _ _ HK2.out rfl rfl (kind_one _ _ _ _) ?_)
    intro w5 hr5 hf5
    have HF5 : Hid (Fr (fun _ => False) w w5) := Lib.hid (HF2.out.trans hf5 (fun b hb h => by have h1 := HG.out; omega))
    have d0 : w5.cell? ⟨g, 0, none⟩ = some (.func (.func 61) #[] #[]) := hr5.cell rfl
    have d1 : w5.cell? ⟨g, 1, none⟩ = some (.func (.func 62) #[] #[]) := hr5.cell rfl
    
    clear hr5 hf5
    go_wp2_with fail
    exact bodyPost_ret (v := .tuple #[.agg #[.func (.func 61) #[] #[], .func (.func 62) #[] #[]], .bool true]) (by simp [results, Try.results45, go_sem, d0, d1]) rfl ⟨rfl,  HF5.out⟩

set_option maxRecDepth 100000 in
set_option maxHeartbeats 1600000 in
theorem kindO1_any (k : Int) (w : World) (h : cl k = 1) : Calls Try.prog 45 #[.int .i64 k] w fun e w' => ∃ a b d : Nat, e = .returned (.tuple #[kindc (fnc2 63 a d) (fnc2 64 b d), .bool true]) ∧ w'.cell? ⟨a, 0, none⟩ = some (fnc 51) ∧ w'.cell? ⟨b, 0, none⟩ = some (fnc 52) ∧ w'.cell? ⟨d, 0, none⟩ = some (fnc 53) ∧ Fr (fun _ => False) w w' := by
  obtain ⟨g, hg⟩ : ∃ g, w.heap.size = g := ⟨_, rfl⟩
  obtain ⟨w1, hw1⟩ : ∃ w1, w.alloc (.cells #[Value.nilFunc, Value.nilFunc] 69) = w1 := ⟨_, rfl⟩
  have hf1 : Fr (fun _ => False) w w1 := by rw [← hw1]; exact (Fr.refl _ _).alloc _
  have hk1 : Row w1 g 69 [Value.nilFunc, Value.nilFunc] := by rw [← hw1]; exact new_row hg.symm _ _
  have hcall := vnumU_any w1
  have HCALL := Lib.hid hcall
  have HF1 := Lib.hid hf1
  have HK1 := Lib.hid hk1
  have HG := Lib.hid hg
  clear hf1 hk1 hcall
  simp only [fnc] at HCALL
  unfold kindc fnc fnc2
  obtain rfl := cl1 h
  all_goals
    go_enter Try.func45, Try.ntmps45
    go_wp2_with fail
    clear hw1 hg
    refine HCALL.out.mono ?_
    rintro e w2 ⟨a, b, d, rfl, ha2, hb2, hd2, hf2⟩
    unfold kindc fnc2
    have HK2 := Lib.hid (HK1.out.fr hf2 (fun h => h))
    have HF2 := Lib.hid (HF1.out.trans hf2 (fun _ _ h => h))
    have Ha2 := Lib.hid (And.intro (show ¬ (a = g) from fun h => by rw [h, HK2.out.cell (i := 0) rfl] at ha2; cases ha2) ha2)
    have Hb2 := Lib.hid (And.intro (show ¬ (b = g) from fun h => by rw [h, HK2.out.cell (i := 0) rfl] at hb2; cases hb2) hb2)
    have Hd2 := Lib.hid (And.intro (show ¬ (d = g) from fun h => by rw [h, HK2.out.cell (i := 0) rfl] at hd2; cases hd2) hd2)
    clear ha2 hb2 hd2
    clear hf2
    go_wp2_with (refine store_st kSz rfl (.tmp 2) (.tmp 13) rfl g (by rfl) [.func (.func 63) #[] #[.pointer (some ⟨a, 0, none⟩), .pointer (some ⟨d, 0, none⟩)], .func (.func 64) #[] #[.pointer (some ⟨b, 0, none⟩), .pointer (some ⟨d, 0, none⟩)]] (by rfl) _ _ HK2.out rfl rfl (kind_one _ _ _ _) ?_)
    intro w5 hr5 hf5
    have HF5 : Hid (Fr (fun _ => False) w w5) := Lib.hid (HF2.out.trans hf5 (fun b hb h => by have h1 := HG.out; omega))
    have d0 : w5.cell? ⟨g, 0, none⟩ = some (.func (.func 63) #[] #[.pointer (some ⟨a, 0, none⟩), .pointer (some ⟨d, 0, none⟩)]) := hr5.cell rfl
    have d1 : w5.cell? ⟨g, 1, none⟩ = some (.func (.func 64) #[] #[.pointer (some ⟨b, 0, none⟩), .pointer (some ⟨d, 0, none⟩)]) := hr5.cell rfl
    have ha3 := hf5.cell (Ha2.out).2 (Ha2.out).1
    have hb3 := hf5.cell (Hb2.out).2 (Hb2.out).1
    have hd3 := hf5.cell (Hd2.out).2 (Hd2.out).1
    have Ha3 := Lib.hid ha3
    have Hb3 := Lib.hid hb3
    have Hd3 := Lib.hid hd3
    clear ha3 hb3 hd3
    clear hr5 hf5
    go_wp2_with fail
    exact bodyPost_ret (v := .tuple #[.agg #[.func (.func 63) #[] #[.pointer (some ⟨a, 0, none⟩), .pointer (some ⟨d, 0, none⟩)], .func (.func 64) #[] #[.pointer (some ⟨b, 0, none⟩), .pointer (some ⟨d, 0, none⟩)]], .bool true]) (by simp [results, Try.results45, go_sem, d0, d1]) rfl ⟨a, b, d, rfl, Ha3.out, Hb3.out, Hd3.out, HF5.out⟩

set_option maxRecDepth 100000 in
set_option maxHeartbeats 1600000 in
theorem kindO2_any (k : Int) (w : World) (h : cl k = 2) : Calls Try.prog 45 #[.int .i64 k] w fun e w' => ∃ a b d : Nat, e = .returned (.tuple #[kindc (fnc2 68 a d) (fnc2 69 b d), .bool true]) ∧ w'.cell? ⟨a, 0, none⟩ = some (fnc 55) ∧ w'.cell? ⟨b, 0, none⟩ = some (fnc 56) ∧ w'.cell? ⟨d, 0, none⟩ = some (fnc 57) ∧ Fr (fun _ => False) w w' := by
  obtain ⟨g, hg⟩ : ∃ g, w.heap.size = g := ⟨_, rfl⟩
  obtain ⟨w1, hw1⟩ : ∃ w1, w.alloc (.cells #[Value.nilFunc, Value.nilFunc] 69) = w1 := ⟨_, rfl⟩
  have hf1 : Fr (fun _ => False) w w1 := by rw [← hw1]; exact (Fr.refl _ _).alloc _
  have hk1 : Row w1 g 69 [Value.nilFunc, Value.nilFunc] := by rw [← hw1]; exact new_row hg.symm _ _
  have hcall := vnumS_any w1
  have HCALL := Lib.hid hcall
  have HF1 := Lib.hid hf1
  have HK1 := Lib.hid hk1
  have HG := Lib.hid hg
  clear hf1 hk1 hcall
  simp only [fnc] at HCALL
  unfold kindc fnc fnc2
  rcases cl2 h with rfl | rfl | rfl
  all_goals
    go_enter Try.func45, Try.ntmps45
    go_wp2_with fail
    clear hw1 hg
    refine HCALL.out.mono ?_
    rintro e w2 ⟨a, b, d, rfl, ha2, hb2, hd2, hf2⟩
    unfold kindc fnc2
    have HK2 := Lib.hid (HK1.out.fr hf2 (fun h => h))
    have HF2 := Lib.hid (HF1.out.trans hf2 (fun _ _ h => h))
    have Ha2 := Lib.hid (And.intro (show ¬ (a = g) from fun h => by rw [h, HK2.out.cell (i := 0) rfl] at ha2; cases ha2) ha2)
    have Hb2 := Lib.hid (And.intro (show ¬ (b = g) from fun h => by rw [h, HK2.out.cell (i := 0) rfl] at hb2; cases hb2) hb2)
    have Hd2 := Lib.hid (And.intro (show ¬ (d = g) from fun h => by rw [h, HK2.out.cell (i := 0) rfl] at hd2; cases hd2) hd2)
    clear ha2 hb2 hd2
    clear hf2
    go_wp2_with (refine store_st kSz rfl (.tmp 2) (.tmp 18) rfl g (by rfl) [.func (.func 68) #[] #[.pointer (some ⟨a, 0, none⟩), .pointer (some ⟨d, 0, none⟩)], .func (.func 69) #[] #[.pointer (some ⟨b, 0, none⟩), .pointer (some ⟨d, 0, none⟩)]] (by rfl) _ _ HK2.out rfl rfl (kind_one _ _ _ _) ?_)
    intro w5 hr5 hf5
    have HF5 : Hid (Fr (fun _ => False) w w5) := Lib.hid (HF2.out.trans hf5 (fun b hb h => by have h1 := HG.out; omega))
    have d0 : w5.cell? ⟨g, 0, none⟩ = some (.func (.func 68) #[] #[.pointer (some ⟨a, 0, none⟩), .pointer (some ⟨d, 0, none⟩)]) := hr5.cell rfl
    have d1 : w5.cell? ⟨g, 1, none⟩ = some (.func (.func 69) #[] #[.pointer (some ⟨b, 0, none⟩), .pointer (some ⟨d, 0, none⟩)]) := hr5.cell rfl
    have ha3 := hf5.cell (Ha2.out).2 (Ha2.out).1
    have hb3 := hf5.cell (Hb2.out).2 (Hb2.out).1
    have hd3 := hf5.cell (Hd2.out).2 (Hd2.out).1
    have Ha3 := Lib.hid ha3
    have Hb3 := Lib.hid hb3
    have Hd3 := Lib.hid hd3
    clear ha3 hb3 hd3
    clear hr5 hf5
    go_wp2_with fail
    exact bodyPost_ret (v := .tuple #[.agg #[.func (.func 68) #[] #[.pointer (some ⟨a, 0, none⟩), .pointer (some ⟨d, 0, none⟩)], .func (.func 69) #[] #[.pointer (some ⟨b, 0, none⟩), .pointer (some ⟨d, 0, none⟩)]], .bool true]) (by simp [results, Try.results45, go_sem, d0, d1]) rfl ⟨a, b, d, rfl, Ha3.out, Hb3.out, Hd3.out, HF5.out⟩

set_option maxRecDepth 100000 in
set_option maxHeartbeats 1600000 in
theorem kindO3_any (k : Int) (w : World) (h : cl k = 3) : Calls Try.prog 45 #[.int .i64 k] w fun e w' => ∃ a : Nat, e = .returned (.tuple #[kindc (fnc 71) (fnc1 72 a), .bool true]) ∧ w'.cell? ⟨a, 0, none⟩ = some (fnc 59) ∧ Fr (fun _ => False) w w' := by
  obtain ⟨g, hg⟩ : ∃ g, w.heap.size = g := ⟨_, rfl⟩
  obtain ⟨w1, hw1⟩ : ∃ w1, w.alloc (.cells #[Value.nilFunc, Value.nilFunc] 69) = w1 := ⟨_, rfl⟩
  have hf1 : Fr (fun _ => False) w w1 := by rw [← hw1]; exact (Fr.refl _ _).alloc _
  have hk1 : Row w1 g 69 [Value.nilFunc, Value.nilFunc] := by rw [← hw1]; exact new_row hg.symm _ _
  have hcall := vtextT_any w1
  have HCALL := Lib.hid hcall
  have HF1 := Lib.hid hf1
  have HK1 := Lib.hid hk1
  have HG := Lib.hid hg
  clear hf1 hk1 hcall
  simp only [fnc] at HCALL
  unfold kindc fnc fnc1
  obtain rfl := cl3 h
  all_goals
    go_enter Try.func45, Try.ntmps45
    go_wp2_with fail
    clear hw1 hg
    refine HCALL.out.mono ?_
    rintro e w2 ⟨a, rfl, ha2, hf2⟩
    unfold kindc fnc1
    have HK2 := Lib.hid (HK1.out.fr hf2 (fun h => h))
    have HF2 := Lib.hid (HF1.out.trans hf2 (fun _ _ h => h))
    have Ha2 := Lib.hid (And.intro (show ¬ (a = g) from fun h => by rw [h, HK2.out.cell (i := 0) rfl] at ha2; cases ha2) ha2)
    clear ha2
    clear hf2
    go_wp2_with (refine store_st kSz rfl (.tmp 2) (.tmp 21) rfl g (by rfl) [.func (.func 71) #[] #[], .func (.func 72) #[] #[.pointer (some ⟨a, 0, none⟩)]] (by rfl) _ _ HK2.out rfl rfl (kind_one _ _ _ _) ?_)
    intro w5 hr5 hf5
    have HF5 : Hid (Fr (fun _ => False) w w5) := Lib.hid (HF2.out.trans hf5 (fun b hb h => by have h1 := HG.out; omega))
    have d0 : w5.cell? ⟨g, 0, none⟩ = some (.func (.func 71) #[] #[]) := hr5.cell rfl
    have d1 : w5.cell? ⟨g, 1, none⟩ = some (.func (.func 72) #[] #[.pointer (some ⟨a, 0, none⟩)]) := hr5.cell rfl
    have ha3 := hf5.cell (Ha2.out).2 (Ha2.out).1
    have Ha3 := Lib.hid ha3
    clear ha3
    clear hr5 hf5
    go_wp2_with fail
    exact bodyPost_ret (v := .tuple #[.agg #[.func (.func 71) #[] #[], .func (.func 72) #[] #[.pointer (some ⟨a, 0, none⟩)]], .bool true]) (by simp [results, Try.results45, go_sem, d0, d1]) rfl ⟨a, rfl, Ha3.out, HF5.out⟩

set_option maxRecDepth 100000 in
set_option maxHeartbeats 1600000 in
theorem kindO4_any (k : Int) (w : World) (h : cl k = 4) : Calls Try.prog 45 #[.int .i64 k] w fun e w' => ∃ a : Nat, e = .returned (.tuple #[kindc (fnc 71) (fnc1 72 a), .bool true]) ∧ w'.cell? ⟨a, 0, none⟩ = some (fnc 60) ∧ Fr (fun _ => False) w w' := by
  obtain ⟨g, hg⟩ : ∃ g, w.heap.size = g := ⟨_, rfl⟩
  obtain ⟨w1, hw1⟩ : ∃ w1, w.alloc (.cells #[Value.nilFunc, Value.nilFunc] 69) = w1 := ⟨_, rfl⟩
  have hf1 : Fr (fun _ => False) w w1 := by rw [← hw1]; exact (Fr.refl _ _).alloc _
  have hk1 : Row w1 g 69 [Value.nilFunc, Value.nilFunc] := by rw [← hw1]; exact new_row hg.symm _ _
  have hcall := vtextB_any w1
  have HCALL := Lib.hid hcall
  have HF1 := Lib.hid hf1
  have HK1 := Lib.hid hk1
  have HG := Lib.hid hg
  clear hf1 hk1 hcall
  simp only [fnc] at HCALL
  unfold kindc fnc fnc1
  obtain rfl := cl4 h
  all_goals
    go_enter Try.func45, Try.ntmps45
    go_wp2_with fail
    clear hw1 hg
    refine HCALL.out.mono ?_
    rintro e w2 ⟨a, rfl, ha2, hf2⟩
    unfold kindc fnc1
    have HK2 := Lib.hid (HK1.out.fr hf2 (fun h => h))
    have HF2 := Lib.hid (HF1.out.trans hf2 (fun _ _ h => h))
    have Ha2 := Lib.hid (And.intro (show ¬ (a = g) from fun h => by rw [h, HK2.out.cell (i := 0) rfl] at ha2; cases ha2) ha2)
    clear ha2
    clear hf2
    go_wp2_with (refine store_st kSz rfl (.tmp 2) (.tmp 24) rfl g (by rfl) [.func (.func 71) #[] #[], .func (.func 72) #[] #[.pointer (some ⟨a, 0, none⟩)]] (by rfl) _ _ HK2.out rfl rfl (kind_one _ _ _ _) ?_)
    intro w5 hr5 hf5
    have HF5 : Hid (Fr (fun _ => False) w w5) := Lib.hid (HF2.out.trans hf5 (fun b hb h => by have h1 := HG.out; omega))
    have d0 : w5.cell? ⟨g, 0, none⟩ = some (.func (.func 71) #[] #[]) := hr5.cell rfl
    have d1 : w5.cell? ⟨g, 1, none⟩ = some (.func (.func 72) #[] #[.pointer (some ⟨a, 0, none⟩)]) := hr5.cell rfl
    have ha3 := hf5.cell (Ha2.out).2 (Ha2.out).1
    have Ha3 := Lib.hid ha3
    clear ha3
    clear hr5 hf5
    go_wp2_with fail
    exact bodyPost_ret (v := .tuple #[.agg #[.func (.func 71) #[] #[], .func (.func 72) #[] #[.pointer (some ⟨a, 0, none⟩)]], .bool true]) (by simp [results, Try.results45, go_sem, d0, d1]) rfl ⟨a, rfl, Ha3.out, HF5.out⟩

set_option maxRecDepth 100000 in
set_option maxHeartbeats 1600000 in
theorem kindO5_any (k : Int) (w : World) (h : cl k = 5) : Calls Try.prog 45 #[.int .i64 k] w fun e w' => e = .returned (.tuple #[kindc Value.nilFunc Value.nilFunc, .bool false]) ∧ Fr (fun _ => False) w w' := by
  have h5 := cl5 h
  obtain ⟨g, hg⟩ : ∃ g, w.heap.size = g := ⟨_, rfl⟩
  obtain ⟨w1, hw1⟩ : ∃ w1, w.alloc (.cells #[Value.nilFunc, Value.nilFunc] 69) = w1 := ⟨_, rfl⟩
  have hf1 : Fr (fun _ => False) w w1 := by rw [← hw1]; exact (Fr.refl _ _).alloc _
  have hk1 : Row w1 g 69 [Value.nilFunc, Value.nilFunc] := by rw [← hw1]; exact new_row hg.symm _ _
  have HF1 := Lib.hid hf1
  have HK1 := Lib.hid hk1
  have HG := Lib.hid hg
  have t0 : (k == 0) = false := by simp; omega
  have t1 : (k == 1) = false := by simp; omega
  have t2 : (k == 2) = false := by simp; omega
  have t3 : (k == 3) = false := by simp; omega
  have t4 : (k == 4) = false := by simp; omega
  have t5 : (k == 5) = false := by simp; omega
  have t6 : (k == 6) = false := by simp; omega
  have t7 : (k == 7) = false := by simp; omega
  have t8 : (k == 8) = false := by simp; omega
  unfold kindc
  clear hf1 hk1 h h5
  go_enter Try.func45, Try.ntmps45
  go_wp2_with (refine store_st kSz rfl (.tmp 2) (.tmp 5) rfl g (by rfl) [Value.nilFunc, Value.nilFunc] (by rfl) _ _ HK1.out rfl rfl (by simp [Value.oneCell']) ?_)
  intro w5 hr5 hf5
  have HF5 : Hid (Fr (fun _ => False) w w5) := Lib.hid (HF1.out.trans hf5 (fun b hb h => by have h1 := HG.out; omega))
  have d0 : w5.cell? ⟨g, 0, none⟩ = some Value.nilFunc := hr5.cell rfl
  have d1 : w5.cell? ⟨g, 1, none⟩ = some Value.nilFunc := hr5.cell rfl
  clear hr5 hf5
  go_wp2_with fail
  exact bodyPost_ret (v := .tuple #[.agg #[Value.nilFunc, Value.nilFunc], .bool false]) (by simp [results, Try.results45, go_sem, d0, d1]) rfl ⟨rfl, HF5.out⟩
end Go.Proofs.Ytmiofhoojahpjaa
