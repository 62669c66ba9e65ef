/-
  Layer 14, the program: bare, number, text (written by gen_kind.py).
  Layer 14, the program: kindOf (written by gen_kind.py).
-/
import Derived.Test.YtedmnkcoflbciaaGreatVaC
namespace Go.Proofs.YtedmnkcoflbciaaGreat
open Go.RowKit Mem Go.Lib VaM LebM UtfM
attribute [local go_sem ↓] Go.wp_at_zero Go.wp_at_succ
set_option linter.unusedVariables false

/-- how values are told -/
def kindc (p g : Value) : Value := .agg #[p, g]
def fnc1 (F : FuncId) (a : Nat) : Value := .func (.func F) #[] #[.pointer (some ⟨a, 0, none⟩)]
def fnc2 (F : FuncId) (a b : Nat) : Value := .func (.func F) #[] #[.pointer (some ⟨a, 0, none⟩), .pointer (some ⟨b, 0, none⟩)]
theorem new_row {w : World} {k : Nat} (hk : k = w.heap.size) (t : TypeId) (L : List Value) : Row (w.alloc (.cells L.toArray t)) k t L := by subst hk; exact Row.new w _ _
theorem kind_one (F G : FuncId) (l m : Array Value) : ([Value.func (.func F) #[] l, .func (.func G) #[] m] : List Value).toArray.all (·.oneCell') = true := by simp [Value.oneCell']

set_option maxRecDepth 100000 in
set_option maxHeartbeats 800000 in
theorem vbare_any (w : World) : Calls Tryz.prog 145 #[] w fun e w' =>  e = .returned (kindc (fnc 169) (fnc 170)) ∧  Fr (fun _ => False) w w' := by
  obtain ⟨q, hq⟩ : ∃ q, w.heap.size = q := ⟨_, rfl⟩
  obtain ⟨w1, hw1⟩ : ∃ w1, (w.alloc (.cells #[Value.nilFunc, Value.nilFunc] 201)) = w1 := ⟨_, rfl⟩
  have hf1 : Fr (fun _ => False) w w1 := by rw [← hw1]; exact ((Fr.refl _ _).alloc _)
  have hk : Row w1 (q) 201 [Value.nilFunc, Value.nilFunc] := by rw [← hw1]; exact new_row (w := w) (k := q) (by simp [← hq]) _ _
  have HK := Lib.hid hk
  have HF1 := Lib.hid hf1
  have HQ := Lib.hid hq
  clear hf1 hk
  unfold kindc fnc
  go_enter Tryz.func145, Tryz.ntmps145
  go_upto_region 1 with fail
  clear hw1 hq
  go_wp2_with (refine store_st kSz rfl (.tmp 0) (.tmp 1) rfl (q) (by rfl) [.func (.func 169) #[] #[], .func (.func 170) #[] #[]] (by rfl) _ _ HK.out rfl rfl (kind_one _ _ _ _) ?_)
  intro w5 hr5 hf5
  have HF5 : Hid (Fr (fun _ => False) w w5) := Lib.hid (HF1.out.trans hf5 (fun b hb h => by have h1 := HQ.out; omega))
  have d0 : w5.cell? ⟨q, 0, none⟩ = some (.func (.func 169) #[] #[]) := hr5.cell rfl
  have d1 : w5.cell? ⟨q, 1, none⟩ = some (.func (.func 170) #[] #[]) := hr5.cell rfl
  clear hr5
  go_wp2_with fail
  exact bodyPost_ret (v := .agg #[.func (.func 169) #[] #[], .func (.func 170) #[] #[]]) (by simp [results, Tryz.results145, go_sem, d0, d1]) rfl ⟨rfl,  HF5.out⟩

set_option maxRecDepth 100000 in
set_option maxHeartbeats 800000 in
theorem vnumU_any (w : World) : Calls Tryz.prog 146 #[fnc 122, fnc 125, fnc 147] w fun e w' => ∃ a b d : Nat, e = .returned (kindc (fnc2 171 a d) (fnc2 172 b d)) ∧ w'.cell? ⟨a, 0, none⟩ = some (fnc 122) ∧ w'.cell? ⟨b, 0, none⟩ = some (fnc 125) ∧ w'.cell? ⟨d, 0, none⟩ = some (fnc 147) ∧ Fr (fun _ => False) w w' := by
  obtain ⟨q, hq⟩ : ∃ q, w.heap.size = q := ⟨_, rfl⟩
  obtain ⟨w1, hw1⟩ : ∃ w1, ((((w.alloc (.cells #[.func (.func 122) #[] #[]] 126)).alloc (.cells #[.func (.func 125) #[] #[]] 208)).alloc (.cells #[.func (.func 147) #[] #[]] 230)).alloc (.cells #[Value.nilFunc, Value.nilFunc] 201)) = w1 := ⟨_, rfl⟩
  have hf1 : Fr (fun _ => False) w w1 := by rw [← hw1]; exact (((((Fr.refl _ _).alloc _).alloc _).alloc _).alloc _)
  have hb0 : Row w1 (q) 126 [.func (.func 122) #[] #[]] := by rw [← hw1]; exact Row.alloc (Row.alloc (Row.alloc (new_row (w := w) (k := q) (by simp [← hq]) _ _) _) _) _
  have HB0 := Lib.hid hb0
  have hb1 : Row w1 (q + 1) 208 [.func (.func 125) #[] #[]] := by rw [← hw1]; exact Row.alloc (Row.alloc (new_row (w := (w.alloc (.cells #[.func (.func 122) #[] #[]] 126))) (k := q + 1) (by simp [← hq]) _ _) _) _
  have HB1 := Lib.hid hb1
  have hb2 : Row w1 (q + 1 + 1) 230 [.func (.func 147) #[] #[]] := by rw [← hw1]; exact Row.alloc (new_row (w := ((w.alloc (.cells #[.func (.func 122) #[] #[]] 126)).alloc (.cells #[.func (.func 125) #[] #[]] 208))) (k := q + 1 + 1) (by simp [← hq]) _ _) _
  have HB2 := Lib.hid hb2
  have hk : Row w1 (q + 1 + 1 + 1) 201 [Value.nilFunc, Value.nilFunc] := by rw [← hw1]; exact new_row (w := (((w.alloc (.cells #[.func (.func 122) #[] #[]] 126)).alloc (.cells #[.func (.func 125) #[] #[]] 208)).alloc (.cells #[.func (.func 147) #[] #[]] 230))) (k := q + 1 + 1 + 1) (by simp [← hq]) _ _
  have HK := Lib.hid hk
  have HF1 := Lib.hid hf1
  have HQ := Lib.hid hq
  clear hf1 hb0 hb1 hb2 hk
  unfold kindc fnc fnc2
  go_enter Tryz.func146, Tryz.ntmps146
  go_upto_region 1 with fail
  clear hw1 hq
  go_wp2_with (refine store_st kSz rfl (.tmp 6) (.tmp 9) rfl (q + 1 + 1 + 1) (by rfl) [.func (.func 171) #[] #[.pointer (some ⟨q, 0, none⟩), .pointer (some ⟨q + 1 + 1, 0, none⟩)], .func (.func 172) #[] #[.pointer (some ⟨q + 1, 0, none⟩), .pointer (some ⟨q + 1 + 1, 0, none⟩)]] (by rfl) _ _ HK.out rfl rfl (kind_one _ _ _ _) ?_)
  intro w5 hr5 hf5
  have HF5 : Hid (Fr (fun _ => False) w w5) := Lib.hid (HF1.out.trans hf5 (fun b hb h => by have h1 := HQ.out; omega))
  have d0 : w5.cell? ⟨q + 1 + 1 + 1, 0, none⟩ = some (.func (.func 171) #[] #[.pointer (some ⟨q, 0, none⟩), .pointer (some ⟨q + 1 + 1, 0, none⟩)]) := hr5.cell rfl
  have d1 : w5.cell? ⟨q + 1 + 1 + 1, 1, none⟩ = some (.func (.func 172) #[] #[.pointer (some ⟨q + 1, 0, none⟩), .pointer (some ⟨q + 1 + 1, 0, none⟩)]) := hr5.cell rfl
  clear hr5
  go_wp2_with fail
  exact bodyPost_ret (v := .agg #[.func (.func 171) #[] #[.pointer (some ⟨q, 0, none⟩), .pointer (some ⟨q + 1 + 1, 0, none⟩)], .func (.func 172) #[] #[.pointer (some ⟨q + 1, 0, none⟩), .pointer (some ⟨q + 1 + 1, 0, none⟩)]]) (by simp [results, Tryz.results146, go_sem, d0, d1]) rfl ⟨q, q + 1, q + 1 + 1, rfl, (hf5.cell (HB0.out.cell rfl) (fun h => by (try simp at h) <;> omega)), (hf5.cell (HB1.out.cell rfl) (fun h => by (try simp at h) <;> omega)), (hf5.cell (HB2.out.cell rfl) (fun h => by (try simp at h) <;> omega)), HF5.out⟩

set_option maxRecDepth 100000 in
set_option maxHeartbeats 800000 in
theorem vnumS_any (w : World) : Calls Tryz.prog 148 #[fnc 121, fnc 149, fnc 150] w fun e w' => ∃ a b d : Nat, e = .returned (kindc (fnc2 173 a d) (fnc2 174 b d)) ∧ w'.cell? ⟨a, 0, none⟩ = some (fnc 121) ∧ w'.cell? ⟨b, 0, none⟩ = some (fnc 149) ∧ w'.cell? ⟨d, 0, none⟩ = some (fnc 150) ∧ Fr (fun _ => False) w w' := by
  obtain ⟨q, hq⟩ : ∃ q, w.heap.size = q := ⟨_, rfl⟩
  obtain ⟨w1, hw1⟩ : ∃ w1, ((((w.alloc (.cells #[.func (.func 121) #[] #[]] 127)).alloc (.cells #[.func (.func 149) #[] #[]] 232)).alloc (.cells #[.func (.func 150) #[] #[]] 234)).alloc (.cells #[Value.nilFunc, Value.nilFunc] 201)) = w1 := ⟨_, rfl⟩
  have hf1 : Fr (fun _ => False) w w1 := by rw [← hw1]; exact (((((Fr.refl _ _).alloc _).alloc _).alloc _).alloc _)
  have hb0 : Row w1 (q) 127 [.func (.func 121) #[] #[]] := by rw [← hw1]; exact Row.alloc (Row.alloc (Row.alloc (new_row (w := w) (k := q) (by simp [← hq]) _ _) _) _) _
  have HB0 := Lib.hid hb0
  have hb1 : Row w1 (q + 1) 232 [.func (.func 149) #[] #[]] := by rw [← hw1]; exact Row.alloc (Row.alloc (new_row (w := (w.alloc (.cells #[.func (.func 121) #[] #[]] 127))) (k := q + 1) (by simp [← hq]) _ _) _) _
  have HB1 := Lib.hid hb1
  have hb2 : Row w1 (q + 1 + 1) 234 [.func (.func 150) #[] #[]] := by rw [← hw1]; exact Row.alloc (new_row (w := ((w.alloc (.cells #[.func (.func 121) #[] #[]] 127)).alloc (.cells #[.func (.func 149) #[] #[]] 232))) (k := q + 1 + 1) (by simp [← hq]) _ _) _
  have HB2 := Lib.hid hb2
  have hk : Row w1 (q + 1 + 1 + 1) 201 [Value.nilFunc, Value.nilFunc] := by rw [← hw1]; exact new_row (w := (((w.alloc (.cells #[.func (.func 121) #[] #[]] 127)).alloc (.cells #[.func (.func 149) #[] #[]] 232)).alloc (.cells #[.func (.func 150) #[] #[]] 234))) (k := q + 1 + 1 + 1) (by simp [← hq]) _ _
  have HK := Lib.hid hk
  have HF1 := Lib.hid hf1
  have HQ := Lib.hid hq
  clear hf1 hb0 hb1 hb2 hk
  unfold kindc fnc fnc2
  go_enter Tryz.func148, Tryz.ntmps148
  go_upto_region 1 with fail
  clear hw1 hq
  go_wp2_with (refine store_st kSz rfl (.tmp 6) (.tmp 9) rfl (q + 1 + 1 + 1) (by rfl) [.func (.func 173) #[] #[.pointer (some ⟨q, 0, none⟩), .pointer (some ⟨q + 1 + 1, 0, none⟩)], .func (.func 174) #[] #[.pointer (some ⟨q + 1, 0, none⟩), .pointer (some ⟨q + 1 + 1, 0, none⟩)]] (by rfl) _ _ HK.out rfl rfl (kind_one _ _ _ _) ?_)
  intro w5 hr5 hf5
  have HF5 : Hid (Fr (fun _ => False) w w5) := Lib.hid (HF1.out.trans hf5 (fun b hb h => by have h1 := HQ.out; omega))
  have d0 : w5.cell? ⟨q + 1 + 1 + 1, 0, none⟩ = some (.func (.func 173) #[] #[.pointer (some ⟨q, 0, none⟩), .pointer (some ⟨q + 1 + 1, 0, none⟩)]) := hr5.cell rfl
  have d1 : w5.cell? ⟨q + 1 + 1 + 1, 1, none⟩ = some (.func (.func 174) #[] #[.pointer (some ⟨q + 1, 0, none⟩), .pointer (some ⟨q + 1 + 1, 0, none⟩)]) := hr5.cell rfl
  clear hr5
  go_wp2_with fail
  exact bodyPost_ret (v := .agg #[.func (.func 173) #[] #[.pointer (some ⟨q, 0, none⟩), .pointer (some ⟨q + 1 + 1, 0, none⟩)], .func (.func 174) #[] #[.pointer (some ⟨q + 1, 0, none⟩), .pointer (some ⟨q + 1 + 1, 0, none⟩)]]) (by simp [results, Tryz.results148, go_sem, d0, d1]) rfl ⟨q, q + 1, q + 1 + 1, rfl, (hf5.cell (HB0.out.cell rfl) (fun h => by (try simp at h) <;> omega)), (hf5.cell (HB1.out.cell rfl) (fun h => by (try simp at h) <;> omega)), (hf5.cell (HB2.out.cell rfl) (fun h => by (try simp at h) <;> omega)), HF5.out⟩

set_option maxRecDepth 100000 in
set_option maxHeartbeats 800000 in
theorem vtextT_any (w : World) : Calls Tryz.prog 151 #[fnc 152] w fun e w' => ∃ a : Nat, e = .returned (kindc (fnc 176) (fnc1 177 a)) ∧ w'.cell? ⟨a, 0, none⟩ = some (fnc 152) ∧ Fr (fun _ => False) w w' := by
  obtain ⟨q, hq⟩ : ∃ q, w.heap.size = q := ⟨_, rfl⟩
  obtain ⟨w1, hw1⟩ : ∃ w1, ((w.alloc (.cells #[.func (.func 152) #[] #[]] 156)).alloc (.cells #[Value.nilFunc, Value.nilFunc] 201)) = w1 := ⟨_, rfl⟩
  have hf1 : Fr (fun _ => False) w w1 := by rw [← hw1]; exact (((Fr.refl _ _).alloc _).alloc _)
  have hb0 : Row w1 (q) 156 [.func (.func 152) #[] #[]] := by rw [← hw1]; exact Row.alloc (new_row (w := w) (k := q) (by simp [← hq]) _ _) _
  have HB0 := Lib.hid hb0
  have hk : Row w1 (q + 1) 201 [Value.nilFunc, Value.nilFunc] := by rw [← hw1]; exact new_row (w := (w.alloc (.cells #[.func (.func 152) #[] #[]] 156))) (k := q + 1) (by simp [← hq]) _ _
  have HK := Lib.hid hk
  have HF1 := Lib.hid hf1
  have HQ := Lib.hid hq
  clear hf1 hb0 hk
  unfold kindc fnc fnc1
  go_enter Tryz.func151, Tryz.ntmps151
  go_upto_region 1 with fail
  clear hw1 hq
  go_wp2_with (refine store_st kSz rfl (.tmp 2) (.tmp 4) rfl (q + 1) (by rfl) [.func (.func 176) #[] #[], .func (.func 177) #[] #[.pointer (some ⟨q, 0, none⟩)]] (by rfl) _ _ HK.out rfl rfl (kind_one _ _ _ _) ?_)
  intro w5 hr5 hf5
  have HF5 : Hid (Fr (fun _ => False) w w5) := Lib.hid (HF1.out.trans hf5 (fun b hb h => by have h1 := HQ.out; omega))
  have d0 : w5.cell? ⟨q + 1, 0, none⟩ = some (.func (.func 176) #[] #[]) := hr5.cell rfl
  have d1 : w5.cell? ⟨q + 1, 1, none⟩ = some (.func (.func 177) #[] #[.pointer (some ⟨q, 0, none⟩)]) := hr5.cell rfl
  clear hr5
  go_wp2_with fail
  exact bodyPost_ret (v := .agg #[.func (.func 176) #[] #[], .func (.func 177) #[] #[.pointer (some ⟨q, 0, none⟩)]]) (by simp [results, Tryz.results151, go_sem, d0, d1]) rfl ⟨q, rfl, (hf5.cell (HB0.out.cell rfl) (fun h => by (try simp at h) <;> omega)), HF5.out⟩

set_option maxRecDepth 100000 in
set_option maxHeartbeats 800000 in
theorem vtextB_any (w : World) : Calls Tryz.prog 151 #[fnc 153] w fun e w' => ∃ a : Nat, e = .returned (kindc (fnc 176) (fnc1 177 a)) ∧ w'.cell? ⟨a, 0, none⟩ = some (fnc 153) ∧ Fr (fun _ => False) w w' := by
  obtain ⟨q, hq⟩ : ∃ q, w.heap.size = q := ⟨_, rfl⟩
  obtain ⟨w1, hw1⟩ : ∃ w1, ((w.alloc (.cells #[.func (.func 153) #[] #[]] 156)).alloc (.cells #[Value.nilFunc, Value.nilFunc] 201)) = w1 := ⟨_, rfl⟩
  have hf1 : Fr (fun _ => False) w w1 := by rw [← hw1]; exact (((Fr.refl _ _).alloc _).alloc _)
  have hb0 : Row w1 (q) 156 [.func (.func 153) #[] #[]] := by rw [← hw1]; exact Row.alloc (new_row (w := w) (k := q) (by simp [← hq]) _ _) _
  have HB0 := Lib.hid hb0
  have hk : Row w1 (q + 1) 201 [Value.nilFunc, Value.nilFunc] := by rw [← hw1]; exact new_row (w := (w.alloc (.cells #[.func (.func 153) #[] #[]] 156))) (k := q + 1) (by simp [← hq]) _ _
  have HK := Lib.hid hk
  have HF1 := Lib.hid hf1
  have HQ := Lib.hid hq
  clear hf1 hb0 hk
  unfold kindc fnc fnc1
  go_enter Tryz.func151, Tryz.ntmps151
  go_upto_region 1 with fail
  clear hw1 hq
  go_wp2_with (refine store_st kSz rfl (.tmp 2) (.tmp 4) rfl (q + 1) (by rfl) [.func (.func 176) #[] #[], .func (.func 177) #[] #[.pointer (some ⟨q, 0, none⟩)]] (by rfl) _ _ HK.out rfl rfl (kind_one _ _ _ _) ?_)
  intro w5 hr5 hf5
  have HF5 : Hid (Fr (fun _ => False) w w5) := Lib.hid (HF1.out.trans hf5 (fun b hb h => by have h1 := HQ.out; omega))
  have d0 : w5.cell? ⟨q + 1, 0, none⟩ = some (.func (.func 176) #[] #[]) := hr5.cell rfl
  have d1 : w5.cell? ⟨q + 1, 1, none⟩ = some (.func (.func 177) #[] #[.pointer (some ⟨q, 0, none⟩)]) := hr5.cell rfl
  clear hr5
  go_wp2_with fail
  exact bodyPost_ret (v := .agg #[.func (.func 176) #[] #[], .func (.func 177) #[] #[.pointer (some ⟨q, 0, none⟩)]]) (by simp [results, Tryz.results151, go_sem, d0, d1]) rfl ⟨q, rfl, (hf5.cell (HB0.out.cell rfl) (fun h => by (try simp at h) <;> omega)), HF5.out⟩
end Go.Proofs.YtedmnkcoflbciaaGreat
namespace Go.Proofs.YtedmnkcoflbciaaGreat
open Go.RowKit Mem Go.Lib VaM LebM UtfM
attribute [local go_sem ↓] Go.wp_at_zero Go.wp_at_succ
set_option linter.unusedVariables false


set_option maxRecDepth 100000 in
set_option maxHeartbeats 1600000 in
theorem kindO0_any (k : Int) (w : World) (h : cl k = 0) : Calls Tryz.prog 118 #[.int .i64 k] w fun e w' =>  e = .returned (.tuple #[kindc (fnc 169) (fnc 170), .bool true]) ∧  Fr (fun _ => False) w w' := by
  obtain ⟨g, hg⟩ : ∃ g, w.heap.size = g := ⟨_, rfl⟩
  obtain ⟨w1, hw1⟩ : ∃ w1, w.alloc (.cells #[Value.nilFunc, Value.nilFunc] 201) = w1 := ⟨_, rfl⟩
  have hf1 : Fr (fun _ => False) w w1 := by rw [← hw1]; exact (Fr.refl _ _).alloc _
  have hk1 : Row w1 g 201 [Value.nilFunc, Value.nilFunc] := by rw [← hw1]; exact new_row hg.symm _ _
  have hcall := vbare_any w1
  have HCALL := Lib.hid hcall
  have HF1 := Lib.hid hf1
  have HK1 := Lib.hid hk1
  have HG := Lib.hid hg
  clear hf1 hk1 hcall
  simp only [fnc] at HCALL
  unfold kindc fnc
  rcases cl0 h with rfl | rfl | rfl
  all_goals
    go_enter Tryz.func118, Tryz.ntmps118
    go_wp2_with fail
    clear hw1 hg
    refine HCALL.out.mono ?_
    rintro e w2 ⟨rfl,  hf2⟩
    unfold kindc
    have HK2 := Lib.hid (HK1.out.fr hf2 (fun h => h))
    have HF2 := Lib.hid (HF1.out.trans hf2 (fun _ _ h => h))
    
    clear hf2
    go_wp2_with (refine store_st kSz rfl (.tmp 2) (.tmp 10) rfl g (by rfl) [.func (.func 169) #[] #[], .func (.func 170) #[] #[]] (by rfl) _ _ HK2.out rfl rfl (kind_one _ _ _ _) ?_)
    intro w5 hr5 hf5
    have HF5 : Hid (Fr (fun _ => False) w w5) := Lib.hid (HF2.out.trans hf5 (fun b hb h => by have h1 := HG.out; omega))
    have d0 : w5.cell? ⟨g, 0, none⟩ = some (.func (.func 169) #[] #[]) := hr5.cell rfl
    have d1 : w5.cell? ⟨g, 1, none⟩ = some (.func (.func 170) #[] #[]) := hr5.cell rfl
    
    clear hr5 hf5
    go_wp2_with fail
    exact bodyPost_ret (v := .tuple #[.agg #[.func (.func 169) #[] #[], .func (.func 170) #[] #[]], .bool true]) (by simp [results, Tryz.results118, go_sem, d0, d1]) rfl ⟨rfl,  HF5.out⟩

set_option maxRecDepth 100000 in
set_option maxHeartbeats 1600000 in
theorem kindO1_any (k : Int) (w : World) (h : cl k = 1) : Calls Tryz.prog 118 #[.int .i64 k] w fun e w' => ∃ a b d : Nat, e = .returned (.tuple #[kindc (fnc2 171 a d) (fnc2 172 b d), .bool true]) ∧ w'.cell? ⟨a, 0, none⟩ = some (fnc 122) ∧ w'.cell? ⟨b, 0, none⟩ = some (fnc 125) ∧ w'.cell? ⟨d, 0, none⟩ = some (fnc 147) ∧ Fr (fun _ => False) w w' := by
  obtain ⟨g, hg⟩ : ∃ g, w.heap.size = g := ⟨_, rfl⟩
  obtain ⟨w1, hw1⟩ : ∃ w1, w.alloc (.cells #[Value.nilFunc, Value.nilFunc] 201) = w1 := ⟨_, rfl⟩
  have hf1 : Fr (fun _ => False) w w1 := by rw [← hw1]; exact (Fr.refl _ _).alloc _
  have hk1 : Row w1 g 201 [Value.nilFunc, Value.nilFunc] := by rw [← hw1]; exact new_row hg.symm _ _
  have hcall := vnumU_any w1
  have HCALL := Lib.hid hcall
  have HF1 := Lib.hid hf1
  have HK1 := Lib.hid hk1
  have HG := Lib.hid hg
  clear hf1 hk1 hcall
  simp only [fnc] at HCALL
  unfold kindc fnc fnc2
  obtain rfl := cl1 h
  all_goals
    go_enter Tryz.func118, Tryz.ntmps118
    go_wp2_with fail
    clear hw1 hg
    refine HCALL.out.mono ?_
    rintro e w2 ⟨a, b, d, rfl, ha2, hb2, hd2, hf2⟩
    unfold kindc fnc2
    have HK2 := Lib.hid (HK1.out.fr hf2 (fun h => h))
    have HF2 := Lib.hid (HF1.out.trans hf2 (fun _ _ h => h))
    have Ha2 := Lib.hid (And.intro (show ¬ (a = g) from fun h => by rw [h, HK2.out.cell (i := 0) rfl] at ha2; cases ha2) ha2)
    have Hb2 := Lib.hid (And.intro (show ¬ (b = g) from fun h => by rw [h, HK2.out.cell (i := 0) rfl] at hb2; cases hb2) hb2)
    have Hd2 := Lib.hid (And.intro (show ¬ (d = g) from fun h => by rw [h, HK2.out.cell (i := 0) rfl] at hd2; cases hd2) hd2)
    clear ha2 hb2 hd2
    clear hf2
    go_wp2_with (refine store_st kSz rfl (.tmp 2) (.tmp 13) rfl g (by rfl) [.func (.func 171) #[] #[.pointer (some ⟨a, 0, none⟩), .pointer (some ⟨d, 0, none⟩)], .func (.func 172) #[] #[.pointer (some ⟨b, 0, none⟩), .pointer (some ⟨d, 0, none⟩)]] (by rfl) _ _ HK2.out rfl rfl (kind_one _ _ _ _) ?_)
    intro w5 hr5 hf5
    have HF5 : Hid (Fr (fun _ => False) w w5) := Lib.hid (HF2.out.trans hf5 (fun b hb h => by have h1 := HG.out; omega))
    have d0 : w5.cell? ⟨g, 0, none⟩ = some (.func (.func 171) #[] #[.pointer (some ⟨a, 0, none⟩), .pointer (some ⟨d, 0, none⟩)]) := hr5.cell rfl
    have d1 : w5.cell? ⟨g, 1, none⟩ = some (.func (.func 172) #[] #[.pointer (some ⟨b, 0, none⟩), .pointer (some ⟨d, 0, none⟩)]) := hr5.cell rfl
    have ha3 := hf5.cell (Ha2.out).2 (Ha2.out).1
    have hb3 := hf5.cell (Hb2.out).2 (Hb2.out).1
    have hd3 := hf5.cell (Hd2.out).2 (Hd2.out).1
    have Ha3 := Lib.hid ha3
    have Hb3 := Lib.hid hb3
    have Hd3 := Lib.hid hd3
    clear ha3 hb3 hd3
    clear hr5 hf5
    go_wp2_with fail
    exact bodyPost_ret (v := .tuple #[.agg #[.func (.func 171) #[] #[.pointer (some ⟨a, 0, none⟩), .pointer (some ⟨d, 0, none⟩)], .func (.func 172) #[] #[.pointer (some ⟨b, 0, none⟩), .pointer (some ⟨d, 0, none⟩)]], .bool true]) (by simp [results, Tryz.results118, go_sem, d0, d1]) rfl ⟨a, b, d, rfl, Ha3.out, Hb3.out, Hd3.out, HF5.out⟩

set_option maxRecDepth 100000 in
set_option maxHeartbeats 1600000 in
theorem kindO2_any (k : Int) (w : World) (h : cl k = 2) : Calls Tryz.prog 118 #[.int .i64 k] w fun e w' => ∃ a b d : Nat, e = .returned (.tuple #[kindc (fnc2 173 a d) (fnc2 174 b d), .bool true]) ∧ w'.cell? ⟨a, 0, none⟩ = some (fnc 121) ∧ w'.cell? ⟨b, 0, none⟩ = some (fnc 149) ∧ w'.cell? ⟨d, 0, none⟩ = some (fnc 150) ∧ Fr (fun _ => False) w w' := by
  obtain ⟨g, hg⟩ : ∃ g, w.heap.size = g := ⟨_, rfl⟩
  obtain ⟨w1, hw1⟩ : ∃ w1, w.alloc (.cells #[Value.nilFunc, Value.nilFunc] 201) = w1 := ⟨_, rfl⟩
  have hf1 : Fr (fun _ => False) w w1 := by rw [← hw1]; exact (Fr.refl _ _).alloc _
  have hk1 : Row w1 g 201 [Value.nilFunc, Value.nilFunc] := by rw [← hw1]; exact new_row hg.symm _ _
  have hcall := vnumS_any w1
  have HCALL := Lib.hid hcall
  have HF1 := Lib.hid hf1
  have HK1 := Lib.hid hk1
  have HG := Lib.hid hg
  clear hf1 hk1 hcall
  simp only [fnc] at HCALL
  unfold kindc fnc fnc2
  rcases cl2 h with rfl | rfl | rfl
  all_goals
    go_enter Tryz.func118, Tryz.ntmps118
    go_wp2_with fail
    clear hw1 hg
    refine HCALL.out.mono ?_
    rintro e w2 ⟨a, b, d, rfl, ha2, hb2, hd2, hf2⟩
    unfold kindc fnc2
    have HK2 := Lib.hid (HK1.out.fr hf2 (fun h => h))
    have HF2 := Lib.hid (HF1.out.trans hf2 (fun _ _ h => h))
    have Ha2 := Lib.hid (And.intro (show ¬ (a = g) from fun h => by rw [h, HK2.out.cell (i := 0) rfl] at ha2; cases ha2) ha2)
    have Hb2 := Lib.hid (And.intro (show ¬ (b = g) from fun h => by rw [h, HK2.out.cell (i := 0) rfl] at hb2; cases hb2) hb2)
    have Hd2 := Lib.hid (And.intro (show ¬ (d = g) from fun h => by rw [h, HK2.out.cell (i := 0) rfl] at hd2; cases hd2) hd2)
    clear ha2 hb2 hd2
    clear hf2
    go_wp2_with (refine store_st kSz rfl (.tmp 2) (.tmp 18) rfl g (by rfl) [.func (.func 173) #[] #[.pointer (some ⟨a, 0, none⟩), .pointer (some ⟨d, 0, none⟩)], .func (.func 174) #[] #[.pointer (some ⟨b, 0, none⟩), .pointer (some ⟨d, 0, none⟩)]] (by rfl) _ _ HK2.out rfl rfl (kind_one _ _ _ _) ?_)
    intro w5 hr5 hf5
    have HF5 : Hid (Fr (fun _ => False) w w5) := Lib.hid (HF2.out.trans hf5 (fun b hb h => by have h1 := HG.out; omega))
    have d0 : w5.cell? ⟨g, 0, none⟩ = some (.func (.func 173) #[] #[.pointer (some ⟨a, 0, none⟩), .pointer (some ⟨d, 0, none⟩)]) := hr5.cell rfl
    have d1 : w5.cell? ⟨g, 1, none⟩ = some (.func (.func 174) #[] #[.pointer (some ⟨b, 0, none⟩), .pointer (some ⟨d, 0, none⟩)]) := hr5.cell rfl
    have ha3 := hf5.cell (Ha2.out).2 (Ha2.out).1
    have hb3 := hf5.cell (Hb2.out).2 (Hb2.out).1
    have hd3 := hf5.cell (Hd2.out).2 (Hd2.out).1
    have Ha3 := Lib.hid ha3
    have Hb3 := Lib.hid hb3
    have Hd3 := Lib.hid hd3
    clear ha3 hb3 hd3
    clear hr5 hf5
    go_wp2_with fail
    exact bodyPost_ret (v := .tuple #[.agg #[.func (.func 173) #[] #[.pointer (some ⟨a, 0, none⟩), .pointer (some ⟨d, 0, none⟩)], .func (.func 174) #[] #[.pointer (some ⟨b, 0, none⟩), .pointer (some ⟨d, 0, none⟩)]], .bool true]) (by simp [results, Tryz.results118, go_sem, d0, d1]) rfl ⟨a, b, d, rfl, Ha3.out, Hb3.out, Hd3.out, HF5.out⟩

set_option maxRecDepth 100000 in
set_option maxHeartbeats 1600000 in
theorem kindO3_any (k : Int) (w : World) (h : cl k = 3) : Calls Tryz.prog 118 #[.int .i64 k] w fun e w' => ∃ a : Nat, e = .returned (.tuple #[kindc (fnc 176) (fnc1 177 a), .bool true]) ∧ w'.cell? ⟨a, 0, none⟩ = some (fnc 152) ∧ Fr (fun _ => False) w w' := by
  obtain ⟨g, hg⟩ : ∃ g, w.heap.size = g := ⟨_, rfl⟩
  obtain ⟨w1, hw1⟩ : ∃ w1, w.alloc (.cells #[Value.nilFunc, Value.nilFunc] 201) = w1 := ⟨_, rfl⟩
  have hf1 : Fr (fun _ => False) w w1 := by rw [← hw1]; exact (Fr.refl _ _).alloc _
  have hk1 : Row w1 g 201 [Value.nilFunc, Value.nilFunc] := by rw [← hw1]; exact new_row hg.symm _ _
  have hcall := vtextT_any w1
  have HCALL := Lib.hid hcall
  have HF1 := Lib.hid hf1
  have HK1 := Lib.hid hk1
  have HG := Lib.hid hg
  clear hf1 hk1 hcall
  simp only [fnc] at HCALL
  unfold kindc fnc fnc1
  obtain rfl := cl3 h
  all_goals
    go_enter Tryz.func118, Tryz.ntmps118
    go_wp2_with fail
    clear hw1 hg
    refine HCALL.out.mono ?_
    rintro e w2 ⟨a, rfl, ha2, hf2⟩
    unfold kindc fnc1
    have HK2 := Lib.hid (HK1.out.fr hf2 (fun h => h))
    have HF2 := Lib.hid (HF1.out.trans hf2 (fun _ _ h => h))
    have Ha2 := Lib.hid (And.intro (show ¬ (a = g) from fun h => by rw [h, HK2.out.cell (i := 0) rfl] at ha2; cases ha2) ha2)
    clear ha2
    clear hf2
    go_wp2_with (refine store_st kSz rfl (.tmp 2) (.tmp 21) rfl g (by rfl) [.func (.func 176) #[] #[], .func (.func 177) #[] #[.pointer (some ⟨a, 0, none⟩)]] (by rfl) _ _ HK2.out rfl rfl (kind_one _ _ _ _) ?_)
    intro w5 hr5 hf5
    have HF5 : Hid (Fr (fun _ => False) w w5) := Lib.hid (HF2.out.trans hf5 (fun b hb h => by have h1 := HG.out; omega))
    have d0 : w5.cell? ⟨g, 0, none⟩ = some (.func (.func 176) #[] #[]) := hr5.cell rfl
    have d1 : w5.cell? ⟨g, 1, none⟩ = some (.func (.func 177) #[] #[.pointer (some ⟨a, 0, none⟩)]) := hr5.cell rfl
    have ha3 := hf5.cell (Ha2.out).2 (Ha2.out).1
    have Ha3 := Lib.hid ha3
    clear ha3
    clear hr5 hf5
    go_wp2_with fail
    exact bodyPost_ret (v := .tuple #[.agg #[.func (.func 176) #[] #[], .func (.func 177) #[] #[.pointer (some ⟨a, 0, none⟩)]], .bool true]) (by simp [results, Tryz.results118, go_sem, d0, d1]) rfl ⟨a, rfl, Ha3.out, HF5.out⟩

set_option maxRecDepth 100000 in
set_option maxHeartbeats 1600000 in
theorem kindO4_any (k : Int) (w : World) (h : cl k = 4) : Calls Tryz.prog 118 #[.int .i64 k] w fun e w' => ∃ a : Nat, e = .returned (.tuple #[kindc (fnc 176) (fnc1 177 a), .bool true]) ∧ w'.cell? ⟨a, 0, none⟩ = some (fnc 153) ∧ Fr (fun _ => False) w w' := by
  obtain ⟨g, hg⟩ : ∃ g, w.heap.size = g := ⟨_, rfl⟩
  obtain ⟨w1, hw1⟩ : ∃ w1, w.alloc (.cells #[Value.nilFunc, Value.nilFunc] 201) = w1 := ⟨_, rfl⟩
  have hf1 : Fr (fun _ => False) w w1 := by rw [← hw1]; exact (Fr.refl _ _).alloc _
  have hk1 : Row w1 g 201 [Value.nilFunc, Value.nilFunc] := by rw [← hw1]; exact new_row hg.symm _ _
  have hcall := vtextB_any w1
  have HCALL := Lib.hid hcall
  have HF1 := Lib.hid hf1
  have HK1 := Lib.hid hk1
  have HG := Lib.hid hg
  clear hf1 hk1 hcall
  simp only [fnc] at HCALL
  unfold kindc fnc fnc1
  obtain rfl := cl4 h
  all_goals
    go_enter Tryz.func118, Tryz.ntmps118
    go_wp2_with fail
    clear hw1 hg
    refine HCALL.out.mono ?_
    rintro e w2 ⟨a, rfl, ha2, hf2⟩
    unfold kindc fnc1
    have HK2 := Lib.hid (HK1.out.fr hf2 (fun h => h))
    have HF2 := Lib.hid (HF1.out.trans hf2 (fun _ _ h => h))
    have Ha2 := Lib.hid (And.intro (show ¬ (a = g) from fun h => by rw [h, HK2.out.cell (i := 0) rfl] at ha2; cases ha2) ha2)
    clear ha2
    clear hf2
    go_wp2_with (refine store_st kSz rfl (.tmp 2) (.tmp 24) rfl g (by rfl) [.func (.func 176) #[] #[], .func (.func 177) #[] #[.pointer (some ⟨a, 0, none⟩)]] (by rfl) _ _ HK2.out rfl rfl (kind_one _ _ _ _) ?_)
    intro w5 hr5 hf5
    have HF5 : Hid (Fr (fun _ => False) w w5) := Lib.hid (HF2.out.trans hf5 (fun b hb h => by have h1 := HG.out; omega))
    have d0 : w5.cell? ⟨g, 0, none⟩ = some (.func (.func 176) #[] #[]) := hr5.cell rfl
    have d1 : w5.cell? ⟨g, 1, none⟩ = some (.func (.func 177) #[] #[.pointer (some ⟨a, 0, none⟩)]) := hr5.cell rfl
    have ha3 := hf5.cell (Ha2.out).2 (Ha2.out).1
    have Ha3 := Lib.hid ha3
    clear ha3
    clear hr5 hf5
    go_wp2_with fail
    exact bodyPost_ret (v := .tuple #[.agg #[.func (.func 176) #[] #[], .func (.func 177) #[] #[.pointer (some ⟨a, 0, none⟩)]], .bool true]) (by simp [results, Tryz.results118, go_sem, d0, d1]) rfl ⟨a, rfl, Ha3.out, HF5.out⟩

set_option maxRecDepth 100000 in
set_option maxHeartbeats 1600000 in
theorem kindO5_any (k : Int) (w : World) (h : cl k = 5) : Calls Tryz.prog 118 #[.int .i64 k] w fun e w' => e = .returned (.tuple #[kindc Value.nilFunc Value.nilFunc, .bool false]) ∧ Fr (fun _ => False) w w' := by
  have h5 := cl5 h
  obtain ⟨g, hg⟩ : ∃ g, w.heap.size = g := ⟨_, rfl⟩
  obtain ⟨w1, hw1⟩ : ∃ w1, w.alloc (.cells #[Value.nilFunc, Value.nilFunc] 201) = w1 := ⟨_, rfl⟩
  have hf1 : Fr (fun _ => False) w w1 := by rw [← hw1]; exact (Fr.refl _ _).alloc _
  have hk1 : Row w1 g 201 [Value.nilFunc, Value.nilFunc] := by rw [← hw1]; exact new_row hg.symm _ _
  have HF1 := Lib.hid hf1
  have HK1 := Lib.hid hk1
  have HG := Lib.hid hg
  have t0 : (k == 0) = false := by simp; omega
  have t1 : (k == 1) = false := by simp; omega
  have t2 : (k == 2) = false := by simp; omega
  have t3 : (k == 3) = false := by simp; omega
  have t4 : (k == 4) = false := by simp; omega
  have t5 : (k == 5) = false := by simp; omega
  have t6 : (k == 6) = false := by simp; omega
  have t7 : (k == 7) = false := by simp; omega
  have t8 : (k == 8) = false := by simp; omega
  unfold kindc
  clear hf1 hk1 h h5
  go_enter Tryz.func118, Tryz.ntmps118
  go_wp2_with (refine store_st kSz rfl (.tmp 2) (.tmp 5) rfl g (by rfl) [Value.nilFunc, Value.nilFunc] (by rfl) _ _ HK1.out rfl rfl (by simp [Value.oneCell']) ?_)
  intro w5 hr5 hf5
  have HF5 : Hid (Fr (fun _ => False) w w5) := Lib.hid (HF1.out.trans hf5 (fun b hb h => by have h1 := HG.out; omega))
  have d0 : w5.cell? ⟨g, 0, none⟩ = some Value.nilFunc := hr5.cell rfl
  have d1 : w5.cell? ⟨g, 1, none⟩ = some Value.nilFunc := hr5.cell rfl
  clear hr5 hf5
  go_wp2_with fail
  exact bodyPost_ret (v := .tuple #[.agg #[Value.nilFunc, Value.nilFunc], .bool false]) (by simp [results, Tryz.results118, go_sem, d0, d1]) rfl ⟨rfl, HF5.out⟩
end Go.Proofs.YtedmnkcoflbciaaGreat
