/-
  Layer 14, the program: bare, number, text (written by gen_kind.py).
-/
import Derived.Test.YtomhljpnpphbcaaVaC
namespace Go.Proofs.Ytomhljpnpphbcaa
open Go.RowKit Mem Go.Lib VaM LebM UtfM
attribute [local go_sem ↓] Go.wp_at_zero Go.wp_at_succ
set_option linter.unusedVariables false

/-- how values are told -/
def kindc (p g : Value) : Value := .agg #[p, g]
def fnc1 (F : FuncId) (a : Nat) : Value := .func (.func F) #[] #[.pointer (some ⟨a, 0, none⟩)]
def fnc2 (F : FuncId) (a b : Nat) : Value := .func (.func F) #[] #[.pointer (some ⟨a, 0, none⟩), .pointer (some ⟨b, 0, none⟩)]
theorem new_row {w : World} {k : Nat} (hk : k = w.heap.size) (t : TypeId) (L : List Value) : Row (w.alloc (.cells L.toArray t)) k t L := by subst hk; exact Row.new w _ _
theorem kind_one (F G : FuncId) (l m : Array Value) : ([Value.func (.func F) #[] l, .func (.func G) #[] m] : List Value).toArray.all (·.oneCell') = true := by simp [Value.oneCell']

set_option maxRecDepth 100000 in
set_option maxHeartbeats 800000 in
theorem vbare_any (w : World) : Calls Try.prog 22 #[] w fun e w' =>  e = .returned (kindc (fnc 36) (fnc 37)) ∧  Fr (fun _ => False) w w' := by
  obtain ⟨q, hq⟩ : ∃ q, w.heap.size = q := ⟨_, rfl⟩
  obtain ⟨w1, hw1⟩ : ∃ w1, (w.alloc (.cells #[Value.nilFunc, Value.nilFunc] 42)) = w1 := ⟨_, rfl⟩
  have hf1 : Fr (fun _ => False) w w1 := by rw [← hw1]; exact ((Fr.refl _ _).alloc _)
  have hk : Row w1 (q) 42 [Value.nilFunc, Value.nilFunc] := by rw [← hw1]; exact new_row (w := w) (k := q) (by simp [← hq]) _ _
  have HK := Lib.hid hk
  have HF1 := Lib.hid hf1
  have HQ := Lib.hid hq
  clear hf1 hk
  unfold kindc fnc
  go_enter Try.func22, Try.ntmps22
  go_upto_region 1 with fail
  clear hw1 hq
  go_wp2_with (refine store_st kSz rfl (.tmp 0) (.tmp 1) rfl (q) (by rfl) [.func (.func 36) #[] #[], .func (.func 37) #[] #[]] (by rfl) _ _ HK.out rfl rfl (kind_one _ _ _ _) ?_)
  intro w5 hr5 hf5
  have HF5 : Hid (Fr (fun _ => False) w w5) := Lib.hid (HF1.out.trans hf5 (fun b hb h => by have h1 := HQ.out; omega))
  have d0 : w5.cell? ⟨q, 0, none⟩ = some (.func (.func 36) #[] #[]) := hr5.cell rfl
  have d1 : w5.cell? ⟨q, 1, none⟩ = some (.func (.func 37) #[] #[]) := hr5.cell rfl
  clear hr5
  go_wp2_with fail
  exact bodyPost_ret (v := .agg #[.func (.func 36) #[] #[], .func (.func 37) #[] #[]]) (by simp [results, Try.results22, go_sem, d0, d1]) rfl ⟨rfl,  HF5.out⟩

set_option maxRecDepth 100000 in
set_option maxHeartbeats 800000 in
theorem vnumU_any (w : World) : Calls Try.prog 23 #[fnc 24, fnc 25, fnc 26] w fun e w' => ∃ a b d : Nat, e = .returned (kindc (fnc2 38 a d) (fnc2 39 b d)) ∧ w'.cell? ⟨a, 0, none⟩ = some (fnc 24) ∧ w'.cell? ⟨b, 0, none⟩ = some (fnc 25) ∧ w'.cell? ⟨d, 0, none⟩ = some (fnc 26) ∧ Fr (fun _ => False) w w' := by
  obtain ⟨q, hq⟩ : ∃ q, w.heap.size = q := ⟨_, rfl⟩
  obtain ⟨w1, hw1⟩ : ∃ w1, ((((w.alloc (.cells #[.func (.func 24) #[] #[]] 45)).alloc (.cells #[.func (.func 25) #[] #[]] 52)).alloc (.cells #[.func (.func 26) #[] #[]] 55)).alloc (.cells #[Value.nilFunc, Value.nilFunc] 42)) = w1 := ⟨_, rfl⟩
  have hf1 : Fr (fun _ => False) w w1 := by rw [← hw1]; exact (((((Fr.refl _ _).alloc _).alloc _).alloc _).alloc _)
  have hb0 : Row w1 (q) 45 [.func (.func 24) #[] #[]] := by rw [← hw1]; exact Row.alloc (Row.alloc (Row.alloc (new_row (w := w) (k := q) (by simp [← hq]) _ _) _) _) _
  have HB0 := Lib.hid hb0
  have hb1 : Row w1 (q + 1) 52 [.func (.func 25) #[] #[]] := by rw [← hw1]; exact Row.alloc (Row.alloc (new_row (w := (w.alloc (.cells #[.func (.func 24) #[] #[]] 45))) (k := q + 1) (by simp [← hq]) _ _) _) _
  have HB1 := Lib.hid hb1
  have hb2 : Row w1 (q + 1 + 1) 55 [.func (.func 26) #[] #[]] := by rw [← hw1]; exact Row.alloc (new_row (w := ((w.alloc (.cells #[.func (.func 24) #[] #[]] 45)).alloc (.cells #[.func (.func 25) #[] #[]] 52))) (k := q + 1 + 1) (by simp [← hq]) _ _) _
  have HB2 := Lib.hid hb2
  have hk : Row w1 (q + 1 + 1 + 1) 42 [Value.nilFunc, Value.nilFunc] := by rw [← hw1]; exact new_row (w := (((w.alloc (.cells #[.func (.func 24) #[] #[]] 45)).alloc (.cells #[.func (.func 25) #[] #[]] 52)).alloc (.cells #[.func (.func 26) #[] #[]] 55))) (k := q + 1 + 1 + 1) (by simp [← hq]) _ _
  have HK := Lib.hid hk
  have HF1 := Lib.hid hf1
  have HQ := Lib.hid hq
  clear hf1 hb0 hb1 hb2 hk
  unfold kindc fnc fnc2
  go_enter Try.func23, Try.ntmps23
  go_upto_region 1 with fail
  clear hw1 hq
  go_wp2_with (refine store_st kSz rfl (.tmp 6) (.tmp 9) rfl (q + 1 + 1 + 1) (by rfl) [.func (.func 38) #[] #[.pointer (some ⟨q, 0, none⟩), .pointer (some ⟨q + 1 + 1, 0, none⟩)], .func (.func 39) #[] #[.pointer (some ⟨q + 1, 0, none⟩), .pointer (some ⟨q + 1 + 1, 0, none⟩)]] (by rfl) _ _ HK.out rfl rfl (kind_one _ _ _ _) ?_)
  intro w5 hr5 hf5
  have HF5 : Hid (Fr (fun _ => False) w w5) := Lib.hid (HF1.out.trans hf5 (fun b hb h => by have h1 := HQ.out; omega))
  have d0 : w5.cell? ⟨q + 1 + 1 + 1, 0, none⟩ = some (.func (.func 38) #[] #[.pointer (some ⟨q, 0, none⟩), .pointer (some ⟨q + 1 + 1, 0, none⟩)]) := hr5.cell rfl
  have d1 : w5.cell? ⟨q + 1 + 1 + 1, 1, none⟩ = some (.func (.func 39) #[] #[.pointer (some ⟨q + 1, 0, none⟩), .pointer (some ⟨q + 1 + 1, 0, none⟩)]) := hr5.cell rfl
  clear hr5
  go_wp2_with fail
  exact bodyPost_ret (v := .agg #[.func (.func 38) #[] #[.pointer (some ⟨q, 0, none⟩), .pointer (some ⟨q + 1 + 1, 0, none⟩)], .func (.func 39) #[] #[.pointer (some ⟨q + 1, 0, none⟩), .pointer (some ⟨q + 1 + 1, 0, none⟩)]]) (by simp [results, Try.results23, go_sem, d0, d1]) rfl ⟨q, q + 1, q + 1 + 1, rfl, (hf5.cell (HB0.out.cell rfl) (fun h => by (try simp at h) <;> omega)), (hf5.cell (HB1.out.cell rfl) (fun h => by (try simp at h) <;> omega)), (hf5.cell (HB2.out.cell rfl) (fun h => by (try simp at h) <;> omega)), HF5.out⟩

set_option maxRecDepth 100000 in
set_option maxHeartbeats 800000 in
theorem vnumS_any (w : World) : Calls Try.prog 27 #[fnc 28, fnc 29, fnc 30] w fun e w' => ∃ a b d : Nat, e = .returned (kindc (fnc2 43 a d) (fnc2 44 b d)) ∧ w'.cell? ⟨a, 0, none⟩ = some (fnc 28) ∧ w'.cell? ⟨b, 0, none⟩ = some (fnc 29) ∧ w'.cell? ⟨d, 0, none⟩ = some (fnc 30) ∧ Fr (fun _ => False) w w' := by
  obtain ⟨q, hq⟩ : ∃ q, w.heap.size = q := ⟨_, rfl⟩
  obtain ⟨w1, hw1⟩ : ∃ w1, ((((w.alloc (.cells #[.func (.func 28) #[] #[]] 46)).alloc (.cells #[.func (.func 29) #[] #[]] 57)).alloc (.cells #[.func (.func 30) #[] #[]] 59)).alloc (.cells #[Value.nilFunc, Value.nilFunc] 42)) = w1 := ⟨_, rfl⟩
  have hf1 : Fr (fun _ => False) w w1 := by rw [← hw1]; exact (((((Fr.refl _ _).alloc _).alloc _).alloc _).alloc _)
  have hb0 : Row w1 (q) 46 [.func (.func 28) #[] #[]] := by rw [← hw1]; exact Row.alloc (Row.alloc (Row.alloc (new_row (w := w) (k := q) (by simp [← hq]) _ _) _) _) _
  have HB0 := Lib.hid hb0
  have hb1 : Row w1 (q + 1) 57 [.func (.func 29) #[] #[]] := by rw [← hw1]; exact Row.alloc (Row.alloc (new_row (w := (w.alloc (.cells #[.func (.func 28) #[] #[]] 46))) (k := q + 1) (by simp [← hq]) _ _) _) _
  have HB1 := Lib.hid hb1
  have hb2 : Row w1 (q + 1 + 1) 59 [.func (.func 30) #[] #[]] := by rw [← hw1]; exact Row.alloc (new_row (w := ((w.alloc (.cells #[.func (.func 28) #[] #[]] 46)).alloc (.cells #[.func (.func 29) #[] #[]] 57))) (k := q + 1 + 1) (by simp [← hq]) _ _) _
  have HB2 := Lib.hid hb2
  have hk : Row w1 (q + 1 + 1 + 1) 42 [Value.nilFunc, Value.nilFunc] := by rw [← hw1]; exact new_row (w := (((w.alloc (.cells #[.func (.func 28) #[] #[]] 46)).alloc (.cells #[.func (.func 29) #[] #[]] 57)).alloc (.cells #[.func (.func 30) #[] #[]] 59))) (k := q + 1 + 1 + 1) (by simp [← hq]) _ _
  have HK := Lib.hid hk
  have HF1 := Lib.hid hf1
  have HQ := Lib.hid hq
  clear hf1 hb0 hb1 hb2 hk
  unfold kindc fnc fnc2
  go_enter Try.func27, Try.ntmps27
  go_upto_region 1 with fail
  clear hw1 hq
  go_wp2_with (refine store_st kSz rfl (.tmp 6) (.tmp 9) rfl (q + 1 + 1 + 1) (by rfl) [.func (.func 43) #[] #[.pointer (some ⟨q, 0, none⟩), .pointer (some ⟨q + 1 + 1, 0, none⟩)], .func (.func 44) #[] #[.pointer (some ⟨q + 1, 0, none⟩), .pointer (some ⟨q + 1 + 1, 0, none⟩)]] (by rfl) _ _ HK.out rfl rfl (kind_one _ _ _ _) ?_)
  intro w5 hr5 hf5
  have HF5 : Hid (Fr (fun _ => False) w w5) := Lib.hid (HF1.out.trans hf5 (fun b hb h => by have h1 := HQ.out; omega))
  have d0 : w5.cell? ⟨q + 1 + 1 + 1, 0, none⟩ = some (.func (.func 43) #[] #[.pointer (some ⟨q, 0, none⟩), .pointer (some ⟨q + 1 + 1, 0, none⟩)]) := hr5.cell rfl
  have d1 : w5.cell? ⟨q + 1 + 1 + 1, 1, none⟩ = some (.func (.func 44) #[] #[.pointer (some ⟨q + 1, 0, none⟩), .pointer (some ⟨q + 1 + 1, 0, none⟩)]) := hr5.cell rfl
  clear hr5
  go_wp2_with fail
  exact bodyPost_ret (v := .agg #[.func (.func 43) #[] #[.pointer (some ⟨q, 0, none⟩), .pointer (some ⟨q + 1 + 1, 0, none⟩)], .func (.func 44) #[] #[.pointer (some ⟨q + 1, 0, none⟩), .pointer (some ⟨q + 1 + 1, 0, none⟩)]]) (by simp [results, Try.results27, go_sem, d0, d1]) rfl ⟨q, q + 1, q + 1 + 1, rfl, (hf5.cell (HB0.out.cell rfl) (fun h => by (try simp at h) <;> omega)), (hf5.cell (HB1.out.cell rfl) (fun h => by (try simp at h) <;> omega)), (hf5.cell (HB2.out.cell rfl) (fun h => by (try simp at h) <;> omega)), HF5.out⟩

set_option maxRecDepth 100000 in
set_option maxHeartbeats 800000 in
theorem vtextT_any (w : World) : Calls Try.prog 31 #[fnc 32] w fun e w' => ∃ a : Nat, e = .returned (kindc (fnc 46) (fnc1 47 a)) ∧ w'.cell? ⟨a, 0, none⟩ = some (fnc 32) ∧ Fr (fun _ => False) w w' := by
  obtain ⟨q, hq⟩ : ∃ q, w.heap.size = q := ⟨_, rfl⟩
  obtain ⟨w1, hw1⟩ : ∃ w1, ((w.alloc (.cells #[.func (.func 32) #[] #[]] 62)).alloc (.cells #[Value.nilFunc, Value.nilFunc] 42)) = w1 := ⟨_, rfl⟩
  have hf1 : Fr (fun _ => False) w w1 := by rw [← hw1]; exact (((Fr.refl _ _).alloc _).alloc _)
  have hb0 : Row w1 (q) 62 [.func (.func 32) #[] #[]] := by rw [← hw1]; exact Row.alloc (new_row (w := w) (k := q) (by simp [← hq]) _ _) _
  have HB0 := Lib.hid hb0
  have hk : Row w1 (q + 1) 42 [Value.nilFunc, Value.nilFunc] := by rw [← hw1]; exact new_row (w := (w.alloc (.cells #[.func (.func 32) #[] #[]] 62))) (k := q + 1) (by simp [← hq]) _ _
  have HK := Lib.hid hk
  have HF1 := Lib.hid hf1
  have HQ := Lib.hid hq
  clear hf1 hb0 hk
  unfold kindc fnc fnc1
  go_enter Try.func31, Try.ntmps31
  go_upto_region 1 with fail
  clear hw1 hq
  go_wp2_with (refine store_st kSz rfl (.tmp 2) (.tmp 4) rfl (q + 1) (by rfl) [.func (.func 46) #[] #[], .func (.func 47) #[] #[.pointer (some ⟨q, 0, none⟩)]] (by rfl) _ _ HK.out rfl rfl (kind_one _ _ _ _) ?_)
  intro w5 hr5 hf5
  have HF5 : Hid (Fr (fun _ => False) w w5) := Lib.hid (HF1.out.trans hf5 (fun b hb h => by have h1 := HQ.out; omega))
  have d0 : w5.cell? ⟨q + 1, 0, none⟩ = some (.func (.func 46) #[] #[]) := hr5.cell rfl
  have d1 : w5.cell? ⟨q + 1, 1, none⟩ = some (.func (.func 47) #[] #[.pointer (some ⟨q, 0, none⟩)]) := hr5.cell rfl
  clear hr5
  go_wp2_with fail
  exact bodyPost_ret (v := .agg #[.func (.func 46) #[] #[], .func (.func 47) #[] #[.pointer (some ⟨q, 0, none⟩)]]) (by simp [results, Try.results31, go_sem, d0, d1]) rfl ⟨q, rfl, (hf5.cell (HB0.out.cell rfl) (fun h => by (try simp at h) <;> omega)), HF5.out⟩

set_option maxRecDepth 100000 in
set_option maxHeartbeats 800000 in
theorem vtextB_any (w : World) : Calls Try.prog 31 #[fnc 34] w fun e w' => ∃ a : Nat, e = .returned (kindc (fnc 46) (fnc1 47 a)) ∧ w'.cell? ⟨a, 0, none⟩ = some (fnc 34) ∧ Fr (fun _ => False) w w' := by
  obtain ⟨q, hq⟩ : ∃ q, w.heap.size = q := ⟨_, rfl⟩
  obtain ⟨w1, hw1⟩ : ∃ w1, ((w.alloc (.cells #[.func (.func 34) #[] #[]] 62)).alloc (.cells #[Value.nilFunc, Value.nilFunc] 42)) = w1 := ⟨_, rfl⟩
  have hf1 : Fr (fun _ => False) w w1 := by rw [← hw1]; exact (((Fr.refl _ _).alloc _).alloc _)
  have hb0 : Row w1 (q) 62 [.func (.func 34) #[] #[]] := by rw [← hw1]; exact Row.alloc (new_row (w := w) (k := q) (by simp [← hq]) _ _) _
  have HB0 := Lib.hid hb0
  have hk : Row w1 (q + 1) 42 [Value.nilFunc, Value.nilFunc] := by rw [← hw1]; exact new_row (w := (w.alloc (.cells #[.func (.func 34) #[] #[]] 62))) (k := q + 1) (by simp [← hq]) _ _
  have HK := Lib.hid hk
  have HF1 := Lib.hid hf1
  have HQ := Lib.hid hq
  clear hf1 hb0 hk
  unfold kindc fnc fnc1
  go_enter Try.func31, Try.ntmps31
  go_upto_region 1 with fail
  clear hw1 hq
  go_wp2_with (refine store_st kSz rfl (.tmp 2) (.tmp 4) rfl (q + 1) (by rfl) [.func (.func 46) #[] #[], .func (.func 47) #[] #[.pointer (some ⟨q, 0, none⟩)]] (by rfl) _ _ HK.out rfl rfl (kind_one _ _ _ _) ?_)
  intro w5 hr5 hf5
  have HF5 : Hid (Fr (fun _ => False) w w5) := Lib.hid (HF1.out.trans hf5 (fun b hb h => by have h1 := HQ.out; omega))
  have d0 : w5.cell? ⟨q + 1, 0, none⟩ = some (.func (.func 46) #[] #[]) := hr5.cell rfl
  have d1 : w5.cell? ⟨q + 1, 1, none⟩ = some (.func (.func 47) #[] #[.pointer (some ⟨q, 0, none⟩)]) := hr5.cell rfl
  clear hr5
  go_wp2_with fail
  exact bodyPost_ret (v := .agg #[.func (.func 46) #[] #[], .func (.func 47) #[] #[.pointer (some ⟨q, 0, none⟩)]]) (by simp [results, Try.results31, go_sem, d0, d1]) rfl ⟨q, rfl, (hf5.cell (HB0.out.cell rfl) (fun h => by (try simp at h) <;> omega)), HF5.out⟩
end Go.Proofs.Ytomhljpnpphbcaa
