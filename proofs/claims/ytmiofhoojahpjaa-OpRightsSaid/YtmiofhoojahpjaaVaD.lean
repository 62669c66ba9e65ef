/-
  Layer 14, the program: bare, number, text (written by gen_kind.py).
-/
import Derived.Test.YtmiofhoojahpjaaVaC
namespace Go.Proofs.Ytmiofhoojahpjaa
open Go.RowKit Mem Go.Lib VaM LebM UtfM
attribute [local go_sem ↓] Go.wp_at_zero Go.wp_at_succ
set_option linter.unusedVariables false

/-- how values are told -/
def kindc (p g : Value) : Value := .agg #[p, g]
def fnc1 (F : FuncId) (a : Nat) : Value := .func (.func F) #[] #[.pointer (some ⟨a, 0, none⟩)]
def fnc2 (F : FuncId) (a b : Nat) : Value := .func (.func F) #[] #[.pointer (some ⟨a, 0, none⟩), .pointer (some ⟨b, 0, none⟩)]
theorem new_row {w : World} {k : Nat} (hk : k = w.heap.size) (t : TypeId) (L : List Value) : Row (w.alloc (.cells L.toArray t)) k t L := by subst hk; exact Row.new w _ _
theorem kind_one (F G : FuncId) (l m : Array Value) : ([Value.func (.func F) #[] l, .func (.func G) #[] m] : List Value).toArray.all (·.oneCell') = true := by simp [Value.oneCell']

set_option maxRecDepth 100000 in
set_option maxHeartbeats 800000 in
theorem vbare_any (w : World) : Calls Try.prog 49 #[] w fun e w' =>  e = .returned (kindc (fnc 61) (fnc 62)) ∧  Fr (fun _ => False) w w' := by
  obtain ⟨q, hq⟩ : ∃ q, w.heap.size = q := ⟨_, rfl⟩
  obtain ⟨w1, hw1⟩ : ∃ w1, (w.alloc (.cells #[Value.nilFunc, Value.nilFunc] 69)) = w1 := ⟨_, rfl⟩
  have hf1 : Fr (fun _ => False) w w1 := by rw [← hw1]; exact ((Fr.refl _ _).alloc _)
  have hk : Row w1 (q) 69 [Value.nilFunc, Value.nilFunc] := by rw [← hw1]; exact new_row (w := w) (k := q) (by simp [← hq]) _ _
  have HK := Lib.hid hk
  have HF1 := Lib.hid hf1
  have HQ := Lib.hid hq
  clear hf1 hk
  unfold kindc fnc
  go_enter Try.func49, Try.ntmps49
  go_upto_region 1 with fail
  clear hw1 hq
  go_wp2_with (refine store_st kSz rfl (.tmp 0) (.tmp 1) rfl (q) (by rfl) [.func (.func 61) #[] #[], .func (.func 62) #[] #[]] (by rfl) _ _ HK.out rfl rfl (kind_one _ _ _ _) ?_)
  intro w5 hr5 hf5
  have HF5 : Hid (Fr (fun _ => False) w w5) := Lib.hid (HF1.out.trans hf5 (fun b hb h => by have h1 := HQ.out; omega))
  have d0 : w5.cell? ⟨q, 0, none⟩ = some (.func (.func 61) #[] #[]) := hr5.cell rfl
  have d1 : w5.cell? ⟨q, 1, none⟩ = some (.func (.func 62) #[] #[]) := hr5.cell rfl
  clear hr5
  go_wp2_with fail
  exact bodyPost_ret (v := .agg #[.func (.func 61) #[] #[], .func (.func 62) #[] #[]]) (by simp [results, Try.results49, go_sem, d0, d1]) rfl ⟨rfl,  HF5.out⟩

set_option maxRecDepth 100000 in
set_option maxHeartbeats 800000 in
theorem vnumU_any (w : World) : Calls Try.prog 50 #[fnc 51, fnc 52, fnc 53] w fun e w' => ∃ a b d : Nat, e = .returned (kindc (fnc2 63 a d) (fnc2 64 b d)) ∧ w'.cell? ⟨a, 0, none⟩ = some (fnc 51) ∧ w'.cell? ⟨b, 0, none⟩ = some (fnc 52) ∧ w'.cell? ⟨d, 0, none⟩ = some (fnc 53) ∧ Fr (fun _ => False) w w' := by
  obtain ⟨q, hq⟩ : ∃ q, w.heap.size = q := ⟨_, rfl⟩
  obtain ⟨w1, hw1⟩ : ∃ w1, ((((w.alloc (.cells #[.func (.func 51) #[] #[]] 79)).alloc (.cells #[.func (.func 52) #[] #[]] 80)).alloc (.cells #[.func (.func 53) #[] #[]] 83)).alloc (.cells #[Value.nilFunc, Value.nilFunc] 69)) = w1 := ⟨_, rfl⟩
  have hf1 : Fr (fun _ => False) w w1 := by rw [← hw1]; exact (((((Fr.refl _ _).alloc _).alloc _).alloc _).alloc _)
  have hb0 : Row w1 (q) 79 [.func (.func 51) #[] #[]] := by rw [← hw1]; exact Row.alloc (Row.alloc (Row.alloc (new_row (w := w) (k := q) (by simp [← hq]) _ _) _) _) _
  have HB0 := Lib.hid hb0
  have hb1 : Row w1 (q + 1) 80 [.func (.func 52) #[] #[]] := by rw [← hw1]; exact Row.alloc (Row.alloc (new_row (w := (w.alloc (.cells #[.func (.func 51) #[] #[]] 79))) (k := q + 1) (by simp [← hq]) _ _) _) _
  have HB1 := Lib.hid hb1
  have hb2 : Row w1 (q + 1 + 1) 83 [.func (.func 53) #[] #[]] := by rw [← hw1]; exact Row.alloc (new_row (w := ((w.alloc (.cells #[.func (.func 51) #[] #[]] 79)).alloc (.cells #[.func (.func 52) #[] #[]] 80))) (k := q + 1 + 1) (by simp [← hq]) _ _) _
  have HB2 := Lib.hid hb2
  have hk : Row w1 (q + 1 + 1 + 1) 69 [Value.nilFunc, Value.nilFunc] := by rw [← hw1]; exact new_row (w := (((w.alloc (.cells #[.func (.func 51) #[] #[]] 79)).alloc (.cells #[.func (.func 52) #[] #[]] 80)).alloc (.cells #[.func (.func 53) #[] #[]] 83))) (k := q + 1 + 1 + 1) (by simp [← hq]) _ _
  have HK := Lib.hid hk
  have HF1 := Lib.hid hf1
  have HQ := Lib.hid hq
  clear hf1 hb0 hb1 hb2 hk
  unfold kindc fnc fnc2
  go_enter Try.func50, Try.ntmps50
  go_upto_region 1 with fail
  clear hw1 hq
  go_wp2_with (refine store_st kSz rfl (.tmp 6) (.tmp 9) rfl (q + 1 + 1 + 1) (by rfl) [.func (.func 63) #[] #[.pointer (some ⟨q, 0, none⟩), .pointer (some ⟨q + 1 + 1, 0, none⟩)], .func (.func 64) #[] #[.pointer (some ⟨q + 1, 0, none⟩), .pointer (some ⟨q + 1 + 1, 0, none⟩)]] (by rfl) _ _ HK.out rfl rfl (kind_one _ _ _ _) ?_)
  intro w5 hr5 hf5
  have HF5 : Hid (Fr (fun _ => False) w w5) := Lib.hid (HF1.out.trans hf5 (fun b hb h => by have h1 := HQ.out; omega))
  have d0 : w5.cell? ⟨q + 1 + 1 + 1, 0, none⟩ = some (.func (.func 63) #[] #[.pointer (some ⟨q, 0, none⟩), .pointer (some ⟨q + 1 + 1, 0, none⟩)]) := hr5.cell rfl
  have d1 : w5.cell? ⟨q + 1 + 1 + 1, 1, none⟩ = some (.func (.func 64) #[] #[.pointer (some ⟨q + 1, 0, none⟩), .pointer (some ⟨q + 1 + 1, 0, none⟩)]) := hr5.cell rfl
  clear hr5
  go_wp2_with fail
  exact bodyPost_ret (v := .agg #[.func (.func 63) #[] #[.pointer (some ⟨q, 0, none⟩), .pointer (some ⟨q + 1 + 1, 0, none⟩)], .func (.func 64) #[] #[.pointer (some ⟨q + 1, 0, none⟩), .pointer (some ⟨q + 1 + 1, 0, none⟩)]]) (by simp [results, Try.results50, go_sem, d0, d1]) rfl ⟨q, q + 1, q + 1 + 1, rfl, (hf5.cell (HB0.out.cell rfl) (fun h => by (try simp at h) <;> omega)), (hf5.cell (HB1.out.cell rfl) (fun h => by (try simp at h) <;> omega)), (hf5.cell (HB2.out.cell rfl) (fun h => by (try simp at h) <;> omega)), HF5.out⟩

set_option maxRecDepth 100000 in
set_option maxHeartbeats 800000 in
theorem vnumS_any (w : World) : Calls Try.prog 54 #[fnc 55, fnc 56, fnc 57] w fun e w' => ∃ a b d : Nat, e = .returned (kindc (fnc2 68 a d) (fnc2 69 b d)) ∧ w'.cell? ⟨a, 0, none⟩ = some (fnc 55) ∧ w'.cell? ⟨b, 0, none⟩ = some (fnc 56) ∧ w'.cell? ⟨d, 0, none⟩ = some (fnc 57) ∧ Fr (fun _ => False) w w' := by
  obtain ⟨q, hq⟩ : ∃ q, w.heap.size = q := ⟨_, rfl⟩
  obtain ⟨w1, hw1⟩ : ∃ w1, ((((w.alloc (.cells #[.func (.func 55) #[] #[]] 85)).alloc (.cells #[.func (.func 56) #[] #[]] 86)).alloc (.cells #[.func (.func 57) #[] #[]] 88)).alloc (.cells #[Value.nilFunc, Value.nilFunc] 69)) = w1 := ⟨_, rfl⟩
  have hf1 : Fr (fun _ => False) w w1 := by rw [← hw1]; exact (((((Fr.refl _ _).alloc _).alloc _).alloc _).alloc _)
  have hb0 : Row w1 (q) 85 [.func (.func 55) #[] #[]] := by rw [← hw1]; exact Row.alloc (Row.alloc (Row.alloc (new_row (w := w) (k := q) (by simp [← hq]) _ _) _) _) _
  have HB0 := Lib.hid hb0
  have hb1 : Row w1 (q + 1) 86 [.func (.func 56) #[] #[]] := by rw [← hw1]; exact Row.alloc (Row.alloc (new_row (w := (w.alloc (.cells #[.func (.func 55) #[] #[]] 85))) (k := q + 1) (by simp [← hq]) _ _) _) _
  have HB1 := Lib.hid hb1
  have hb2 : Row w1 (q + 1 + 1) 88 [.func (.func 57) #[] #[]] := by rw [← hw1]; exact Row.alloc (new_row (w := ((w.alloc (.cells #[.func (.func 55) #[] #[]] 85)).alloc (.cells #[.func (.func 56) #[] #[]] 86))) (k := q + 1 + 1) (by simp [← hq]) _ _) _
  have HB2 := Lib.hid hb2
  have hk : Row w1 (q + 1 + 1 + 1) 69 [Value.nilFunc, Value.nilFunc] := by rw [← hw1]; exact new_row (w := (((w.alloc (.cells #[.func (.func 55) #[] #[]] 85)).alloc (.cells #[.func (.func 56) #[] #[]] 86)).alloc (.cells #[.func (.func 57) #[] #[]] 88))) (k := q + 1 + 1 + 1) (by simp [← hq]) _ _
  have HK := Lib.hid hk
  have HF1 := Lib.hid hf1
  have HQ := Lib.hid hq
  clear hf1 hb0 hb1 hb2 hk
  unfold kindc fnc fnc2
  go_enter Try.func54, Try.ntmps54
  go_upto_region 1 with fail
  clear hw1 hq
  go_wp2_with (refine store_st kSz rfl (.tmp 6) (.tmp 9) rfl (q + 1 + 1 + 1) (by rfl) [.func (.func 68) #[] #[.pointer (some ⟨q, 0, none⟩), .pointer (some ⟨q + 1 + 1, 0, none⟩)], .func (.func 69) #[] #[.pointer (some ⟨q + 1, 0, none⟩), .pointer (some ⟨q + 1 + 1, 0, none⟩)]] (by rfl) _ _ HK.out rfl rfl (kind_one _ _ _ _) ?_)
  intro w5 hr5 hf5
  have HF5 : Hid (Fr (fun _ => False) w w5) := Lib.hid (HF1.out.trans hf5 (fun b hb h => by have h1 := HQ.out; omega))
  have d0 : w5.cell? ⟨q + 1 + 1 + 1, 0, none⟩ = some (.func (.func 68) #[] #[.pointer (some ⟨q, 0, none⟩), .pointer (some ⟨q + 1 + 1, 0, none⟩)]) := hr5.cell rfl
  have d1 : w5.cell? ⟨q + 1 + 1 + 1, 1, none⟩ = some (.func (.func 69) #[] #[.pointer (some ⟨q + 1, 0, none⟩), .pointer (some ⟨q + 1 + 1, 0, none⟩)]) := hr5.cell rfl
  clear hr5
  go_wp2_with fail
  exact bodyPost_ret (v := .agg #[.func (.func 68) #[] #[.pointer (some ⟨q, 0, none⟩), .pointer (some ⟨q + 1 + 1, 0, none⟩)], .func (.func 69) #[] #[.pointer (some ⟨q + 1, 0, none⟩), .pointer (some ⟨q + 1 + 1, 0, none⟩)]]) (by simp [results, Try.results54, go_sem, d0, d1]) rfl ⟨q, q + 1, q + 1 + 1, rfl, (hf5.cell (HB0.out.cell rfl) (fun h => by (try simp at h) <;> omega)), (hf5.cell (HB1.out.cell rfl) (fun h => by (try simp at h) <;> omega)), (hf5.cell (HB2.out.cell rfl) (fun h => by (try simp at h) <;> omega)), HF5.out⟩

set_option maxRecDepth 100000 in
set_option maxHeartbeats 800000 in
theorem vtextT_any (w : World) : Calls Try.prog 58 #[fnc 59] w fun e w' => ∃ a : Nat, e = .returned (kindc (fnc 71) (fnc1 72 a)) ∧ w'.cell? ⟨a, 0, none⟩ = some (fnc 59) ∧ Fr (fun _ => False) w w' := by
  obtain ⟨q, hq⟩ : ∃ q, w.heap.size = q := ⟨_, rfl⟩
  obtain ⟨w1, hw1⟩ : ∃ w1, ((w.alloc (.cells #[.func (.func 59) #[] #[]] 40)).alloc (.cells #[Value.nilFunc, Value.nilFunc] 69)) = w1 := ⟨_, rfl⟩
  have hf1 : Fr (fun _ => False) w w1 := by rw [← hw1]; exact (((Fr.refl _ _).alloc _).alloc _)
  have hb0 : Row w1 (q) 40 [.func (.func 59) #[] #[]] := by rw [← hw1]; exact Row.alloc (new_row (w := w) (k := q) (by simp [← hq]) _ _) _
  have HB0 := Lib.hid hb0
  have hk : Row w1 (q + 1) 69 [Value.nilFunc, Value.nilFunc] := by rw [← hw1]; exact new_row (w := (w.alloc (.cells #[.func (.func 59) #[] #[]] 40))) (k := q + 1) (by simp [← hq]) _ _
  have HK := Lib.hid hk
  have HF1 := Lib.hid hf1
  have HQ := Lib.hid hq
  clear hf1 hb0 hk
  unfold kindc fnc fnc1
  go_enter Try.func58, Try.ntmps58
  go_upto_region 1 with fail
  clear hw1 hq
  go_wp2_with (refine store_st kSz rfl (.tmp 2) (.tmp 4) rfl (q + 1) (by rfl) [.func (.func 71) #[] #[], .func (.func 72) #[] #[.pointer (some ⟨q, 0, none⟩)]] (by rfl) _ _ HK.out rfl rfl (kind_one _ _ _ _) ?_)
  intro w5 hr5 hf5
  have HF5 : Hid (Fr (fun _ => False) w w5) := Lib.hid (HF1.out.trans hf5 (fun b hb h => by have h1 := HQ.out; omega))
  have d0 : w5.cell? ⟨q + 1, 0, none⟩ = some (.func (.func 71) #[] #[]) := hr5.cell rfl
  have d1 : w5.cell? ⟨q + 1, 1, none⟩ = some (.func (.func 72) #[] #[.pointer (some ⟨q, 0, none⟩)]) := hr5.cell rfl
  clear hr5
  go_wp2_with fail
  exact bodyPost_ret (v := .agg #[.func (.func 71) #[] #[], .func (.func 72) #[] #[.pointer (some ⟨q, 0, none⟩)]]) (by simp [results, Try.results58, go_sem, d0, d1]) rfl ⟨q, rfl, (hf5.cell (HB0.out.cell rfl) (fun h => by (try simp at h) <;> omega)), HF5.out⟩

set_option maxRecDepth 100000 in
set_option maxHeartbeats 800000 in
theorem vtextB_any (w : World) : Calls Try.prog 58 #[fnc 60] w fun e w' => ∃ a : Nat, e = .returned (kindc (fnc 71) (fnc1 72 a)) ∧ w'.cell? ⟨a, 0, none⟩ = some (fnc 60) ∧ Fr (fun _ => False) w w' := by
  obtain ⟨q, hq⟩ : ∃ q, w.heap.size = q := ⟨_, rfl⟩
  obtain ⟨w1, hw1⟩ : ∃ w1, ((w.alloc (.cells #[.func (.func 60) #[] #[]] 40)).alloc (.cells #[Value.nilFunc, Value.nilFunc] 69)) = w1 := ⟨_, rfl⟩
  have hf1 : Fr (fun _ => False) w w1 := by rw [← hw1]; exact (((Fr.refl _ _).alloc _).alloc _)
  have hb0 : Row w1 (q) 40 [.func (.func 60) #[] #[]] := by rw [← hw1]; exact Row.alloc (new_row (w := w) (k := q) (by simp [← hq]) _ _) _
  have HB0 := Lib.hid hb0
  have hk : Row w1 (q + 1) 69 [Value.nilFunc, Value.nilFunc] := by rw [← hw1]; exact new_row (w := (w.alloc (.cells #[.func (.func 60) #[] #[]] 40))) (k := q + 1) (by simp [← hq]) _ _
  have HK := Lib.hid hk
  have HF1 := Lib.hid hf1
  have HQ := Lib.hid hq
  clear hf1 hb0 hk
  unfold kindc fnc fnc1
  go_enter Try.func58, Try.ntmps58
  go_upto_region 1 with fail
  clear hw1 hq
  go_wp2_with (refine store_st kSz rfl (.tmp 2) (.tmp 4) rfl (q + 1) (by rfl) [.func (.func 71) #[] #[], .func (.func 72) #[] #[.pointer (some ⟨q, 0, none⟩)]] (by rfl) _ _ HK.out rfl rfl (kind_one _ _ _ _) ?_)
  intro w5 hr5 hf5
  have HF5 : Hid (Fr (fun _ => False) w w5) := Lib.hid (HF1.out.trans hf5 (fun b hb h => by have h1 := HQ.out; omega))
  have d0 : w5.cell? ⟨q + 1, 0, none⟩ = some (.func (.func 71) #[] #[]) := hr5.cell rfl
  have d1 : w5.cell? ⟨q + 1, 1, none⟩ = some (.func (.func 72) #[] #[.pointer (some ⟨q, 0, none⟩)]) := hr5.cell rfl
  clear hr5
  go_wp2_with fail
  exact bodyPost_ret (v := .agg #[.func (.func 71) #[] #[], .func (.func 72) #[] #[.pointer (some ⟨q, 0, none⟩)]]) (by simp [results, Try.results58, go_sem, d0, d1]) rfl ⟨q, rfl, (hf5.cell (HB0.out.cell rfl) (fun h => by (try simp at h) <;> omega)), HF5.out⟩
end Go.Proofs.Ytmiofhoojahpjaa
