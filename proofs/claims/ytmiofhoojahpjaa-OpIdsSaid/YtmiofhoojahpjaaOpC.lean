/-
  Layer 17, the program: Compare, rightKey, rightPreds.
-/
import Derived.Test.YtmiofhoojahpjaaOpB
import Derived.Test.YtmiofhoojahpjaaUtfP
namespace Go.Proofs.Ytmiofhoojahpjaa
open Go.RowKit Mem Go.Lib LebM UtfM VaM OpM
attribute [local go_sem ↓] Go.wp_at_zero Go.wp_at_succ
set_option linter.unusedVariables false

theorem i64_lt (a b : Int) : decide (a < b) = true ∨ decide (a < b) = false := by cases decide (a < b) <;> simp
set_option maxRecDepth 100000 in
set_option maxHeartbeats 1600000 in
theorem cmp_any (x y : Nm) (w : World) : Calls Try.prog 17 #[nmc x, nmc y] w fun e w' => e = .returned (.int .i64 (cmpN x y)) ∧ Fr (fun _ => False) w w' := by
  obtain ⟨b, hb⟩ : ∃ b, eqN x y = b := ⟨_, rfl⟩
  obtain ⟨q1, q2⟩ := n_eql x y
  rw [hb] at q2
  have hf1 : Fr (fun _ => False) w ((w.alloc (.cells #[.int .i64 x.c, .string (txt x.a)] 27)).alloc (.cells #[.int .i64 y.c, .string (txt y.a)] 27)) := ((Fr.refl _ _).alloc _).alloc _
  have HF1 := Lib.hid hf1
  have hcm : cmpN x y = if b = true then 0 else if lessN x y = true then -1 else 1 := by unfold cmpN; rw [hb]
  rw [hcm]
  have hl : lessN x y = (decide (x.c < y.c) || (decide (x.c = y.c) && Op.bytesLess x.a y.a)) := rfl
  rw [hl]
  have hl1 : (txt x.a).toList = x.a := ByteArray.toList_mk _
  have hl2 : (txt y.a).toList = y.a := ByteArray.toList_mk _
  have t3' : Op.bytesLess (txt x.a).toList (txt y.a).toList = Op.bytesLess x.a y.a := by rw [hl1, hl2]
  obtain ⟨s, hs⟩ : ∃ s, Op.bytesLess x.a y.a = s := ⟨_, rfl⟩
  rw [hs] at t3' ⊢
  unfold nmc
  clear hf1 hcm hl hl1 hl2 hs hb
  cases b with
  | true =>
    rw [if_pos rfl]
    clear t3'
    go_enter Try.func17, Try.ntmps17
    go_wp2_with fail
    go_ret
    exact ⟨rfl, HF1.out⟩
  | false =>
    rw [if_neg (by simp)]
    by_cases h1 : x.c < y.c
    · have t1 : decide (x.c < y.c) = true := decide_eq_true h1
      rw [t1, Bool.true_or, if_pos rfl]
      clear h1 t3'
      go_enter Try.func17, Try.ntmps17
      go_wp2_with fail
      go_ret
      exact ⟨rfl, HF1.out⟩
    · have t1 : decide (x.c < y.c) = false := decide_eq_false h1
      rw [t1, Bool.false_or]
      by_cases h2 : x.c = y.c
      · have t2 : (x.c == y.c) = true := by simp [h2]
        rw [decide_eq_true h2, Bool.true_and]
        have H2 := Lib.hid h2
        clear h1 h2
        cases s with
        | true =>
          rw [if_pos rfl]
          go_enter Try.func17, Try.ntmps17
          go_wp2_with fail
          go_ret
          exact ⟨rfl, HF1.out⟩
        | false =>
          rw [if_neg (by simp)]
          go_enter Try.func17, Try.ntmps17
          go_wp2_with fail
          go_ret
          exact ⟨rfl, HF1.out⟩
      · have t2 : (x.c == y.c) = false := by simp [h2]
        rw [decide_eq_false h2, Bool.false_and, if_neg (by simp)]
        clear h1 h2 t3'
        go_enter Try.func17, Try.ntmps17
        go_wp2_with fail
        go_ret
        exact ⟨rfl, HF1.out⟩
end Go.Proofs.Ytmiofhoojahpjaa
