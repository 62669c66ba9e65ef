/-
  Layer 17, the program: Zero, Actor, Id, Compare, rightPoint.
-/
import Derived.Test.YtmiofhoojahpjaaOpA
import Derived.Test.YtmiofhoojahpjaaUtfK
import Derived.Deep.DeepCutAuto
import Derived.Deep.CutRange
namespace Go.Proofs.Ytmiofhoojahpjaa
open Go.RowKit Mem Go.Lib LebM UtfM VaM OpM
attribute [local go_sem ↓] Go.wp_at_zero Go.wp_at_succ
set_option linter.unusedVariables false

set_option maxRecDepth 100000 in
set_option maxHeartbeats 1600000 in
theorem zero_any (x : Nm) (w : World) : Calls Try.prog 16 #[nmc x] w fun e w' => e = .returned (.bool (zeroB x)) ∧ Fr (fun _ => False) w w' := by
  obtain ⟨b, hb⟩ : ∃ b, zeroB x = b := ⟨_, rfl⟩
  obtain ⟨q1, q2⟩ := n_eql0 x
  rw [hb] at q2 ⊢
  clear hb
  unfold nmc
  go_enter Try.func16, Try.ntmps16
  go_wp2_with fail
  go_ret
  exact ⟨rfl, (Fr.refl _ _).alloc _⟩
/-- all texts are actors -/
def actorsB (l : List (List UInt8)) : Bool := l.all actorB
set_option maxRecDepth 100000 in
set_option maxHeartbeats 1600000 in
theorem actor_any (A : Option Addr) (n c : Nat) (l : List (List UInt8)) (w : World) (hr : Rd w A n (l.map strc)) (hn : n ≤ 1000) (hl : ∀ B ∈ l, B.length ≤ 1000000000000000000) :
    Calls Try.prog 18 #[.slice A n c] w fun e w' => e = .returned (.bool (actorsB l)) ∧ w = w' := by
  have hln : l.length = n := by simpa using hr.1
  obtain ⟨r, hrr⟩ : ∃ r, actorsB l = r := ⟨_, rfl⟩
  rw [hrr]
  have HRR := Lib.hid hrr
  have HR := Lib.hid hr
  have HLN := Lib.hid hln
  have HL := Lib.hid hl
  clear hr hln hl hrr
  go_enter Try.func18, Try.ntmps18
  go_wp2_with fail
  go_loop [4, 7] (fun _ i => ∃ k : Nat, k ≤ n ∧ i = .int .i64 (k : Int) ∧ Hid (actorsB (l.take k) = true)) (fun _ i => n - (intOf i).toNat)
  case atStart => exact ⟨0, Nat.zero_le _, rfl, (by simp [actorsB] : actorsB (l.take 0) = true)⟩
  case round =>
    obtain ⟨k, hk, rfl, HA⟩ := hrel
    by_cases hlt : k < n
    · obtain ⟨ad, u, rfl, hu, hcell⟩ := HR.out.at_ hlt
      obtain ⟨B, hB⟩ : ∃ B, l[k]? = some B := ⟨_, List.getElem?_eq_getElem (by have := HLN.out; omega)⟩
      rw [List.getElem?_map, hB] at hu
      injection hu with hu
      subst hu
      unfold strc at hcell
      have hBl := HL.out B (List.mem_of_getElem? hB)
      obtain ⟨q, hq⟩ : ∃ q, actorB B = q := ⟨_, rfl⟩
      have hnext : actorsB (l.take (k + 1)) = q := by
        have h := HA.out
        unfold actorsB at h ⊢
        rw [List.take_add_one, hB, List.all_append, h]
        simp [hq]
      have HNX := Lib.hid hnext
      have hsz := txt_sz B
      obtain ⟨m, hm⟩ : ∃ m, m = B.length := ⟨_, rfl⟩
      rw [← hm] at hsz hBl
      have te := txt_e B
      obtain ⟨z, hz⟩ : ∃ z, decide (B = []) = z := ⟨_, rfl⟩
      rw [hz] at te
      have HZ := Lib.hid hz
      have HM := Lib.hid hm
      have HQ := Lib.hid hq
      clear hB hnext hz hm hq
      have htz : (txt B).toList.isEmpty = z := by
        rw [show (txt B).toList = B from ByteArray.toList_mk _, ← HZ.out]
        cases B <;> simp
      cases z with
      | true =>
        have hq2 : q = false := by rw [← HQ.out]; have := HZ.out; simp at this; subst this; rfl
        have hrf : false = r := by
          rw [← HRR.out]
          unfold actorsB
          rw [← List.take_append_drop (k + 1) l, List.all_append]
          have h := HNX.out
          unfold actorsB at h
          rw [h, hq2, Bool.false_and]
        have HRF := Lib.hid hrf
        clear hrf hq2
        go_wp2_with fail
        go_ret
        exact ⟨by rw [← HRF.out]; rfl, rfl⟩
      | false =>
        by_cases hb : 16 < m
        · have t1 : decide ((16 : Int) < (m : Int)) = true := by simp; omega
          have t2 : decide (16 < m) = true := by simp; omega
          have hq2 : q = false := by rw [← HQ.out]; unfold actorB; have := HM.out; simp; omega
          have hrf : false = r := by
            rw [← HRR.out]
            unfold actorsB
            rw [← List.take_append_drop (k + 1) l, List.all_append]
            have h := HNX.out
            unfold actorsB at h
            rw [h, hq2, Bool.false_and]
          have HRF := Lib.hid hrf
          clear hrf hq2
          go_wp2_with fail
          go_ret
          exact ⟨by rw [← HRF.out]; rfl, rfl⟩
        · have t1 : decide ((16 : Int) < (m : Int)) = false := by simp; omega
          have t2 : decide (16 < m) = false := by simp; omega
          have hq2 : q = true := by
            rw [← HQ.out]
            have h1 := HM.out
            have h2 := HZ.out
            have h3 : 0 < B.length := List.length_pos_iff.2 (by simpa using h2)
            unfold actorB
            simp
            omega
          have HN2 : Hid (actorsB (l.take (k + 1)) = true) := Lib.hid (by rw [HNX.out, hq2])
          clear hq2
          go_wp2_with fail
          go_round
          case rel => exact ⟨k + 1, by omega, by go_num, HN2⟩
          case measure => simp [intOf]; omega
    · obtain rfl : k = n := by omega
      have hrf : true = r := by
        rw [← HRR.out]
        have := HA.out
        rw [List.take_of_length_le (by have := HLN.out; omega)] at this
        exact this.symm
      have HRF := Lib.hid hrf
      clear hrf
      go_wp2_with fail
      go_ret
      exact ⟨by rw [← HRF.out]; rfl, rfl⟩
/-- one text, out of the argument's row that was just made -/
theorem actor1 (B : List UInt8) (w : World) {k : Nat} (hk : k = w.heap.size) (hl : B.length ≤ 1000000000000000000) :
    Calls Try.prog 18 #[.slice (some ⟨k, 0, none⟩) 1 1] (w.alloc (.cells #[.string (txt B)] 9)) fun e w' => e = .returned (.bool (actorB B)) ∧ Fr (fun _ => False) w w' := by
  refine (actor_any (some ⟨k, 0, none⟩) 1 1 [B] _ (Rd.one' hk _ _) (by omega) (by simpa using hl)).mono ?_
  rintro e w' ⟨rfl, rfl⟩
  exact ⟨by simp [actorsB], (Fr.refl _ _).alloc _⟩
set_option maxRecDepth 100000 in
set_option maxHeartbeats 1600000 in
theorem id_any (x : Nm) (w : World) (hl : x.a.length ≤ 1000000000000000000) : Calls Try.prog 14 #[nmc x] w fun e w' => e = .returned (.bool (idB x)) ∧ Fr (fun _ => False) w w' := by
  obtain ⟨c, a⟩ := x
  obtain ⟨g, hg⟩ : ∃ g, w.heap.size = g := ⟨_, rfl⟩
  obtain ⟨w1, hw1⟩ : ∃ w1, w.alloc (.cells #[.int .i64 c, .string (txt a)] 27) = w1 := ⟨_, rfl⟩
  have hf1 : Fr (fun _ => False) w w1 := by rw [← hw1]; exact (Fr.refl _ _).alloc _
  have hr1 : RowN w1 g ⟨c, a⟩ := by rw [← hw1, ← hg]; exact RowN.new w ⟨c, a⟩
  obtain ⟨c0, c1⟩ := hr1.cells
  have HF1 := Lib.hid hf1
  have h1 := actor1 a w1 rfl hl
  obtain ⟨b, hb⟩ : ∃ b, actorB a = b := ⟨_, rfl⟩
  rw [hb] at h1
  unfold nmc
  simp only at c0 c1 ⊢
  by_cases hc1 : 1 ≤ c
  · by_cases hc2 : c ≤ 9007199254740991
    · have e : idB ⟨c, a⟩ = b := by unfold idB; rw [hb]; simp [hc1, hc2]
      rw [e]
      have t1 : decide ((1 : Int) ≤ c) = true := decide_eq_true hc1
      have t2 : decide (c ≤ (9007199254740991 : Int)) = true := decide_eq_true hc2
      have H1 := Lib.hid h1
      clear e hb hf1 hr1 hc1 hc2 h1
      go_enter Try.func14, Try.ntmps14
      go_wp2_with fail
      clear hw1 hg
      refine H1.out.mono ?_
      rintro e w2 ⟨rfl, hf⟩
      have HF2 := Lib.hid (HF1.out.trans hf (fun _ _ h => h))
      clear hf
      go_wp2_with fail
      go_ret
      exact ⟨rfl, HF2.out⟩
    · have e : idB ⟨c, a⟩ = false := by unfold idB; simp [hc1, hc2]
      rw [e]
      have t1 : decide ((1 : Int) ≤ c) = true := decide_eq_true hc1
      have t2 : decide (c ≤ (9007199254740991 : Int)) = false := decide_eq_false hc2
      clear e hb hf1 hr1 hc1 hc2 h1
      go_enter Try.func14, Try.ntmps14
      go_wp2_with fail
      go_ret
      exact ⟨rfl, HF1.out⟩
  · have e : idB ⟨c, a⟩ = false := by unfold idB; simp [hc1]
    rw [e]
    have t1 : decide ((1 : Int) ≤ c) = false := decide_eq_false hc1
    clear e hb hf1 hr1 hc1 h1
    go_enter Try.func14, Try.ntmps14
    go_wp2_with fail
    go_ret
    exact ⟨rfl, HF1.out⟩
set_option maxRecDepth 100000 in
set_option maxHeartbeats 1600000 in
theorem point_any (x : Nm) (w : World) (hl : x.a.length ≤ 1000000000000000000) : Calls Try.prog 32 #[nmc x] w fun e w' => e = .returned (.bool (ptB x)) ∧ Fr (fun _ => False) w w' := by
  obtain ⟨g, hg⟩ : ∃ g, w.heap.size = g := ⟨_, rfl⟩
  obtain ⟨w1, hw1⟩ : ∃ w1, w.alloc (.cells #[.int .i64 x.c, .string (txt x.a)] 27) = w1 := ⟨_, rfl⟩
  have hf1 : Fr (fun _ => False) w w1 := by rw [← hw1]; exact (Fr.refl _ _).alloc _
  have hr1 : RowN w1 g x := by rw [← hw1, ← hg]; exact RowN.new w x
  obtain ⟨c0, c1⟩ := hr1.cells
  have HF1 := Lib.hid hf1
  have HR1 := Lib.hid hr1
  have hz := fun w => zero_any x w
  have hi := fun w => id_any x w hl
  obtain ⟨z, hze⟩ : ∃ z, zeroB x = z := ⟨_, rfl⟩
  obtain ⟨i, hie⟩ : ∃ i, idB x = i := ⟨_, rfl⟩
  have e : ptB x = (z || i) := by unfold ptB; rw [hze, hie]
  simp only [hze] at hz
  simp only [hie] at hi
  rw [e]
  unfold nmc at hz hi ⊢
  have HZ := Lib.hid hz
  have HI := Lib.hid hi
  clear hf1 hr1 hz hi hze hie e
  cases z with
  | true =>
    go_enter Try.func32, Try.ntmps32
    go_wp2_with fail
    clear hw1 hg
    refine (HZ.out _).mono ?_
    rintro e w2 ⟨rfl, hf⟩
    have HF2 := Lib.hid (HF1.out.trans hf (fun _ _ h => h))
    clear hf
    go_wp2_with fail
    go_ret
    exact ⟨rfl, HF2.out⟩
  | false =>
    go_enter Try.func32, Try.ntmps32
    go_wp2_with fail
    clear hw1 hg
    refine (HZ.out _).mono ?_
    rintro e w2 ⟨rfl, hf⟩
    have HF2 := Lib.hid (HF1.out.trans hf (fun _ _ h => h))
    obtain ⟨k0, k1⟩ := (HR1.out.fr hf (fun h => h)).cells
    clear hf
    go_wp2_with fail
    refine (HI.out _).mono ?_
    rintro e w3 ⟨rfl, hf⟩
    have HF3 := Lib.hid (HF2.out.trans hf (fun _ _ h => h))
    clear hf
    go_wp2_with fail
    go_ret
    exact ⟨rfl, HF3.out⟩
end Go.Proofs.Ytmiofhoojahpjaa
