/-
  Layer 13, the program: is there a 0 behind the first; right.
-/
import Derived.Test.YthioijbifmfhlaaBooA
namespace Go.Proofs.Ythioijbifmfhlaa
open Go.RowKit Mem Go.Lib BooM
attribute [local go_sem ↓] Go.wp_at_zero Go.wp_at_succ
set_option linter.unusedVariables false

set_option maxRecDepth 100000 in
set_option maxHeartbeats 1600000 in
theorem index_any (A : Option Addr) (n c : Nat) (N : List Nat) (z : Nat) (w : World) (hL : Rd w A n (N.map numc)) (hn : n ≤ 1000000) :
    Calls Try.prog 21 #[.slice A n c, .int .u64 (z : Int)] w fun e w' => ∃ r : Int, e = .returned (.int .i64 r) ∧ (0 ≤ r ↔ z ∈ N) ∧ Fr (fun _ => False) w w' := by
  have HL := Lib.hid hL
  have hln : N.length = n := by simpa using hL.1
  have HLN := Lib.hid hln
  clear hL hln
  go_enter Try.func21, Try.ntmps21
  go_wp2_with fail
  go_loopw [8] (fun v wr => ∃ j : Nat, j ≤ n ∧ v = .int .i64 (j : Int) ∧ Hid (¬ z ∈ N.take j) ∧ Hid (Fr (fun _ => False) w wr)) (fun v _ => n - (intOf v).toNat)
  case atStart => exact ⟨0, Nat.zero_le _, rfl, by rw [List.take_zero]; exact List.not_mem_nil, Fr.refl _ _⟩
  case round =>
    obtain ⟨j, hj, rfl, HS, HF⟩ := hrel
    rename World => wr
    by_cases hlt : j < n
    · obtain ⟨ad, v, rfl, hv, hcell⟩ := (HL.out.fr HF.out (fun _ _ h => h)).at_ hlt
      obtain ⟨x, hx⟩ : ∃ x, N[j]? = some x := ⟨N[j]'(by have := HLN.out; omega), List.getElem?_eq_getElem _⟩
      obtain rfl : numc x = v := by simpa [hx] using hv
      unfold numc at hcell
      have HX := Lib.hid hx
      clear hv hx
      by_cases hxy : z = x
      · subst hxy
        go_wp2_with fail
        go_ret
        exact ⟨(j : Int), rfl, ⟨fun _ => List.mem_of_getElem? HX.out, fun _ => by omega⟩, HF.out⟩
      · have t1 : ((z : Int) == (x : Int)) = false := by simp; omega
        have t1' : (z == x) = false := by simp; omega
        have hs2 : ¬ z ∈ N.take (j + 1) := by
          rw [List.take_add_one, HX.out]
          intro h
          rcases List.mem_append.1 h with h | h
          · exact HS.out h
          · simp at h; omega
        have HS2 := Lib.hid hs2
        clear hs2
        go_wp2_with fail
        exact ⟨⟨j + 1, by omega, by go_num, HS2.out, HF.out⟩, by simp [intOf]; omega⟩
    · obtain rfl : j = n := by omega
      have h := HS.out
      rw [List.take_of_length_le (by have := HLN.out; omega)] at h
      have HS2 := Lib.hid h
      clear h
      go_wp2_with fail
      go_ret
      exact ⟨-1, rfl, ⟨fun h => by omega, fun h => absurd h HS2.out⟩, HF.out⟩

set_option maxRecDepth 100000 in
set_option maxHeartbeats 1600000 in
theorem contains_any (A : Option Addr) (n c : Nat) (N : List Nat) (z : Nat) (w : World) (hL : Rd w A n (N.map numc)) (hn : n ≤ 1000000) :
    Calls Try.prog 17 #[.slice A n c, .int .u64 (z : Int)] w fun e w' => e = .returned (.bool (decide (z ∈ N))) ∧ Fr (fun _ => False) w w' := by
  have HI := Lib.hid (index_any A n c N z w hL hn)
  clear hL
  go_enter Try.func17, Try.ntmps17
  go_wp2_with fail
  refine HI.out.mono ?_
  rintro e w2 ⟨r, rfl, hr, hf⟩
  have HR := Lib.hid hr
  have HF := Lib.hid hf
  clear hr hf
  go_wp2_with fail
  go_ret
  exact ⟨congrArg (fun q => Ending.returned (.bool q)) (decide_eq_decide.2 HR.out), HF.out⟩

open Classical in
set_option maxRecDepth 100000 in
set_option maxHeartbeats 1600000 in
theorem right_any (A : Option Addr) (n c : Nat) (N : List Nat) (w : World) (hL : Rd w A n (N.map numc)) (hc : n ≤ c) (hn : n ≤ 1000000) :
    Calls Try.prog 13 #[.slice A n c] w fun e w' => e = .returned (.bool (decide (rightB N))) ∧ Fr (fun _ => False) w w' := by
  have hln : N.length = n := by simpa using hL.1
  by_cases h0 : n = 0
  · have hr : decide (rightB N) = true := decide_eq_true (.inl (List.length_eq_zero_iff.1 (by omega)))
    have HR := Lib.hid hr
    subst h0
    clear hL hln hr
    go_enter Try.func13, Try.ntmps13
    go_wp2_with fail
    go_ret
    exact ⟨by rw [HR.out]; rfl, Fr.refl _ _⟩
  by_cases h1 : n = 1
  · have hr : decide (rightB N) = false := decide_eq_false (by
      rintro (h | ⟨h, _⟩)
      · subst h; simp at hln; omega
      · omega)
    have HR := Lib.hid hr
    subst h1
    clear hL hln hr
    go_enter Try.func13, Try.ntmps13
    go_wp2_with fail
    go_ret
    exact ⟨by rw [HR.out]; rfl, Fr.refl _ _⟩
  have hcut := hL.cut (k := 1) (m := n) (cap := c) (by omega) (Nat.le_refl _) hc
  have he : ((N.map numc).take n).drop 1 = N.tail.map numc := by
    rw [List.take_of_length_le (by simp; omega), ← List.map_drop, List.drop_one]
  rw [he, if_neg (by omega)] at hcut
  have hcut : Rd w (Option.map (fun x => { block := x.block, off := x.off + 1 }) A) (n - 1) (N.tail.map numc) := hcut
  have hC := contains_any _ (n - 1) (c - 1) N.tail 0 w hcut (by omega)
  have hr : decide (rightB N) = !decide (0 ∈ N.tail) := by
    by_cases h : 0 ∈ N.tail
    · rw [decide_eq_true h]
      exact decide_eq_false (by
        rintro (h' | ⟨_, h'⟩)
        · subst h'; simp at hln; omega
        · exact h' 0 h rfl)
    · rw [decide_eq_false h]
      exact decide_eq_true (.inr ⟨by omega, fun n hn e => h (e ▸ hn)⟩)
  have HC := Lib.hid hC
  have HR := Lib.hid hr
  have t0 : ((n : Int) == 0) = false := by simp; omega
  have t1 : ((n : Int) == 1) = false := by simp; omega
  have t0' : (n == 0) = false := by simp; omega
  have t1' : (n == 1) = false := by simp; omega
  clear hL hcut he hC hr hln
  go_enter Try.func13, Try.ntmps13
  go_wp2_with fail
  refine HC.out.mono ?_
  rintro e w2 ⟨rfl, hf⟩
  have HF := Lib.hid hf
  clear hf
  go_wp2_with fail
  go_ret
  exact ⟨by rw [HR.out]; rfl, HF.out⟩
end Go.Proofs.Ythioijbifmfhlaa
