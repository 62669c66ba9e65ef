/-
  Layer 13: how long the bytes are; the reference's Same; awake.
-/
import Derived.Test.YthioijbifmfhlaaBooE
namespace Go.Proofs.Ythioijbifmfhlaa
open Go.RowKit Mem Go.Lib BooM LebM
attribute [local go_sem ↓] Go.wp_at_zero Go.wp_at_succ
set_option linter.unusedVariables false

theorem put_len (L : List Bool) (hL : L.length < 18446744073709551616) : (putB L).length ≤ 10 * (L.length + 1) := by
  have h1 := nums_len L
  have h2 := nums_le L
  have h3 : ∀ (N : List Nat), (∀ n ∈ N, n < 18446744073709551616) → (N.flatMap u).length ≤ 10 * N.length := by
    intro N
    induction N with
    | nil => intro _; simp
    | cons n N ih =>
      intro h
      have a := ih (fun m hm => h m (List.mem_cons_of_mem _ hm))
      have b := u_len10 (h n (List.mem_cons_self ..))
      rw [List.flatMap_cons, List.length_append, List.length_cons]
      omega
  unfold putB
  split
  · simp
  · have := h3 (numsB L) (fun n hn => by have := h2 n hn; omega)
    omega

set_option maxRecDepth 100000 in
set_option maxHeartbeats 1600000 in
theorem rsameB_any (A : Option Addr) (n c : Nat) (L : List Bool) (A' : Option Addr) (n' c' : Nat) (L' : List Bool) (w : World) (hL : Rd w A n (L.map boc)) (hL' : Rd w A' n' (L'.map boc)) (hn : n ≤ 1000000) (hn' : n' ≤ 1000000) :
    Calls Try.prog 9 #[.slice A n c, .slice A' n' c'] w fun e w' => e = .returned (.bool (decide (L = L'))) ∧ Fr (fun _ => False) w w' := by
  have hln : L.length = n := by simpa using hL.1
  have hln' : L'.length = n' := by simpa using hL'.1
  have HL := Lib.hid hL
  have HL' := Lib.hid hL'
  have HLN := Lib.hid hln
  have HLN' := Lib.hid hln'
  clear hL hL' hln hln'
  by_cases hnn : n = n'
  · subst hnn
    have t0 : ((n : Int) != (n : Int)) = false := by simp
    obtain ⟨R, hR⟩ : ∃ R, R = decide (L = L') := ⟨_, rfl⟩
    rw [← hR]
    have HR := Lib.hid hR
    clear hR
    go_enter Try.func9, Try.ntmps9
    go_wp2_with fail
    go_loopw [5] (fun v wr => ∃ k : Nat, k ≤ n ∧ v = .int .i64 (k : Int) ∧ Hid (L.take k = L'.take k) ∧ Hid (Fr (fun _ => False) w wr)) (fun v _ => n - (intOf v).toNat)
    case atStart => exact ⟨0, Nat.zero_le _, rfl, (by simp : L.take 0 = L'.take 0), Fr.refl _ _⟩
    case round =>
      obtain ⟨k, hk, rfl, HE, HF⟩ := hrel
      rename World => wr
      by_cases hlt : k < n
      · obtain ⟨ad, v, rfl, hv, hcell⟩ := (HL.out.fr HF.out (fun _ _ h => h)).at_ hlt
        obtain ⟨ad', v', rfl, hv', hcell'⟩ := (HL'.out.fr HF.out (fun _ _ h => h)).at_ hlt
        obtain ⟨x, hx⟩ : ∃ x, L[k]? = some x := ⟨L[k]'(by have := HLN.out; omega), List.getElem?_eq_getElem _⟩
        obtain ⟨y, hy⟩ : ∃ x, L'[k]? = some x := ⟨L'[k]'(by have := HLN'.out; omega), List.getElem?_eq_getElem _⟩
        obtain rfl : boc x = v := by simpa [hx] using hv
        obtain rfl : boc y = v' := by simpa [hy] using hv'
        unfold boc at hcell hcell'
        have HT := Lib.hid hx
        have HT' := Lib.hid hy
        clear hv hx hv' hy
        by_cases hxy : x = y
        · have hx : L.take (k + 1) = L'.take (k + 1) := by
            rw [List.take_add_one, List.take_add_one, HE.out, HT.out, HT'.out, hxy]
          have HX := Lib.hid hx
          have t1 : (x == y) = true := by simpa using hxy
          clear hx hxy
          go_wp2_with fail
          go_quiet (fail)
          have HF2 := Lib.hid (HF.out.drewN nq)
          clear hcell hcell'
          go_wp2_with fail
          exact ⟨⟨k + 1, by omega, by go_num, HX.out, HF2.out⟩, by simp [intOf]; omega⟩
        · have hx : R = false := by
            rw [HR.out]
            refine decide_eq_false (fun e => hxy ?_)
            have h := HT.out
            rw [e, HT'.out] at h
            injection h with h
            exact h.symm
          have HX := Lib.hid hx
          have t1 : (x == y) = false := by simpa using hxy
          clear hx hxy
          go_wp2_with fail
          go_quiet (fail)
          have HF2 := Lib.hid (HF.out.drewN nq)
          clear hcell hcell'
          go_wp2_with fail
          go_ret
          rw [HX.out]
          exact ⟨rfl, HF2.out⟩
      · obtain rfl : k = n := by omega
        have hx : R = true := by
          rw [HR.out]
          refine decide_eq_true ?_
          have h := HE.out
          rwa [List.take_of_length_le (by have := HLN.out; omega), List.take_of_length_le (by have := HLN'.out; omega)] at h
        have HX := Lib.hid hx
        clear hx
        go_wp2_with fail
        go_ret
        rw [HX.out]
        exact ⟨rfl, HF.out⟩
  · have t0 : ((n : Int) != (n' : Int)) = true := by simp; omega
    have t1 : ((n : Int) == (n' : Int)) = false := by simp; omega
    have t2 : (n == n') = false := by simp; omega
    have hx : decide (L = L') = false := decide_eq_false (fun e => hnn (by rw [← HLN.out, ← HLN'.out, e]))
    rw [hx]
    clear hx hnn
    go_enter Try.func9, Try.ntmps9
    go_wp2_with fail
    go_ret
    exact ⟨rfl, Fr.refl _ _⟩

theorem example13 : putB [true, true, false] = [0, 2, 1] := put_runs 0 2 1 (by omega) (by omega) (by omega) (by omega)
set_option maxRecDepth 100000 in
set_option maxHeartbeats 1600000 in
theorem awake13_any (K : BooC) (w : World) : Calls Try.prog 6 #[] w fun e w' => e = .returned (.bool true) ∧ Fr (fun _ => False) w w' := by
  obtain ⟨w1, hw1⟩ : ∃ w1, w.alloc (.cells #[.bool true, .bool true, .bool false] 4) = w1 := ⟨_, rfl⟩
  obtain ⟨q, hq⟩ : ∃ q, w.heap.size = q := ⟨_, rfl⟩
  have hf1 : Fr (fun _ => False) w w1 := by rw [← hw1]; exact (Fr.refl _ _).alloc _
  have hrd : Rd w1 (some ⟨q, 0, none⟩) 3 ([true, true, false].map boc) := by rw [← hw1]; exact Rd.cells hq.symm [.bool true, .bool true, .bool false] _
  have hp := K.put (some ⟨q, 0, none⟩) 3 3 _ w1 hrd (by omega)
  rw [example13] at hp
  have HP := Lib.hid hp
  have HF1 := Lib.hid hf1
  clear hp hf1 hrd
  go_enter Try.func6, Try.ntmps6
  go_wp2_with fail
  refine HP.out.mono ?_
  rintro e w2 ⟨A2, c2, rfl, hO2, hf2⟩
  have hst : (convert 24 9 (.slice A2 3 c2)).run Try.prog w2 = .ok (.string ⟨#[0, 2, 1]⟩) w2 := hO2.str
  have HF2 := Lib.hid (HF1.out.trans hf2 (fun _ _ h => h))
  clear hO2 hf2 HP hw1 hq
  go_wp2_with fail
  go_ret
  exact ⟨rfl, HF2.out⟩
end Go.Proofs.Ythioijbifmfhlaa
