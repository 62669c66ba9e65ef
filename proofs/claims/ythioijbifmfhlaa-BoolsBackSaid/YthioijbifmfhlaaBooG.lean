/-
  The law BoolsBack, over what Put and Get must keep.
-/
import Derived.Test.YthioijbifmfhlaaBooF
namespace Go.Proofs.Ythioijbifmfhlaa
open Go.RowKit Mem Go.Lib BooM LebM
attribute [local go_sem ↓] Go.wp_at_zero Go.wp_at_succ
set_option linter.unusedVariables false

theorem mem_step {L : List Bool} {k : Nat} {x y : Bool} (hx : L[k]? = some x) (hy : y = decide (true ∈ L.take k)) : (y || x) = decide (true ∈ L.take (k + 1)) := by
  subst hy
  rw [List.take_add_one, hx]
  cases x <;> simp
set_option maxRecDepth 100000 in
set_option maxHeartbeats 6400000 in
theorem bback_law (K : BooC) (A : Option Addr) (n c : Nat) (L : List Bool) (w : World) (hL : Rd w A n (L.map boc)) (hn : n ≤ maxLen) :
    Calls Try.prog 3 #[.slice A n c] w fun e w' => e = .returned (.bool true) ∧ Fr (fun _ => False) w w' := by
  have hln : L.length = n := by simpa using hL.1
  have HL := Lib.hid hL
  have HLN := Lib.hid hln
  have hnm : n ≤ 9223372036854775807 := hn
  clear hL hn hln
  by_cases hbig : 1000 < n
  · have t0 : decide ((1000 : Int) < (n : Int)) = true := by simp; omega
    have t0' : decide (1000 < n) = true := by simp; omega
    go_enter Try.func3, Try.ntmps3
    go_wp2_with fail
    refine (awake13_any K w).mono ?_
    rintro e w2 ⟨rfl, hf2⟩
    have HF2 := Lib.hid hf2
    clear hf2
    go_wp2_with fail
    refine (awake13_any K w2).mono ?_
    rintro e w9 ⟨rfl, hf9⟩
    have HF9 := Lib.hid (HF2.out.trans hf9 (fun _ _ h => h))
    clear hf9
    go_wp2_with fail
    go_ret
    exact ⟨rfl, HF9.out⟩
  · have t0 : decide ((1000 : Int) < (n : Int)) = false := by simp; omega
    have t0' : decide (1000 < n) = false := by simp; omega
    have hn6 : n ≤ 1000 := by omega
    clear hbig
    obtain ⟨P, hP⟩ : ∃ P, P = putB L := ⟨_, rfl⟩
    have hPl : P.length ≤ 20000 := by rw [hP]; have := put_len L (by rw [HLN.out]; omega); rw [HLN.out] at this; omega
    obtain ⟨z, hz⟩ : ∃ z, z = (if true ∈ L then L else []) := ⟨_, rfl⟩
    have hgp := get_put L (by rw [HLN.out]; omega)
    rw [← hP, HLN.out] at hgp
    have hgp2 : getB (n : Int) P = (z, 0) := by rw [hgp, hz]; split <;> rfl
    have HPC : Hid (∀ w', Fr (fun _ => False) w w' → Calls Try.prog 7 #[.slice A n c] w' (Gives w' P)) := Lib.hid (fun w' hf => by
      rw [hP]
      exact K.put A n c L w' (HL.out.fr hf (fun _ _ h => h)) (by omega))
    have HGC : Hid (∀ w' base A c, Own w' base A c P → Calls Try.prog 8 #[.slice A P.length c, .int .i64 (n : Int)] w' fun e w'' => ∃ A' c', e = .returned (.tuple #[.slice A' z.length c', .int .i64 0]) ∧ OwB w'' w'.heap.size A' c' z ∧ Fr (fun _ => False) w' w'') := Lib.hid (fun w' base A c ho => by
      have h := K.get A P.length c P (n : Int) w' ho.rd ho.cap.1 (by omega) (by omega) (by omega)
      rw [hgp2] at h
      exact h)
    have HGD : Hid (true ∈ L → ∀ w' base A c, Own w' base A c P → Calls Try.prog 8 #[.slice A P.length c, .int .i64 ((n : Int) - 1)] w' fun e w'' => ∃ A' c', e = .returned (.tuple #[.slice A' 0 c', .int .i64 4]) ∧ Fr (fun _ => False) w' w'') := Lib.hid (fun hs w' base A c ho => by
      have h := K.get A P.length c P ((n : Int) - 1) w' ho.rd ho.cap.1 (by omega) (by omega) (by omega)
      have hl := get_long L (by rw [HLN.out]; omega) hs
      rw [← hP, HLN.out] at hl
      rw [hl] at h
      refine h.mono ?_
      rintro e w'' ⟨A', c', rfl, _, hf⟩
      exact ⟨A', c', rfl, hf⟩)
    have HZ := Lib.hid hz
    have HPe := Lib.hid hP
    clear hz hgp hgp2 hP
    obtain ⟨p, hp⟩ : ∃ p, p = P.length := ⟨_, rfl⟩
    obtain ⟨m, hm⟩ : ∃ m, m = z.length := ⟨_, rfl⟩
    have HPL := Lib.hid hp
    have HML := Lib.hid hm
    rw [← hm] at HGC
    rw [← hp] at HGC HGD hPl
    have hmn : m ≤ n := by
      rw [hm, HZ.out]
      split
      · rw [HLN.out]; exact Nat.le_refl _
      · exact Nat.zero_le _
    clear hp hm
    go_enter Try.func3, Try.ntmps3
    go_wp2_with fail
    refine (awake13_any K w).mono ?_
    rintro e w2 ⟨rfl, hf2⟩
    have HF2 := Lib.hid hf2
    clear hf2
    go_wp2_with fail
    refine (HPC.out w2 HF2.out).mono ?_
    rintro e w3 ⟨A3, c3, rfl, hO3, hf3⟩
    rw [← HPL.out]
    have HO3 := Lib.hid hO3
    have HF3 := Lib.hid (HF2.out.trans hf3 (fun _ _ h => h))
    clear hO3 hf3
    go_wp2_with fail
    refine (HGC.out w3 _ A3 c3 HO3.out).mono ?_
    rintro e w4 ⟨A4, c4, rfl, hO4, hf4⟩
    have HX4 := Lib.hid hO4
    have HO4 := Lib.hid (HO3.out.fr hf4)
    have HF4 := Lib.hid (HF3.out.trans hf4 (fun _ _ h => h))
    clear hO4 hf4
    go_wp2_with fail
    go_loopw [6, 7] (fun s v wr => ∃ (j : Nat) (y : Bool), j ≤ n ∧ v = .int .i64 (j : Int) ∧ s = .bool y ∧ Hid (y = decide (true ∈ L.take j)) ∧ Hid (Fr (fun _ => False) w4 wr)) (fun _ v _ => n - (intOf v).toNat)
    case atStart => exact ⟨0, false, Nat.zero_le _, rfl, rfl, (by simp : false = decide (true ∈ L.take 0)), Fr.refl _ _⟩
    case round =>
      obtain ⟨j, y, hj, rfl, rfl, HY, HF⟩ := hrel
      rename World => wr
      by_cases hlt : j < n
      · obtain ⟨ad, v, rfl, hv, hcell⟩ := (HL.out.fr (HF4.out.trans HF.out (fun _ _ h => h)) (fun _ _ h => h)).at_ hlt
        obtain ⟨x, hx⟩ : ∃ x, L[j]? = some x := ⟨L[j]'(by have := HLN.out; omega), List.getElem?_eq_getElem _⟩
        obtain rfl : boc x = v := by simpa [hx] using hv
        unfold boc at hcell
        have hy2 := mem_step hx HY.out
        have HY2 := Lib.hid hy2
        clear hv hx hy2
        cases y with
        | true =>
          go_wp2_with fail
          exact ⟨⟨j + 1, true, by omega, by go_num, rfl, HY2.out, HF.out⟩, by simp [intOf]; omega⟩
        | false =>
          rw [Bool.false_or] at HY2
          go_wp2_with fail
          exact ⟨⟨j + 1, x, by omega, by go_num, rfl, HY2.out, HF.out⟩, by simp [intOf]; omega⟩
      · obtain rfl : j = n := by omega
        have hy := HY.out
        rw [List.take_of_length_le (by have := HLN.out; omega)] at hy
        have HY2 := Lib.hid hy
        have HF5 := Lib.hid (HF4.out.trans HF.out (fun _ _ h => h))
        have HO5 := Lib.hid (HO4.out.fr HF.out)
        have HX5 := Lib.hid (HX4.out.fr HF.out)
        clear hy
        cases y with
        | false =>
          have hno : ¬ true ∈ L := of_decide_eq_false HY2.out.symm
          have hm0 : m = 0 := by rw [HML.out, HZ.out, if_neg hno]; rfl
          have hp0 : p = 0 := by rw [HPL.out, HPe.out, putB, if_pos ((nums_some L).2 hno)]; rfl
          subst hm0
          subst hp0
          clear hno
          go_wp2_with fail
          go_ret
          exact ⟨rfl, HF5.out⟩
        | true =>
          have hyes : true ∈ L := of_decide_eq_true HY2.out.symm
          have hzL : z = L := by rw [HZ.out, if_pos hyes]
          have HYES := Lib.hid hyes
          have HZL := Lib.hid hzL
          have hj1 : 1 ≤ j := by have h1 := List.length_pos_of_mem hyes; have := HLN.out; omega
          have r1 : IntKind.i64.wrap ((j : Int) - 1) = (j : Int) - 1 := by rw [IntKind.wrap_i64]; omega
          have hmj : m = j := by rw [HML.out, hzL, HLN.out]
          clear hyes hzL
          go_wp2_with fail
          refine (HGD.out HYES.out wr _ A3 c3 HO5.out).mono ?_
          rintro e w6 ⟨A6, c6, rfl, hf6⟩
          have hs := rsameB_any A4 m c4 L A j c L w6 (by have h := (HX5.out.fr hf6).rd; rw [HZL.out, HLN.out] at h; rw [hmj]; exact h) (HL.out.fr (HF5.out.trans hf6 (fun _ _ h => h)) (fun _ _ h => h)) (by omega) (by omega)
          rw [decide_eq_true rfl] at hs
          have HS := Lib.hid hs
          have HF6 := Lib.hid (HF5.out.trans hf6 (fun _ _ h => h))
          have HMJ := Lib.hid hmj
          clear hf6 hs hmj
          go_wp2_with fail
          refine HS.out.mono ?_
          rintro e w7 ⟨rfl, hf7⟩
          have HF7 := Lib.hid (HF6.out.trans hf7 (fun _ _ h => h))
          clear hf7
          go_wp2_with fail
          go_ret
          exact ⟨rfl, HF7.out⟩
end Go.Proofs.Ythioijbifmfhlaa
