/-
  The law InflateCuts, out of the program's contracts.
-/
import Derived.Test.YtgpkiijmembggaaGreatDoorZm13
namespace Go.Proofs.YtgpkiijmembggaaGreatDoor
open Go.RowKit BitsM Mem Go.Lib
attribute [local go_sem ↓] Go.wp_at_zero Go.wp_at_succ
set_option linter.unusedVariables false
set_option maxRecDepth 100000

set_option maxHeartbeats 3200000 in
theorem cuts10_law {Gl : World → Prop} (K : InfC Gl) (A : Option Addr) (n c x : Nat) (B : List UInt8) (hx : x < 65536) (w : World) (hG : Gl w) (hr : Rd w A n (B.map bytec)) (hc : n ≤ c) (hcm : c ≤ maxLen) :
    Calls Tryz.prog 4 #[.slice A n c, .int .u16 (x : Int)] w fun e w' => e = .returned (.bool true) ∧ Fr (fun _ => False) w w' := by
  have HAW := Lib.hid (awake10_any K)
  have HG := Lib.hid hG
  have HR := Lib.hid hr
  have HC := Lib.hid (And.intro hc hcm)
  have hbl : B.length = n := by simpa using hr.1
  have HBL := Lib.hid hbl
  clear hG hr hc hcm hbl
  by_cases hbig : 1400 < n
  · have t : decide (1400 < (n : Int)) = true := decide_eq_true (by omega)
    go_enter Tryz.func4, Tryz.ntmps4
    go_wp2_with fail
    refine (HAW.out w HG.out).mono ?_
    rintro e w2 ⟨rfl, hf2⟩
    have HF2 := Lib.hid hf2
    clear hf2
    go_wp2_with fail
    refine (HAW.out w2 (K.d.fr0 HG.out HF2.out)).mono ?_
    rintro e w3 ⟨rfl, hf3⟩
    have HF3 := Lib.hid (HF2.out.trans hf3 (fun _ _ h => h))
    clear hf3
    go_wp2_with fail
    go_ret
    exact ⟨rfl, HF3.out⟩
  have t : decide (1400 < (n : Int)) = false := decide_eq_false (by omega)
  obtain ⟨P, hP⟩ : ∃ P, P = DeM.pressB B := ⟨_, rfl⟩
  have hp0 : 0 < P.length := by rw [hP]; exact press_pos B
  have hpm : P.length ≤ n + 5 := by rw [hP, ← HBL.out]; exact press_at_most B (by rw [HBL.out]; omega)
  have HW : Hid (P = DeM.storedB B ∨ P = pack (DeM.fixedBits B) ∨ P = pack (DeM.dynBits B)) := Lib.hid (by rw [hP]; exact press_way B)
  obtain ⟨pl, hpl⟩ : ∃ p, p = P.length := ⟨_, rfl⟩
  rw [← hpl] at hp0 hpm
  obtain ⟨k, hk⟩ : ∃ k, k = x % pl := ⟨_, rfl⟩
  have hkp : k < pl := by rw [hk]; exact Nat.mod_lt _ hp0
  have hq : ∀ w : World, (convert 32 3 (.int .u16 (x : Int))).run Tryz.prog w = .ok (.int .i64 (x : Int)) w := by
    intro w
    go_simp
    rw [IntKind.wrap_i64]
    omega
  have etm : (x : Int).tmod (pl : Int) = (k : Int) := by rw [Int.tmod_eq_emod_of_nonneg (by omega), hk]; omega
  have hpz : ¬ (pl : Int) = 0 := by omega
  have HPL := Lib.hid hpl
  obtain ⟨m, hm⟩ : ∃ m : Int, m = (n : Int) - 1 := ⟨_, rfl⟩
  have em : (n : Int) - 1 = m := hm.symm
  have em2 : IntKind.i64.wrap ((n : Int) - 1) = m := by rw [IntKind.wrap_i64]; omega
  -- what opens
  have hcut : ∃ e : Nat, e ≠ 0 ∧ InM.openP (P.take k) (n : Int) = .error e := by
    have h1 := InM.open_cut P B (by rw [HBL.out]; omega) HW.out k (by omega)
    have h2 := InM.open_not0 (P.take k) (n : Int)
    rw [HBL.out] at h1
    cases ho : InM.openP (P.take k) (n : Int) with
    | ok r => exact absurd ho (h1 r)
    | error e => exact ⟨e, fun h => by rw [h] at ho; exact h2 ho, rfl⟩
  obtain ⟨e1, he0, hcut⟩ := hcut
  have HCUT := Lib.hid hcut
  have he1 : ((e1 : Int) == 0) = false := by simp; omega
  have HLONG : Hid (0 < n → InM.openP P m = .error 4) := Lib.hid (fun h0 => by
    have h := InM.open_long P B (by rw [HBL.out]; exact h0) (by rw [HBL.out]; omega) HW.out
    rw [HBL.out, em] at h
    exact h)
  have HM : Hid (-1 ≤ m ∧ m ≤ 1400) := Lib.hid (by omega)
  have HPR : Hid (∀ w', Fr (fun _ => False) w w' → Calls Tryz.prog 11 #[.slice A n c] w' fun e w'' => ∃ A' c', e = .returned (.slice A' pl c') ∧ w''.ownsRow w'.heap.size 5 1 (.slice A' pl c') pl (P.map bytec) ∧ Fr (fun _ => False) w' w'') := Lib.hid (fun w' hf => by
    rw [hpl, hP]
    exact K.d.press A n c B w' (K.d.fr0 HG.out hf) (HR.out.fr hf (fun _ _ h => h)) HC.out.1 HC.out.2 (by omega))
  clear hP hpl hk hm hcut
  go_enter Tryz.func4, Tryz.ntmps4
  go_wp2_with fail
  refine (HAW.out w HG.out).mono ?_
  rintro e w2 ⟨rfl, hf2⟩
  have HF2 := Lib.hid hf2
  clear hf2
  go_wp2_with fail
  refine (HPR.out w2 HF2.out).mono ?_
  rintro e w3 ⟨A3, c3, rfl, ho3, hf3⟩
  have HF3 := Lib.hid (HF2.out.trans hf3 (fun _ _ h => h))
  have HO3 := Lib.hid (Rd.of_own ho3)
  have hcap := own_cap ho3
  have hs1 : ∀ w' : World, (Instr.sliceAt 22 (.slice A3 pl c3) none (some (.int .i64 (k : Int))) none).run Tryz.prog w' = .ok (.slice A3 k c3) w' := fun w' => run_toB A3 pl c3 k (by omega) hcap.2.1 _ rfl w'
  have HCAP := Lib.hid hcap.2
  have HO1 : Hid (Calls Tryz.prog 12 #[.slice A3 k c3, .int .i64 (n : Int)] w3 fun e w' => ∃ A c, e = .returned (.tuple #[.slice A 0 c, .int .i64 0, .int .i64 (e1 : Int)]) ∧ Fr (fun _ => False) w3 w') := Lib.hid (by
    have h := K.open_ A3 k c3 (n : Int) (P.take k) w3 (K.d.fr0 HG.out HF3.out) (by rw [List.map_take]; exact rd_take HO3.out (by omega)) (by have := HCAP.out.1; omega) HCAP.out.2 (by omega) (by omega) (by omega)
    rw [HCUT.out] at h
    exact h)
  clear ho3 hf3 hcap
  go_wp2_with fail
  refine HO1.out.mono ?_
  rintro e w4 ⟨A4, c4, rfl, hf4⟩
  have HF4 := Lib.hid (HF3.out.trans hf4 (fun _ _ h => h))
  have HO4 := Lib.hid (HO3.out.fr hf4 (fun _ _ h => h))
  clear hf4 HO1 hs1
  by_cases hn0 : n = 0
  · have tn : ((n : Int) == 0) = true := by simp; omega
    have HO2 : Hid (Calls Tryz.prog 12 #[.slice A3 pl c3, .int .i64 m] w4 fun e w' => ∃ (A : Option Addr) (m' c' n' k' : Nat), e = .returned (.tuple #[.slice A m' c', .int .i64 (n' : Int), .int .i64 (k' : Int)]) ∧ Fr (fun _ => False) w4 w') := Lib.hid
      ((K.open_ A3 pl c3 m P w4 (K.d.fr0 HG.out HF4.out) HO4.out HCAP.out.1 HCAP.out.2 (by omega) (by have := HM.out.1; omega) (by have := HM.out.2; omega)).mono fun e w' h => h.any)
    clear hn0
    go_wp2_with fail
    refine HO2.out.mono ?_
    rintro e w5 ⟨A5, m5, c5, n5, k5, rfl, hf5⟩
    have HF5 := Lib.hid (HF4.out.trans hf5 (fun _ _ h => h))
    clear hf5 HO2
    go_wp2_with fail
    go_ret
    exact ⟨rfl, HF5.out⟩
  · have tn : ((n : Int) == 0) = false := by simp; omega
    have HO2 : Hid (Calls Tryz.prog 12 #[.slice A3 pl c3, .int .i64 m] w4 fun e w' => ∃ A c, e = .returned (.tuple #[.slice A 0 c, .int .i64 0, .int .i64 4]) ∧ Fr (fun _ => False) w4 w') := Lib.hid (by
      have h := K.open_ A3 pl c3 m P w4 (K.d.fr0 HG.out HF4.out) HO4.out HCAP.out.1 HCAP.out.2 (by omega) (by have := HM.out.1; omega) (by have := HM.out.2; omega)
      rw [HLONG.out (by omega)] at h
      exact h)
    clear hn0
    go_wp2_with fail
    refine HO2.out.mono ?_
    rintro e w5 ⟨A5, c5, rfl, hf5⟩
    have HF5 := Lib.hid (HF4.out.trans hf5 (fun _ _ h => h))
    clear hf5 HO2
    go_wp2_with fail
    go_ret
    exact ⟨rfl, HF5.out⟩
end Go.Proofs.YtgpkiijmembggaaGreatDoor
