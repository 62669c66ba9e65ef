/-
  The law DeflateWays, out of the program's contracts (written by gen_laws9.py).
-/
import Derived.Test.YtahfmcdhcbfkaaaGreatDoorDeK
import Derived.Test.YtahfmcdhcbfkaaaGreatDoorZm10
import Derived.Test.YtahfmcdhcbfkaaaGreatDoorZm22
import Derived.Test.YtahfmcdhcbfkaaaGreatDoorZm04
import Derived.Deep.DeepCutAuto
import Derived.Deep.RegionHeld3
import Derived.StillTailTactics
namespace Go.Proofs.YtahfmcdhcbfkaaaGreatDoor
open Go.RowKit BitsM Mem Go.Lib
attribute [local go_sem ↓] Go.wp_at_zero Go.wp_at_succ
set_option linter.unusedVariables false
set_option maxRecDepth 100000

set_option maxHeartbeats 6400000 in
theorem ways9_law {Gl : World → Prop} (K : DeflC Gl) (A : Option Addr) (n c : Nat) (B : List UInt8) (w : World) (hG : Gl w) (hr : Rd w A n (B.map bytec)) (hc : n ≤ c) (hcm : c ≤ maxLen) :
    Calls Tryz.prog 3 #[.slice A n c] w fun e w' => e = .returned (.bool true) ∧ Fr (fun _ => False) w w' := by
  have HAW := Lib.hid (awake9_any K)
  have HG := Lib.hid hG
  have HR := Lib.hid hr
  have HC := Lib.hid (And.intro hc hcm)
  have hbl : B.length = n := by simpa using hr.1
  have HBL := Lib.hid hbl
  clear hG hr hc hcm hbl
  by_cases hbig : 900 < n
  · have t : decide (900 < (n : Int)) = true := decide_eq_true (by omega)
    go_enter Tryz.func3, Tryz.ntmps3
    go_wp2_with fail
    refine (HAW.out w HG.out).mono ?_
    rintro e w2 ⟨rfl, hf2⟩
    have HF2 := Lib.hid hf2
    clear hf2
    go_wp2_with fail
    refine (HAW.out w2 (K.fr0 HG.out HF2.out)).mono ?_
    rintro e w3 ⟨rfl, hf3⟩
    have HF3 := Lib.hid (HF2.out.trans hf3 (fun _ _ h => h))
    clear hf3
    go_wp2_with fail
    go_ret
    exact ⟨rfl, HF3.out⟩
  have t : decide (900 < (n : Int)) = false := decide_eq_false (by omega)
  obtain ⟨X, hX⟩ : ∃ X, X = DeM.fixedBits B := ⟨_, rfl⟩
  obtain ⟨Y, hY⟩ : ∃ X, X = DeM.dynBits B := ⟨_, rfl⟩
  obtain ⟨SB, hSB⟩ : ∃ X, X = DeM.storedB B := ⟨_, rfl⟩
  obtain ⟨PX, hPX⟩ : ∃ X', X' = pack X := ⟨_, rfl⟩
  obtain ⟨PY, hPY⟩ : ∃ X', X' = pack Y := ⟨_, rfl⟩
  obtain ⟨px, hpx⟩ : ∃ p, p = PX.length := ⟨_, rfl⟩
  obtain ⟨py, hpy⟩ : ∃ p, p = PY.length := ⟨_, rfl⟩
  obtain ⟨sl, hsl⟩ : ∃ p, p = SB.length := ⟨_, rfl⟩
  obtain ⟨nx, hnx⟩ : ∃ p, p = X.length := ⟨_, rfl⟩
  obtain ⟨ny, hny⟩ : ∃ p, p = Y.length := ⟨_, rfl⟩
  have hxb : nx ≤ 2000000 := by have h := fixed_len B; rw [← hX, ← hnx] at h; have := HBL.out; omega
  have hyb : ny ≤ 2000000 := by have h := dyn_len B; rw [← hY, ← hny] at h; have := HBL.out; omega
  go_enter Tryz.func3, Tryz.ntmps3
  go_wp2_with fail
  refine (HAW.out w HG.out).mono ?_
  rintro e w2 ⟨rfl, hf2⟩
  have HF2 := Lib.hid hf2
  have HR2 := Lib.hid (HR.out.fr hf2 (fun _ _ h => h))
  have HG2 := Lib.hid (K.fr0 HG.out hf2)
  clear hf2
  have HFI : Hid (∀ w', Fr (fun _ => False) w2 w' → Calls Tryz.prog 5 #[.slice A n c] w' fun e w'' => ∃ A' c', e = .returned (.tuple #[.slice A' px c', .int .i64 (nx : Int)]) ∧ w''.ownsRow w'.heap.size 5 1 (.slice A' px c') px (PX.map bytec) ∧ Fr (fun _ => False) w' w'') := Lib.hid (fun w' hf => by
    rw [hpx, hnx, hPX, hX]
    exact K.fixed A n c B w' (K.fr0 HG2.out hf) (HR2.out.fr hf (fun _ _ h => h)) HC.out.1 HC.out.2 (by omega))
  have HDY : Hid (∀ w', Fr (fun _ => False) w2 w' → Calls Tryz.prog 6 #[.slice A n c] w' fun e w'' => ∃ A' c', e = .returned (.tuple #[.slice A' py c', .int .i64 (ny : Int)]) ∧ w''.ownsRow w'.heap.size 5 1 (.slice A' py c') py (PY.map bytec) ∧ Fr (fun _ => False) w' w'') := Lib.hid (fun w' hf => by
    rw [hpy, hny, hPY, hY]
    exact K.dynamic A n c B w' (K.fr0 HG2.out hf) (HR2.out.fr hf (fun _ _ h => h)) HC.out.1 HC.out.2 (by omega))
  have HRF : Hid (∀ w', Fr (fun _ => False) w2 w' → Calls Tryz.prog 7 #[.slice A n c] w' fun e w'' => ∃ A' c', e = .returned (.slice A' nx c') ∧ w''.ownsRow w'.heap.size 5 1 (.slice A' nx c') nx (X.map bitc) ∧ Fr (fun _ => False) w' w'') := Lib.hid (fun w' hf => by
    rw [hnx, hX]
    exact rFixed_any A n c B w' (HR2.out.fr hf (fun _ _ h => h)) (by omega))
  have HRD : Hid (∀ w', Fr (fun _ => False) w2 w' → Calls Tryz.prog 8 #[.slice A n c] w' fun e w'' => ∃ A' c', e = .returned (.slice A' ny c') ∧ w''.ownsRow w'.heap.size 5 1 (.slice A' ny c') ny (Y.map bitc) ∧ Fr (fun _ => False) w' w'') := Lib.hid (fun w' hf => by
    rw [hny, hY]
    exact rDynamic_any A n c B w' (HR2.out.fr hf (fun _ _ h => h)) (by omega))
  have HST0 : Hid (∀ w', Fr (fun _ => False) w2 w' → Calls Tryz.prog 9 #[.slice A n c] w' fun e w'' => ∃ A' c', e = .returned (.slice A' sl c') ∧ w''.ownsRow w'.heap.size 5 1 (.slice A' sl c') sl (SB.map bytec) ∧ Fr (fun _ => False) w' w'') := Lib.hid (fun w' hf => by
    rw [hsl, hSB]
    exact K.stored A n c B w' (K.fr0 HG2.out hf) (HR2.out.fr hf (fun _ _ h => h)) HC.out.1 HC.out.2 (by omega))
  have HRS0 : Hid (∀ w', Fr (fun _ => False) w2 w' → Calls Tryz.prog 10 #[.slice A n c] w' fun e w'' => ∃ A' c', e = .returned (.slice A' sl c') ∧ w''.ownsRow w'.heap.size 5 1 (.slice A' sl c') sl (SB.map bytec) ∧ Fr (fun _ => False) w' w'') := Lib.hid (fun w' hf => by
    rw [hsl, hSB]
    exact rStored_any A n c B w' (HR2.out.fr hf (fun _ _ h => h)) HC.out.1 HC.out.2 (by omega))
  have HXN := Lib.hid (And.intro hnx hny)
  have HPN := Lib.hid (And.intro (And.intro hPX hpx) (And.intro hPY hpy))
  clear hX hY hSB hPX hPY hpx hpy hsl hnx hny
  go_wp2_with fail
  refine (HFI.out w2 (Fr.refl _ _)).mono ?_
  rintro e w3 ⟨Af, cf, rfl, hof, hf3⟩
  have HF3 := Lib.hid hf3
  have HOf := Lib.hid (Rd.of_own hof)
  clear hof hf3 HFI
  go_wp2_with fail
  refine (HDY.out w3 HF3.out).mono ?_
  rintro e w4 ⟨Ad, cd, rfl, hod, hf4⟩
  have HF4 := Lib.hid (HF3.out.trans hf4 (fun _ _ h => h))
  have HOf4 := Lib.hid (HOf.out.fr hf4 (fun _ _ h => h))
  have HOd := Lib.hid (Rd.of_own hod)
  clear hod hf4 HDY HOf
  go_wp2_with fail
  refine (HRF.out w4 HF4.out).mono ?_
  rintro e w5 ⟨Ax, cx, rfl, hox, hf5⟩
  have HF5 := Lib.hid (HF4.out.trans hf5 (fun _ _ h => h))
  have HOf5 := Lib.hid (HOf4.out.fr hf5 (fun _ _ h => h))
  have HOd5 := Lib.hid (HOd.out.fr hf5 (fun _ _ h => h))
  have HOx := Lib.hid (Rd.of_own hox)
  clear hox hf5 HRF HOf4 HOd
  go_wp2_with fail
  refine (HRD.out w5 HF5.out).mono ?_
  rintro e w6 ⟨Ay, cy, rfl, hoy, hf6⟩
  have HF6 := Lib.hid (HF5.out.trans hf6 (fun _ _ h => h))
  have HOAf := Lib.hid (HOf5.out.fr hf6 (fun _ _ h => h))
  have HOAd := Lib.hid (HOd5.out.fr hf6 (fun _ _ h => h))
  have HOx6 := Lib.hid (HOx.out.fr hf6 (fun _ _ h => h))
  have HOy6 := Lib.hid (Rd.of_own hoy)
  have HSAf : Hid ((convert 22 9 (.slice Af px cf)).run Tryz.prog w6.drew = .ok (.string (txt PX)) w6.drew) := Lib.hid (str_rd HOAf.out.drew cf)
  have HSAd : Hid ((convert 22 9 (.slice Ad py cd)).run Tryz.prog w6.drew = .ok (.string (txt PY)) w6.drew) := Lib.hid (str_rd HOAd.out.drew cd)
  have HST : Hid (∀ w', Fr (fun _ => False) w6 w' → Calls Tryz.prog 9 #[.slice A n c] w' fun e w'' => ∃ A' c', e = .returned (.slice A' sl c') ∧ w''.ownsRow w'.heap.size 5 1 (.slice A' sl c') sl (SB.map bytec) ∧ Fr (fun _ => False) w' w'') := Lib.hid (fun w' hf => HST0.out w' (HF6.out.trans hf (fun _ _ h => h)))
  have HRS : Hid (∀ w', Fr (fun _ => False) w6 w' → Calls Tryz.prog 10 #[.slice A n c] w' fun e w'' => ∃ A' c', e = .returned (.slice A' sl c') ∧ w''.ownsRow w'.heap.size 5 1 (.slice A' sl c') sl (SB.map bytec) ∧ Fr (fun _ => False) w' w'') := Lib.hid (fun w' hf => HRS0.out w' (HF6.out.trans hf (fun _ _ h => h)))
  have HBX : Hid (∀ w', Fr (fun _ => False) w6 w' → Calls Tryz.prog 11 #[.slice Ax nx cx] w' fun e w'' => ∃ A' c', e = .returned (.slice A' px c') ∧ w''.ownsRow w'.heap.size 5 1 (.slice A' px c') px (PX.map bytec) ∧ Fr (fun _ => False) w' w'') := Lib.hid (fun w' hf => by
    rw [HPN.out.1.2, HPN.out.1.1]
    exact bytes_any Ax nx cx X w' (HOx6.out.fr hf (fun _ _ h => h)) (by omega))
  have HBY : Hid (∀ w', Fr (fun _ => False) w6 w' → Calls Tryz.prog 11 #[.slice Ay ny cy] w' fun e w'' => ∃ A' c', e = .returned (.slice A' py c') ∧ w''.ownsRow w'.heap.size 5 1 (.slice A' py c') py (PY.map bytec) ∧ Fr (fun _ => False) w' w'') := Lib.hid (fun w' hf => by
    rw [HPN.out.2.2, HPN.out.2.1]
    exact bytes_any Ay ny cy Y w' (HOy6.out.fr hf (fun _ _ h => h)) (by omega))
  clear hoy hf6 HRD HOf5 HOd5 HOx HST0 HRS0
  go_upto_region 6 with fail
  refine wp_region_held_drew (S := fun w' => (convert 22 9 (.slice Af px cf)).run Tryz.prog w' = .ok (.string (txt PX)) w' ∧ (convert 22 9 (.slice Ad py cd)).run Tryz.prog w' = .ok (.string (txt PY)) w') (by kernel_rfl) ?_ (fun hHeld => ?_)
  · exact ⟨HSAf.out, HSAd.out⟩
  refine wpAnyH_take (i := 0) (v := ?vb0) rfl (by kernel_rfl) (by kernel_rfl) (by kernel_rfl) (fun _ _ _ h => h) (Or.inl ⟨by rfl, ?hyb0⟩) hHeld ?restb0
  case hyb0 => intro w hSw; (try dsimp only at hSw); go_simp; try (with_reducible rfl)
  (try simp only [Act.put, List.setIfInBounds_toArray, List.set_cons_zero, List.set_cons_succ, List.getElem_toArray, List.getElem_cons_zero])
  refine wpAnyH_take (i := 3) (v := ?vb3) rfl (by kernel_rfl) (by kernel_rfl) (by kernel_rfl) (fun _ _ _ h => h) (Or.inl ⟨by rfl, ?hyb3⟩) hHeld ?restb3
  case hyb3 => intro w hSw; (try dsimp only at hSw); go_simp; try (with_reducible rfl)
  (try simp only [Act.put, List.setIfInBounds_toArray, List.set_cons_zero, List.set_cons_succ, List.getElem_toArray, List.getElem_cons_zero, List.getElem_cons_succ])
  refine wpAnyH_ready (rs := [1]) (by kernel_rfl) (by simp) ?_
  refine AllReadyH.cons rfl (fun Kx hKx => ?_) AllReadyH.nil
  go_simp
  refine (HST.out _ (Fr.refl _ _).drew).mono ?_
  rintro e v1 ⟨A1, c1, rfl, ho1, hf1⟩
  have HOA1 := Lib.hid (Rd.of_own ho1)
  have HV1 : Hid (Fr (fun _ => False) w6 v1) := Lib.hid ((Fr.refl _ _).drew.trans hf1 (fun _ _ h => h))
  have HSAf_1 : Hid ((convert 22 9 (.slice Af px cf)).run Tryz.prog v1 = .ok (.string (txt PX)) v1) := Lib.hid (str_rd (HOAf.out.fr HV1.out (fun _ _ h => h)) cf)
  have HSAd_1 : Hid ((convert 22 9 (.slice Ad py cd)).run Tryz.prog v1 = .ok (.string (txt PY)) v1) := Lib.hid (str_rd (HOAd.out.fr HV1.out (fun _ _ h => h)) cd)
  have HSA1_1 : Hid ((convert 22 9 (.slice A1 sl c1)).run Tryz.prog v1 = .ok (.string (txt SB)) v1) := Lib.hid (str_rd HOA1.out c1)
  clear ho1 hf1
  refine hKx.out _ _ ?_ (fun hHeld => ?_)
  · exact ⟨HSAf_1.out, HSAd_1.out⟩
  clear hKx Kx
  (try simp only [Act.put, List.setIfInBounds_toArray, List.set_cons_zero, List.set_cons_succ, List.getElem_toArray, List.getElem_cons_zero, List.getElem_cons_succ])
  refine wpAnyH_more (fun w' => (convert 22 9 (.slice Af px cf)).run Tryz.prog w' = .ok (.string (txt PX)) w' ∧ (convert 22 9 (.slice Ad py cd)).run Tryz.prog w' = .ok (.string (txt PY)) w' ∧ (convert 22 9 (.slice A1 sl c1)).run Tryz.prog w' = .ok (.string (txt SB)) w') (fun _ h => ⟨h.1, h.2.1⟩) ?_ (fun hHeld => ?_)
  · exact ⟨HSAf_1.out, HSAd_1.out, HSA1_1.out⟩
  refine wpAnyH_take (i := 2) (v := ?vb2) rfl (by kernel_rfl) (by kernel_rfl) (by kernel_rfl) (fun _ _ _ h => h) (Or.inl ⟨by rfl, ?hyb2⟩) hHeld ?restb2
  case hyb2 => intro w hSw; (try dsimp only at hSw); go_simp; try (with_reducible rfl)
  (try simp only [Act.put, List.setIfInBounds_toArray, List.set_cons_zero, List.set_cons_succ, List.getElem_toArray, List.getElem_cons_zero, List.getElem_cons_succ])
  refine wpAnyH_ready (rs := [4]) (by kernel_rfl) (by simp) ?_
  refine AllReadyH.cons rfl (fun Kx hKx => ?_) AllReadyH.nil
  go_simp
  refine (HRS.out _ HV1.out).mono ?_
  rintro e v2 ⟨A2, c2, rfl, ho2, hf2⟩
  have HOA2 := Lib.hid (Rd.of_own ho2)
  have HV2 : Hid (Fr (fun _ => False) w6 v2) := Lib.hid (HV1.out.trans hf2 (fun _ _ h => h))
  have HSAf_2 : Hid ((convert 22 9 (.slice Af px cf)).run Tryz.prog v2 = .ok (.string (txt PX)) v2) := Lib.hid (str_rd (HOAf.out.fr HV2.out (fun _ _ h => h)) cf)
  have HSAd_2 : Hid ((convert 22 9 (.slice Ad py cd)).run Tryz.prog v2 = .ok (.string (txt PY)) v2) := Lib.hid (str_rd (HOAd.out.fr HV2.out (fun _ _ h => h)) cd)
  have HOA1_2 := Lib.hid (HOA1.out.fr hf2 (fun _ _ h => h))
  have HSA1_2 : Hid ((convert 22 9 (.slice A1 sl c1)).run Tryz.prog v2 = .ok (.string (txt SB)) v2) := Lib.hid (str_rd (HOA1_2.out) c1)
  have HSA2_2 : Hid ((convert 22 9 (.slice A2 sl c2)).run Tryz.prog v2 = .ok (.string (txt SB)) v2) := Lib.hid (str_rd HOA2.out c2)
  clear ho2 hf2
  refine hKx.out _ _ ?_ (fun hHeld => ?_)
  · exact ⟨HSAf_2.out, HSAd_2.out, HSA1_2.out⟩
  clear hKx Kx
  (try simp only [Act.put, List.setIfInBounds_toArray, List.set_cons_zero, List.set_cons_succ, List.getElem_toArray, List.getElem_cons_zero, List.getElem_cons_succ])
  refine wpAnyH_more (fun w' => (convert 22 9 (.slice Af px cf)).run Tryz.prog w' = .ok (.string (txt PX)) w' ∧ (convert 22 9 (.slice Ad py cd)).run Tryz.prog w' = .ok (.string (txt PY)) w' ∧ (convert 22 9 (.slice A1 sl c1)).run Tryz.prog w' = .ok (.string (txt SB)) w' ∧ (convert 22 9 (.slice A2 sl c2)).run Tryz.prog w' = .ok (.string (txt SB)) w') (fun _ h => ⟨h.1, h.2.1, h.2.2.1⟩) ?_ (fun hHeld => ?_)
  · exact ⟨HSAf_2.out, HSAd_2.out, HSA1_2.out, HSA2_2.out⟩
  refine wpAnyH_take (i := 5) (v := ?vb5) rfl (by kernel_rfl) (by kernel_rfl) (by kernel_rfl) (fun _ _ _ h => h) (Or.inl ⟨by rfl, ?hyb5⟩) hHeld ?restb5
  case hyb5 => intro w hSw; (try dsimp only at hSw); go_simp; try (with_reducible rfl)
  (try simp only [Act.put, List.setIfInBounds_toArray, List.set_cons_zero, List.set_cons_succ, List.getElem_toArray, List.getElem_cons_zero, List.getElem_cons_succ])
  refine wpAnyH_take (i := 6) (v := ?vb6) rfl (by kernel_rfl) (by kernel_rfl) (by kernel_rfl) (fun _ _ _ h => h) (Or.inl ⟨by rfl, ?hyb6⟩) hHeld ?restb6
  case hyb6 => intro w hSw; (try dsimp only at hSw); go_simp; try (with_reducible rfl)
  (try simp only [Act.put, List.setIfInBounds_toArray, List.set_cons_zero, List.set_cons_succ, List.getElem_toArray, List.getElem_cons_zero, List.getElem_cons_succ])
  refine wpAnyH_take (i := 7) (v := ?vb7) rfl (by kernel_rfl) (by kernel_rfl) (by kernel_rfl) (fun _ _ _ h => h) (Or.inl ⟨by rfl, ?hyb7⟩) hHeld ?restb7
  case hyb7 => intro w hSw; (try dsimp only at hSw); go_simp; try (with_reducible rfl)
  (try simp only [Act.put, List.setIfInBounds_toArray, List.set_cons_zero, List.set_cons_succ, List.getElem_toArray, List.getElem_cons_zero, List.getElem_cons_succ])
  refine wpAnyH_take (i := 8) (v := ?vb8) rfl (by kernel_rfl) (by kernel_rfl) (by kernel_rfl) (fun _ _ _ h => h) (Or.inl ⟨by rfl, ?hyb8⟩) hHeld ?restb8
  case hyb8 => intro w hSw; (try dsimp only at hSw); go_simp; try (with_reducible rfl)
  (try simp only [Act.put, List.setIfInBounds_toArray, List.set_cons_zero, List.set_cons_succ, List.getElem_toArray, List.getElem_cons_zero, List.getElem_cons_succ])
  refine wpAnyH_take (i := 9) (v := ?vb9) rfl (by kernel_rfl) (by kernel_rfl) (by kernel_rfl) (fun _ _ _ h => h) (Or.inl ⟨by rfl, ?hyb9⟩) hHeld ?restb9
  case hyb9 => intro w hSw; (try dsimp only at hSw); go_simp; try (with_reducible rfl)
  (try simp only [Act.put, List.setIfInBounds_toArray, List.set_cons_zero, List.set_cons_succ, List.getElem_toArray, List.getElem_cons_zero, List.getElem_cons_succ])
  refine wpAnyH_take (i := 10) (v := ?vb10) rfl (by kernel_rfl) (by kernel_rfl) (by kernel_rfl) (fun _ _ _ h => h) (Or.inl ⟨by rfl, ?hyb10⟩) hHeld ?restb10
  case hyb10 => intro w hSw; (try dsimp only at hSw); go_simp; try (with_reducible rfl)
  (try simp only [Act.put, List.setIfInBounds_toArray, List.set_cons_zero, List.set_cons_succ, List.getElem_toArray, List.getElem_cons_zero, List.getElem_cons_succ])
  refine wpAnyH_take (i := 11) (v := ?vb11) rfl (by kernel_rfl) (by kernel_rfl) (by kernel_rfl) (fun _ _ _ h => h) (Or.inl ⟨by rfl, ?hyb11⟩) hHeld ?restb11
  case hyb11 => intro w hSw; (try dsimp only at hSw); go_simp; try (with_reducible rfl)
  (try simp only [Act.put, List.setIfInBounds_toArray, List.set_cons_zero, List.set_cons_succ, List.getElem_toArray, List.getElem_cons_zero, List.getElem_cons_succ])
  refine wpAnyH_take (i := 12) (v := ?vb12) rfl (by kernel_rfl) (by kernel_rfl) (by kernel_rfl) (fun _ _ _ h => h) (Or.inl ⟨by rfl, ?hyb12⟩) hHeld ?restb12
  case hyb12 => intro w hSw; (try dsimp only at hSw); go_simp; try (with_reducible rfl)
  (try simp only [Act.put, List.setIfInBounds_toArray, List.set_cons_zero, List.set_cons_succ, List.getElem_toArray, List.getElem_cons_zero, List.getElem_cons_succ])
  refine wpAnyH_take (i := 13) (v := ?vb13) rfl (by kernel_rfl) (by kernel_rfl) (by kernel_rfl) (fun _ _ _ h => h) (Or.inl ⟨by rfl, ?hyb13⟩) hHeld ?restb13
  case hyb13 => intro w hSw; (try dsimp only at hSw); go_simp; try (with_reducible rfl)
  (try simp only [Act.put, List.setIfInBounds_toArray, List.set_cons_zero, List.set_cons_succ, List.getElem_toArray, List.getElem_cons_zero, List.getElem_cons_succ])
  refine wpAnyH_take (i := 14) (v := ?vb14) rfl (by kernel_rfl) (by kernel_rfl) (by kernel_rfl) (fun _ _ _ h => h) (Or.inl ⟨by rfl, ?hyb14⟩) hHeld ?restb14
  case hyb14 => intro w hSw; (try dsimp only at hSw); go_simp; try (with_reducible rfl)
  (try simp only [Act.put, List.setIfInBounds_toArray, List.set_cons_zero, List.set_cons_succ, List.getElem_toArray, List.getElem_cons_zero, List.getElem_cons_succ])
  refine wpAnyH_take (i := 15) (v := ?vb15) rfl (by kernel_rfl) (by kernel_rfl) (by kernel_rfl) (fun _ _ _ h => h) (Or.inl ⟨by rfl, ?hyb15⟩) hHeld ?restb15
  case hyb15 => intro w hSw; (try dsimp only at hSw); go_simp; try (with_reducible rfl)
  (try simp only [Act.put, List.setIfInBounds_toArray, List.set_cons_zero, List.set_cons_succ, List.getElem_toArray, List.getElem_cons_zero, List.getElem_cons_succ])
  refine wpAnyH_take (i := 16) (v := ?vb16) rfl (by kernel_rfl) (by kernel_rfl) (by kernel_rfl) (fun _ _ _ h => h) (Or.inl ⟨by rfl, ?hyb16⟩) hHeld ?restb16
  case hyb16 => intro w hSw; (try dsimp only at hSw); go_simp; try (with_reducible rfl)
  (try simp only [Act.put, List.setIfInBounds_toArray, List.set_cons_zero, List.set_cons_succ, List.getElem_toArray, List.getElem_cons_zero, List.getElem_cons_succ])
  refine wpAnyH_ready (rs := [17]) (by kernel_rfl) (by simp) ?_
  refine AllReadyH.cons rfl (fun Kx hKx => ?_) AllReadyH.nil
  go_simp
  refine (HBX.out _ HV2.out).mono ?_
  rintro e v3 ⟨A3, c3, rfl, ho3, hf3⟩
  have HOA3 := Lib.hid (Rd.of_own ho3)
  have HV3 : Hid (Fr (fun _ => False) w6 v3) := Lib.hid (HV2.out.trans hf3 (fun _ _ h => h))
  have HSAf_3 : Hid ((convert 22 9 (.slice Af px cf)).run Tryz.prog v3 = .ok (.string (txt PX)) v3) := Lib.hid (str_rd (HOAf.out.fr HV3.out (fun _ _ h => h)) cf)
  have HSAd_3 : Hid ((convert 22 9 (.slice Ad py cd)).run Tryz.prog v3 = .ok (.string (txt PY)) v3) := Lib.hid (str_rd (HOAd.out.fr HV3.out (fun _ _ h => h)) cd)
  have HOA1_3 := Lib.hid (HOA1_2.out.fr hf3 (fun _ _ h => h))
  have HSA1_3 : Hid ((convert 22 9 (.slice A1 sl c1)).run Tryz.prog v3 = .ok (.string (txt SB)) v3) := Lib.hid (str_rd (HOA1_3.out) c1)
  have HOA2_3 := Lib.hid (HOA2.out.fr hf3 (fun _ _ h => h))
  have HSA2_3 : Hid ((convert 22 9 (.slice A2 sl c2)).run Tryz.prog v3 = .ok (.string (txt SB)) v3) := Lib.hid (str_rd (HOA2_3.out) c2)
  have HSA3_3 : Hid ((convert 22 9 (.slice A3 px c3)).run Tryz.prog v3 = .ok (.string (txt PX)) v3) := Lib.hid (str_rd HOA3.out c3)
  clear ho3 hf3
  refine hKx.out _ _ ?_ (fun hHeld => ?_)
  · exact ⟨HSAf_3.out, HSAd_3.out, HSA1_3.out, HSA2_3.out⟩
  clear hKx Kx
  (try simp only [Act.put, List.setIfInBounds_toArray, List.set_cons_zero, List.set_cons_succ, List.getElem_toArray, List.getElem_cons_zero, List.getElem_cons_succ])
  refine wpAnyH_more (fun w' => (convert 22 9 (.slice Af px cf)).run Tryz.prog w' = .ok (.string (txt PX)) w' ∧ (convert 22 9 (.slice Ad py cd)).run Tryz.prog w' = .ok (.string (txt PY)) w' ∧ (convert 22 9 (.slice A1 sl c1)).run Tryz.prog w' = .ok (.string (txt SB)) w' ∧ (convert 22 9 (.slice A2 sl c2)).run Tryz.prog w' = .ok (.string (txt SB)) w' ∧ (convert 22 9 (.slice A3 px c3)).run Tryz.prog w' = .ok (.string (txt PX)) w') (fun _ h => ⟨h.1, h.2.1, h.2.2.1, h.2.2.2.1⟩) ?_ (fun hHeld => ?_)
  · exact ⟨HSAf_3.out, HSAd_3.out, HSA1_3.out, HSA2_3.out, HSA3_3.out⟩
  refine wpAnyH_take (i := 18) (v := ?vb18) rfl (by kernel_rfl) (by kernel_rfl) (by kernel_rfl) (fun _ _ _ h => h) (Or.inl ⟨by rfl, ?hyb18⟩) hHeld ?restb18
  case hyb18 => intro w hSw; (try dsimp only at hSw); go_simp; try (with_reducible rfl)
  (try simp only [Act.put, List.setIfInBounds_toArray, List.set_cons_zero, List.set_cons_succ, List.getElem_toArray, List.getElem_cons_zero, List.getElem_cons_succ])
  refine wpAnyH_take (i := 19) (v := ?vb19) rfl (by kernel_rfl) (by kernel_rfl) (by kernel_rfl) (fun _ _ _ h => h) (Or.inl ⟨by rfl, ?hyb19⟩) hHeld ?restb19
  case hyb19 => intro w hSw; (try dsimp only at hSw); go_simp; try (with_reducible rfl)
  (try simp only [Act.put, List.setIfInBounds_toArray, List.set_cons_zero, List.set_cons_succ, List.getElem_toArray, List.getElem_cons_zero, List.getElem_cons_succ])
  refine wpAnyH_take (i := 20) (v := ?vb20) rfl (by kernel_rfl) (by kernel_rfl) (by kernel_rfl) (fun _ _ _ h => h) (Or.inl ⟨by rfl, ?hyb20⟩) hHeld ?restb20
  case hyb20 => intro w hSw; (try dsimp only at hSw); go_simp; try (with_reducible rfl)
  (try simp only [Act.put, List.setIfInBounds_toArray, List.set_cons_zero, List.set_cons_succ, List.getElem_toArray, List.getElem_cons_zero, List.getElem_cons_succ])
  refine wpAnyH_take (i := 21) (v := ?vb21) rfl (by kernel_rfl) (by kernel_rfl) (by kernel_rfl) (fun _ _ _ h => h) (Or.inl ⟨by rfl, ?hyb21⟩) hHeld ?restb21
  case hyb21 => intro w hSw; (try dsimp only at hSw); go_simp; try (with_reducible rfl)
  (try simp only [Act.put, List.setIfInBounds_toArray, List.set_cons_zero, List.set_cons_succ, List.getElem_toArray, List.getElem_cons_zero, List.getElem_cons_succ])
  refine wpAnyH_take (i := 22) (v := ?vb22) rfl (by kernel_rfl) (by kernel_rfl) (by kernel_rfl) (fun _ _ _ h => h) (Or.inl ⟨by rfl, ?hyb22⟩) hHeld ?restb22
  case hyb22 => intro w hSw; (try dsimp only at hSw); go_simp; try (with_reducible rfl)
  (try simp only [Act.put, List.setIfInBounds_toArray, List.set_cons_zero, List.set_cons_succ, List.getElem_toArray, List.getElem_cons_zero, List.getElem_cons_succ])
  refine wpAnyH_take (i := 23) (v := ?vb23) rfl (by kernel_rfl) (by kernel_rfl) (by kernel_rfl) (fun _ _ _ h => h) (Or.inl ⟨by rfl, ?hyb23⟩) hHeld ?restb23
  case hyb23 => intro w hSw; (try dsimp only at hSw); go_simp; try (with_reducible rfl)
  (try simp only [Act.put, List.setIfInBounds_toArray, List.set_cons_zero, List.set_cons_succ, List.getElem_toArray, List.getElem_cons_zero, List.getElem_cons_succ])
  refine wpAnyH_take (i := 24) (v := ?vb24) rfl (by kernel_rfl) (by kernel_rfl) (by kernel_rfl) (fun _ _ _ h => h) (Or.inl ⟨by rfl, ?hyb24⟩) hHeld ?restb24
  case hyb24 => intro w hSw; (try dsimp only at hSw); go_simp; try (with_reducible rfl)
  (try simp only [Act.put, List.setIfInBounds_toArray, List.set_cons_zero, List.set_cons_succ, List.getElem_toArray, List.getElem_cons_zero, List.getElem_cons_succ])
  refine wpAnyH_take (i := 25) (v := ?vb25) rfl (by kernel_rfl) (by kernel_rfl) (by kernel_rfl) (fun _ _ _ h => h) (Or.inl ⟨by rfl, ?hyb25⟩) hHeld ?restb25
  case hyb25 => intro w hSw; (try dsimp only at hSw); go_simp; try (with_reducible rfl)
  (try simp only [Act.put, List.setIfInBounds_toArray, List.set_cons_zero, List.set_cons_succ, List.getElem_toArray, List.getElem_cons_zero, List.getElem_cons_succ])
  refine wpAnyH_take (i := 26) (v := ?vb26) rfl (by kernel_rfl) (by kernel_rfl) (by kernel_rfl) (fun _ _ _ h => h) (Or.inl ⟨by rfl, ?hyb26⟩) hHeld ?restb26
  case hyb26 => intro w hSw; (try dsimp only at hSw); go_simp; try (with_reducible rfl)
  (try simp only [Act.put, List.setIfInBounds_toArray, List.set_cons_zero, List.set_cons_succ, List.getElem_toArray, List.getElem_cons_zero, List.getElem_cons_succ])
  refine wpAnyH_take (i := 27) (v := ?vb27) rfl (by kernel_rfl) (by kernel_rfl) (by kernel_rfl) (fun _ _ _ h => h) (Or.inl ⟨by rfl, ?hyb27⟩) hHeld ?restb27
  case hyb27 => intro w hSw; (try dsimp only at hSw); go_simp; try (with_reducible rfl)
  (try simp only [Act.put, List.setIfInBounds_toArray, List.set_cons_zero, List.set_cons_succ, List.getElem_toArray, List.getElem_cons_zero, List.getElem_cons_succ])
  refine wpAnyH_take (i := 28) (v := ?vb28) rfl (by kernel_rfl) (by kernel_rfl) (by kernel_rfl) (fun _ _ _ h => h) (Or.inl ⟨by rfl, ?hyb28⟩) hHeld ?restb28
  case hyb28 => intro w hSw; (try dsimp only at hSw); go_simp; try (with_reducible rfl)
  (try simp only [Act.put, List.setIfInBounds_toArray, List.set_cons_zero, List.set_cons_succ, List.getElem_toArray, List.getElem_cons_zero, List.getElem_cons_succ])
  refine wpAnyH_take (i := 29) (v := ?vb29) rfl (by kernel_rfl) (by kernel_rfl) (by kernel_rfl) (fun _ _ _ h => h) (Or.inl ⟨by rfl, ?hyb29⟩) hHeld ?restb29
  case hyb29 => intro w hSw; (try dsimp only at hSw); go_simp; try (with_reducible rfl)
  (try simp only [Act.put, List.setIfInBounds_toArray, List.set_cons_zero, List.set_cons_succ, List.getElem_toArray, List.getElem_cons_zero, List.getElem_cons_succ])
  refine wpAnyH_take (i := 30) (v := ?vb30) rfl (by kernel_rfl) (by kernel_rfl) (by kernel_rfl) (fun _ _ _ h => h) (Or.inl ⟨by rfl, ?hyb30⟩) hHeld ?restb30
  case hyb30 => intro w hSw; (try dsimp only at hSw); go_simp; try (with_reducible rfl)
  (try simp only [Act.put, List.setIfInBounds_toArray, List.set_cons_zero, List.set_cons_succ, List.getElem_toArray, List.getElem_cons_zero, List.getElem_cons_succ])
  refine wpAnyH_ready (rs := [31]) (by kernel_rfl) (by simp) ?_
  refine AllReadyH.cons rfl (fun Kx hKx => ?_) AllReadyH.nil
  go_simp
  refine (HBY.out _ HV3.out).mono ?_
  rintro e v4 ⟨A4, c4, rfl, ho4, hf4⟩
  have HOA4 := Lib.hid (Rd.of_own ho4)
  have HV4 : Hid (Fr (fun _ => False) w6 v4) := Lib.hid (HV3.out.trans hf4 (fun _ _ h => h))
  have HSAf_4 : Hid ((convert 22 9 (.slice Af px cf)).run Tryz.prog v4 = .ok (.string (txt PX)) v4) := Lib.hid (str_rd (HOAf.out.fr HV4.out (fun _ _ h => h)) cf)
  have HSAd_4 : Hid ((convert 22 9 (.slice Ad py cd)).run Tryz.prog v4 = .ok (.string (txt PY)) v4) := Lib.hid (str_rd (HOAd.out.fr HV4.out (fun _ _ h => h)) cd)
  have HOA1_4 := Lib.hid (HOA1_3.out.fr hf4 (fun _ _ h => h))
  have HSA1_4 : Hid ((convert 22 9 (.slice A1 sl c1)).run Tryz.prog v4 = .ok (.string (txt SB)) v4) := Lib.hid (str_rd (HOA1_4.out) c1)
  have HOA2_4 := Lib.hid (HOA2_3.out.fr hf4 (fun _ _ h => h))
  have HSA2_4 : Hid ((convert 22 9 (.slice A2 sl c2)).run Tryz.prog v4 = .ok (.string (txt SB)) v4) := Lib.hid (str_rd (HOA2_4.out) c2)
  have HOA3_4 := Lib.hid (HOA3.out.fr hf4 (fun _ _ h => h))
  have HSA3_4 : Hid ((convert 22 9 (.slice A3 px c3)).run Tryz.prog v4 = .ok (.string (txt PX)) v4) := Lib.hid (str_rd (HOA3_4.out) c3)
  have HSA4_4 : Hid ((convert 22 9 (.slice A4 py c4)).run Tryz.prog v4 = .ok (.string (txt PY)) v4) := Lib.hid (str_rd HOA4.out c4)
  clear ho4 hf4
  refine hKx.out _ _ ?_ (fun hHeld => ?_)
  · exact ⟨HSAf_4.out, HSAd_4.out, HSA1_4.out, HSA2_4.out, HSA3_4.out⟩
  clear hKx Kx
  (try simp only [Act.put, List.setIfInBounds_toArray, List.set_cons_zero, List.set_cons_succ, List.getElem_toArray, List.getElem_cons_zero, List.getElem_cons_succ])
  refine wpAnyH_more (fun w' => (convert 22 9 (.slice Af px cf)).run Tryz.prog w' = .ok (.string (txt PX)) w' ∧ (convert 22 9 (.slice Ad py cd)).run Tryz.prog w' = .ok (.string (txt PY)) w' ∧ (convert 22 9 (.slice A1 sl c1)).run Tryz.prog w' = .ok (.string (txt SB)) w' ∧ (convert 22 9 (.slice A2 sl c2)).run Tryz.prog w' = .ok (.string (txt SB)) w' ∧ (convert 22 9 (.slice A3 px c3)).run Tryz.prog w' = .ok (.string (txt PX)) w' ∧ (convert 22 9 (.slice A4 py c4)).run Tryz.prog w' = .ok (.string (txt PY)) w') (fun _ h => ⟨h.1, h.2.1, h.2.2.1, h.2.2.2.1, h.2.2.2.2.1⟩) ?_ (fun hHeld => ?_)
  · exact ⟨HSAf_4.out, HSAd_4.out, HSA1_4.out, HSA2_4.out, HSA3_4.out, HSA4_4.out⟩
  refine wpAnyH_take (i := 32) (v := ?vb32) rfl (by kernel_rfl) (by kernel_rfl) (by kernel_rfl) (fun _ _ _ h => h) (Or.inl ⟨by rfl, ?hyb32⟩) hHeld ?restb32
  case hyb32 => intro w hSw; (try dsimp only at hSw); go_simp; try (with_reducible rfl)
  (try simp only [Act.put, List.setIfInBounds_toArray, List.set_cons_zero, List.set_cons_succ, List.getElem_toArray, List.getElem_cons_zero, List.getElem_cons_succ])
  refine wpAnyH_take (i := 33) (v := ?vb33) rfl (by kernel_rfl) (by kernel_rfl) (by kernel_rfl) (fun _ _ _ h => h) (Or.inl ⟨by rfl, ?hyb33⟩) hHeld ?restb33
  case hyb33 => intro w hSw; (try dsimp only at hSw); go_simp; try (with_reducible rfl)
  (try simp only [Act.put, List.setIfInBounds_toArray, List.set_cons_zero, List.set_cons_succ, List.getElem_toArray, List.getElem_cons_zero, List.getElem_cons_succ])
  refine wpAnyH_take (i := 34) (v := ?vb34) rfl (by kernel_rfl) (by kernel_rfl) (by kernel_rfl) (fun _ _ _ h => h) (Or.inl ⟨by rfl, ?hyb34⟩) hHeld ?restb34
  case hyb34 => intro w hSw; (try dsimp only at hSw); go_simp; try (with_reducible rfl)
  (try simp only [Act.put, List.setIfInBounds_toArray, List.set_cons_zero, List.set_cons_succ, List.getElem_toArray, List.getElem_cons_zero, List.getElem_cons_succ])
  refine wpAnyH_take (i := 35) (v := ?vb35) rfl (by kernel_rfl) (by kernel_rfl) (by kernel_rfl) (fun _ _ _ h => h) (Or.inl ⟨by rfl, ?hyb35⟩) hHeld ?restb35
  case hyb35 => intro w hSw; (try dsimp only at hSw); go_simp; try (with_reducible rfl)
  (try simp only [Act.put, List.setIfInBounds_toArray, List.set_cons_zero, List.set_cons_succ, List.getElem_toArray, List.getElem_cons_zero, List.getElem_cons_succ])
  refine wpAnyH_done (by kernel_rfl) ?_ _
  go_wp2_with fail
  go_ret
  exact ⟨rfl, HF2.out.trans (HF6.out.trans HV4.out (fun _ _ h => h)) (fun _ _ h => h)⟩
end Go.Proofs.YtahfmcdhcbfkaaaGreatDoor
