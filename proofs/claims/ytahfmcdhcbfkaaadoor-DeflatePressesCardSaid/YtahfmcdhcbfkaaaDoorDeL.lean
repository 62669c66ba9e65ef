/-
  The law DeflatePresses, out of the program's contracts (written by gen_laws9.py).
-/
import Derived.Test.YtahfmcdhcbfkaaaDoorZm08
import Derived.Test.YtahfmcdhcbfkaaaDoorZm47
import Derived.Test.YtahfmcdhcbfkaaaDoorZm07
import Derived.Deep.DeepCutAuto
import Derived.Deep.RegionHeld3
import Derived.StillTailTactics
namespace Go.Proofs.YtahfmcdhcbfkaaaDoor
open Go.RowKit BitsM Mem Go.Lib
attribute [local go_sem ↓] Go.wp_at_zero Go.wp_at_succ
set_option linter.unusedVariables false
set_option maxRecDepth 100000

set_option maxHeartbeats 6400000 in
theorem presses9_law {Gl : World → Prop} (K : DeflC Gl) (A : Option Addr) (n c : Nat) (B : List UInt8) (w : World) (hG : Gl w) (hr : Rd w A n (B.map bytec)) (hc : n ≤ c) (hcm : c ≤ maxLen) :
    Calls Tryd.prog 3 #[.slice A n c] w fun e w' => e = .returned (.bool true) ∧ Fr (fun _ => False) w w' := by
  have HAW := Lib.hid (awake9_any K)
  have HG := Lib.hid hG
  have HR := Lib.hid hr
  have HC := Lib.hid (And.intro hc hcm)
  have hbl : B.length = n := by simpa using hr.1
  have HBL := Lib.hid hbl
  clear hG hr hc hcm hbl
  by_cases hbig : 900 < n
  · have t : decide (900 < (n : Int)) = true := decide_eq_true (by omega)
    go_enter Tryd.func3, Tryd.ntmps3
    go_wp2_with fail
    refine (HAW.out w HG.out).mono ?_
    rintro e w2 ⟨rfl, hf2⟩
    have HF2 := Lib.hid hf2
    clear hf2
    go_wp2_with fail
    refine (HAW.out w2 (K.fr0 HG.out HF2.out)).mono ?_
    rintro e w3 ⟨rfl, hf3⟩
    have HF3 := Lib.hid (HF2.out.trans hf3 (fun _ _ h => h))
    clear hf3
    go_wp2_with fail
    go_ret
    exact ⟨rfl, HF3.out⟩
  have t : decide (900 < (n : Int)) = false := decide_eq_false (by omega)
  obtain ⟨P, hP⟩ : ∃ P, P = DeM.pressB B := ⟨_, rfl⟩
  obtain ⟨pl, hpl⟩ : ∃ p, p = P.length := ⟨_, rfl⟩
  go_enter Tryd.func3, Tryd.ntmps3
  go_wp2_with fail
  refine (HAW.out w HG.out).mono ?_
  rintro e w2 ⟨rfl, hf2⟩
  have HF2 := Lib.hid hf2
  have HR2 := Lib.hid (HR.out.fr hf2 (fun _ _ h => h))
  have HG2 := Lib.hid (K.fr0 HG.out hf2)
  clear hf2
  have HP : Hid (∀ w', Fr (fun _ => False) w2 w' → Calls Tryd.prog 8 #[.slice A n c] w' fun e w'' => ∃ A' c', e = .returned (.slice A' pl c') ∧ w''.ownsRow w'.heap.size 5 1 (.slice A' pl c') pl (P.map bytec) ∧ Fr (fun _ => False) w' w'') := Lib.hid (fun w' hf => by
    rw [hpl, hP]
    exact K.press A n c B w' (K.fr0 HG2.out hf) (HR2.out.fr hf (fun _ _ h => h)) HC.out.1 HC.out.2 (by omega))
  have HQ : Hid (∀ w', Fr (fun _ => False) w2 w' → Calls Tryd.prog 9 #[.slice A n c] w' fun e w'' => ∃ A' c', e = .returned (.slice A' pl c') ∧ w''.ownsRow w'.heap.size 5 1 (.slice A' pl c') pl (P.map bytec) ∧ Fr (fun _ => False) w' w'') := Lib.hid (fun w' hf => by
    rw [hpl, hP]
    exact rPress9_any A n c B w' (HR2.out.fr hf (fun _ _ h => h)) HC.out.1 HC.out.2 (by omega))
  clear hP hpl
  go_upto_region 3 with fail
  refine wp_region_held_drew (S := fun _ => True) (by kernel_rfl) ?_ (fun hHeld => ?_)
  · exact trivial
  refine wpAnyH_take (i := 0) (v := ?va0) rfl (by kernel_rfl) (by kernel_rfl) (by kernel_rfl) (fun _ _ _ h => h) (Or.inl ⟨by rfl, ?hya0⟩) hHeld ?resta0
  case hya0 => intro w hSw; (try dsimp only at hSw); go_simp; try (with_reducible rfl)
  (try simp only [Act.put, List.setIfInBounds_toArray, List.set_cons_zero, List.set_cons_succ, List.getElem_toArray, List.getElem_cons_zero])
  refine wpAnyH_take (i := 3) (v := ?va3) rfl (by kernel_rfl) (by kernel_rfl) (by kernel_rfl) (fun _ _ _ h => h) (Or.inl ⟨by rfl, ?hya3⟩) hHeld ?resta3
  case hya3 => intro w hSw; (try dsimp only at hSw); go_simp; try (with_reducible rfl)
  (try simp only [Act.put, List.setIfInBounds_toArray, List.set_cons_zero, List.set_cons_succ, List.getElem_toArray, List.getElem_cons_zero, List.getElem_cons_succ])
  refine wpAnyH_ready (rs := [1]) (by kernel_rfl) (by simp) ?_
  refine AllReadyH.cons rfl (fun Kx hKx => ?_) AllReadyH.nil
  go_simp
  refine (HP.out _ (Fr.refl _ _).drew).mono ?_
  rintro e v1 ⟨A1, c1, rfl, ho1, hf1⟩
  have HS1 : Hid ((convert 22 9 (.slice A1 pl c1)).run Tryd.prog v1 = .ok (.string (txt P)) v1) := Lib.hid (str_rd (Rd.of_own ho1) c1)
  have HO1 := Lib.hid (Rd.of_own ho1)
  have HV1 : Hid (Fr (fun _ => False) w2 v1) := Lib.hid ((Fr.refl _ _).drew.trans hf1 (fun _ _ h => h))
  clear ho1 hf1
  refine hKx.out _ _ ?_ (fun hHeld => ?_)
  · exact trivial
  clear hKx Kx
  (try simp only [Act.put, List.setIfInBounds_toArray, List.set_cons_zero, List.set_cons_succ, List.getElem_toArray, List.getElem_cons_zero, List.getElem_cons_succ])
  refine wpAnyH_more (fun w' => (convert 22 9 (.slice A1 pl c1)).run Tryd.prog w' = .ok (.string (txt P)) w') (fun _ h => trivial) ?_ (fun hHeld => ?_)
  · exact HS1.out
  refine wpAnyH_take (i := 2) (v := ?va2) rfl (by kernel_rfl) (by kernel_rfl) (by kernel_rfl) (fun _ _ _ h => h) (Or.inl ⟨by rfl, ?hya2⟩) hHeld ?resta2
  case hya2 => intro w hSw; (try dsimp only at hSw); go_simp; try (with_reducible rfl)
  (try simp only [Act.put, List.setIfInBounds_toArray, List.set_cons_zero, List.set_cons_succ, List.getElem_toArray, List.getElem_cons_zero, List.getElem_cons_succ])
  refine wpAnyH_ready (rs := [4]) (by kernel_rfl) (by simp) ?_
  refine AllReadyH.cons rfl (fun Kx hKx => ?_) AllReadyH.nil
  go_simp
  refine (HQ.out v1 HV1.out).mono ?_
  rintro e v2 ⟨A2, c2, rfl, ho2, hf2⟩
  have HS2 : Hid ((convert 22 9 (.slice A2 pl c2)).run Tryd.prog v2 = .ok (.string (txt P)) v2) := Lib.hid (str_rd (Rd.of_own ho2) c2)
  have HS12 : Hid ((convert 22 9 (.slice A1 pl c1)).run Tryd.prog v2 = .ok (.string (txt P)) v2) := Lib.hid (str_rd (HO1.out.fr hf2 (fun _ _ h => h)) c1)
  have HV2 : Hid (Fr (fun _ => False) w v2) := Lib.hid ((HF2.out.trans HV1.out (fun _ _ h => h)).trans hf2 (fun _ _ h => h))
  clear ho2 hf2
  refine hKx.out _ _ ?_ (fun hHeld => ?_)
  · exact HS12.out
  clear hKx Kx
  (try simp only [Act.put, List.setIfInBounds_toArray, List.set_cons_zero, List.set_cons_succ, List.getElem_toArray, List.getElem_cons_zero, List.getElem_cons_succ])
  refine wpAnyH_more (fun w' => (convert 22 9 (.slice A1 pl c1)).run Tryd.prog w' = .ok (.string (txt P)) w' ∧ (convert 22 9 (.slice A2 pl c2)).run Tryd.prog w' = .ok (.string (txt P)) w') (fun _ h => h.1) ?_ (fun hHeld => ?_)
  · exact ⟨HS12.out, HS2.out⟩
  refine wpAnyH_take (i := 5) (v := ?va5) rfl (by kernel_rfl) (by kernel_rfl) (by kernel_rfl) (fun _ _ _ h => h) (Or.inl ⟨by rfl, ?hya5⟩) hHeld ?resta5
  case hya5 => intro w hSw; (try dsimp only at hSw); go_simp; try (with_reducible rfl)
  (try simp only [Act.put, List.setIfInBounds_toArray, List.set_cons_zero, List.set_cons_succ, List.getElem_toArray, List.getElem_cons_zero, List.getElem_cons_succ])
  refine wpAnyH_take (i := 6) (v := ?va6) rfl (by kernel_rfl) (by kernel_rfl) (by kernel_rfl) (fun _ _ _ h => h) (Or.inl ⟨by rfl, ?hya6⟩) hHeld ?resta6
  case hya6 => intro w hSw; (try dsimp only at hSw); go_simp; try (with_reducible rfl)
  (try simp only [Act.put, List.setIfInBounds_toArray, List.set_cons_zero, List.set_cons_succ, List.getElem_toArray, List.getElem_cons_zero, List.getElem_cons_succ])
  refine wpAnyH_take (i := 7) (v := ?va7) rfl (by kernel_rfl) (by kernel_rfl) (by kernel_rfl) (fun _ _ _ h => h) (Or.inl ⟨by rfl, ?hya7⟩) hHeld ?resta7
  case hya7 => intro w hSw; (try dsimp only at hSw); go_simp; try (with_reducible rfl)
  (try simp only [Act.put, List.setIfInBounds_toArray, List.set_cons_zero, List.set_cons_succ, List.getElem_toArray, List.getElem_cons_zero, List.getElem_cons_succ])
  refine wpAnyH_done (by kernel_rfl) ?_ _
  go_wp2_with fail
  go_ret
  exact ⟨rfl, HV2.out⟩
end Go.Proofs.YtahfmcdhcbfkaaaDoor
