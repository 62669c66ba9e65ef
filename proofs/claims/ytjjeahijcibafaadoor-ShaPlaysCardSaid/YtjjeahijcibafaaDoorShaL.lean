/-
  The law ShaPlays, out of the program's contracts: the hash of any bytes is the reference's.
-/
import Derived.Test.YtjjeahijcibafaaDoorShaK
namespace Go.Proofs.YtjjeahijcibafaaDoor
open Go.RowKit ShaM Mem Go.Lib
attribute [local go_sem ↓] Go.wp_at_zero Go.wp_at_succ

set_option maxRecDepth 100000 in
set_option maxHeartbeats 800000 in
theorem plays_law (K : ShaP) (A : Option Addr) (n c : Nat) (B : List UInt8) (w : World) (hG : Gl w) (hr : Rd w A n (B.map bytec)) (hc : n ≤ c) :
    Calls Tryd.prog 3 #[.slice A n c] w fun e w' => e = .returned (.bool true) ∧ Fr (fun _ => False) w w' := by
  have HR := Lib.hid hr
  have HGL := Lib.hid hG
  clear hr hG
  by_cases hlong : 1500 < n
  · have t : decide (1500 < (n : Int)) = true := by simp; omega
    go_enter Tryd.func3, Tryd.ntmps3
    go_wp2_with fail
    refine (awake_any K _ HGL.out).mono ?_
    rintro e w1 ⟨rfl, hf1⟩
    go_wp2_with fail
    refine (awake_any K _ (HGL.out.fr0 hf1)).mono ?_
    rintro e w2 ⟨rfl, hf2⟩
    go_wp2
    go_ret
    exact ⟨rfl, hf1.trans hf2 (fun _ _ h => h)⟩
  · have t : decide (1500 < (n : Int)) = false := by simp; omega
    have hB : B.length = n := by simpa using HR.out.1
    have HB := Lib.hid hB
    obtain ⟨R, hR⟩ : ∃ R, R = hashV B := ⟨_, rfl⟩
    have hpl := fun w hr => rPlain_any A n c B w hr (by omega)
    rw [← hR] at hpl
    obtain ⟨hq1, hq2⟩ := hash_eq B
    rw [← hR] at hq1 hq2
    have HPL := Lib.hid hpl
    have HRR := Lib.hid hR
    clear hB hR hpl
    go_enter Tryd.func3, Tryd.ntmps3
    go_wp2_with fail
    refine (awake_any K _ HGL.out).mono ?_
    rintro e w1 ⟨rfl, hf1⟩
    have hr1 := HR.out.fr hf1 (fun _ _ h => h)
    have hof := K.of_ (some ⟨w1.heap.size, 0, none⟩) 1 1 [B] (w1.alloc (.cells #[.slice A n c] 22)) (HGL.out.fr0 (hf1.alloc _)) (Parts.one rfl _ hr1 hc) (by omega) (by omega) (by simp; have := HB.out; omega)
    rw [show [B].flatten = B by simp, ← HRR.out] at hof
    have HOF := Lib.hid hof
    have HR1 := Lib.hid (hr1.fr ((Fr.refl (fun _ => False) w1).alloc (.cells #[.slice A n c] 22)) (fun _ _ h => h))
    have HF1 := Lib.hid hf1
    clear hr1 hof hf1
    go_wp2_with fail
    refine HOF.out.mono ?_
    rintro e w2 ⟨rfl, hf2⟩
    have HR2 := Lib.hid (HR1.out.fr hf2 (fun _ _ h => h))
    have HF2 := Lib.hid ((HF1.out.alloc _).trans hf2 (fun _ _ h => h))
    clear hf2
    go_wp2_with fail
    refine (HPL.out _ HR2.out).mono ?_
    rintro e w3 ⟨rfl, hf3⟩
    have HF3 := Lib.hid (HF2.out.trans hf3 (fun _ _ h => h))
    clear hf3
    go_wp2_with fail
    go_ret
    exact ⟨rfl, HF3.out⟩
end Go.Proofs.YtjjeahijcibafaaDoor
