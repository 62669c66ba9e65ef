/-
  The law SymsOf, out of the program's contracts (written by gen_of.py).
-/
import Derived.Test.YtamcgenjlndfjaaDoorSyK
namespace Go.Proofs.YtamcgenjlndfjaaDoor
open Go.RowKit SyM LzM Mem Go.Lib
attribute [local go_sem ↓] Go.wp_at_zero Go.wp_at_succ
set_option linter.unusedVariables false

set_option maxRecDepth 100000 in
set_option maxHeartbeats 3200000 in
theorem of_law {Gl : World → Prop} (K : SymsC Gl) (s : Int) (hs : inI s) (w : World) (hG : Gl w) :
    Calls Tryd.prog 4 #[.int .i64 s] w fun e w' => e = .returned (.bool true) ∧ Fr (fun _ => False) w w' := by
  have hL : ∀ w, Gl w → Calls Tryd.prog 16 #[.int .i64 s] w fun e w' => e = .returned (trip (lenOfV s)) ∧ Fr (fun _ => False) w w' := fun w h => K.lengthOf s w h hs
  have hD : ∀ w, Gl w → Calls Tryd.prog 17 #[.int .i64 s] w fun e w' => e = .returned (trip (distOfV s)) ∧ Fr (fun _ => False) w w' := fun w h => K.distanceOf s w h hs
  have HL := Lib.hid hL
  have HDD := Lib.hid hD
  have HG := Lib.hid hG
  obtain ⟨hs1, hs2⟩ := hs
  obtain ⟨lv, hlv⟩ : ∃ v, v = lenOfV s := ⟨_, rfl⟩
  obtain ⟨dv, hdv⟩ : ∃ v, v = distOfV s := ⟨_, rfl⟩
  rw [← hlv] at HL
  rw [← hdv] at HDD
  have HLV := Lib.hid hlv
  have HDV := Lib.hid hdv
  clear hL hD hG hlv hdv
  obtain ⟨l1, b1, o1⟩ := lv
  obtain ⟨l2, b2, o2⟩ := dv
  unfold trip at HL HDD
  simp only at HL HDD
  go_enter Tryd.func4, Tryd.ntmps4
  go_wp2_with fail
  refine (awake7_any K w HG.out).mono ?_
  rintro e w2 ⟨rfl, hf2⟩
  have HF2 := Lib.hid hf2
  have HG2 := Lib.hid (K.fr HG.out hf2)
  clear hf2
  go_wp2_with fail
  refine (HL.out w2 HG2.out).mono ?_
  rintro e w3 ⟨rfl, hf3⟩
  have HF3 := Lib.hid (HF2.out.trans hf3 (fun _ _ h => h))
  have HG3 := Lib.hid (K.fr HG2.out hf3)
  clear hf3
  go_wp2_with fail
  refine (HDD.out w3 HG3.out).mono ?_
  rintro e w4 ⟨rfl, hf4⟩
  have HF4 := Lib.hid (HF3.out.trans hf4 (fun _ _ h => h))
  clear hf4
  by_cases hc : 257 ≤ s ∧ s ≤ 285
  · obtain ⟨hc1, hc2⟩ := hc
    have e1 := HLV.out
    have e2 := HDV.out
    rw [lenOfV, if_pos ⟨hc1, hc2⟩] at e1
    rw [distOfV, if_neg (by omega)] at e2
    simp only [Prod.mk.injEq] at e1 e2
    obtain ⟨e11, e12, rfl⟩ := e1
    obtain ⟨rfl, rfl, rfl⟩ := e2
    obtain ⟨k, hk⟩ : ∃ k : Nat, k = (s - 257).toNat := ⟨_, rfl⟩
    have hk29 : k < 29 := by omega
    have hsk : s - 257 = (k : Int) := by omega
    rw [← hk] at e11 e12
    have HE := Lib.hid (And.intro e11 e12)
    clear e11 e12 hk
    go_wp2_with fail
    refine (rLengths_any w4).mono ?_
    rintro e w5 ⟨A5, c5, rfl, hO5, hf5⟩
    have HF5 := Lib.hid (HF4.out.trans hf5 (fun _ _ h => h))
    obtain ⟨g, o, rfl, hg, r1, r2⟩ := (rws_of (R := lens) rfl hO5).at_ hk29
    rw [← HE.out.1] at r1
    rw [← HE.out.2] at r2
    clear hO5 hf5 hg
    go_wp2_with fail
    go_ret
    exact ⟨rfl, HF5.out.alloc _⟩
  · have e1 := HLV.out
    rw [lenOfV, if_neg hc] at e1
    simp only [Prod.mk.injEq] at e1
    obtain ⟨rfl, rfl, rfl⟩ := e1
    by_cases hd : 0 ≤ s ∧ s < 30
    · obtain ⟨hd1, hd2⟩ := hd
      have e2 := HDV.out
      rw [distOfV, if_pos ⟨hd1, hd2⟩] at e2
      simp only [Prod.mk.injEq] at e2
      obtain ⟨e21, e22, rfl⟩ := e2
      obtain ⟨k, hk⟩ : ∃ k : Nat, k = s.toNat := ⟨_, rfl⟩
      have hk30 : k < 30 := by omega
      have hsk : s = (k : Int) := by omega
      rw [← hk] at e21 e22
      have HE := Lib.hid (And.intro e21 e22)
      clear e21 e22 hk hc
      subst hsk
      have hs257 : (k : Int) < 257 := by omega
      go_wp2_with fail
      refine (rDistances_any w4).mono ?_
      rintro e w5 ⟨A5, c5, rfl, hO5, hf5⟩
      have HF5 := Lib.hid (HF4.out.trans hf5 (fun _ _ h => h))
      obtain ⟨g, o, rfl, hg, r1, r2⟩ := (rws_of (R := dists) rfl hO5).at_ hk30
      rw [← HE.out.1] at r1
      rw [← HE.out.2] at r2
      clear hO5 hf5 hg
      go_wp2_with fail
      go_ret
      exact ⟨rfl, HF5.out.alloc _⟩
    · have e2 := HDV.out
      rw [distOfV, if_neg hd] at e2
      simp only [Prod.mk.injEq] at e2
      obtain ⟨rfl, rfl, rfl⟩ := e2
      rcases (show s < 0 ∨ (30 ≤ s ∧ s < 257) ∨ 285 < s by omega) with h | ⟨h, h'⟩ | h
      · have h1 : s < 257 := by omega
        clear hc hd
        go_wp2_with fail
        go_ret
        exact ⟨rfl, HF4.out⟩
      · have h1 : 0 ≤ s := by omega
        clear hc hd
        go_wp2_with fail
        go_ret
        exact ⟨rfl, HF4.out⟩
      · have h1 : 257 ≤ s := by omega
        have h2 : 0 ≤ s := by omega
        have h3 : 30 ≤ s := by omega
        clear hc hd
        go_wp2_with fail
        go_ret
        exact ⟨rfl, HF4.out⟩
end Go.Proofs.YtamcgenjlndfjaaDoor
