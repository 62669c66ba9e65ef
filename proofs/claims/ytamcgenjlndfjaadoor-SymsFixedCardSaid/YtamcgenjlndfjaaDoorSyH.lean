/-
  The law SymsFixed, out of the program's contracts.
-/
import Derived.Test.YtamcgenjlndfjaaDoorSyF
import Derived.Test.YtamcgenjlndfjaaDoorHxA
namespace Go.Proofs.YtamcgenjlndfjaaDoor
open Go.RowKit SyM LzM Mem Go.Lib
attribute [local go_sem ↓] Go.wp_at_zero Go.wp_at_succ
set_option linter.unusedVariables false

theorem nat_int (L : List Nat) : L.map natc = (L.map (fun n : Nat => (n : Int))).map intc := by rw [List.map_map]; rfl
theorem right_fixA : HuffM.rightB (fixA.map (fun n : Nat => (n : Int))) = true := by decide +kernel
theorem right_fixB : HuffM.rightB (fixB.map (fun n : Nat => (n : Int))) = true := by decide +kernel
theorem num_at {w : World} {A : Option Addr} {n : Nat} {L : List Nat} (h : Rd w A n (L.map natc)) {k : Nat} (hk : k < n) : ∃ ad, A = some ad ∧ w.cell? (ad.add k) = some (.int .i64 ((L[k]! : Nat) : Int)) := by
  have hl : L.length = n := by simpa using h.1
  obtain ⟨ad, u, e, h1, h2⟩ := h.at_ hk
  rw [List.getElem?_map, List.getElem?_eq_getElem (by omega)] at h1
  refine ⟨ad, e, ?_⟩
  rw [h2, getElem!_pos L k (by omega), ← h1]
  rfl

set_option maxRecDepth 100000 in
set_option maxHeartbeats 3200000 in
theorem fixed_law {Gl : World → Prop} (K : SymsC Gl) (a : Nat) (ha : a < 65536) (w : World) (hG : Gl w) :
    Calls Tryd.prog 7 #[.int .u16 (a : Int)] w fun e w' => e = .returned (.bool true) ∧ Fr (fun _ => False) w w' := by
  obtain ⟨k, hk⟩ : ∃ k, k = a % 288 := ⟨_, rfl⟩
  obtain ⟨m, hm⟩ : ∃ m, m = k % 32 := ⟨_, rfl⟩
  have hrem1 : (a : Int).tmod 288 = (k : Int) := by rw [Int.tmod_eq_emod_of_nonneg (by omega)]; omega
  have hrem2 : (k : Int).tmod 32 = (m : Int) := by rw [Int.tmod_eq_emod_of_nonneg (by omega)]; omega
  have hk288 : k < 288 := by omega
  have hm32 : m < 32 := by omega
  have hat := fix_at k hk288
  rw [← hm] at hat
  have HAT := Lib.hid hat
  have hfx : ∀ w, Gl w → Calls Tryd.prog 21 #[] w fun e w' => ∃ Aa ca Ab cb, e = .returned (.tuple #[.slice Aa 288 ca, .slice Ab 32 cb]) ∧ Rd w' Aa 288 (fixA.map natc) ∧ Rd w' Ab 32 (fixB.map natc) ∧ Fr (fun _ => False) w w' := fun w h => by
    have h2 := K.fixed w h
    unfold Two at h2
    rw [fix_len.1, fix_len.2] at h2
    exact h2
  have HFX := Lib.hid hfx
  have HG := Lib.hid hG
  clear hk hm hat hfx hG
  go_enter Tryd.func7, Tryd.ntmps7
  go_wp2_with fail
  refine (awake7_any K w HG.out).mono ?_
  rintro e w2 ⟨rfl, hf2⟩
  have HF2 := Lib.hid hf2
  have HG2 := Lib.hid (K.fr HG.out hf2)
  clear hf2
  go_wp2_with fail
  refine (HFX.out w2 HG2.out).mono ?_
  rintro e w3 ⟨Aa, ca, Ab, cb, rfl, hra, hrb, hf3⟩
  have HF3 := Lib.hid (HF2.out.trans hf3 (fun _ _ h => h))
  have HRA := Lib.hid hra
  have HRB := Lib.hid hrb
  clear hf3 hra hrb
  have hr1 : Calls Tryd.prog 22 #[.slice Aa 288 ca] w3 fun e w' => e = .returned (.bool true) ∧ w3 = w' := by
    have h := pRight_any Aa 288 ca (fixA.map (fun n : Nat => (n : Int))) w3 (by rw [← nat_int]; exact HRA.out) (by omega)
    rw [right_fixA] at h
    exact h
  have hr2 : Calls Tryd.prog 22 #[.slice Ab 32 cb] w3 fun e w' => e = .returned (.bool true) ∧ w3 = w' := by
    have h := pRight_any Ab 32 cb (fixB.map (fun n : Nat => (n : Int))) w3 (by rw [← nat_int]; exact HRB.out) (by omega)
    rw [right_fixB] at h
    exact h
  obtain ⟨ad, rfl, ca1⟩ := num_at HRA.out hk288
  obtain ⟨bd, rfl, cb1⟩ := num_at HRB.out hm32
  obtain ⟨ea, eb⟩ := HAT.out
  rw [eb] at cb1
  obtain ⟨va, hva⟩ : ∃ v, v = fixA[k]! := ⟨_, rfl⟩
  rw [← hva] at ca1 ea
  have HR1 := Lib.hid hr1
  have HR2 := Lib.hid hr2
  clear eb hr1 hr2 hva
  go_wp2_with fail
  refine HR1.out.mono ?_
  rintro e w4 ⟨rfl, rfl⟩
  go_wp2_with fail
  refine HR2.out.mono ?_
  rintro e w4 ⟨rfl, rfl⟩
  rcases (show k ≤ 143 ∨ (144 ≤ k ∧ k ≤ 255) ∨ (256 ≤ k ∧ k ≤ 279) ∨ 280 ≤ k by omega) with h | ⟨h, h'⟩ | ⟨h, h'⟩ | h
  · rw [if_neg (by omega), if_neg (by omega)] at ea
    subst ea
    go_wp2_with fail
    go_ret
    exact ⟨rfl, HF3.out⟩
  · rw [if_pos (by omega)] at ea
    subst ea
    go_wp2_with fail
    go_ret
    exact ⟨rfl, HF3.out⟩
  · rw [if_neg (by omega), if_pos (by omega)] at ea
    subst ea
    go_wp2_with fail
    go_ret
    exact ⟨rfl, HF3.out⟩
  · rw [if_neg (by omega), if_neg (by omega)] at ea
    subst ea
    go_wp2_with fail
    go_ret
    exact ⟨rfl, HF3.out⟩
end Go.Proofs.YtamcgenjlndfjaaDoor
