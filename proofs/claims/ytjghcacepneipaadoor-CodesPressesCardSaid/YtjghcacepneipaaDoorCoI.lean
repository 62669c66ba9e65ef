/-
  The law CodesPresses, out of the contract of Press.
-/
import Derived.Test.YtjghcacepneipaaDoorCoD
import Derived.Test.YtjghcacepneipaaDoorCoH
import Derived.Deep.DrawnRows
import Derived.Deep.QuietTactic
import Derived.BigQuiet
namespace Go.Proofs.YtjghcacepneipaaDoor
open Go.RowKit CoM Mem Go.Lib
attribute [local go_sem ↓] Go.wp_at_zero Go.wp_at_succ
set_option linter.unusedVariables false

set_option maxRecDepth 100000 in
set_option maxHeartbeats 3200000 in
theorem presses8_law {w : World} (HP : PressC w) (A : Option Addr) (n c : Nat) (B : List UInt8) (hB : Rd w A n (B.map bytec)) (hc : n ≤ c) (hcm : c ≤ maxLen) :
    Calls Tryd.prog 3 #[.slice A n c] w fun e w' => e = .returned (.bool true) ∧ Fr (fun _ => False) w w' := by
  have HAW := Lib.hid (awake8_any HP)
  have HPX := Lib.hid HP
  have HR := Lib.hid hB
  clear hB HP
  by_cases hn : 500 < n
  · go_enter Tryd.func3, Tryd.ntmps3
    go_wp2_with fail
    refine (HAW.out w (Fr.refl _ _)).mono ?_
    rintro e w2 ⟨rfl, hf2⟩
    go_wp2_with fail
    refine (HAW.out w2 hf2).mono ?_
    rintro e w3 ⟨rfl, hf3⟩
    go_wp2_with fail
    go_ret
    exact ⟨rfl, hf2.trans hf3 (fun _ _ h => h)⟩
  · have hn2 : n ≤ 500 := by omega
    clear hn
    go_enter Tryd.func3, Tryd.ntmps3
    go_wp2_with fail
    refine (HAW.out w (Fr.refl _ _)).mono ?_
    rintro e w2 ⟨rfl, hf2⟩
    have HF2 := Lib.hid hf2
    clear hf2
    go_wp2_with fail
    refine (right8_any A n c B w2 (HR.out.fr HF2.out (fun _ _ h => h)) (by omega)).mono ?_
    rintro e w3 ⟨A3, c3, rfl, hc3, hm3, hr3, hf3⟩
    have HF3 := Lib.hid (HF2.out.trans hf3 (fun _ _ h => h))
    have HC3 := Lib.hid (And.intro hc3 hm3)
    have HR3 := Lib.hid hr3
    clear hc3 hm3 hr3 hf3
    go_wp2_with fail
    refine (HPX.out A3 n c3 (modL B) w3 HF3.out HR3.out HC3.out.1 HC3.out.2 (by omega) (modL_le B)).mono ?_
    rintro e w4 ⟨A4, c4, rfl, hI4, hf4⟩
    have HF4 := Lib.hid (HF3.out.trans hf4 (fun _ _ h => h))
    have HI4 := Lib.hid hI4
    clear hI4 hf4
    go_wp2_with fail
    refine (right8_any A n c B w4 (HR.out.fr HF4.out (fun _ _ h => h)) (by omega)).mono ?_
    rintro e w5 ⟨A5, c5, rfl, hc5, hm5, hr5, hf5⟩
    have HF5 := Lib.hid (HF4.out.trans hf5 (fun _ _ h => h))
    have HI5 := Lib.hid (HI4.out.fr hf5 (fun _ _ => id))
    have HR5 := Lib.hid hr5
    clear hc5 hm5 hr5 hf5 HI4
    go_wp2_with fail
    refine (rItems_any A5 n c5 (modL B) w5 HR5.out (by omega) (fun x hx => by have := modL_le B x hx; omega)).mono ?_
    rintro e w6 ⟨A6, c6, rfl, hO6, hf6⟩
    have HF6 := Lib.hid (HF5.out.trans hf6 (fun _ _ h => h))
    have HT3 := Lib.hid (HI5.out.fr hf6 (fun _ _ => id))
    have HT4 := Lib.hid hO6.its
    obtain ⟨T, hT⟩ : ∃ T, T = items (modL B) := ⟨_, rfl⟩
    have hTn := items_len (modL B)
    rw [modL_len, ← hT] at hTn
    rw [← hT] at HT3 HT4 ⊢
    obtain ⟨L, hL⟩ : ∃ L, L = T.length := ⟨_, rfl⟩
    have HL := Lib.hid hL
    have hln : B.length = n := by simpa using HR.out.1
    have hL1 : L ≤ 1000 := by omega
    rw [← hL] at HT3 HT4 ⊢
    clear hO6 hf6 hT hL hln hTn HI5
    go_wp2_with fail
    go_loopw [5] (fun i wr => ∃ k : Nat, k ≤ L ∧ i = .int .i64 (k : Int) ∧ Hid (Fr (fun _ => False) w6 wr)) (fun i _ => L - (intOf i).toNat)
    case atStart => exact ⟨0, Nat.zero_le _, rfl, Fr.refl _ _⟩
    case round =>
      obtain ⟨k, hk, rfl, HF⟩ := hrel
      rename World => wr
      by_cases hlt : k < L
      · obtain ⟨t, ht⟩ : ∃ t, T[k]? = some t := ⟨_, List.getElem?_eq_getElem (by have := HL.out; omega)⟩
        obtain ⟨g, o, rfl, hg, h1, h2, h3⟩ := (HT3.out.fr HF.out (fun _ _ => id)).2 k t ht
        obtain ⟨g', o', rfl, hg', k1, k2, k3⟩ := (HT4.out.fr HF.out (fun _ _ => id)).2 k t ht
        obtain ⟨s, b, x⟩ := t
        simp only at h1 h2 h3 k1 k2 k3
        clear ht hg hg'
        go_wp2_with fail
        go_quiet (fail)
        have HF7 := Lib.hid (HF.out.drewN nq)
        clear h1 h2 h3 k1 k2 k3
        go_wp2_with fail
        exact ⟨⟨k + 1, by omega, by go_num, HF7.out⟩, by simp [intOf]; omega⟩
      · go_wp2_with fail
        go_ret
        exact ⟨rfl, HF6.out.trans HF.out (fun _ _ h => h)⟩
end Go.Proofs.YtjghcacepneipaaDoor
