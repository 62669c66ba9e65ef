/-
  The law LzPresses.
-/
import Derived.Test.YtgieckdfbkonpaaLzT
import Derived.Test.YtgieckdfbkonpaaLzV
import Derived.Deep.DrawnRows
import Derived.Deep.QuietTactic
import Derived.BigQuiet
namespace Go.Proofs.Ytgieckdfbkonpaa
open Go.RowKit LzM LzN LzV Mem Go.Lib
attribute [local go_sem ↓] Go.wp_at_zero Go.wp_at_succ
set_option linter.unusedVariables false

theorem tok_neq_self (t : Tok) : (∀ (x y : Operand) (w : World), (eqGuard .neq 27 x y (tokc t) (tokc t)).run Try.prog w = .ok () w) ∧ (∀ w : World, (binOp .neq 27 (tokc t) (tokc t)).run Try.prog w = .ok (.bool false) w) := by
  have h := tok_neq t t
  rw [decide_eq_true rfl] at h
  exact h

set_option maxRecDepth 100000 in
set_option maxHeartbeats 3200000 in
theorem presses_law (A : Option Addr) (n c : Nat) (B : List UInt8) (w : World) (hB : Rd w A n (B.map bytec)) (hc : n ≤ c) (hcm : c ≤ maxLen) :
    Calls Try.prog 3 #[.slice A n c] w fun e w' => e = .returned (.bool true) ∧ Fr (fun _ => False) w w' := by
  have HR := Lib.hid hB
  have HC := Lib.hid (And.intro hc hcm)
  clear hB hc hcm
  by_cases hn : 1500 < n
  · go_enter Try.func3, Try.ntmps3
    go_wp2_with fail
    refine (awake_any w).mono ?_
    rintro e w2 ⟨rfl, hf2⟩
    go_wp2_with fail
    refine (awake_any w2).mono ?_
    rintro e w3 ⟨rfl, hf3⟩
    go_wp2_with fail
    go_ret
    exact ⟨rfl, hf2.trans hf3 (fun _ _ h => h)⟩
  · have hn2 : n ≤ 1500 := by omega
    clear hn
    go_enter Try.func3, Try.ntmps3
    go_wp2_with fail
    refine (awake_any w).mono ?_
    rintro e w2 ⟨rfl, hf2⟩
    have HF2 := Lib.hid hf2
    clear hf2
    go_wp2_with fail
    refine (pPress_any A n c B w2 (HR.out.fr HF2.out (fun _ _ h => h)) (by omega) HC.out.1 HC.out.2).mono ?_
    rintro e w3 ⟨A3, c3, rfl, hO3, hf3⟩
    have HF3 := Lib.hid (HF2.out.trans hf3 (fun _ _ h => h))
    have HO3 := Lib.hid hO3
    clear hO3 hf3
    go_wp2_with fail
    refine (rPress_any A n c B w3 (HR.out.fr HF3.out (fun _ _ h => h)) (by omega)).mono ?_
    rintro e w4 ⟨A4, c4, rfl, hO4, hf4⟩
    have HF4 := Lib.hid (HF3.out.trans hf4 (fun _ _ h => h))
    have HT3 := Lib.hid (HO3.out.fr hf4).toks
    have HT4 := Lib.hid hO4.toks
    obtain ⟨T, hT⟩ : ∃ T, T = press B := ⟨_, rfl⟩
    rw [← hT] at HT3 HT4 ⊢
    obtain ⟨L, hL⟩ : ∃ L, L = T.length := ⟨_, rfl⟩
    have HL := Lib.hid hL
    rw [← hL] at HT3 HT4 ⊢
    have hln : B.length = n := by simpa using HR.out.1
    have hL1 : L ≤ 1000000 := by have h1 := press_len B; rw [hL, hT]; omega
    clear hO4 hf4 hT hL HO3 hln
    go_wp2_with fail
    go_loopw [5] (fun i wr => ∃ k : Nat, k ≤ L ∧ i = .int .i64 (k : Int) ∧ Hid (Fr (fun _ => False) w4 wr)) (fun i _ => L - (intOf i).toNat)
    case atStart => exact ⟨0, Nat.zero_le _, rfl, Fr.refl _ _⟩
    case round =>
      obtain ⟨k, hk, rfl, HF⟩ := hrel
      rename World => wr
      by_cases hlt : k < L
      · obtain ⟨t, ht⟩ : ∃ t, T[k]? = some t := ⟨_, List.getElem?_eq_getElem (by have := HL.out; omega)⟩
        obtain ⟨g, o, rfl, hg, h1, h2, h3⟩ := (HT3.out.fr HF.out (fun _ _ => id)).2 k t ht
        obtain ⟨g', o', rfl, hg', k1, k2, k3⟩ := (HT4.out.fr HF.out (fun _ _ => id)).2 k t ht
        obtain ⟨q1, q2⟩ := tok_neq_self t
        obtain ⟨b, l, d⟩ := t
        unfold tokc bytec at q1 q2
        unfold bytec at h1 k1
        simp only at h1 h2 h3 k1 k2 k3 q1 q2
        obtain ⟨u, hu⟩ : ∃ u, u = b.toNat := ⟨_, rfl⟩
        rw [← hu] at h1 k1 q1 q2
        clear ht hu hg hg'
        go_wp2_with fail
        go_quiet (fail)
        have HF5 := Lib.hid (HF.out.drewN nq)
        clear h1 h2 h3 k1 k2 k3 q1 q2
        go_wp2_with fail
        exact ⟨⟨k + 1, by omega, by go_num, HF5.out⟩, by simp [intOf]; omega⟩
      · go_wp2_with fail
        go_ret
        exact ⟨rfl, HF4.out.trans HF.out (fun _ _ h => h)⟩
end Go.Proofs.Ytgieckdfbkonpaa
