/-
  The law LzOpens.
-/
import Derived.Test.YtgieckdfbkonpaaLzU
namespace Go.Proofs.Ytgieckdfbkonpaa
open Go.RowKit LzM LzN LzV Mem Go.Lib
attribute [local go_sem ↓] Go.wp_at_zero Go.wp_at_succ
set_option linter.unusedVariables false

set_option maxRecDepth 100000 in
set_option maxHeartbeats 3200000 in
theorem opens_law (most : Int) (A : Option Addr) (n c : Nat) (T : List Tok) (w : World) (hT : Toks w A n T) :
    Calls Try.prog 4 #[.int .i64 most, .slice A n c] w fun e w' => e = .returned (.bool true) ∧ Fr (fun _ => False) w w' := by
  have HT := Lib.hid hT
  have hln := hT.1
  have HLN := Lib.hid hln
  clear hT hln
  by_cases hn : 300 < n
  · go_enter Try.func4, Try.ntmps4
    go_wp2_with fail
    refine (awake_any w).mono ?_
    rintro e w2 ⟨rfl, hf2⟩
    go_wp2_with fail
    refine (awake_any w2).mono ?_
    rintro e w3 ⟨rfl, hf3⟩
    go_wp2_with fail
    go_ret
    exact ⟨rfl, hf2.trans hf3 (fun _ _ h => h)⟩
  · have hn2 : n ≤ 300 := by omega
    clear hn
    go_enter Try.func4, Try.ntmps4
    go_wp2_with fail
    refine (awake_any w).mono ?_
    rintro e w2 ⟨rfl, hf2⟩
    have HF2 := Lib.hid hf2
    have HT2 := Lib.hid (HT.out.fr hf2 (fun _ _ h => h))
    clear hf2
    go_wp2_with fail
    refine (pOpen_any most A n c T w2 HT2.out (by omega)).mono ?_
    rintro e w3 ⟨A3, c3, rfl, hO3, hf3⟩
    have HF3 := Lib.hid (HF2.out.trans hf3 (fun _ _ h => h))
    have HT3 := Lib.hid (HT2.out.fr hf3 (fun _ _ h => h))
    have HO3 := Lib.hid hO3
    obtain ⟨X, hX⟩ : ∃ X, X = (toP (openT most [] T)).1 := ⟨_, rfl⟩
    obtain ⟨E, hE⟩ : ∃ E, E = (toP (openT most [] T)).2 := ⟨_, rfl⟩
    rw [← hX] at HO3
    rw [← hX, ← hE]
    have HXE := Lib.hid (And.intro hX hE)
    obtain ⟨N, hN⟩ : ∃ N, N = X.length := ⟨_, rfl⟩
    rw [← hN]
    have HNN := Lib.hid hN
    clear hO3 hf3 hX hE hN
    go_wp2_with fail
    refine (rOpen_any most A n c T w3 HT3.out (by omega)).mono ?_
    rintro e w4 ⟨A4, c4, rfl, hO4, hf4⟩
    have HF4 := Lib.hid (HF3.out.trans hf4 (fun _ _ h => h))
    have HT4 := Lib.hid (HT3.out.fr hf4 (fun _ _ h => h))
    rw [← HXE.out.1] at hO4
    rw [← HXE.out.1, ← HXE.out.2, ← HNN.out]
    obtain ⟨S, hS⟩ : ∃ S, S = txt X := ⟨_, rfl⟩
    have hs1 : (convert 22 9 (.slice A3 N c3)).run Try.prog w4 = .ok (.string S) w4 := by rw [hS, HNN.out]; exact (HO3.out.fr hf4).str
    have hs2 : (convert 22 9 (.slice A4 N c4)).run Try.prog w4 = .ok (.string S) w4 := by rw [hS, HNN.out]; exact hO4.str
    clear hf4 hO4 hS
    go_wp2_with fail
    clear hs1 hs2
    go_loopw [9] (fun i wr => ∃ k : Nat, k ≤ n ∧ i = .int .i64 (k : Int) ∧ Hid (Fr (fun _ => False) w4 wr)) (fun i _ => n - (intOf i).toNat)
    case atStart => exact ⟨0, Nat.zero_le _, rfl, Fr.refl _ _⟩
    case round =>
      obtain ⟨k, hk, rfl, HF⟩ := hrel
      rename World => wr
      by_cases hlt : k < n
      · obtain ⟨t, ht⟩ : ∃ t, T[k]? = some t := ⟨_, List.getElem?_eq_getElem (by have := HLN.out; omega)⟩
        obtain ⟨g, o, rfl, hg, h1, h2, h3⟩ := (HT4.out.fr HF.out (fun _ _ => id)).2 k t ht
        obtain ⟨v, hv⟩ : ∃ v, v = rightT t (k : Nat) := ⟨_, rfl⟩
        have hR1 : ∀ w, Calls Try.prog 14 #[tokc t, .int .i64 (k : Int)] w fun e w' => e = .returned (.bool v) ∧ Fr (fun _ => False) w w' := fun w => by rw [hv]; exact pRight_any t k w
        have hR2 : ∀ w, Calls Try.prog 15 #[tokc t, .int .i64 (k : Int)] w fun e w' => e = .returned (.bool v) ∧ Fr (fun _ => False) w w' := fun w => by rw [hv]; exact rRight_any t k w
        obtain ⟨b, l, d⟩ := t
        unfold tokc bytec at hR1 hR2
        unfold bytec at h1
        simp only at h1 h2 h3 hR1 hR2
        obtain ⟨u, hu⟩ : ∃ u, u = b.toNat := ⟨_, rfl⟩
        rw [← hu] at h1 hR1 hR2
        have HR1 := Lib.hid hR1
        have HR2 := Lib.hid hR2
        clear ht hu hg hv hR1 hR2
        go_wp2_with fail
        go_region_held3 (fun w' => w'.cell? ⟨g, o + k * 3, none⟩ = some (.int .u8 (u : Int)) ∧ w'.cell? ⟨g, o + k * 3 + 1, none⟩ = some (.int .i64 l) ∧ w'.cell? ⟨g, o + k * 3 + 2, none⟩ = some (.int .i64 d))
          (first
            | go_keep
            | exact hk2
            | exact hk3)
          (first
            | (go_at_call 14
               refine (HR1.out _).mono ?_
               rintro e w5 ⟨rfl, hf5⟩
               have hk2 : w5.cell? ⟨g, o + k * 3, none⟩ = some (.int .u8 (u : Int)) ∧ w5.cell? ⟨g, o + k * 3 + 1, none⟩ = some (.int .i64 l) ∧ w5.cell? ⟨g, o + k * 3 + 2, none⟩ = some (.int .i64 d) := ⟨hf5.cell (w := wr.drew) h1 (fun h => h), hf5.cell (w := wr.drew) h2 (fun h => h), hf5.cell (w := wr.drew) h3 (fun h => h)⟩
               have HF5 := Lib.hid (HF.out.drew.trans hf5 (fun _ _ h => h))
               clear hf5)
            | (go_at_call 15
               refine (HR2.out _).mono ?_
               rintro e w6 ⟨rfl, hf6⟩
               have hk3 : w6.cell? ⟨g, o + k * 3, none⟩ = some (.int .u8 (u : Int)) ∧ w6.cell? ⟨g, o + k * 3 + 1, none⟩ = some (.int .i64 l) ∧ w6.cell? ⟨g, o + k * 3 + 2, none⟩ = some (.int .i64 d) := ⟨hf6.cell hk2.1 (fun h => h), hf6.cell hk2.2.1 (fun h => h), hf6.cell hk2.2.2 (fun h => h)⟩
               have HF6 := Lib.hid (HF5.out.trans hf6 (fun _ _ h => h))
               clear hf6))
        clear hk2 hk3 h1 h2 h3
        go_wp2_with fail
        exact ⟨⟨k + 1, by omega, by go_num, HF6.out⟩, by simp [intOf]; omega⟩
      · go_wp2_with fail
        go_ret
        exact ⟨rfl, HF4.out.trans HF.out (fun _ _ h => h)⟩
end Go.Proofs.Ytgieckdfbkonpaa
