/-
  The law LzStands (written by gen_stands.py).
-/
import Derived.Test.YtgieckdfbkonpaaLzU
namespace Go.Proofs.Ytgieckdfbkonpaa
open Go.RowKit LzM LzN LzV Mem Go.Lib
attribute [local go_sem ↓] Go.wp_at_zero Go.wp_at_succ
set_option linter.unusedVariables false

set_option maxRecDepth 100000 in
set_option maxHeartbeats 3200000 in
theorem stands_law (A : Option Addr) (n c : Nat) (B : List UInt8) (w : World) (hB : Rd w A n (B.map bytec)) (hc : n ≤ c) (hcm : c ≤ maxLen) :
    Calls Try.prog 8 #[.slice A n c] w fun e w' => e = .returned (.bool true) ∧ Fr (fun _ => False) w w' := by
  have HR := Lib.hid hB
  have HC := Lib.hid (And.intro hc hcm)
  have hln : B.length = n := by simpa using hB.1
  have HLN := Lib.hid hln
  clear hB hc hcm hln
  by_cases hn : 1500 < n
  · go_enter Try.func8, Try.ntmps8
    go_wp2_with fail
    refine (awake_any w).mono ?_
    rintro e w2 ⟨rfl, hf2⟩
    go_wp2_with fail
    refine (awake_any w2).mono ?_
    rintro e w3 ⟨rfl, hf3⟩
    go_wp2_with fail
    go_ret
    exact ⟨rfl, hf2.trans hf3 (fun _ _ h => h)⟩
  · have hn2 : n ≤ 1500 := by omega
    clear hn
    go_enter Try.func8, Try.ntmps8
    go_wp2_with fail
    refine (awake_any w).mono ?_
    rintro e w2 ⟨rfl, hf2⟩
    have HF2 := Lib.hid hf2
    clear hf2
    go_wp2_with fail
    refine (pPress_any A n c B w2 (HR.out.fr HF2.out (fun _ _ h => h)) (by omega) HC.out.1 HC.out.2).mono ?_
    rintro e w3 ⟨A3, c3, rfl, hO3, hf3⟩
    have HF3 := Lib.hid (HF2.out.trans hf3 (fun _ _ h => h))
    have HT3 := Lib.hid hO3.toks
    have hL1 := press_len B
    obtain ⟨T, hT⟩ : ∃ T, T = press B := ⟨_, rfl⟩
    rw [← hT] at HT3 hL1 ⊢
    have HPR : Hid (T = pressF B n 0) := Lib.hid (by rw [hT, press, HLN.out])
    obtain ⟨L, hL⟩ : ∃ L, L = T.length := ⟨_, rfl⟩
    have HL := Lib.hid hL
    rw [← hL] at HT3 hL1 ⊢
    rw [HLN.out] at hL1
    clear hO3 hf3 hT hL
    go_wp2_with fail
    go_loopw [4, 5] (fun at_ i wr => ∃ k a : Nat, k ≤ L ∧ a ≤ n ∧ at_ = .int .i64 (a : Int) ∧ i = .int .i64 (k : Int) ∧ Hid (∃ f, T.drop k = pressF B f a ∧ n ≤ a + f) ∧ Hid (Fr (fun _ => False) w3 wr)) (fun _ i _ => L - (intOf i).toNat)
    case atStart => exact ⟨0, 0, Nat.zero_le _, Nat.zero_le _, rfl, rfl, ⟨n, by rw [List.drop_zero]; exact HPR.out, by omega⟩, Fr.refl _ _⟩
    case round =>
      obtain ⟨k, a, hk, han, rfl, rfl, HTD0, HF⟩ := hrel
      rename World => wr
      by_cases hlt : k < L
      · obtain ⟨t, ht⟩ : ∃ t, T[k]? = some t := ⟨_, List.getElem?_eq_getElem (by have := HL.out; omega)⟩
        have hdr : T.drop k = t :: T.drop (k + 1) := by rw [List.drop_eq_getElem_cons (by have := HL.out; omega)]; congr 1; exact (List.getElem?_eq_some_iff.1 ht).2
        obtain ⟨g, o, rfl, hg, h1, h2, h3⟩ := (HT3.out.fr HF.out (fun _ _ => id)).2 k t ht
        obtain ⟨f, hf, hfn⟩ := HTD0.out
        rw [hdr] at hf
        obtain ⟨f', rfl, hab, hcase⟩ := pressF_cases B f a t _ hf.symm
        rw [HLN.out] at hab
        clear hf hdr HTD0 ht
        rcases hcase with ⟨rfl, hcl, hTn⟩ | ⟨Lm, D, rfl, hLm3, hLm258, hD1, hDa, hD3, hsum, hLen, hfind, hTn⟩
        · have hbb := hcl
          obtain ⟨b1, hb1⟩ : ∃ b1, b1 = B[a]! := ⟨_, rfl⟩
          rw [← hb1] at h1
          have hRT : ∀ w, Calls Try.prog 14 #[.agg #[.int .u8 (b1.toNat : Int), .int .i64 0, .int .i64 0], .int .i64 (a : Int)] w fun e w' => e = .returned (.bool true) ∧ Fr (fun _ => False) w w' := by
            intro w
            have h := pRight_any (lit b1) a w
            rw [show rightT (lit b1) (a : Int) = true from by simp [rightT, lit]] at h
            exact h
          replace h1 : wr.cell? ⟨g, o + k * 3, none⟩ = some (.int .u8 (b1.toNat : Int)) := h1
          replace h2 : wr.cell? ⟨g, o + k * 3 + 1, none⟩ = some (.int .i64 0) := h2
          replace h3 : wr.cell? ⟨g, o + k * 3 + 2, none⟩ = some (.int .i64 0) := h3
          have hfa : True := trivial
          have HTD : Hid (∃ f, T.drop (k + 1) = pressF B f (a + 1) ∧ n ≤ a + 1 + f) := Lib.hid ⟨f', hTn, by omega⟩
          clear hTn hcl hbb hb1

          have HRT := Lib.hid hRT
          clear hRT hfa
          go_wp2_with fail
          refine (HRT.out wr).mono ?_
          rintro e w4 ⟨rfl, hf4⟩
          have HF4 := Lib.hid (HF.out.trans hf4 (fun _ _ h => h))
          have m2 := hf4.cell h2 (fun h => h)
          have m3 := hf4.cell h3 (fun h => h)
          clear hf4 h1 h2 h3

          go_wp2_with fail
          go_quiet (fail)
          clear  m2 m3
          obtain ⟨w5, hw5⟩ : ∃ w5, w5 = w4.drewN nq := ⟨_, rfl⟩
          rw [← hw5]
          have HF5 : Hid (Fr (fun _ => False) w3 w5) := Lib.hid (by rw [hw5]; exact HF4.out.drewN nq)
          clear hw5 nq
          go_wp2_with fail
          exact ⟨⟨k + 1, a + 1, by omega, by omega, by go_num, by go_num, HTD.out, HF5.out⟩, by simp [intOf]; omega⟩
        · have hRT : ∀ w, Calls Try.prog 14 #[.agg #[.int .u8 0, .int .i64 (Lm : Int), .int .i64 (D : Int)], .int .i64 (a : Int)] w fun e w' => e = .returned (.bool true) ∧ Fr (fun _ => False) w w' := by
            intro w
            have h := pRight_any (mat Lm D) a w
            rw [show rightT (mat Lm D) (a : Int) = true from by rw [rightT, if_neg (by simp [mat]; omega)]; simp [mat]; omega] at h
            exact h
          replace h1 : wr.cell? ⟨g, o + k * 3, none⟩ = some (.int .u8 0) := h1
          replace h2 : wr.cell? ⟨g, o + k * 3 + 1, none⟩ = some (.int .i64 (Lm : Int)) := h2
          replace h3 : wr.cell? ⟨g, o + k * 3 + 2, none⟩ = some (.int .i64 (D : Int)) := h3
          have hfa : True := trivial
          rw [HLN.out] at hsum
          have HTD : Hid (∃ f, T.drop (k + 1) = pressF B f (a + Lm) ∧ n ≤ a + Lm + f) := Lib.hid ⟨f', hTn, by omega⟩
          have HLEN := Lib.hid hLen
          clear hTn hfind hLen

          have HRT := Lib.hid hRT
          clear hRT hfa
          go_wp2_with fail
          refine (HRT.out wr).mono ?_
          rintro e w4 ⟨rfl, hf4⟩
          have HF4 := Lib.hid (HF.out.trans hf4 (fun _ _ h => h))
          have m2 := hf4.cell h2 (fun h => h)
          have m3 := hf4.cell h3 (fun h => h)
          clear hf4 h1 h2 h3
          by_cases h258 : Lm = 258
          · subst h258
            have t1 : decide ((D : Int) > 0) = true := by simp; omega
            have t2 : decide (0 < D) = true := by simp; omega
            go_wp2_with fail
            go_quiet (fail)
            clear  m2 m3
            obtain ⟨w5, hw5⟩ : ∃ w5, w5 = w4.drewN nq := ⟨_, rfl⟩
            rw [← hw5]
            have HF5 : Hid (Fr (fun _ => False) w3 w5) := Lib.hid (by rw [hw5]; exact HF4.out.drewN nq)
            clear hw5 nq
            go_wp2_with fail
            exact ⟨⟨k + 1, a + 258, by omega, by omega, by go_num, by go_num, HTD.out, HF5.out⟩, by simp [intOf]; omega⟩
          · have hl2 : Lm < 258 := by omega
            by_cases hend : a + Lm < n
            · have t1 : decide ((D : Int) > 0) = true := by simp; omega
              have t2 : decide (0 < D) = true := by simp; omega
              have t3 : decide ((Lm : Int) < 258) = true := by simp; omega
              have hrd := HR.out.fr (HF3.out.trans HF4.out (fun _ _ h => h)) (fun _ _ h => h)
              obtain ⟨ad, hA, c1⟩ := rd_byte hrd (k := a + Lm) (by omega)
              obtain ⟨ad2, hA2, c2⟩ := rd_byte hrd (k := a + Lm - D) (by omega)
              rw [hA] at hA2
              injection hA2 with hA2
              subst hA2
              subst hA
              have hne := len_end B a D (by rw [← HLEN.out]; exact hl2) (by rw [← HLEN.out, HLN.out]; exact hend)
              rw [← HLEN.out] at hne
              obtain ⟨u, hu⟩ : ∃ u, u = (B[a + Lm]!).toNat := ⟨_, rfl⟩
              obtain ⟨v, hv⟩ : ∃ v, v = (B[a + Lm - D]!).toNat := ⟨_, rfl⟩
              have huv : u ≠ v := fun h => hne (UInt8.toNat_inj.1 (hu.symm.trans (h.trans hv)))
              rw [← hu] at c1
              rw [← hv] at c2
              obtain ⟨y, hy⟩ : ∃ y, y = a + Lm := ⟨_, rfl⟩
              obtain ⟨z, hz⟩ : ∃ z, z = a + Lm - D := ⟨_, rfl⟩
              rw [← hy] at c1
              rw [← hz] at c2
              have r1 : IntKind.i64.wrap ((a : Int) + (Lm : Int)) = (y : Int) := by rw [IntKind.wrap_i64]; omega
              have r2 : IntKind.i64.wrap ((y : Int) - (D : Int)) = (z : Int) := by rw [IntKind.wrap_i64]; omega
              have t4 : decide ((y : Int) < (n : Int)) = true := by simp; omega
              have t5 : ((u : Int) == (v : Int)) = false := by simp; omega
              have hyn : y < n := by omega
              have hzn : z < n := by omega
              clear hrd hne hu hv huv hy hz
              go_wp2_with fail
              go_quiet (fail)
              clear r1 r2 t4 t5 c1 c2 m2 m3
              obtain ⟨w5, hw5⟩ : ∃ w5, w5 = w4.drewN nq := ⟨_, rfl⟩
              rw [← hw5]
              have HF5 : Hid (Fr (fun _ => False) w3 w5) := Lib.hid (by rw [hw5]; exact HF4.out.drewN nq)
              clear hw5 nq
              go_wp2_with fail
              exact ⟨⟨k + 1, a + Lm, by omega, by omega, by go_num, by go_num, HTD.out, HF5.out⟩, by simp [intOf]; omega⟩
            · have t1 : decide ((D : Int) > 0) = true := by simp; omega
              have t2 : decide (0 < D) = true := by simp; omega
              have t3 : decide ((Lm : Int) < 258) = true := by simp; omega
              obtain ⟨y, hy⟩ : ∃ y, y = a + Lm := ⟨_, rfl⟩
              have r1 : IntKind.i64.wrap ((a : Int) + (Lm : Int)) = (y : Int) := by rw [IntKind.wrap_i64]; omega
              have t4 : decide ((y : Int) < (n : Int)) = false := by simp; omega
              have t5 : decide (y < n) = false := by simp; omega
              have HY := Lib.hid hy
              clear hy
              go_wp2_with fail
              go_quiet (fail)
              clear r1 t4 t5 HY m2 m3
              obtain ⟨w5, hw5⟩ : ∃ w5, w5 = w4.drewN nq := ⟨_, rfl⟩
              rw [← hw5]
              have HF5 : Hid (Fr (fun _ => False) w3 w5) := Lib.hid (by rw [hw5]; exact HF4.out.drewN nq)
              clear hw5 nq
              go_wp2_with fail
              exact ⟨⟨k + 1, a + Lm, by omega, by omega, by go_num, by go_num, HTD.out, HF5.out⟩, by simp [intOf]; omega⟩
      · obtain rfl : k = L := by omega
        obtain ⟨f, hf, hfn⟩ := HTD0.out
        rw [List.drop_of_length_le (by have := HL.out; omega)] at hf
        have han2 := pressF_nil B f a hf.symm (by rw [HLN.out]; exact hfn) (by rw [HLN.out]; exact han)
        rw [HLN.out] at han2
        subst han2
        clear hf
        go_wp2_with fail
        go_ret
        exact ⟨rfl, HF3.out.trans HF.out (fun _ _ h => h)⟩
end Go.Proofs.Ytgieckdfbkonpaa
