/-
  The law SymsWeighs, out of the program's contracts (written by gen_weighs.py).
-/
import Derived.Test.YtamcgenjlndfjaaDoorSyH
namespace Go.Proofs.YtamcgenjlndfjaaDoor
open Go.RowKit SyM LzM Mem Go.Lib
attribute [local go_sem ↓] Go.wp_at_zero Go.wp_at_succ
set_option linter.unusedVariables false

set_option maxRecDepth 100000 in
set_option maxHeartbeats 3200000 in
theorem weighs_law {Gl : World → Prop} (K : SymsC Gl) (A : Option Addr) (n c : Nat) (T : List Tok) (w : World) (hG : Gl w) (hT : Toks w A n T) :
    Calls Tryd.prog 6 #[.slice A n c] w fun e w' => e = .returned (.bool true) ∧ Fr (fun _ => False) w w' := by
  have HT := Lib.hid hT
  have hln := hT.1
  have HLN := Lib.hid hln
  have HG := Lib.hid hG
  clear hT hln hG
  by_cases hn : 500 < n
  · go_enter Tryd.func6, Tryd.ntmps6
    go_wp2_with fail
    refine (awake7_any K w HG.out).mono ?_
    rintro e w2 ⟨rfl, hf2⟩
    have HG2 := Lib.hid (K.fr HG.out hf2)
    go_wp2_with fail
    refine (awake7_any K w2 HG2.out).mono ?_
    rintro e w3 ⟨rfl, hf3⟩
    go_wp2_with fail
    go_ret
    exact ⟨rfl, hf2.trans hf3 (fun _ _ h => h)⟩
  · have hn2 : n ≤ 500 := by omega
    clear hn
    go_enter Tryd.func6, Tryd.ntmps6
    go_wp2_with fail
    refine (awake7_any K w HG.out).mono ?_
    rintro e w2 ⟨rfl, hf2⟩
    have HF2 := Lib.hid hf2
    have HG2 := Lib.hid (K.fr HG.out hf2)
    have HT2 := Lib.hid (HT.out.fr hf2 (fun _ _ h => h))
    clear hf2
    go_wp2_with fail
    go_loopw [3] (fun i wr => ∃ k : Nat, k ≤ n ∧ i = .int .i64 (k : Int) ∧ Hid (∀ j t, j < k → T[j]? = some t → Fits t) ∧ Hid (Fr (fun _ => False) w2 wr)) (fun i _ => n - (intOf i).toNat)
    case atStart => exact ⟨0, Nat.zero_le _, rfl, fun j t h => by omega, Fr.refl _ _⟩
    case round =>
      obtain ⟨k, hk, rfl, HFIT, HF⟩ := hrel
      rename World => wr
      by_cases hlt : k < n
      · obtain ⟨t, ht⟩ : ∃ t, T[k]? = some t := ⟨_, List.getElem?_eq_getElem (by have := HLN.out; omega)⟩
        obtain ⟨g, o, rfl, hg, h1, h2, h3⟩ := (HT2.out.fr HF.out (fun _ _ => id)).2 k t ht
        obtain ⟨v, hv⟩ : ∃ v, v = rightT t 32768 := ⟨_, rfl⟩
        have hR : ∀ w, Calls Tryd.prog 18 #[tokc t, .int .i64 32768] w fun e w' => e = .returned (.bool v) ∧ Fr (fun _ => False) w w' := fun w => by rw [hv]; exact rRight_any t 32768 w
        have HTK := Lib.hid (And.intro ht hv)
        obtain ⟨b, l, d⟩ := t
        obtain ⟨u, hu⟩ : ∃ u, u = b.toNat := ⟨_, rfl⟩
        unfold tokc bytec at hR
        unfold bytec at h1
        simp only at hR h1 h2 h3
        rw [← hu] at hR h1
        have HR := Lib.hid hR
        clear hu ht hv hR hg
        go_wp2_with fail
        refine (HR.out wr).mono ?_
        rintro e w3 ⟨rfl, hf3⟩
        have HF3 := Lib.hid (HF.out.trans hf3 (fun _ _ h => h))
        clear hf3 h1 h2 h3
        cases v with
        | false =>
          go_wp2_with fail
          go_ret
          exact ⟨rfl, HF2.out.trans HF3.out (fun _ _ h => h)⟩
        | true =>
          have HFIT2 : Hid (∀ j t, j < k + 1 → T[j]? = some t → Fits t) := Lib.hid (by
            intro j t hj ht
            by_cases e : j = k
            · subst e
              rw [HTK.out.1] at ht
              injection ht with ht
              subst ht
              exact HTK.out.2.symm
            · exact HFIT.out j t (by omega) ht)
          go_wp2_with fail
          exact ⟨⟨k + 1, by omega, by go_num, HFIT2.out, HF3.out⟩, by simp [intOf]; omega⟩
      · have hkn : n = k := by omega
        subst hkn
        have hfit : ∀ t ∈ T, Fits t := by
          intro t ht
          obtain ⟨j, hj⟩ := List.mem_iff_getElem?.1 ht
          exact HFIT.out j t (by have := (List.getElem?_eq_some_iff.1 hj).1; have := HLN.out; omega) hj
        have HFT := Lib.hid hfit
        obtain ⟨X, hX⟩ : ∃ X, X = (weigh T SyM.start).1 := ⟨_, rfl⟩
        obtain ⟨Y, hY⟩ : ∃ Y, Y = (weigh T SyM.start).2 := ⟨_, rfl⟩
        have hXl : X.length = 286 := by rw [hX, (weigh_length T SyM.start).1]; rfl
        have hYl : Y.length = 30 := by rw [hY, (weigh_length T SyM.start).2]; rfl
        have HG3 := Lib.hid (K.fr HG2.out HF.out)
        have HF3 := Lib.hid (HF2.out.trans HF.out (fun _ _ h => h))
        have HT3 := Lib.hid (HT2.out.fr HF.out (fun _ _ h => h))
        have hwp : Calls Tryd.prog 19 #[.slice A n c] wr fun e w' => ∃ Aa ca Ab cb, e = .returned (.tuple #[.slice Aa 286 ca, .slice Ab 30 cb]) ∧ Rd w' Aa 286 (X.map natc) ∧ Rd w' Ab 30 (Y.map natc) ∧ Fr (fun _ => False) wr w' := by
          have h := K.weights A n c T wr HG3.out HT3.out (by omega) hfit
          rw [← hX, ← hY] at h
          unfold Two at h
          rw [hXl, hYl] at h
          exact h
        have hwr : ∀ w, Toks w A n T → Calls Tryd.prog 20 #[.slice A n c] w fun e w' => ∃ Ag Bg, e = .returned (.tuple #[.slice Ag 286 286, .slice Bg 30 30]) ∧ Rd w' Ag 286 (X.map natc) ∧ Rd w' Bg 30 (Y.map natc) ∧ Fr (fun _ => False) w w' := fun w h => by
          refine (rWeights_any A n c T w h (by omega) hfit).mono ?_
          rintro e w' ⟨ga, gb, rfl, h1, h2, h3⟩
          rw [← hX] at h1
          rw [← hY] at h2
          refine ⟨_, _, rfl, ?_, ?_, h3⟩
          · have h := rd_blk h1; rwa [List.length_map, hXl] at h
          · have h := rd_blk h2; rwa [List.length_map, hYl] at h
        have HWP := Lib.hid hwp
        have HWR := Lib.hid hwr
        have HXL := Lib.hid (And.intro hXl hYl)
        clear hfit hX hY hXl hYl hwp hwr hlt hk
        go_wp2_with fail
        refine HWP.out.mono ?_
        rintro e w5 ⟨Aa, ca, Ab, cb, rfl, hra, hrb, hf5⟩
        have HF5 := Lib.hid (HF3.out.trans hf5 (fun _ _ h => h))
        have HT5 := Lib.hid (HT3.out.fr hf5 (fun _ _ h => h))
        have HRA5' := Lib.hid hra
        have HRB5' := Lib.hid hrb
        clear hf5 hra hrb
        go_wp2_with fail
        refine (HWR.out w5 HT5.out).mono ?_
        rintro e w6 ⟨Ag, Bg, rfl, hna, hnb, hf6⟩
        have HF6 := Lib.hid (HF5.out.trans hf6 (fun _ _ h => h))
        have HRA5 := Lib.hid (HRA5'.out.fr hf6 (fun _ _ h => h))
        have HRB5 := Lib.hid (HRB5'.out.fr hf6 (fun _ _ h => h))
        have HRA6 := Lib.hid hna
        have HRB6 := Lib.hid hnb
        clear hf6 hna hnb HRA5' HRB5'
        go_wp2_with fail
        go_loopw [8] (fun i wr => ∃ k : Nat, k ≤ 286 ∧ i = .int .i64 (k : Int) ∧ Hid (Fr (fun _ => False) w6 wr)) (fun i _ => 286 - (intOf i).toNat)
        case atStart => exact ⟨0, Nat.zero_le _, rfl, Fr.refl _ _⟩
        case round =>
          obtain ⟨k, hk, rfl, HFa⟩ := hrel
          rename World => wr
          by_cases hlt : k < 286
          · obtain ⟨ad, rfl, c1⟩ := num_at (HRA5.out.fr HFa.out (fun _ _ h => h)) hlt
            obtain ⟨bd, rfl, c2⟩ := num_at (HRA6.out.fr HFa.out (fun _ _ h => h)) hlt
            obtain ⟨v, hv⟩ : ∃ v, v = X[k]! := ⟨_, rfl⟩
            rw [← hv] at c1 c2
            clear hv
            go_wp2_with fail
            go_quiet (fail)
            have HFn := Lib.hid (HFa.out.drewN nq)
            clear c1 c2
            go_wp2_with fail
            exact ⟨⟨k + 1, by omega, by go_num, HFn.out⟩, by simp [intOf]; omega⟩
          · obtain rfl : k = 286 := by omega
            obtain ⟨w7, hw7⟩ : ∃ w7, w7 = wr := ⟨_, rfl⟩
            have HRB5a := Lib.hid (HRB5.out.fr HFa.out (fun _ _ h => h))
            have HRB6a := Lib.hid (HRB6.out.fr HFa.out (fun _ _ h => h))
            rw [← hw7] at HFa HRB5a HRB6a ⊢
            clear hw7
            go_wp2_with fail
            go_loopw [9] (fun i wr => ∃ k : Nat, k ≤ 30 ∧ i = .int .i64 (k : Int) ∧ Hid (Fr (fun _ => False) w7 wr)) (fun i _ => 30 - (intOf i).toNat)
            case atStart => exact ⟨0, Nat.zero_le _, rfl, Fr.refl _ _⟩
            case round =>
              obtain ⟨k, hk, rfl, HFb⟩ := hrel
              rename World => wr
              by_cases hlt : k < 30
              · obtain ⟨ad, rfl, c1⟩ := num_at (HRB5a.out.fr HFb.out (fun _ _ h => h)) hlt
                obtain ⟨bd, rfl, c2⟩ := num_at (HRB6a.out.fr HFb.out (fun _ _ h => h)) hlt
                obtain ⟨v, hv⟩ : ∃ v, v = Y[k]! := ⟨_, rfl⟩
                rw [← hv] at c1 c2
                clear hv
                go_wp2_with fail
                go_quiet (fail)
                have HFn := Lib.hid (HFb.out.drewN nq)
                clear c1 c2
                go_wp2_with fail
                exact ⟨⟨k + 1, by omega, by go_num, HFn.out⟩, by simp [intOf]; omega⟩
              · obtain rfl : k = 30 := by omega
                go_wp2_with fail
                go_ret
                exact ⟨rfl, ((HF6.out.trans HFa.out (fun _ _ h => h)).trans HFb.out (fun _ _ h => h))⟩
end Go.Proofs.YtamcgenjlndfjaaDoor
