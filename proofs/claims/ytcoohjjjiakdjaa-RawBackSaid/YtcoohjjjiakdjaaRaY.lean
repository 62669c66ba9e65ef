/-
  Layer 15, the reference: Same (written by gen_ref15.py).
-/
import Derived.Test.YtcoohjjjiakdjaaZm29
import Derived.Test.YtcoohjjjiakdjaaVaH
import Derived.Test.YtcoohjjjiakdjaaZm08
import Derived.Deep.DeepCutAuto
import Derived.Deep.CutRange
import Derived.BigQuiet
namespace Go.Proofs.Ytcoohjjjiakdjaa
open Go.RowKit Mem Go.Lib RleM LebM VaM
attribute [local go_sem ↓] Go.wp_at_zero Go.wp_at_succ
set_option linter.unusedVariables false

set_option maxRecDepth 100000 in
set_option maxHeartbeats 1600000 in
theorem rsameV_any (A : Option Addr) (n c : Nat) (L : List V) (A' : Option Addr) (n' c' : Nat) (L' : List V) (w : World) (hL : Vls w A n L) (hL' : Vls w A' n' L') (hn : n ≤ 1000000) (hn' : n' ≤ 1000000) (r : Bool) (hr : r = true ↔ L = L') :
    Calls Try.prog 14 #[.slice A n c, .slice A' n' c'] w fun e w' => e = .returned (.bool r) ∧ Fr (fun _ => False) w w' := by
  have HL := Lib.hid hL
  have HL' := Lib.hid hL'
  have HLN := Lib.hid hL.1
  have HLN' := Lib.hid hL'.1
  have HR := Lib.hid hr
  clear hL hL' hr
  by_cases hnn : n = n'
  · subst hnn
    have t0 : ((n : Int) != (n : Int)) = false := by simp
    go_enter Try.func14, Try.ntmps14
    go_wp2_with fail
    go_loopw [5] (fun v wr => ∃ k : Nat, k ≤ n ∧ v = .int .i64 (k : Int) ∧ Hid (L.take k = L'.take k) ∧ Hid (Fr (fun _ => False) w wr)) (fun v _ => n - (intOf v).toNat)
    case atStart => exact ⟨0, Nat.zero_le _, rfl, (by simp : L.take 0 = L'.take 0), Fr.refl _ _⟩
    case round =>
      obtain ⟨k, hk, rfl, HE, HF⟩ := hrel
      rename World => wr
      by_cases hlt : k < n
      · obtain ⟨t, ht⟩ : ∃ t, L[k]? = some t := ⟨_, List.getElem?_eq_getElem (by have := HLN.out; omega)⟩
        obtain ⟨t', ht'⟩ : ∃ t, L'[k]? = some t := ⟨_, List.getElem?_eq_getElem (by have := HLN'.out; omega)⟩
        obtain ⟨g, o, rfl, hg, h0, h1, h2, h3⟩ := (HL.out.fr HF.out (fun _ _ => id)).2 k t ht
        obtain ⟨g', o', rfl, hg', k0, k1, k2, k3⟩ := (HL'.out.fr HF.out (fun _ _ => id)).2 k t' ht'
        obtain ⟨q1, q2⟩ := v_neq t t'
        obtain ⟨q, hq⟩ : ∃ q, eqV t t' = q := ⟨_, rfl⟩
        rw [hq] at q2
        have HQ := Lib.hid hq
        have HT := Lib.hid ht
        have HT' := Lib.hid ht'
        clear ht ht' hq
        cases q with
        | true =>
          have hx : L.take (k + 1) = L'.take (k + 1) := by
            rw [List.take_add_one, List.take_add_one, HE.out, HT.out, HT'.out, (eqV_iff t t').1 HQ.out]
          have HX := Lib.hid hx
          clear hx
          go_wp2_with fail
          go_quiet (fail)
          have HF2 := Lib.hid (HF.out.drewN nq)
          clear h0 h1 h2 h3 k0 k1 k2 k3 q1 q2
          go_wp2_with fail
          exact ⟨⟨k + 1, by omega, by go_num, HX.out, HF2.out⟩, by simp [intOf]; omega⟩
        | false =>
          have hx : r = false := by
            cases r with
            | false => rfl
            | true =>
              have e := HR.out.1 rfl
              have h1 := HT.out
              rw [e, HT'.out] at h1
              injection h1 with h1
              have h2 := HQ.out
              rw [← h1, eqV_self] at h2
              cases h2
          have HX := Lib.hid hx
          clear hx
          go_wp2_with fail
          go_quiet (fail)
          have HF2 := Lib.hid (HF.out.drewN nq)
          clear h0 h1 h2 h3 k0 k1 k2 k3 q1 q2
          go_wp2_with fail
          go_ret
          rw [HX.out]
          exact ⟨rfl, HF2.out⟩
      · obtain rfl : k = n := by omega
        have hx : r = true := by
          have h := HE.out
          rw [List.take_of_length_le (by have := HLN.out; omega), List.take_of_length_le (by have := HLN'.out; omega)] at h
          exact HR.out.2 h
        have HX := Lib.hid hx
        clear hx
        go_wp2_with fail
        go_ret
        rw [HX.out]
        exact ⟨rfl, HF.out⟩
  · have t0 : ((n : Int) != (n' : Int)) = true := by simp; omega
    have hx : r = false := by
      cases r with
      | false => rfl
      | true =>
        have e := HR.out.1 rfl
        have h1 := HLN.out
        rw [e, HLN'.out] at h1
        omega
    have HX := Lib.hid hx
    clear hx
    go_enter Try.func14, Try.ntmps14
    go_wp2_with fail
    go_ret
    rw [HX.out]
    exact ⟨rfl, Fr.refl _ _⟩
end Go.Proofs.Ytcoohjjjiakdjaa
