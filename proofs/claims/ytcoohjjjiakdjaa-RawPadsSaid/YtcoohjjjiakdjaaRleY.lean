/-
  Layer 11, the reference: SameCells, SameWords (written by gen11.py out of rleY.src).
-/
import Derived.Test.YtcoohjjjiakdjaaZm04
import Derived.Lib.Hide
import Derived.Deep.QuietTactic
import Derived.BigQuiet
import Derived.StillTailTactics
import Derived.Deep.DrawnRows
namespace Go.Proofs.Ytcoohjjjiakdjaa
open Go.RowKit Mem Go.Lib
attribute [local go_sem ↓] Go.wp_at_zero Go.wp_at_succ
set_option linter.unusedVariables false

set_option maxRecDepth 100000 in
set_option maxHeartbeats 1600000 in
theorem rsameC_any (A : Option Addr) (n c : Nat) (L : List (Bool × Int)) (A' : Option Addr) (n' c' : Nat) (L' : List (Bool × Int)) (w : World) (hL : Cls nv w A n L) (hL' : Cls nv w A' n' L') (hn : n ≤ 1000000) (hn' : n' ≤ 1000000) :
    Calls Try.prog 16 #[.slice A n c, .slice A' n' c'] w fun e w' => e = .returned (.bool (decide (L = L'))) ∧ Fr (fun _ => False) w w' := by
  have HL := Lib.hid hL
  have HL' := Lib.hid hL'
  have HLN := Lib.hid hL.1
  have HLN' := Lib.hid hL'.1
  clear hL hL'
  by_cases hnn : n = n'
  · subst hnn
    have t0 : ((n : Int) != (n : Int)) = false := by simp
    obtain ⟨R, hR⟩ : ∃ R, R = decide (L = L') := ⟨_, rfl⟩
    rw [← hR]
    have HR := Lib.hid hR
    clear hR
    go_enter Try.func16, Try.ntmps16
    go_wp2_with fail
    go_loopw [5] (fun v wr => ∃ k : Nat, k ≤ n ∧ v = .int .i64 (k : Int) ∧ Hid (L.take k = L'.take k) ∧ Hid (Fr (fun _ => False) w wr)) (fun v _ => n - (intOf v).toNat)
    case atStart => exact ⟨0, Nat.zero_le _, rfl, (by simp : L.take 0 = L'.take 0), Fr.refl _ _⟩
    case round =>
      obtain ⟨k, hk, rfl, HE, HF⟩ := hrel
      rename World => wr
      by_cases hlt : k < n
      · obtain ⟨t, ht⟩ : ∃ t, L[k]? = some t := ⟨_, List.getElem?_eq_getElem (by have := HLN.out; omega)⟩
        obtain ⟨t', ht'⟩ : ∃ t, L'[k]? = some t := ⟨_, List.getElem?_eq_getElem (by have := HLN'.out; omega)⟩
        obtain ⟨g, o, rfl, hg, h1, h2⟩ := (HL.out.fr HF.out (fun _ _ => id)).2 k t ht
        obtain ⟨g', o', rfl, hg', k1, k2⟩ := (HL'.out.fr HF.out (fun _ _ => id)).2 k t' ht'
        obtain ⟨i, x⟩ := t
        obtain ⟨j, y⟩ := t'
        simp only [nv] at h1 h2 k1 k2
        have q1 := fun (o p : Operand) (w : World) => cell_gdC .neq i j x y o p w
        have q2 := fun (w : World) => cell_neqC i j x y w
        obtain ⟨q, hq⟩ : ∃ q, decide ((i, x) = (j, y)) = q := ⟨_, rfl⟩
        rw [hq] at q2
        have HQ := Lib.hid hq
        have HT := Lib.hid ht
        have HT' := Lib.hid ht'
        clear ht ht' hq
        cases q with
        | true =>
          have hx : L.take (k + 1) = L'.take (k + 1) := by
            rw [List.take_add_one, List.take_add_one, HE.out, HT.out, HT'.out, of_decide_eq_true HQ.out]
          have HX := Lib.hid hx
          clear hx
          go_wp2_with fail
          go_quiet (fail)
          have HF2 := Lib.hid (HF.out.drewN nq)
          clear h1 h2 k1 k2
          go_wp2_with fail
          exact ⟨⟨k + 1, by omega, by go_num, HX.out, HF2.out⟩, by simp [intOf]; omega⟩
        | false =>
          have hx : R = false := by
            rw [HR.out]
            refine decide_eq_false (fun e => of_decide_eq_false HQ.out ?_)
            have h := HT.out
            rw [e, HT'.out] at h
            injection h with h
            exact h.symm
          have HX := Lib.hid hx
          clear hx
          go_wp2_with fail
          go_quiet (fail)
          have HF2 := Lib.hid (HF.out.drewN nq)
          clear h1 h2 k1 k2
          go_wp2_with fail
          go_ret
          rw [HX.out]
          exact ⟨rfl, HF2.out⟩
      · obtain rfl : k = n := by omega
        have hx : R = true := by
          rw [HR.out]
          refine decide_eq_true ?_
          have h := HE.out
          rwa [List.take_of_length_le (by have := HLN.out; omega), List.take_of_length_le (by have := HLN'.out; omega)] at h
        have HX := Lib.hid hx
        clear hx
        go_wp2_with fail
        go_ret
        rw [HX.out]
        exact ⟨rfl, HF.out⟩
  · have t0 : ((n : Int) != (n' : Int)) = true := by simp; omega
    have t0' : (n != n') = true := by simp; omega
    have hx : decide (L = L') = false := decide_eq_false (fun e => hnn (by rw [← HLN.out, e, HLN'.out]))
    rw [hx]
    clear hx
    go_enter Try.func16, Try.ntmps16
    go_wp2_with fail
    go_ret
    exact ⟨rfl, Fr.refl _ _⟩

end Go.Proofs.Ytcoohjjjiakdjaa
