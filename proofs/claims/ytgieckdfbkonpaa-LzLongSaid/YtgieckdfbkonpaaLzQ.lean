/-
  Layer 6, the program: Right (written by gen_right.py).
-/
import Derived.Test.YtgieckdfbkonpaaLzG
import Derived.Test.YtgieckdfbkonpaaLzB
import Derived.Deep.DeepCutAuto
namespace Go.Proofs.Ytgieckdfbkonpaa
open Go.RowKit LzM Mem Go.Lib
set_option linter.unusedVariables false

set_option maxRecDepth 100000 in
set_option maxHeartbeats 1600000 in
theorem pRight_any (t : Tok) (n : Nat) (w : World) :
    Calls Try.prog 14 #[tokc t, .int .i64 (n : Int)] w fun e w' => e = .returned (.bool (rightT t n)) ∧ Fr (fun _ => False) w w' := by
  obtain ⟨b, l, d⟩ := t
  unfold tokc bytec
  obtain ⟨u, hu⟩ : ∃ u, u = b.toNat := ⟨_, rfl⟩
  have hz : b = 0 ↔ u = 0 := by rw [hu]; exact ⟨fun h => by rw [h]; rfl, fun h => UInt8.toNat_inj.1 h⟩
  rw [← hu]
  clear hu
  obtain ⟨N, hN⟩ : ∃ N : Int, N = (n : Int) := ⟨_, rfl⟩
  have hN0 : 0 ≤ N := by omega
  rw [← hN]
  clear hN
  by_cases hl : l = 0
  · subst hl
    have HR : Hid (rightT ⟨b, 0, d⟩ N = (d == 0)) := Lib.hid (by
      rw [rightT]
      by_cases hd : d = 0
      · rw [if_pos ⟨rfl, hd⟩, hd]; rfl
      · rw [if_neg (fun h => hd h.2), decide_eq_false (by simp)]
        simp [hd])
    go_enter Try.func14, Try.ntmps14
    go_wp2_with fail
    go_ret
    exact ⟨by rw [HR.out]; rfl, (Fr.refl _ w).alloc _⟩
  · by_cases h0 : u = 0
    · by_cases h1 : 3 ≤ l
      · by_cases h2 : l ≤ 258
        · by_cases h3 : 1 ≤ d
          · by_cases hmi : N < 32768
            · by_cases h4 : d ≤ N
              · have HR : Hid (rightT ⟨b, l, d⟩ N = true) := Lib.hid (by rw [rightT, if_neg (by simp only; omega)]; exact decide_eq_true ⟨hz.2 h0, h1, h2, h3, (show d ≤ 32768 by omega), (show d ≤ N by omega)⟩)
                go_enter Try.func14, Try.ntmps14
                go_wp2_with fail
                go_ret
                refine ⟨?_, (Fr.refl _ w).alloc _⟩
                rw [HR.out]
                first | rfl | (simp; omega)
              · have HR : Hid (rightT ⟨b, l, d⟩ N = false) := Lib.hid (by rw [rightT, if_neg (by simp only; omega)]; refine decide_eq_false ?_; rintro ⟨q0, q1, q2, q3, q4, q5⟩; have q6 := hz.1 q0; simp only at q1 q2 q3 q4 q5; omega)
                have h5 : N < d := by omega
                clear h4
                go_enter Try.func14, Try.ntmps14
                go_wp2_with fail
                go_ret
                refine ⟨?_, (Fr.refl _ w).alloc _⟩
                rw [HR.out]
                first | rfl | (simp; omega)
            · have hmj : 32768 ≤ N := by omega
              clear hmi
              by_cases h4 : d ≤ 32768
              · have HR : Hid (rightT ⟨b, l, d⟩ N = true) := Lib.hid (by rw [rightT, if_neg (by simp only; omega)]; exact decide_eq_true ⟨hz.2 h0, h1, h2, h3, (show d ≤ 32768 by omega), (show d ≤ N by omega)⟩)
                go_enter Try.func14, Try.ntmps14
                go_wp2_with fail
                go_ret
                refine ⟨?_, (Fr.refl _ w).alloc _⟩
                rw [HR.out]
                first | rfl | (simp; omega)
              · have HR : Hid (rightT ⟨b, l, d⟩ N = false) := Lib.hid (by rw [rightT, if_neg (by simp only; omega)]; refine decide_eq_false ?_; rintro ⟨q0, q1, q2, q3, q4, q5⟩; have q6 := hz.1 q0; simp only at q1 q2 q3 q4 q5; omega)
                have h5 : 32768 < d := by omega
                clear h4
                go_enter Try.func14, Try.ntmps14
                go_wp2_with fail
                go_ret
                refine ⟨?_, (Fr.refl _ w).alloc _⟩
                rw [HR.out]
                first | rfl | (simp; omega)
          · have HR : Hid (rightT ⟨b, l, d⟩ N = false) := Lib.hid (by rw [rightT, if_neg (by simp only; omega)]; refine decide_eq_false ?_; rintro ⟨q0, q1, q2, q3, q4, q5⟩; have q6 := hz.1 q0; simp only at q1 q2 q3 q4 q5; omega)
            have gh3 : d < 1 := by omega
            clear h3
            go_enter Try.func14, Try.ntmps14
            go_wp2_with fail
            go_ret
            refine ⟨?_, (Fr.refl _ w).alloc _⟩
            rw [HR.out]
            first | rfl | (simp; omega)
        · have HR : Hid (rightT ⟨b, l, d⟩ N = false) := Lib.hid (by rw [rightT, if_neg (by simp only; omega)]; refine decide_eq_false ?_; rintro ⟨q0, q1, q2, q3, q4, q5⟩; have q6 := hz.1 q0; simp only at q1 q2 q3 q4 q5; omega)
          have gh2 : 258 < l := by omega
          clear h2
          go_enter Try.func14, Try.ntmps14
          go_wp2_with fail
          go_ret
          refine ⟨?_, (Fr.refl _ w).alloc _⟩
          rw [HR.out]
          first | rfl | (simp; omega)
      · have HR : Hid (rightT ⟨b, l, d⟩ N = false) := Lib.hid (by rw [rightT, if_neg (by simp only; omega)]; refine decide_eq_false ?_; rintro ⟨q0, q1, q2, q3, q4, q5⟩; have q6 := hz.1 q0; simp only at q1 q2 q3 q4 q5; omega)
        have gh1 : l < 3 := by omega
        clear h1
        go_enter Try.func14, Try.ntmps14
        go_wp2_with fail
        go_ret
        refine ⟨?_, (Fr.refl _ w).alloc _⟩
        rw [HR.out]
        first | rfl | (simp; omega)
    · have HR : Hid (rightT ⟨b, l, d⟩ N = false) := Lib.hid (by rw [rightT, if_neg (by simp only; omega)]; refine decide_eq_false ?_; rintro ⟨q0, q1, q2, q3, q4, q5⟩; have q6 := hz.1 q0; simp only at q1 q2 q3 q4 q5; omega)
      go_enter Try.func14, Try.ntmps14
      go_wp2_with fail
      go_ret
      refine ⟨?_, (Fr.refl _ w).alloc _⟩
      rw [HR.out]
      first | rfl | (simp; omega)
end Go.Proofs.Ytgieckdfbkonpaa
