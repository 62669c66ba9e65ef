/-
  The innermost loop of layer 6's reference Press, as a theorem of its own (written by gen_lenloop.py).
-/
import Derived.Test.YtahfmcdhcbfkaaaGreatDoorZm04
import Derived.Test.YtahfmcdhcbfkaaaGreatDoorZm08
import Derived.Deep.DrawnRows
import Derived.StillTailTactics
import Derived.Deep.QuietTactic
import Derived.BigQuiet
namespace Go.Proofs.YtahfmcdhcbfkaaaGreatDoor
open Go.RowKit LzM Mem Go.Lib
attribute [local go_sem ↓] Go.wp_at_zero Go.wp_at_succ
set_option linter.unusedVariables false

set_option maxRecDepth 1000000 in
noncomputable def lenBody : Code := ((Tryz.f20.body.bind (loopAt 9)).getD .skip)

set_option maxRecDepth 1000000 in
set_option maxHeartbeats 3200000 in
theorem len_loop (Q0 : Exit → Act → World → Prop) (s1 s2 s3 s5 s6 s9 s10 s11 s12 s13 s14 s15 s16 s17 s18 s19 s20 s21 s22 s23 s24 s25 s26 s27 s28 s29 s30 s31 s32 s33 s34 s35 s36 s37 s38 s39 s40 s41 s42 s43 s44 s45 s46 s47 s48 s49 s50 s51 s52 s53 s54 s55 s56 s57 s58 s59 s60 s61 s62 s63 s64 s65 s66 s67 s68 s69 s70 s71 s72 s73 s74 s75 s76 s77 : Value) (A : Option Addr) (n c i d : Nat) (B : List UInt8) (wc : World)
    (HR : Hid (Rd wc A n (B.map bytec))) (HLN : Hid (B.length = n)) (hn : n ≤ 1000000) (hi : i < n) (hd1 : 1 ≤ d) (hd2 : d ≤ i)
    (hexit : ∀ (w'' : World) (r22 r23 r24 r25 r26 r27 r28 r29 r30 r31 r32 r33 r34 r35 r36 r37 r38 r39 r40 r41 r42 r43 r44 r45 r46 r47 r48 r49 r50 : Value), Fr (fun _ => False) wc w'' → Q0 (.exit 4) ⟨List.toArray (.slice A n c :: s1 :: s2 :: s3 :: .int .i64 (i : Int) :: s5 :: s6 :: .int .i64 (d : Int) :: .int .i64 (len B i d : Nat) :: s9 :: s10 :: s11 :: s12 :: s13 :: s14 :: s15 :: s16 :: s17 :: s18 :: s19 :: s20 :: s21 :: r22 :: r23 :: r24 :: r25 :: r26 :: r27 :: r28 :: r29 :: r30 :: r31 :: r32 :: r33 :: r34 :: r35 :: r36 :: r37 :: r38 :: r39 :: r40 :: r41 :: r42 :: r43 :: r44 :: r45 :: r46 :: r47 :: r48 :: r49 :: r50 :: s51 :: s52 :: s53 :: s54 :: s55 :: s56 :: s57 :: s58 :: s59 :: s60 :: s61 :: s62 :: s63 :: s64 :: s65 :: s66 :: s67 :: s68 :: s69 :: s70 :: s71 :: s72 :: s73 :: s74 :: s75 :: s76 :: s77 :: []), []⟩ w'') :
    Code.wp Tryz.prog (Code.loop lenBody) Q0 ⟨List.toArray (.slice A n c :: s1 :: s2 :: s3 :: .int .i64 (i : Int) :: s5 :: s6 :: .int .i64 (d : Int) :: .int .i64 0 :: s9 :: s10 :: s11 :: s12 :: s13 :: s14 :: s15 :: s16 :: s17 :: s18 :: s19 :: s20 :: s21 :: s22 :: s23 :: s24 :: s25 :: s26 :: s27 :: s28 :: s29 :: s30 :: s31 :: s32 :: s33 :: s34 :: s35 :: s36 :: s37 :: s38 :: s39 :: s40 :: s41 :: s42 :: s43 :: s44 :: s45 :: s46 :: s47 :: s48 :: s49 :: s50 :: s51 :: s52 :: s53 :: s54 :: s55 :: s56 :: s57 :: s58 :: s59 :: s60 :: s61 :: s62 :: s63 :: s64 :: s65 :: s66 :: s67 :: s68 :: s69 :: s70 :: s71 :: s72 :: s73 :: s74 :: s75 :: s76 :: s77 :: []), []⟩ wc := by
  conv => arg 2; arg 1; whnf
  go_loopw [8] (fun x wx => ∃ m : Nat, m ≤ 258 ∧ x = .int .i64 (m : Int) ∧ Hid (same B i d (258 - m) m = len B i d) ∧ Hid (Fr (fun _ => False) wc wx)) (fun x _ => 258 - (intOf x).toNat)
  case atStart => exact ⟨0, by omega, rfl, rfl, Fr.refl _ _⟩
  case round =>
    obtain ⟨m, hm, rfl, Hs, HF3⟩ := hrel
    by_cases hm2 : m < 258
    · by_cases hin : i + m < n
      · have hrd := HR.out.fr HF3.out (fun _ _ h => h)
        obtain ⟨ad, u1, rfl, hu1, hc1⟩ := hrd.at_ (k := i + m) (by omega)
        obtain ⟨ad2, u2, hA2, hu2, hc2⟩ := hrd.at_ (k := i + m - d) (by omega)
        injection hA2 with hA2
        subst hA2
        obtain ⟨b1, hb1⟩ : ∃ b1, b1 = B[i + m]! := ⟨_, rfl⟩
        obtain ⟨b2, hb2⟩ : ∃ b2, b2 = B[i + m - d]! := ⟨_, rfl⟩
        have hin' : i + m < B.length := by rw [HLN.out]; exact hin
        have e1 : u1 = .int .u8 (b1.toNat : Int) := by
          rw [List.getElem?_map, List.getElem?_eq_getElem hin'] at hu1
          rw [hb1, getElem!_pos B (i + m) hin']
          exact (Option.some.inj hu1).symm
        have e2 : u2 = .int .u8 (b2.toNat : Int) := by
          rw [List.getElem?_map, List.getElem?_eq_getElem (by omega)] at hu2
          rw [hb2, getElem!_pos B (i + m - d) (by omega)]
          exact (Option.some.inj hu2).symm
        subst e1 e2
        obtain ⟨v, hv⟩ : ∃ v, v = decide (b1 = b2) := ⟨_, rfl⟩
        have tv : ((b1.toNat : Int) == (b2.toNat : Int)) = v := by
          rw [hv]
          by_cases e : b1 = b2
          · simp [e]
          · have : b1.toNat ≠ b2.toNat := fun h => e (UInt8.toNat_inj.1 h)
            simp [e]; omega
        have HV := Lib.hid (show v = decide (B[i + m]! = B[i + m - d]!) by rw [hv, hb1, hb2])
        obtain ⟨p, hp⟩ : ∃ p, p = i + m := ⟨_, rfl⟩
        obtain ⟨q, hq⟩ : ∃ q, q = i + m - d := ⟨_, rfl⟩
        rw [← hp] at hc1
        rw [← hq] at hc2
        have hpn : p < n := by omega
        have hqn : q < n := by omega
        have r1 : IntKind.i64.wrap ((i : Int) + (m : Int)) = (p : Int) := by rw [IntKind.wrap_i64]; omega
        have r2 : IntKind.i64.wrap ((p : Int) - (d : Int)) = (q : Int) := by rw [IntKind.wrap_i64]; omega
        have HP := Lib.hid hp
        have t1 : decide ((m : Int) < 258) = true := by simp; omega
        have t2 : decide ((p : Int) < (n : Int)) = true := by simp; omega
        clear hu1 hu2 hb1 hb2 hv hrd hin hin' hp hq
        go_wp2_with fail
        go_still (by kernel_rfl)
        change Exit.then _ _ _ _ wr.drew
        obtain ⟨w5, hw5⟩ : ∃ w5, w5 = wr.drew := ⟨_, rfl⟩
        rw [← hw5]
        have HF5 : Hid (Fr (fun _ => False) wc w5) := (by rw [hw5]; exact HF3.out.drew)
        clear hw5
        cases v with
        | true =>
          have hs2 : same B i d (258 - (m + 1)) (m + 1) = len B i d := by
            rw [← Hs.out, show 258 - m = (258 - (m + 1)) + 1 by omega]
            exact (same_step B i d _ m (by rw [HLN.out, ← HP.out]; exact hpn) (of_decide_eq_true HV.out.symm)).symm
          have HS2 := Lib.hid hs2
          clear hs2 tv hc1 hc2
          go_wp2_with fail
          go_roundw
          case rel => exact ⟨m + 1, by omega, by go_num, HS2.out, HF5.out⟩
          case measure => simp [intOf] <;> omega
        | false =>
          have hl : m = len B i d := by
            rw [← Hs.out, show 258 - m = (258 - (m + 1)) + 1 by omega]
            exact (same_stop B i d _ m (fun h => of_decide_eq_false HV.out.symm h.2)).symm
          clear tv hc1 hc2
          go_wp2_with fail
          rw [hl]
          exact hexit _ _ _ _ _ _ _ _ _ _ _ _ _ _ _ _ _ _ _ _ _ _ _ _ _ _ _ _ _ _ HF5.out
      · obtain ⟨p, hp⟩ : ∃ p, p = i + m := ⟨_, rfl⟩
        have r1 : IntKind.i64.wrap ((i : Int) + (m : Int)) = (p : Int) := by rw [IntKind.wrap_i64]; omega
        have t1 : decide ((m : Int) < 258) = true := by simp; omega
        have t2 : decide ((p : Int) < (n : Int)) = false := by simp; omega
        have t3 : decide (p < n) = false := by simp; omega
        have hl : m = len B i d := by
          rw [← Hs.out, show 258 - m = (258 - (m + 1)) + 1 by omega]
          exact (same_stop B i d _ m (fun h => hin (by rw [← HLN.out]; exact h.1))).symm
        have HL := Lib.hid hl
        clear hl hp hin
        go_wp2_with fail
        go_quiet (fail)
        have HF5 := Lib.hid (HF3.out.drewN nq)
        go_wp2_with fail
        rw [HL.out]
        exact hexit _ _ _ _ _ _ _ _ _ _ _ _ _ _ _ _ _ _ _ _ _ _ _ _ _ _ _ _ _ _ HF5.out
    · obtain rfl : m = 258 := by omega
      have hl : 258 = len B i d := by rw [← Hs.out]; rfl
      have HL := Lib.hid hl
      clear hl
      go_wp2_with fail
      go_quiet (fail)
      have HF5 := Lib.hid (HF3.out.drewN nq)
      rw [← HL.out] at hexit
      go_wp2_with fail
      exact HF5.out
end Go.Proofs.YtahfmcdhcbfkaaaGreatDoor
