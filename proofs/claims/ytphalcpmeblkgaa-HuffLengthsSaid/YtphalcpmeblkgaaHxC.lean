/-
  The library's sort at numbers: two pieces that lie side by side change places (rotate); the comparison of two symbols' lengths.
-/
import Derived.Test.YtphalcpmeblkgaaHxB
namespace Go.Proofs.Ytphalcpmeblkgaa
open Go.RowKit HuffM Mem Go.Lib

set_option maxRecDepth 1000000 in
set_option maxHeartbeats 3200000 in
theorem rotate_any (g n c a m b : Nat) (fv : Value) (P X Y S : List Nat) (w : World) (hc : Col w g (P ++ (X ++ (Y ++ S)))) (hn : n = P.length + X.length + Y.length + S.length) (hn1 : n ≤ 1000)
    (ha : a = P.length) (hm : m = P.length + X.length) (hb : b = P.length + X.length + Y.length) (hx : 1 ≤ X.length) (hy : 1 ≤ Y.length) :
    Calls Try.prog 44 #[.slice (some ⟨g, 0, none⟩) n c, .int .i64 (a : Int), .int .i64 (m : Int), .int .i64 (b : Int), fv] w fun e w' =>
      e = .returned (.tuple #[]) ∧ Col w' g (P ++ (Y ++ (X ++ S))) ∧ Fr (fun b => b = g) w w' := by
  have HC := Lib.hid hc
  obtain ⟨i0, hi0⟩ : ∃ i0, i0 = X.length := ⟨_, rfl⟩
  obtain ⟨j0, hj0⟩ : ∃ j0, j0 = Y.length := ⟨_, rfl⟩
  obtain ⟨T, hT⟩ : ∃ T, T = P ++ (Y ++ (X ++ S)) := ⟨_, rfl⟩
  have e1 : (m : Int) - (a : Int) = (i0 : Int) := by omega
  have e2 : (b : Int) - (m : Int) = (j0 : Int) := by omega
  have hmi : m = P.length + i0 := by omega
  have hmn : m + j0 ≤ n := by omega
  have b1 : 1 ≤ i0 := by omega
  have b2 : 1 ≤ j0 := by omega
  rw [← hT]
  have HL0 := Lib.hid (show X.length = i0 ∧ Y.length = j0 ∧ m = P.length + i0 ∧ n = P.length + X.length + Y.length + S.length ∧ P ++ (Y ++ (X ++ S)) = T from ⟨hi0.symm, hj0.symm, hmi, hn, hT.symm⟩)
  clear hc hn ha hm hb hx hy hi0 hj0 hT hmi
  go_enter Try.func44, Try.ntmps44
  go_wp2
  clear e1 e2
  go_loopw [10, 11] (fun vi vj wr => ∃ (i j : Nat) (P' X' Y' S' : List Nat), vi = .int .i64 (i : Int) ∧ vj = .int .i64 (j : Int) ∧ 1 ≤ i ∧ 1 ≤ j ∧ i ≤ m ∧ m + j ≤ n ∧ Hid (X'.length = i ∧ Y'.length = j ∧ m = P'.length + i ∧ n = P'.length + X'.length + Y'.length + S'.length ∧ P' ++ (Y' ++ (X' ++ S')) = T) ∧
      Hid (Col wr g (P' ++ (X' ++ (Y' ++ S')))) ∧ Fr (fun b => b = g) w wr) (fun vi vj _ => (intOf vi).toNat + (intOf vj).toNat)
  case atStart => exact ⟨i0, j0, P, X, Y, S, rfl, rfl, b1, b2, by have := HL0.out; omega, hmn, HL0, HC, Fr.refl _ _⟩
  case round =>
    clear HC HL0 b1 b2 hmn
    obtain ⟨i, j, P', X', Y', S', rfl, rfl, hi, hj, him, hjn, HL, HCk, hfr⟩ := hrel
    obtain ⟨q, hq⟩ : ∃ q, q = m - i := ⟨_, rfl⟩
    have eq1 : (m : Int) - (i : Int) = (q : Int) := by omega
    have EQ : Hid (q = P'.length) := by
      show _ = _
      have := HL.out
      omega
    rcases Nat.lt_trichotomy i j with hlt | heq | hgt
    · -- the last of Y come ahead
      obtain ⟨q2, hq2⟩ : ∃ q2, q2 = m + j - i := ⟨_, rfl⟩
      have eq2 : (m : Int) + (j : Int) - (i : Int) = (q2 : Int) := by omega
      obtain ⟨Y1, hY1⟩ : ∃ Y1, Y1 = Y'.take (j - i) := ⟨_, rfl⟩
      obtain ⟨Y2, hY2⟩ : ∃ Y2, Y2 = Y'.drop (j - i) := ⟨_, rfl⟩
      have hY : Y' = Y1 ++ Y2 := by rw [hY1, hY2, List.take_append_drop]
      have l1 : Y1.length = j - i := by rw [hY1, List.length_take, HL.out.2.1]; omega
      have l2 : Y2.length = i := by rw [hY2, List.length_drop, HL.out.2.1]; omega
      clear hY1 hY2
      subst hY
      have hcall := swapRange_any g n c q q2 i fv P' X' Y1 Y2 S' wr (by have h := HCk.out; simp only [List.append_assoc] at h; exact h) (by have := HL.out.2.2.2.1; rw [List.length_append] at this; omega) hn1 EQ.out (by rw [hq2, l1]; have := HL.out; omega) HL.out.1 l2
      have HCALL := Lib.hid hcall
      have LL := Lib.hid (And.intro l1 l2)
      have t1 : ((i : Int) != (j : Int)) = true := by simp; omega
      have t2 : decide (j < i) = false := by simp; omega
      have s1 : (j : Int) - (i : Int) = ((j - i : Nat) : Int) := by omega
      clear hcall l1 l2 hq hq2
      go_wp2_with fail
      refine HCALL.out.mono ?_
      rintro e w2 ⟨rfl, hc2, hf2⟩
      have HC2 := Lib.hid hc2
      have HF2 := Lib.hid (hfr.trans hf2 (fun _ _ h => h))
      clear hc2 hf2 hfr HCALL HCk eq1 eq2
      go_wp2
      go_roundw
      case rel =>
        refine ⟨i, j - i, P', Y2, Y1, X' ++ S', rfl, by first | rfl | go_num | (congr 1; omega), hi, by omega, him, by omega, ?_, ?_, HF2.out⟩
        · have h := HL.out
          have h2 := LL.out
          refine ⟨h2.2, h2.1, h.2.2.1, ?_, ?_⟩
          · rw [h.2.2.2.1, List.length_append, List.length_append]; omega
          · rw [← h.2.2.2.2]; simp
        · exact HC2.out
      case measure => simp [intOf]; omega
    · subst heq
      have hcall := swapRange_any g n c q m i fv P' X' [] Y' S' wr HCk.out (by have := HL.out.2.2.2.1; simp; omega) hn1 EQ.out (by simp; have := HL.out; omega) HL.out.1 HL.out.2.1
      have HCALL := Lib.hid hcall
      have t1 : ((i : Int) != (i : Int)) = false := by simp
      clear hcall hq
      go_wp2_with fail
      refine HCALL.out.mono ?_
      rintro e w2 ⟨rfl, hc2, hf2⟩
      have HC2 : Hid (Col w2 g T) := by
        have h := HL.out.2.2.2.2
        show Col w2 g T
        rw [← h]
        exact hc2
      have HF2 := Lib.hid (hfr.trans hf2 (fun _ _ h => h))
      clear hc2 hf2 hfr HCALL HCk eq1
      go_wp2
      go_end0
      exact ⟨rfl, HC2.out, HF2.out⟩
    · -- the first of X go behind
      obtain ⟨X1, hX1⟩ : ∃ X1, X1 = X'.take j := ⟨_, rfl⟩
      obtain ⟨X2, hX2⟩ : ∃ X2, X2 = X'.drop j := ⟨_, rfl⟩
      have hX : X' = X1 ++ X2 := by rw [hX1, hX2, List.take_append_drop]
      have l1 : X1.length = j := by rw [hX1, List.length_take, HL.out.1]; omega
      have l2 : X2.length = i - j := by rw [hX2, List.length_drop, HL.out.1]
      clear hX1 hX2
      subst hX
      have hcall := swapRange_any g n c q m j fv P' X1 X2 Y' S' wr (by have h := HCk.out; simp only [List.append_assoc] at h; exact h) (by have := HL.out.2.2.2.1; rw [List.length_append] at this; omega) hn1 EQ.out (by rw [l1, l2]; have := HL.out; omega) l1 HL.out.2.1
      have HCALL := Lib.hid hcall
      have LL := Lib.hid (And.intro l1 l2)
      have t1 : ((i : Int) != (j : Int)) = true := by simp; omega
      have t2 : decide (j < i) = true := by simp; omega
      have s1 : (i : Int) - (j : Int) = ((i - j : Nat) : Int) := by omega
      clear hcall l1 l2 hq
      go_wp2_with fail
      refine HCALL.out.mono ?_
      rintro e w2 ⟨rfl, hc2, hf2⟩
      have HC2 := Lib.hid hc2
      have HF2 := Lib.hid (hfr.trans hf2 (fun _ _ h => h))
      clear hc2 hf2 hfr HCALL HCk eq1
      go_wp2
      go_roundw
      case rel =>
        refine ⟨i - j, j, P' ++ Y', X2, X1, S', by first | rfl | go_num | (congr 1; omega), rfl, by omega, hj, by omega, hjn, ?_, ?_, HF2.out⟩
        · have h := HL.out
          have h2 := LL.out
          refine ⟨h2.2, h2.1, ?_, ?_, ?_⟩
          · rw [List.length_append, h.2.1]; omega
          · rw [h.2.2.2.1, List.length_append, List.length_append]; omega
          · rw [← h.2.2.2.2]; simp
        · show Col _ _ _
          have h := HC2.out
          simpa using h
      case measure => simp [intOf]; omega
end Go.Proofs.Ytphalcpmeblkgaa
