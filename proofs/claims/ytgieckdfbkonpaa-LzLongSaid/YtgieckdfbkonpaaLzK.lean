/-
  Layer 6, the program: match (written by gen_match2.py).
-/
import Derived.Test.YtgieckdfbkonpaaLzJ
namespace Go.Proofs.Ytgieckdfbkonpaa
open Go.RowKit LzM LzN Mem Go.Lib
set_option linter.unusedVariables false

set_option maxRecDepth 100000 in
set_option maxHeartbeats 3200000 in
theorem match_any (p m q a c : Nat) (A : Option Addr) (B : List UInt8) (V : List Int) (w : World) (hP : Past w p A c B m q a V) (hB : Rd w A B.length (B.map bytec)) (hn : B.length ≤ 1000000) (hc : B.length ≤ c) (hcm : c ≤ maxLen) (han : a < B.length) :
    Calls Try.prog 18 #[.pointer (some ⟨p, 0, none⟩), .int .i64 (a : Int)] w fun e w' => e = .returned (.tuple #[.int .i64 ((matchR B a).1 : Int), .int .i64 ((matchR B a).2 : Int)]) ∧ Fr (fun _ => False) w w' := by
  have c0 := hP.c0
  have HP := Lib.hid hP
  have HB := Lib.hid hB
  have HN : Hid (B.length ≤ 1000000 ∧ B.length ≤ c ∧ c ≤ maxLen) := Lib.hid ⟨hn, hc, hcm⟩
  obtain ⟨n, hnn⟩ : ∃ n, n = B.length := ⟨_, rfl⟩
  have HNN := Lib.hid hnn
  rw [← hnn] at c0 hn han
  obtain ⟨M, hM⟩ : ∃ M, M = n - a := ⟨_, rfl⟩
  have eM : (n : Int) - (a : Int) = (M : Int) := by omega
  have ha1 : a ≤ 1000000 := by omega
  have hM1 : M ≤ 1000000 := by omega
  have HM := Lib.hid hM
  clear hP hB hc hcm hnn hM
  by_cases h3 : M < 3
  · have hMi : (M : Int) < 258 := by omega
    go_enter Try.func18, Try.ntmps18
    go_wp2_with fail
    have e : matchR B a = (0, 0) := by unfold matchR; rw [if_neg (by have h1 := HNN.out; have h2 := HM.out; omega)]
    rw [e]
    exact bodyPost_ret (v := .tuple #[.int .i64 0, .int .i64 0]) (by simp [results, Try.results18, go_sem]) rfl ⟨rfl, Fr.refl _ _⟩
  · have HA : Hid (a + 3 ≤ B.length) := Lib.hid (by have h1 := HNN.out; have h2 := HM.out; omega)
    have hnear : Calls Try.prog 21 #[.pointer (some ⟨p, 0, none⟩), .int .i64 (a : Int)] w fun e w' => e = .returned (.int .i64 (prevI B a)) ∧ Fr (fun _ => False) w w' :=
      nearest_any p A B.length c m a B _ a w HP.out.c0 HP.out.c1 HP.out.mp HB.out HA.out HN.out.1 HN.out.2.1 HN.out.2.2
    have HNEAR := Lib.hid hnear
    clear hnear
    by_cases hm : M < 258
    · have hMi : (M : Int) < 258 := by omega
      obtain ⟨MM, hMM⟩ : ∃ MM, MM = M := ⟨_, rfl⟩
      have HMM : Hid (MM = min 258 (B.length - a)) := Lib.hid (by rw [← HNN.out, ← HM.out, hMM]; omega)
      rw [← hMM] at eM hMi h3
      clear hMM
      go_enter Try.func18, Try.ntmps18
      go_wp2_with fail
      refine HNEAR.out.mono ?_
      rintro e w2 ⟨rfl, hf2⟩
      have HF2 := Lib.hid hf2
      have HP2 := Lib.hid (HP.out.fr hf2 (fun _ _ h => h))
      have HB2 := Lib.hid (HB.out.fr hf2 (fun _ _ h => h))
      clear hf2
      go_wp2_with fail
      refine match_loop _ _ _ _ _ _ _ _ _ _ _ _ _ _ _ _ _ _ _ _ _ _ _ _ _ _ _ _ _ _ _ _ _ _ _ _ _ _ _ _ _ _ _ _ _ _ _ _ _ _ _ _ _ _ _ _ _ _ _ _ _ _ _ _ _ _ _ _ _ _ _ _ _ _ _ _ _ _ p m q a c MM A B V _ HP2 HB2 HN HMM HA ?_
      intro w3 L D r7 r8 r22 r23 r24 r25 r26 r27 r28 r29 r30 r31 r32 r33 r34 r35 r36 r37 r38 r39 r40 r41 r42 r43 r44 r45 r46 r47 r48 r49 r50 r51 r52 r53 r54 r55 r56 r57 r58 r59 r60 r61 r62 r63 r64 r65 r66 r67 r68 r69 r70 r71 r72 r73 r74 r75 r76 r77 r78 r79 r80 hLD hf3
      have HF3 := Lib.hid (HF2.out.trans hf3 (fun _ _ h => h))
      have HR : Hid ((L, D) = matchR B a) := Lib.hid (by unfold matchR; rw [if_pos HA.out]; exact hLD)
      clear hLD hf3
      go_wp2_with fail
      have e1 : (matchR B a).1 = L := by rw [← HR.out]
      have e2 : (matchR B a).2 = D := by rw [← HR.out]
      rw [e1, e2]
      exact bodyPost_ret (v := .tuple #[.int .i64 (L : Int), .int .i64 (D : Int)]) (by simp [results, Try.results18, go_sem]) rfl ⟨rfl, HF3.out⟩
    · have hMi : 258 ≤ (M : Int) := by omega
      obtain ⟨MM, hMM⟩ : ∃ MM, MM = 258 := ⟨_, rfl⟩
      have HMM : Hid (MM = min 258 (B.length - a)) := Lib.hid (by rw [← HNN.out, ← HM.out, hMM]; omega)
      have hcast : (258 : Int) = (MM : Int) := by omega
      have HC := Lib.hid hcast
      clear hMM hcast
      go_enter Try.func18, Try.ntmps18
      go_wp2_with fail
      refine HNEAR.out.mono ?_
      rintro e w2 ⟨rfl, hf2⟩
      have HF2 := Lib.hid hf2
      have HP2 := Lib.hid (HP.out.fr hf2 (fun _ _ h => h))
      have HB2 := Lib.hid (HB.out.fr hf2 (fun _ _ h => h))
      clear hf2
      go_wp2_with fail
      rw [HC.out]
      refine match_loop _ _ _ _ _ _ _ _ _ _ _ _ _ _ _ _ _ _ _ _ _ _ _ _ _ _ _ _ _ _ _ _ _ _ _ _ _ _ _ _ _ _ _ _ _ _ _ _ _ _ _ _ _ _ _ _ _ _ _ _ _ _ _ _ _ _ _ _ _ _ _ _ _ _ _ _ _ _ p m q a c MM A B V _ HP2 HB2 HN HMM HA ?_
      intro w3 L D r7 r8 r22 r23 r24 r25 r26 r27 r28 r29 r30 r31 r32 r33 r34 r35 r36 r37 r38 r39 r40 r41 r42 r43 r44 r45 r46 r47 r48 r49 r50 r51 r52 r53 r54 r55 r56 r57 r58 r59 r60 r61 r62 r63 r64 r65 r66 r67 r68 r69 r70 r71 r72 r73 r74 r75 r76 r77 r78 r79 r80 hLD hf3
      have HF3 := Lib.hid (HF2.out.trans hf3 (fun _ _ h => h))
      have HR : Hid ((L, D) = matchR B a) := Lib.hid (by unfold matchR; rw [if_pos HA.out]; exact hLD)
      clear hLD hf3
      go_wp2_with fail
      have e1 : (matchR B a).1 = L := by rw [← HR.out]
      have e2 : (matchR B a).2 = D := by rw [← HR.out]
      rw [e1, e2]
      exact bodyPost_ret (v := .tuple #[.int .i64 (L : Int), .int .i64 (D : Int)]) (by simp [results, Try.results18, go_sem]) rfl ⟨rfl, HF3.out⟩
end Go.Proofs.Ytgieckdfbkonpaa
