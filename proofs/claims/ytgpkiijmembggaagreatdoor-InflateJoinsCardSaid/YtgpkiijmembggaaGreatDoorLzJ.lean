/-
  The loop of layer 6's match, as a theorem of its own (written by gen_match.py).
-/
import Derived.Test.YtgpkiijmembggaaGreatDoorZm44
import Derived.Deep.DrawnRows
import Derived.Deep.QuietTactic
import Derived.BigQuiet
import Derived.Stop.BytesEq
import Derived.Laws.StructEq
namespace Go.Proofs.YtgpkiijmembggaaGreatDoor
open Go.RowKit LzM LzN Mem Go.Lib
attribute [local go_sem ↓] Go.wp_at_zero Go.wp_at_succ
set_option linter.unusedVariables false

set_option maxRecDepth 100000 in
theorem neq_key (K K' : Key) : (∀ (x y : Operand) (w : World), (eqGuard .neq 98 x y (kv K) (kv K')).run Tryz.prog w = .ok () w) ∧ (∀ w : World, (binOp .neq 98 (kv K) (kv K')).run Tryz.prog w = .ok (.bool (decide (K ≠ K'))) w) := by
  refine ⟨fun x y w => run_eqGuard_agg w .neq _ x y _ _ (by kernel_rfl), fun w => ?_⟩
  obtain ⟨a, b, c⟩ := K
  obtain ⟨a', b', c'⟩ := K'
  have h := run_equalIn_bytes (P := Tryz.prog) w 9998 98 5 3 Tryz.underlying98 Tryz.underlying5 (fun w => by kernel_rfl) [a, b, c] [a', b', c'] rfl rfl
  have h2 : (Op.equalIn 10000 98 (.agg (kc (a, b, c))) (.agg (kc (a', b', c')))).run Tryz.prog w = .ok ([a, b, c] == [a', b', c']) w := h
  unfold kv
  rw [run_neq_struct, h2]
  simp only [Result.andThen_ok]
  congr 2
  simp
  rfl

theorem cut_run (ad : Addr) (n c f y : Nat) (h1 : f ≤ y) (h2 : y ≤ c) (h3 : ¬ c = f) (w : World) : (Instr.sliceAt 22 (.slice (some ad) n c) (some (.int .i64 (f : Int))) (some (.int .i64 (y : Int))) none).run Tryz.prog w = .ok (.slice (some (ad.add f)) (y - f) (c - f)) w := by
  go_simp

theorem piece_at (B : List UInt8) (f y j : Nat) (hy : y ≤ B.length) (hj : f + j < y) : ((B.take y).drop f)[j]! = B[f + j]! := by
  rw [getElem!_pos _ j (by simp; omega), getElem!_pos B (f + j) (by omega), List.getElem_drop, List.getElem_take]
theorem same_at (ad : Addr) (n c f a M y1 y2 : Nat) (B : List UInt8) (w : World) (hB : Rd w (some ad) n (B.map bytec)) (hln : n = B.length) (hfa : f < a) (han : a ≤ n) (hM : M = min 258 (n - a)) (hy1 : y1 = f + M) (hy2 : y2 = a + M) (hn : n ≤ 1000000) :
    Calls Tryz.prog 46 #[.slice (some (ad.add f)) (y1 - f) (c - f), .slice (some (ad.add a)) (y2 - a) (c - a)] w fun e w' => e = .returned (.int .i64 ((len B a (a - f) : Nat) : Int)) ∧ w' = w := by
  have e1 : y1 - f = M := by omega
  have e2 : y2 - a = M := by omega
  have h1 := hB.cut' (k := f) (m := y1) (by omega) (by omega)
  have h2 := hB.cut' (k := a) (m := y2) (by omega) (by omega)
  rw [← List.map_take, ← List.map_drop] at h1 h2
  rw [e1] at h1 ⊢
  rw [e2] at h2 ⊢
  refine (sameT_any _ _ M (c - f) (c - a) _ _ w h1 h2 (by omega)).mono ?_
  rintro e w' ⟨k, rfl, ⟨hk1, hk2, hk3⟩, rfl⟩
  refine ⟨?_, rfl⟩
  have hl : ((B.take y2).drop a).length = M := by simp; omega
  rw [hl] at hk1 hk3
  have hk : len B a (a - f) = k := by
    refine len_of B a (a - f) k (by omega) (fun j hj => ?_) ?_
    · have := hk2 j hj
      rw [piece_at B f y1 j (by omega) (by omega), piece_at B a y2 j (by omega) (by omega)] at this
      exact ⟨by omega, by rw [show a + j - (a - f) = f + j by omega]; exact this.symm⟩
    · by_cases hkM : k = M
      · by_cases h258 : M = 258
        · exact .inl (hkM.trans h258)
        · exact .inr (fun h => by have := h.1; omega)
      · have h := hk3.resolve_left hkM
        rw [piece_at B f y1 k (by omega) (by omega), piece_at B a y2 k (by omega) (by omega)] at h
        exact .inr (fun h' => h (by rw [h'.2, show a + k - (a - f) = f + k by omega]))
  rw [hk]

set_option maxRecDepth 1000000 in
noncomputable def matchBody : Code := ((Tryz.f27.body.bind (loopAt 8)).getD .skip)

set_option maxRecDepth 1000000 in
set_option maxHeartbeats 6400000 in
theorem match_loop (Q0 : Exit → Act → World → Prop) (s2 s3 s8 s9 s10 s11 s12 s13 s14 s15 s16 s17 s18 s19 s20 s21 s22 s23 s24 s25 s26 s27 s28 s29 s30 s31 s32 s33 s34 s35 s36 s37 s38 s39 s40 s41 s42 s43 s44 s45 s46 s47 s48 s49 s50 s51 s52 s53 s54 s55 s56 s57 s58 s59 s60 s61 s62 s63 s64 s65 s66 s67 s68 s69 s70 s71 s72 s73 s74 s75 s76 s77 s78 s79 s80 s81 s82 : Value) (p m q a c M : Nat) (A : Option Addr) (B : List UInt8) (V : List Int) (wc : World)
    (HP : Hid (Past wc p A c B m q a V)) (HB : Hid (Rd wc A B.length (B.map bytec))) (HN : Hid (B.length ≤ 1000000 ∧ B.length ≤ c ∧ c ≤ maxLen)) (HM : Hid (M = min 258 (B.length - a))) (ha : Hid (a + 3 ≤ B.length))
    (hexit : ∀ (w'' : World) (L D : Nat) (r7 r8 r22 r23 r24 r25 r26 r27 r28 r29 r30 r31 r32 r33 r34 r35 r36 r37 r38 r39 r40 r41 r42 r43 r44 r45 r46 r47 r48 r49 r50 r51 r52 r53 r54 r55 r56 r57 r58 r59 r60 r61 r62 r63 r64 r65 r66 r67 r68 r69 r70 r71 r72 r73 r74 r75 r76 r77 r78 r79 r80 : Value), (L, D) = clip (find B a) → Fr (fun _ => False) wc w'' → Q0 (.exit 0) ⟨List.toArray (.pointer (some ⟨p, 0, none⟩) :: .int .i64 (a : Int) :: s2 :: s3 :: .int .i64 (L : Int) :: .int .i64 (D : Int) :: .int .i64 (M : Int) :: r7 :: r8 :: s9 :: s10 :: s11 :: s12 :: s13 :: s14 :: s15 :: s16 :: s17 :: s18 :: s19 :: s20 :: s21 :: r22 :: r23 :: r24 :: r25 :: r26 :: r27 :: r28 :: r29 :: r30 :: r31 :: r32 :: r33 :: r34 :: r35 :: r36 :: r37 :: r38 :: r39 :: r40 :: r41 :: r42 :: r43 :: r44 :: r45 :: r46 :: r47 :: r48 :: r49 :: r50 :: r51 :: r52 :: r53 :: r54 :: r55 :: r56 :: r57 :: r58 :: r59 :: r60 :: r61 :: r62 :: r63 :: r64 :: r65 :: r66 :: r67 :: r68 :: r69 :: r70 :: r71 :: r72 :: r73 :: r74 :: r75 :: r76 :: r77 :: r78 :: r79 :: r80 :: s81 :: s82 :: []), []⟩ w'') :
    Code.wp Tryz.prog (Code.loop matchBody) Q0 ⟨List.toArray (.pointer (some ⟨p, 0, none⟩) :: .int .i64 (a : Int) :: s2 :: s3 :: .int .i64 2 :: .int .i64 0 :: .int .i64 (M : Int) :: .int .i64 (prevI B a) :: s8 :: s9 :: s10 :: s11 :: s12 :: s13 :: s14 :: s15 :: s16 :: s17 :: s18 :: s19 :: s20 :: s21 :: s22 :: s23 :: s24 :: s25 :: s26 :: s27 :: s28 :: s29 :: s30 :: s31 :: s32 :: s33 :: s34 :: s35 :: s36 :: s37 :: s38 :: s39 :: s40 :: s41 :: s42 :: s43 :: s44 :: s45 :: s46 :: s47 :: s48 :: s49 :: s50 :: s51 :: s52 :: s53 :: s54 :: s55 :: s56 :: s57 :: s58 :: s59 :: s60 :: s61 :: s62 :: s63 :: s64 :: s65 :: s66 :: s67 :: s68 :: s69 :: s70 :: s71 :: s72 :: s73 :: s74 :: s75 :: s76 :: s77 :: s78 :: s79 :: s80 :: s81 :: s82 :: []), []⟩ wc := by
  have HEX := Lib.hid hexit
  clear hexit
  conv => arg 2; arg 1; whnf
  go_loopw [4, 5, 7] (fun l d f wx => ∃ (L D : Nat) (z : Int), l = .int .i64 (L : Int) ∧ d = .int .i64 (D : Int) ∧ f = .int .i64 z ∧ Hid (Back B a z L D) ∧ Hid (Fr (fun _ => False) wc wx)) (fun _ _ f _ => (intOf f + 1).toNat)
  case atStart => exact ⟨2, 0, prevI B a, rfl, rfl, rfl, back_start B a ha.out, Fr.refl _ _⟩
  case round =>
    obtain ⟨L, D, z, rfl, rfl, rfl, HBK, HF⟩ := hrel
    rename World => wx
    have ha1 : a ≤ 1000000 := by have h1 := ha.out; have h2 := HN.out.1; omega
    have hM1 : M ≤ 258 := by have h1 := HM.out; omega
    have hz1 : -1 ≤ z ∧ z < (a : Int) := by rcases HBK.out.1 with h | ⟨q, h, h1, _⟩ <;> omega
    by_cases hz : z < max 0 ((a : Int) - 32768)
    · have hend := back_far B a z L D HBK.out hz
      have HEND := Lib.hid hend
      clear hend
      by_cases hmx : 0 < (a : Int) - 32768
      · have hz2 : z < (a : Int) - 32768 := by omega
        clear hz
        go_wp2_with fail
        exact HEX.out _ L D _ _ _ _ _ _ _ _ _ _ _ _ _ _ _ _ _ _ _ _ _ _ _ _ _ _ _ _ _ _ _ _ _ _ _ _ _ _ _ _ _ _ _ _ _ _ _ _ _ _ _ _ _ _ _ _ _ _ _ _ _ HEND.out HF.out
      · have hz2 : z < 0 := by omega
        clear hz
        go_wp2_with fail
        exact HEX.out _ L D _ _ _ _ _ _ _ _ _ _ _ _ _ _ _ _ _ _ _ _ _ _ _ _ _ _ _ _ _ _ _ _ _ _ _ _ _ _ _ _ _ _ _ _ _ _ _ _ _ _ _ _ _ _ _ _ _ _ _ _ _ HEND.out HF.out
    · have hbk := HBK.out
      obtain ⟨f, rfl, hfa, hf3, hfk⟩ : ∃ f : Nat, z = (f : Int) ∧ f < a ∧ f + 3 ≤ B.length ∧ key B f = key B a := by
        rcases hbk.1 with h | h
        · omega
        · exact h
      obtain ⟨hL2, hL258, hLn, hD⟩ := back_le B a _ L D ha.out hbk
      have hMn := HM.out
      by_cases hLM : L < M
      · have hfar : a ≤ f + 32768 := by omega
        obtain ⟨x1, hx1⟩ : ∃ x1 : Nat, x1 = f + L - 2 := ⟨_, rfl⟩
        obtain ⟨x2, hx2⟩ : ∃ x2 : Nat, x2 = a + L - 2 := ⟨_, rfl⟩
        have hx1n : x1 + 3 ≤ B.length := by omega
        have hx2n : x2 + 3 ≤ B.length := by omega
        have e1 : (f : Int) + (L : Int) + 1 - 3 = (x1 : Int) := by omega
        have e2 : (a : Int) + (L : Int) + 1 - 3 = (x2 : Int) := by omega
        have hb := HN.out
        obtain ⟨hn, hc, hcm⟩ := hb
        have HX := Lib.hid (And.intro hx1 hx2)
        have HXN := Lib.hid (And.intro hx1n hx2n)
        have HFF := Lib.hid (And.intro hf3 hfk)
        clear hbk hMn hx1 hx2 hx1n hx2n hf3 hfk hcm hc hz1
        by_cases hmx : 0 < (a : Int) - 32768
        · have hz2 : (a : Int) - 32768 ≤ (f : Int) := by omega
          clear hz
          go_wp2_with fail
          refine (three_any p A B.length c B x1 wx (HP.out.fr HF.out (fun _ _ h => h)).c0 (HB.out.fr HF.out (fun _ _ h => h)) HXN.out.1 HN.out.1 HN.out.2.1 HN.out.2.2).mono ?_
          rintro e w2 ⟨rfl, hf2⟩
          have HF2 := Lib.hid (HF.out.trans hf2 (fun _ _ h => h))
          obtain ⟨K1, hK1⟩ : ∃ K, K = key B x1 := ⟨_, rfl⟩
          rw [← hK1]
          have HK1 := Lib.hid hK1
          clear hf2 hK1 e1
          go_wp2_with fail
          refine (three_any p A B.length c B x2 w2 (HP.out.fr HF2.out (fun _ _ h => h)).c0 (HB.out.fr HF2.out (fun _ _ h => h)) HXN.out.2 HN.out.1 HN.out.2.1 HN.out.2.2).mono ?_
          rintro e w3 ⟨rfl, hf3⟩
          have HF3 := Lib.hid (HF2.out.trans hf3 (fun _ _ h => h))
          obtain ⟨K2, hK2⟩ : ∃ K, K = key B x2 := ⟨_, rfl⟩
          rw [← hK2]
          have HK2 := Lib.hid hK2
          obtain ⟨g1, g2⟩ := neq_key K1 K2
          have HP3 := Lib.hid (HP.out.fr HF3.out (fun _ _ h => h))
          clear hf3 hK2 e2
          by_cases hkk : K1 = K2
          · rw [decide_eq_false (fun h => h hkk)] at g2
            have HKK := Lib.hid hkk
            have c0 := HP3.out.c0
            obtain ⟨n, hnn⟩ : ∃ n, n = B.length := ⟨_, rfl⟩
            have HNN := Lib.hid hnn
            have hMn := HM.out
            have hfn := HFF.out.1
            have hcn := HN.out.2
            obtain ⟨ad, hA, _⟩ := HB.out.2 (by omega)
            subst hA
            rw [← hnn] at c0 hLn hn hMn hfn hcn
            obtain ⟨y1, hy1⟩ : ∃ y, y = f + M := ⟨_, rfl⟩
            obtain ⟨y2, hy2⟩ : ∃ y, y = a + M := ⟨_, rfl⟩
            have hy1n : y1 ≤ n := by omega
            have hy2n : y2 ≤ n := by omega
            have hfy : f ≤ y1 := by omega
            have hay : a ≤ y2 := by omega
            have r1 : IntKind.i64.wrap ((f : Int) + (M : Int)) = (y1 : Int) := by rw [IntKind.wrap_i64]; omega
            have r2 : IntKind.i64.wrap ((a : Int) + (M : Int)) = (y2 : Int) := by rw [IntKind.wrap_i64]; omega
            obtain ⟨hcn, hcm⟩ := hcn
            unfold maxLen at hcm
            have HY := Lib.hid (And.intro hy1 hy2)
            clear hkk hnn hMn hfn hy1 hy2
            have hs1 := cut_run ad n c f y1 hfy (by omega) (by omega)
            have hs2 := cut_run ad n c a y2 hay (by omega) (by omega)
            obtain ⟨T, hT⟩ : ∃ T, T = len B a (a - f) := ⟨_, rfl⟩
            have HCM : ∀ q, Calls Tryz.prog 46 #[.slice (some (ad.add f)) (y1 - f) (c - f), .slice (some (ad.add a)) (y2 - a) (c - a)] (w3.drewN q) fun e w' => e = .returned (.int .i64 (T : Int)) ∧ w' = w3.drewN q := by
              intro q
              rw [hT]
              exact same_at ad n c f a M y1 y2 B _ (by rw [HNN.out]; exact (HB.out.fr HF3.out (fun _ _ h => h)).drewN q) HNN.out hfa (by omega) (by rw [HM.out, HNN.out]) HY.out.1 HY.out.2 hn
            have hT258 : T ≤ 258 := by rw [hT]; exact len_le B a _
            have HT := Lib.hid hT
            clear hT
            go_wp2_with fail
            go_quiet ((go_at_call 46; refine Calls.quiet_of_same (HCM _)))
            obtain ⟨w4, hw4⟩ : ∃ w4, w4 = w3.drewN nq := ⟨_, rfl⟩
            rw [← hw4]
            have HF4 : Hid (Fr (fun _ => False) wc w4) := Lib.hid (by rw [hw4]; exact HF3.out.drewN nq)
            have HP4 := Lib.hid (HP.out.fr HF4.out (fun _ _ h => h))
            clear hw4 nq hs1 hs2 HCM r1 r2 c0 g1 g2 hy1n hy2n hfy hay hcn hcm hLn
            obtain ⟨Ln, hLn'⟩ : ∃ Ln, Ln = V.length := ⟨_, rfl⟩
            have c2 := HP4.out.c2
            rw [← hLn'] at c2
            obtain ⟨r, hr⟩ : ∃ r, r = f % 32768 := ⟨_, rfl⟩
            have hring := HP4.out.ring.2 f hfa hfar HFF.out.1
            rw [← hr] at hring
            have hcq : w4.cell? ⟨q, r, none⟩ = some (.int .i64 (prevI B f)) := HP4.out.row.cell (by rw [List.getElem?_map, hring]; rfl)
            have hrL : r < Ln := by rw [hLn']; exact (List.getElem?_eq_some_iff.1 hring).1
            have hrem : (f : Int).tmod 32768 = (r : Int) := by rw [Int.tmod_eq_emod_of_nonneg (by omega)]; omega
            have hpb := prev_bd B f
            obtain ⟨Z, hZ⟩ : ∃ Z, Z = prevI B f := ⟨_, rfl⟩
            rw [← hZ] at hcq hpb
            have HZ := Lib.hid hZ
            obtain ⟨d, hd⟩ : ∃ d, d = a - f := ⟨_, rfl⟩
            have e4 : (a : Int) - (f : Int) = (d : Int) := by omega
            have hbk := back_step B a f L D ha.out HBK.out (by omega)
            rw [← HT.out, ← hZ, ← hd] at hbk
            clear hLn' hr hring hZ hd
            by_cases hTL : L < T
            · rw [if_pos hTL, if_pos hTL] at hbk
              have HBK2 := Lib.hid hbk
              clear hbk
              go_wp2_with fail
              exact ⟨⟨T, d, Z, rfl, rfl, rfl, HBK2.out, HF4.out⟩, by simp [intOf]; omega⟩
            · rw [if_neg hTL, if_neg hTL] at hbk
              have HBK2 := Lib.hid hbk
              clear hbk
              go_wp2_with fail
              exact ⟨⟨L, D, Z, rfl, rfl, rfl, HBK2.out, HF4.out⟩, by simp [intOf]; omega⟩
          · rw [decide_eq_true hkk] at g2
            obtain ⟨Ln, hLn'⟩ : ∃ Ln, Ln = V.length := ⟨_, rfl⟩
            have c2 := HP3.out.c2
            rw [← hLn'] at c2
            obtain ⟨r, hr⟩ : ∃ r, r = f % 32768 := ⟨_, rfl⟩
            have hring := HP3.out.ring.2 f hfa hfar HFF.out.1
            rw [← hr] at hring
            have hcq : w3.cell? ⟨q, r, none⟩ = some (.int .i64 (prevI B f)) := HP3.out.row.cell (by rw [List.getElem?_map, hring]; rfl)
            have hrL : r < Ln := by rw [hLn']; exact (List.getElem?_eq_some_iff.1 hring).1
            have hrem : (f : Int).tmod 32768 = (r : Int) := by rw [Int.tmod_eq_emod_of_nonneg (by omega)]; omega
            have hbk := back_step B a f L D ha.out HBK.out (by omega)
            have hsh := len_short B a f L hfa hL2 (by rw [← HX.out.1, ← HX.out.2, ← HK1.out, ← HK2.out]; exact hkk)
            rw [if_neg hsh, if_neg hsh] at hbk
            have HBK2 := Lib.hid hbk
            have hpb := prev_bd B f
            obtain ⟨Z, hZ⟩ : ∃ Z, Z = prevI B f := ⟨_, rfl⟩
            rw [← hZ] at hcq hpb
            have HZ := Lib.hid hZ
            clear hkk hLn' hr hring hbk hsh hZ
            go_wp2_with fail
            exact ⟨⟨L, D, Z, rfl, rfl, rfl, by rw [HZ.out]; exact HBK2.out, HF3.out⟩, by simp [intOf]; omega⟩
        · have hz2 : 0 ≤ (f : Int) := by omega
          clear hz
          go_wp2_with fail
          refine (three_any p A B.length c B x1 wx (HP.out.fr HF.out (fun _ _ h => h)).c0 (HB.out.fr HF.out (fun _ _ h => h)) HXN.out.1 HN.out.1 HN.out.2.1 HN.out.2.2).mono ?_
          rintro e w2 ⟨rfl, hf2⟩
          have HF2 := Lib.hid (HF.out.trans hf2 (fun _ _ h => h))
          obtain ⟨K1, hK1⟩ : ∃ K, K = key B x1 := ⟨_, rfl⟩
          rw [← hK1]
          have HK1 := Lib.hid hK1
          clear hf2 hK1 e1
          go_wp2_with fail
          refine (three_any p A B.length c B x2 w2 (HP.out.fr HF2.out (fun _ _ h => h)).c0 (HB.out.fr HF2.out (fun _ _ h => h)) HXN.out.2 HN.out.1 HN.out.2.1 HN.out.2.2).mono ?_
          rintro e w3 ⟨rfl, hf3⟩
          have HF3 := Lib.hid (HF2.out.trans hf3 (fun _ _ h => h))
          obtain ⟨K2, hK2⟩ : ∃ K, K = key B x2 := ⟨_, rfl⟩
          rw [← hK2]
          have HK2 := Lib.hid hK2
          obtain ⟨g1, g2⟩ := neq_key K1 K2
          have HP3 := Lib.hid (HP.out.fr HF3.out (fun _ _ h => h))
          clear hf3 hK2 e2
          by_cases hkk : K1 = K2
          · rw [decide_eq_false (fun h => h hkk)] at g2
            have HKK := Lib.hid hkk
            have c0 := HP3.out.c0
            obtain ⟨n, hnn⟩ : ∃ n, n = B.length := ⟨_, rfl⟩
            have HNN := Lib.hid hnn
            have hMn := HM.out
            have hfn := HFF.out.1
            have hcn := HN.out.2
            obtain ⟨ad, hA, _⟩ := HB.out.2 (by omega)
            subst hA
            rw [← hnn] at c0 hLn hn hMn hfn hcn
            obtain ⟨y1, hy1⟩ : ∃ y, y = f + M := ⟨_, rfl⟩
            obtain ⟨y2, hy2⟩ : ∃ y, y = a + M := ⟨_, rfl⟩
            have hy1n : y1 ≤ n := by omega
            have hy2n : y2 ≤ n := by omega
            have hfy : f ≤ y1 := by omega
            have hay : a ≤ y2 := by omega
            have r1 : IntKind.i64.wrap ((f : Int) + (M : Int)) = (y1 : Int) := by rw [IntKind.wrap_i64]; omega
            have r2 : IntKind.i64.wrap ((a : Int) + (M : Int)) = (y2 : Int) := by rw [IntKind.wrap_i64]; omega
            obtain ⟨hcn, hcm⟩ := hcn
            unfold maxLen at hcm
            have HY := Lib.hid (And.intro hy1 hy2)
            clear hkk hnn hMn hfn hy1 hy2
            have hs1 := cut_run ad n c f y1 hfy (by omega) (by omega)
            have hs2 := cut_run ad n c a y2 hay (by omega) (by omega)
            obtain ⟨T, hT⟩ : ∃ T, T = len B a (a - f) := ⟨_, rfl⟩
            have HCM : ∀ q, Calls Tryz.prog 46 #[.slice (some (ad.add f)) (y1 - f) (c - f), .slice (some (ad.add a)) (y2 - a) (c - a)] (w3.drewN q) fun e w' => e = .returned (.int .i64 (T : Int)) ∧ w' = w3.drewN q := by
              intro q
              rw [hT]
              exact same_at ad n c f a M y1 y2 B _ (by rw [HNN.out]; exact (HB.out.fr HF3.out (fun _ _ h => h)).drewN q) HNN.out hfa (by omega) (by rw [HM.out, HNN.out]) HY.out.1 HY.out.2 hn
            have hT258 : T ≤ 258 := by rw [hT]; exact len_le B a _
            have HT := Lib.hid hT
            clear hT
            go_wp2_with fail
            go_quiet ((go_at_call 46; refine Calls.quiet_of_same (HCM _)))
            obtain ⟨w4, hw4⟩ : ∃ w4, w4 = w3.drewN nq := ⟨_, rfl⟩
            rw [← hw4]
            have HF4 : Hid (Fr (fun _ => False) wc w4) := Lib.hid (by rw [hw4]; exact HF3.out.drewN nq)
            have HP4 := Lib.hid (HP.out.fr HF4.out (fun _ _ h => h))
            clear hw4 nq hs1 hs2 HCM r1 r2 c0 g1 g2 hy1n hy2n hfy hay hcn hcm hLn
            obtain ⟨Ln, hLn'⟩ : ∃ Ln, Ln = V.length := ⟨_, rfl⟩
            have c2 := HP4.out.c2
            rw [← hLn'] at c2
            obtain ⟨r, hr⟩ : ∃ r, r = f % 32768 := ⟨_, rfl⟩
            have hring := HP4.out.ring.2 f hfa hfar HFF.out.1
            rw [← hr] at hring
            have hcq : w4.cell? ⟨q, r, none⟩ = some (.int .i64 (prevI B f)) := HP4.out.row.cell (by rw [List.getElem?_map, hring]; rfl)
            have hrL : r < Ln := by rw [hLn']; exact (List.getElem?_eq_some_iff.1 hring).1
            have hrem : (f : Int).tmod 32768 = (r : Int) := by rw [Int.tmod_eq_emod_of_nonneg (by omega)]; omega
            have hpb := prev_bd B f
            obtain ⟨Z, hZ⟩ : ∃ Z, Z = prevI B f := ⟨_, rfl⟩
            rw [← hZ] at hcq hpb
            have HZ := Lib.hid hZ
            obtain ⟨d, hd⟩ : ∃ d, d = a - f := ⟨_, rfl⟩
            have e4 : (a : Int) - (f : Int) = (d : Int) := by omega
            have hbk := back_step B a f L D ha.out HBK.out (by omega)
            rw [← HT.out, ← hZ, ← hd] at hbk
            clear hLn' hr hring hZ hd
            by_cases hTL : L < T
            · rw [if_pos hTL, if_pos hTL] at hbk
              have HBK2 := Lib.hid hbk
              clear hbk
              go_wp2_with fail
              exact ⟨⟨T, d, Z, rfl, rfl, rfl, HBK2.out, HF4.out⟩, by simp [intOf]; omega⟩
            · rw [if_neg hTL, if_neg hTL] at hbk
              have HBK2 := Lib.hid hbk
              clear hbk
              go_wp2_with fail
              exact ⟨⟨L, D, Z, rfl, rfl, rfl, HBK2.out, HF4.out⟩, by simp [intOf]; omega⟩
          · rw [decide_eq_true hkk] at g2
            obtain ⟨Ln, hLn'⟩ : ∃ Ln, Ln = V.length := ⟨_, rfl⟩
            have c2 := HP3.out.c2
            rw [← hLn'] at c2
            obtain ⟨r, hr⟩ : ∃ r, r = f % 32768 := ⟨_, rfl⟩
            have hring := HP3.out.ring.2 f hfa hfar HFF.out.1
            rw [← hr] at hring
            have hcq : w3.cell? ⟨q, r, none⟩ = some (.int .i64 (prevI B f)) := HP3.out.row.cell (by rw [List.getElem?_map, hring]; rfl)
            have hrL : r < Ln := by rw [hLn']; exact (List.getElem?_eq_some_iff.1 hring).1
            have hrem : (f : Int).tmod 32768 = (r : Int) := by rw [Int.tmod_eq_emod_of_nonneg (by omega)]; omega
            have hbk := back_step B a f L D ha.out HBK.out (by omega)
            have hsh := len_short B a f L hfa hL2 (by rw [← HX.out.1, ← HX.out.2, ← HK1.out, ← HK2.out]; exact hkk)
            rw [if_neg hsh, if_neg hsh] at hbk
            have HBK2 := Lib.hid hbk
            have hpb := prev_bd B f
            obtain ⟨Z, hZ⟩ : ∃ Z, Z = prevI B f := ⟨_, rfl⟩
            rw [← hZ] at hcq hpb
            have HZ := Lib.hid hZ
            clear hkk hLn' hr hring hbk hsh hZ
            go_wp2_with fail
            exact ⟨⟨L, D, Z, rfl, rfl, rfl, by rw [HZ.out]; exact HBK2.out, HF3.out⟩, by simp [intOf]; omega⟩
      · have hend := back_full B a _ L D ha.out hbk (by omega)
        have HEND := Lib.hid hend
        clear hend hbk hMn
        by_cases hmx : 0 < (a : Int) - 32768
        · have hz2 : (a : Int) - 32768 ≤ (f : Int) := by omega
          clear hz
          go_wp2_with fail
          exact HEX.out _ L D _ _ _ _ _ _ _ _ _ _ _ _ _ _ _ _ _ _ _ _ _ _ _ _ _ _ _ _ _ _ _ _ _ _ _ _ _ _ _ _ _ _ _ _ _ _ _ _ _ _ _ _ _ _ _ _ _ _ _ _ _ HEND.out HF.out
        · have hz2 : 0 ≤ (f : Int) := by omega
          clear hz
          go_wp2_with fail
          exact HEX.out _ L D _ _ _ _ _ _ _ _ _ _ _ _ _ _ _ _ _ _ _ _ _ _ _ _ _ _ _ _ _ _ _ _ _ _ _ _ _ _ _ _ _ _ _ _ _ _ _ _ _ _ _ _ _ _ _ _ _ _ _ _ _ HEND.out HF.out
end Go.Proofs.YtgpkiijmembggaaGreatDoor
