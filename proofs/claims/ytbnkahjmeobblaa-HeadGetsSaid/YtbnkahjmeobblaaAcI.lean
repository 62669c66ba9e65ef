/-
  Layer 18, the reference: Get (written by gen_rget.py).
-/
import Derived.Test.YtbnkahjmeobblaaAcF
import Derived.Test.YtbnkahjmeobblaaZm31
namespace Go.Proofs.Ytbnkahjmeobblaa
open Go.RowKit Mem Go.Lib LebM UtfM VaM OpM AcM
attribute [local go_sem ↓] Go.wp_at_zero Go.wp_at_succ
set_option linter.unusedVariables false

set_option maxRecDepth 100000 in
set_option maxHeartbeats 12800000 in
/-- THE CONTRACT of the reference's Get -/
theorem racGet_any (a : Tx) (A : Option Addr) (n c : Nat) (B : List UInt8) (w : World) (hr : Rd w A n (B.map bytec)) (hc : n ≤ c) (hn : n ≤ 1000000000) :
    Calls Try.prog 44 #[.string (txt a), .slice A n c] w fun e w' => ∃ A' c', e = .returned (.tuple #[.slice A' (getA a B).1.length c', .int .i64 ((getA a B).2.1 : Int), .int .i64 ((getA a B).2.2 : Int)]) ∧ OwT w' w.heap.size A' c' (getA a B).1 ∧ Fr (fun _ => False) w w' := by
  have hBn : B.length = n := by simpa using hr.1
  have hg := racNum_any A n c B w hr hc
  have hle := gu_le B
  have hgs := fun h => goes_start (a := a) (B := B) h
  have hge : (gu B).2.2 ≠ 0 → getA a B = ([], 0, (gu B).2.2) := fun h => by unfold getA; rw [if_pos h]
  obtain ⟨N, hN⟩ : ∃ N, (gu B).1 = N := ⟨_, rfl⟩
  obtain ⟨K, hK⟩ : ∃ K, (gu B).2.1 = K := ⟨_, rfl⟩
  obtain ⟨E, hE⟩ : ∃ E, (gu B).2.2 = E := ⟨_, rfl⟩
  rw [hN, hK, hE] at hg hle
  rw [hN, hK, hE] at hgs
  rw [hE] at hge
  rw [hBn] at hle
  obtain ⟨hl1, hl2, hl3, hl4⟩ := hle
  obtain ⟨base, hbase⟩ : ∃ b, w.heap.size = b := ⟨_, rfl⟩
  obtain ⟨R, hR⟩ : ∃ R, getA a B = R := ⟨_, rfl⟩
  rw [hR] at hge ⊢
  rw [hbase]
  have HR := Lib.hid hR
  have HB := Lib.hid hbase
  have HRD := Lib.hid hr
  have HBN := Lib.hid hBn
  have HG := Lib.hid hg
  clear hr hBn hg hN hK hE hR hbase
  by_cases he : E ≠ 0
  · have t0 : ((E : Int) != 0) = true := by simp; omega
    have t0' : (E != 0) = true := by simp; omega
    have HX := Lib.hid (hge he)
    clear hgs hge he hl1 hl2 hl3 hl4
    go_enter Try.func44, Try.ntmps44
    go_wp2_with fail
    refine HG.out.mono ?_
    rintro e w1 ⟨rfl, hf1⟩
    have HF1 := Lib.hid hf1
    clear hf1
    go_wp2_with fail
    refine bodyPost_ret (v := .tuple #[.slice none 0 0, .int .i64 0, .int .i64 (E : Int)]) (by simp [results, Try.results44, go_sem]) rfl ?_
    rw [HX.out]
    exact ⟨none, 0, rfl, OwT.nil _ _, HF1.out⟩
  · have he0 : E = 0 := by omega
    subst he0
    have HGS := Lib.hid (hgs rfl)
    clear hgs hge he hl3
    go_enter Try.func44, Try.ntmps44
    go_wp2_with fail
    refine HG.out.mono ?_
    rintro e w1 ⟨rfl, hf1⟩
    obtain ⟨w2, hw2⟩ : ∃ w2, w1.alloc (.cells #[.string (txt a)] 9) = w2 := ⟨_, rfl⟩
    have HO2 : Hid (OwT w2 base (some ⟨w1.heap.size, 0, none⟩) 1 [a]) := Lib.hid (by rw [← hw2]; exact (OwT.one w1 a).base (by rw [← HB.out]; exact hf1.size))
    have HF2 : Hid (Fr (fun _ => False) w w2) := Lib.hid (by rw [← hw2]; exact hf1.alloc _)
    clear hf1
    go_wp2_with fail
    go_loopw [8, 10, 11] (fun v8 v10 v11 wr => ∃ (i s : Nat) (l : List Tx) (last : Tx) (A1 : Option Addr) (c1 : Nat), i ≤ N ∧ s ≤ n ∧ i ≤ s ∧ v8 = .int .i64 (s : Int) ∧ v11 = .int .u64 (i : Int) ∧ v10 = .slice A1 (i + 1) c1 ∧
      Hid (l.length = i + 1) ∧ Hid (0 < i → l[i]? = some last) ∧ Hid (i = 0 → last = []) ∧ Hid (last.length ≤ 16) ∧ Hid (Goes a B (N - i) s l last) ∧ Hid (OwT wr base A1 c1 l) ∧ Hid (Fr (fun _ => False) w wr)) (fun _ _ v11 _ => N - (intOf v11).toNat)
    case atStart => exact ⟨0, K, [a], [], _, 1, Nat.zero_le _, by omega, by omega, rfl, rfl, rfl, Lib.hid rfl, Lib.hid (fun h => absurd h (by omega)), Lib.hid (fun _ => rfl), Lib.hid (by show 0 ≤ 16; omega), HGS, HO2, HF2⟩
    case round =>
      obtain ⟨i, s, l, last, A1, c1, hi, hs, his, rfl, rfl, rfl, HLL, HLA, HL0, HL16, HGO, HO, HF⟩ := hrel
      rename World => wr
      by_cases hlt : i < N
      · obtain ⟨k, hk⟩ : ∃ k, N - i = k + 1 := ⟨N - i - 1, by omega⟩
        have hgo := HGO.out
        rw [hk] at hgo
        have hcut := run_fromB A n c s hs (s : Int) rfl
        have hrd := rd_from (HRD.out.fr HF.out (fun _ _ h => h)) hs hc
        rw [← List.map_drop] at hrd
        have hnu := racNum_any (cutAt A c s) (n - s) (c - s) (B.drop s) wr hrd (by omega)
        have hgl := gu_le (B.drop s)
        have hfl := first_le (B.drop s)
        rw [List.length_drop, HBN.out] at hfl hgl
        obtain ⟨A3, hA3⟩ : ∃ A3, cutAt A c s = A3 := ⟨_, rfl⟩
        obtain ⟨n3, hn3⟩ : ∃ n3, n - s = n3 := ⟨_, rfl⟩
        obtain ⟨c3, hc3⟩ : ∃ c3, c - s = c3 := ⟨_, rfl⟩
        rw [hA3, hn3, hc3] at hcut hnu
        obtain ⟨M, hM⟩ : ∃ M, (gu (B.drop s)).1 = M := ⟨_, rfl⟩
        obtain ⟨W, hW⟩ : ∃ W, (gu (B.drop s)).2.1 = W := ⟨_, rfl⟩
        obtain ⟨F, hF⟩ : ∃ F, (gu (B.drop s)).2.2 = F := ⟨_, rfl⟩
        have hfe : firstA (B.drop s) = if F ≠ 0 then ([], 0, F) else if M < 1 ∨ 16 < M then ([], 0, 4) else if n3 - W < M then ([], 0, 2) else (((B.drop s).drop W).take M, W + M, 0) := by
          conv => lhs; unfold firstA
          rw [hM, hW, hF, List.length_drop, HBN.out, hn3]
        rw [hM, hW, hF] at hnu hgl
        rw [hn3] at hgl hfl
        obtain ⟨hg1, hg2, hg3, hg4⟩ := hgl
        have HNU := Lib.hid hnu
        have HG2 := Lib.hid hgo
        have HK := Lib.hid hk
        have HFL := Lib.hid hfl
        have HN3 : Hid (n3 = n - s) := Lib.hid hn3.symm
        clear hk hgo hrd hnu hA3 hn3 hc3 hM hW hF hfl
        by_cases hF0 : F ≠ 0
        · have t0 : ((F : Int) != 0) = true := by simp; omega
          have t0' : (F != 0) = true := by simp; omega
          rw [if_pos hF0] at hfe
          have HX : Hid (R = ([], 0, F)) := Lib.hid (by rw [← HR.out]; exact goes_bad HG2.out hfe hF0)
          clear hF0 hfe
          go_wp2_with fail
          refine HNU.out.mono ?_
          rintro e w3 ⟨rfl, hf3⟩
          have HF3 := Lib.hid (HF.out.trans hf3 (fun _ _ h => h))
          clear hf3
          go_wp2_with fail
          refine bodyPost_ret (v := .tuple #[.slice none 0 0, .int .i64 0, .int .i64 (F : Int)]) (by simp [results, Try.results44, go_sem]) rfl ?_
          rw [HX.out]
          exact ⟨none, 0, rfl, OwT.nil _ _, HF3.out⟩
        · have hF00 : F = 0 := by omega
          subst hF00
          rw [if_neg (by simp)] at hfe
          clear hF0 hg3
          by_cases hm0 : M = 0
          · have t1 : ((M : Int) == 0) = true := by simp; omega
            rw [if_pos (Or.inl (by omega))] at hfe
            have HX : Hid (R = ([], 0, 4)) := Lib.hid (by rw [← HR.out]; exact goes_bad HG2.out hfe (by omega))
            clear hfe hm0
            go_wp2_with fail
            refine HNU.out.mono ?_
            rintro e w3 ⟨rfl, hf3⟩
            have HF3 := Lib.hid (HF.out.trans hf3 (fun _ _ h => h))
            clear hf3
            go_wp2_with fail
            refine bodyPost_ret (v := .tuple #[.slice none 0 0, .int .i64 0, .int .i64 4]) (by simp [results, Try.results44, go_sem]) rfl ?_
            rw [HX.out]
            exact ⟨none, 0, rfl, OwT.nil _ _, HF3.out⟩
          · have t1 : ((M : Int) == 0) = false := by simp; omega
            by_cases hm1 : 16 < M
            · have t2 : decide ((16 : Int) < (M : Int)) = true := decide_eq_true (by omega)
              have t2' : decide (16 < M) = true := decide_eq_true (by omega)
              rw [if_pos (Or.inr hm1)] at hfe
              have HX : Hid (R = ([], 0, 4)) := Lib.hid (by rw [← HR.out]; exact goes_bad HG2.out hfe (by omega))
              clear hfe hm0 hm1
              go_wp2_with fail
              refine HNU.out.mono ?_
              rintro e w3 ⟨rfl, hf3⟩
              have HF3 := Lib.hid (HF.out.trans hf3 (fun _ _ h => h))
              clear hf3
              go_wp2_with fail
              refine bodyPost_ret (v := .tuple #[.slice none 0 0, .int .i64 0, .int .i64 4]) (by simp [results, Try.results44, go_sem]) rfl ?_
              rw [HX.out]
              exact ⟨none, 0, rfl, OwT.nil _ _, HF3.out⟩
            · have t2 : decide ((16 : Int) < (M : Int)) = false := decide_eq_false (by omega)
              have t2' : decide (16 < M) = false := decide_eq_false (by omega)
              rw [if_neg (by omega)] at hfe
              obtain ⟨y1, hy1⟩ : ∃ y1, s + W = y1 := ⟨_, rfl⟩
              obtain ⟨y2, hy2⟩ : ∃ y2, y1 + M = y2 := ⟨_, rfl⟩
              have hnn := HN3.out
              have r1 : IntKind.i64.wrap ((s : Int) + (W : Int)) = (y1 : Int) := by rw [IntKind.wrap_i64]; omega
              have r2 : IntKind.i64.wrap (M : Int) = (M : Int) := by rw [IntKind.wrap_i64]; omega
              have r3 : IntKind.i64.wrap ((y1 : Int) + (M : Int)) = (y2 : Int) := by rw [IntKind.wrap_i64]; omega
              by_cases hsh : n < y2
              · have t3 : decide ((n : Int) < (y2 : Int)) = true := decide_eq_true (by omega)
                have t3' : decide (n < y2) = true := decide_eq_true (by omega)
                rw [if_pos (by omega)] at hfe
                have HX : Hid (R = ([], 0, 2)) := Lib.hid (by rw [← HR.out]; exact goes_bad HG2.out hfe (by omega))
                clear hfe hm0 hm1 hy1 hy2 hnn hsh
                go_wp2_with fail
                refine HNU.out.mono ?_
                rintro e w3 ⟨rfl, hf3⟩
                have HF3 := Lib.hid (HF.out.trans hf3 (fun _ _ h => h))
                clear hf3
                go_wp2_with fail
                refine bodyPost_ret (v := .tuple #[.slice none 0 0, .int .i64 0, .int .i64 2]) (by simp [results, Try.results44, go_sem]) rfl ?_
                rw [HX.out]
                exact ⟨none, 0, rfl, OwT.nil _ _, HF3.out⟩
              · have t3 : decide ((n : Int) < (y2 : Int)) = false := decide_eq_false (by omega)
                have t3' : decide (n < y2) = false := decide_eq_false (by omega)
                rw [if_neg (by omega)] at hfe
                have hcut2 := run_cutB A n c y1 y2 (by omega) (by omega) hc (y1 : Int) (y2 : Int) rfl rfl
                have hrd := fun (w' : World) (h : Fr (fun _ => False) w w') => rd_cut (HRD.out.fr h (fun _ _ h => h)) (f := y1) (y := y2) (by omega) (by omega) hc
                obtain ⟨A4, hA4⟩ : ∃ A4, cutAt A c y1 = A4 := ⟨_, rfl⟩
                rw [hA4] at hcut2 hrd
                have he : (B.take y2).drop y1 = ((B.drop s).drop W).take M := by rw [List.drop_drop, ← hy2, ← hy1, List.drop_take, Nat.add_sub_cancel_left]
                obtain ⟨X, hX⟩ : ∃ X, ((B.drop s).drop W).take M = X := ⟨_, rfl⟩
                rw [hX] at he hfe
                simp only [← List.map_take, ← List.map_drop, he] at hrd
                obtain ⟨z, hz⟩ : ∃ z, y2 - y1 = z := ⟨_, rfl⟩
                obtain ⟨c4, hc4⟩ : ∃ c4, c - y1 = c4 := ⟨_, rfl⟩
                rw [hz, hc4] at hcut2
                simp only [hz] at hrd
                have hxl : X.length ≤ 16 ∧ 1 ≤ X.length := by
                  have h := HFL.out
                  rw [hfe] at h
                  exact ⟨h.2.2.1, (h.2.2.2 rfl).2⟩
                have HRX := Lib.hid hrd
                have HXL := Lib.hid hxl
                have HY : Hid (y2 = s + (W + M) ∧ i + 1 ≤ y2 ∧ y2 ≤ n) := Lib.hid ⟨by omega, by omega, by omega⟩
                have HFE := Lib.hid hfe
                have t5 := beq_txt X a
                clear hfe hm0 hm1 hy1 hy2 hnn hsh hrd hA4 he hX hz hc4 hxl
                by_cases hxa : X = a
                · rw [decide_eq_true hxa] at t5
                  have HX : Hid (R = ([], 0, 3)) := Lib.hid (by rw [← HR.out]; exact goes_form HG2.out HFE.out (Or.inl hxa))
                  clear hxa
                  go_wp2_with fail
                  refine HNU.out.mono ?_
                  rintro e w3 ⟨rfl, hf3⟩
                  have HFR3 := Lib.hid hf3
                  have HF3 := Lib.hid (HF.out.trans hf3 (fun _ _ h => h))
                  have HO3 := Lib.hid (HO.out.fr hf3)
                  have hstr := str_rd (HRX.out w3 HF3.out) c4
                  clear hf3
                  go_wp2_with fail
                  refine bodyPost_ret (v := .tuple #[.slice none 0 0, .int .i64 0, .int .i64 3]) (by simp [results, Try.results44, go_sem]) rfl ?_
                  rw [HX.out]
                  exact ⟨none, 0, rfl, OwT.nil _ _, HF3.out⟩
                · rw [decide_eq_false hxa] at t5
                  have HXA := Lib.hid hxa
                  have r4 : IntKind.i64.wrap (((i + 1 : Nat) : Int) - 1) = (i : Int) := by rw [IntKind.wrap_i64]; omega
                  have r5 : IntKind.u64.wrap ((i : Int) + 1) = ((i + 1 : Nat) : Int) := by rw [IntKind.wrap_u64]; omega
                  obtain ⟨XS, hXS⟩ : ∃ XS, l.map tc = XS := ⟨_, rfl⟩
                  have HXS := Lib.hid hXS
                  clear hxa hXS
                  by_cases hi0 : 0 < i
                  · have t6 : decide ((0 : Int) < (i : Int)) = true := decide_eq_true (by omega)
                    have t6' : decide (0 < i) = true := decide_eq_true hi0
                    have hrl := fun w => racLess_any last X w (by have := HL16.out; omega) (by have := HXL.out; omega)
                    have hr0 := fun (w' : World) (hf : Fr (fun _ => False) wr w') => rd_tx (HO.out.fr hf).rd (k := i) (by rw [HLL.out]; omega)
                    obtain ⟨b, hb⟩ : ∃ b, Op.bytesLess last X = b := ⟨_, rfl⟩
                    rw [hb] at hrl
                    have HRL := Lib.hid hrl
                    have HR0 := Lib.hid hr0
                    have HBB := Lib.hid hb
                    have HI0 := Lib.hid hi0
                    clear hrl hr0 hb hi0
                    obtain ⟨ad0, x0, hA1, hx0, _⟩ := HR0.out wr (Fr.refl _ _)
                    obtain rfl : x0 = last := by
                      have h := HLA.out HI0.out
                      rw [hx0] at h
                      injection h
                    subst hA1
                    clear hx0
                    cases b with
                    | false =>
                      have HX : Hid (R = ([], 0, 3)) := Lib.hid (by rw [← HR.out]; exact goes_form HG2.out HFE.out (Or.inr HBB.out))
                      go_wp2_with fail
                      refine HNU.out.mono ?_
                      rintro e w3 ⟨rfl, hf3⟩
                      have HFR3 := Lib.hid hf3
                      have HF3 := Lib.hid (HF.out.trans hf3 (fun _ _ h => h))
                      have HO3 := Lib.hid (HO.out.fr hf3)
                      have hstr := str_rd (HRX.out w3 HF3.out) c4
                      clear hf3
                      obtain ⟨ad1, x1, e1, hx1, hc0⟩ := HR0.out w3 HFR3.out
                      injection e1 with e1
                      subst e1
                      obtain rfl : x1 = x0 := by
                        have h := HLA.out HI0.out
                        rw [hx1] at h
                        injection h
                      clear hx1
                      go_wp2_with fail
                      refine (HRL.out _).mono ?_
                      rintro e w4 ⟨rfl, hf4⟩
                      have HF3' := Lib.hid (HF3.out.trans hf4 (fun _ _ h => h))
                      clear hf4 hc0 HF3
                      have HF3 := HF3'
                      go_wp2_with fail
                      refine bodyPost_ret (v := .tuple #[.slice none 0 0, .int .i64 0, .int .i64 3]) (by simp [results, Try.results44, go_sem]) rfl ?_
                      rw [HX.out]
                      exact ⟨none, 0, rfl, OwT.nil _ _, HF3.out⟩
                    | true =>
                      have HNX := Lib.hid (goes_next HG2.out HFE.out HXA.out HBB.out)
                      rw [← HY.out.1] at HNX
                      go_wp2_with fail
                      refine HNU.out.mono ?_
                      rintro e w3 ⟨rfl, hf3⟩
                      have HFR3 := Lib.hid hf3
                      have HF3 := Lib.hid (HF.out.trans hf3 (fun _ _ h => h))
                      have HO3 := Lib.hid (HO.out.fr hf3)
                      have hstr := str_rd (HRX.out w3 HF3.out) c4
                      clear hf3
                      obtain ⟨ad1, x1, e1, hx1, hc0⟩ := HR0.out w3 HFR3.out
                      injection e1 with e1
                      subst e1
                      obtain rfl : x1 = x0 := by
                        have h := HLA.out HI0.out
                        rw [hx1] at h
                        injection h
                      clear hx1
                      go_upto_region 18 with (refine (HRL.out _).mono ?_; rintro e w4 ⟨rfl, hf4⟩)
                      have HO4 := Lib.hid (HO3.out.fr hf4)
                      have HF4 := Lib.hid (HF3.out.trans hf4 (fun _ _ h => h))
                      clear hf4 hc0
                      have HOW : Hid (w4.ownsRow base 9 1 (.slice _ (i + 1) c1) (i + 1) XS) := Lib.hid (by
                        have h := HO4.out
                        unfold OwT at h
                        rw [HLL.out, HXS.out] at h
                        exact h)
                      have HSZ : Hid (base ≤ w4.heap.size) := Lib.hid (by rw [← HB.out]; exact HF4.out.size)
                      go_wp2_with (at_builtin; refine wpList_app strT _ rfl _ _ rfl base _ _ _ rfl (HOW.out.alloc _) _ _ _ _ rfl (Rd.one _ _ _) (tc_one [X]) (by unfold maxLen; omega) (by omega) (by have := HSZ.out; simp; omega) ?_)
                      intro A5 c5 w5 _ _ ho5 hf5 _
                      have HO5 : Hid (OwT w5 base A5 c5 (l ++ [X])) := Lib.hid (OwT.snoc (n := i + 1) HLL.out (by rw [HXS.out]; exact ho5))
                      have HF5 : Hid (Fr (fun _ => False) w w5) := Lib.hid (HF4.out.trans (((Fr.refl _ w4).alloc _).trans hf5 (fun _ _ h => h)) (fun k hk h => by
                        have h1 := (HOW.out.lt k h).1
                        have := HB.out
                        omega))
                      clear ho5 hf5
                      go_wp2_with fail
                      go_roundw
                      case rel => exact ⟨i + 1, y2, l ++ [X], X, A5, c5, by omega, HY.out.2.2, HY.out.2.1, rfl, rfl, rfl, Lib.hid (by rw [List.length_append, HLL.out]; rfl), Lib.hid (fun _ => by rw [List.getElem?_append_right (by rw [HLL.out]; omega), HLL.out]; simp), Lib.hid (fun h => absurd h (by omega)), Lib.hid HXL.out.1, Lib.hid (by rw [show N - (i + 1) = k by have := HK.out; omega]; exact HNX.out), HO5, HF5⟩
                      case measure => simp [intOf] <;> omega
                  · have t6 : decide ((0 : Int) < (i : Int)) = false := decide_eq_false (by omega)
                    have t6' : decide (0 < i) = false := decide_eq_false hi0
                    have HNX := Lib.hid (goes_next HG2.out HFE.out HXA.out (by
                      rw [HL0.out (by omega)]
                      have := HXL.out
                      cases X with
                      | nil => simp at this
                      | cons => rfl))
                    rw [← HY.out.1] at HNX
                    clear hi0
                    go_wp2_with fail
                    refine HNU.out.mono ?_
                    rintro e w3 ⟨rfl, hf3⟩
                    have HFR3 := Lib.hid hf3
                    have HF3 := Lib.hid (HF.out.trans hf3 (fun _ _ h => h))
                    have HO3 := Lib.hid (HO.out.fr hf3)
                    have hstr := str_rd (HRX.out w3 HF3.out) c4
                    clear hf3
                    go_upto_region 18 with fail
                    have HOW : Hid (w3.ownsRow base 9 1 (.slice _ (i + 1) c1) (i + 1) XS) := Lib.hid (by
                      have h := HO3.out
                      unfold OwT at h
                      rw [HLL.out, HXS.out] at h
                      exact h)
                    have HSZ : Hid (base ≤ w3.heap.size) := Lib.hid (by rw [← HB.out]; exact HF3.out.size)
                    go_wp2_with (at_builtin; refine wpList_app strT _ rfl _ _ rfl base _ _ _ rfl (HOW.out.alloc _) _ _ _ _ rfl (Rd.one _ _ _) (tc_one [X]) (by unfold maxLen; omega) (by omega) (by have := HSZ.out; simp; omega) ?_)
                    intro A5 c5 w5 _ _ ho5 hf5 _
                    have HO5 : Hid (OwT w5 base A5 c5 (l ++ [X])) := Lib.hid (OwT.snoc (n := i + 1) HLL.out (by rw [HXS.out]; exact ho5))
                    have HF5 : Hid (Fr (fun _ => False) w w5) := Lib.hid (HF3.out.trans (((Fr.refl _ w3).alloc _).trans hf5 (fun _ _ h => h)) (fun k hk h => by
                      have h1 := (HOW.out.lt k h).1
                      have := HB.out
                      omega))
                    clear ho5 hf5
                    go_wp2_with fail
                    go_roundw
                    case rel => exact ⟨i + 1, y2, l ++ [X], X, A5, c5, by omega, HY.out.2.2, HY.out.2.1, rfl, rfl, rfl, Lib.hid (by rw [List.length_append, HLL.out]; rfl), Lib.hid (fun _ => by rw [List.getElem?_append_right (by rw [HLL.out]; omega), HLL.out]; simp), Lib.hid (fun h => absurd h (by omega)), Lib.hid HXL.out.1, Lib.hid (by rw [show N - (i + 1) = k by have := HK.out; omega]; exact HNX.out), HO5, HF5⟩
                    case measure => simp [intOf] <;> omega
      · obtain rfl : i = N := by omega
        have HX : Hid (R = (l, s, 0)) := Lib.hid (by
          rw [← HR.out]
          have h := HGO.out
          rw [Nat.sub_self] at h
          exact goes_end h)
        go_wp2_with fail
        refine bodyPost_ret (v := .tuple #[.slice A1 (i + 1) c1, .int .i64 (s : Int), .int .i64 0]) (by simp [results, Try.results44, go_sem]) rfl ?_
        rw [HX.out]
        exact ⟨A1, c1, by simp only; rw [HLL.out]; rfl, HO.out, HF.out⟩
end Go.Proofs.Ytbnkahjmeobblaa
