/-
  Layer 14, the reference: Get, of numbers with a sign (written by gen_rget.py).
-/
import Derived.Test.YtomhljpnpphbcaaVaa
import Derived.IntWalk
namespace Go.Proofs.Ytomhljpnpphbcaa
open Go.RowKit Mem Go.Lib VaM LebM UtfM
attribute [local go_sem ↓] Go.wp_at_zero Go.wp_at_succ
set_option linter.unusedVariables false


set_option maxRecDepth 100000 in
set_option maxHeartbeats 6400000 in
theorem rgetF2a_any (k : Int) (A : Option Addr) (n c : Nat) (B : List UInt8) (w : World) (hk : -9223372036854775808 ≤ k ∧ k < 9223372036854775808) (hr : Rd w A n (B.map bytec)) (hc : n ≤ c) (hn : n ≤ 1000000) (h : cl k = 2) (hs0 : spanE B = 0) (hs1 : spanK B = B.length) (hcond : B.length < 10 ∧ 64 ≤ LebM.last B) :
    Calls Try.prog 14 #[.int .i64 k, .slice A n c] w fun e w' => e = .returned (getR (getV k B)) ∧ Fr (fun _ => False) w w' := by
  have hBn : B.length = n := by simpa using hr.1
  obtain ⟨ans, hans⟩ : ∃ ans, getV k B = ans := ⟨_, rfl⟩
  rw [hans]
  obtain ⟨g, hg⟩ : ∃ g, w.heap.size = g := ⟨_, rfl⟩
  obtain ⟨w1, hw1⟩ : ∃ w1, w.alloc (.cells #[.int .i64 0, .int .u64 0, .int .i64 0, .string ⟨#[]⟩] 24) = w1 := ⟨_, rfl⟩
  have hf1 : Fr (fun _ => False) w w1 := by rw [← hw1]; exact (Fr.refl _ _).alloc _
  have hr1 : RowV w1 g zeroV := by rw [← hw1, ← hg]; exact RowV.new w zeroV
  obtain ⟨p, hp⟩ : ∃ p, w1.heap.size = p := ⟨_, rfl⟩
  obtain ⟨w2, hw2⟩ : ∃ w2, w1.alloc (.cells #[.int .i64 0, .int .u64 0, .int .i64 0, .string ⟨#[]⟩] 24) = w2 := ⟨_, rfl⟩
  have hf2 : Fr (fun _ => False) w1 w2 := by rw [← hw2]; exact (Fr.refl _ _).alloc _
  have hp2 : RowV w2 p zeroV := by rw [← hw2, ← hp]; exact RowV.new w1 zeroV
  have HR2 := Lib.hid (hr1.fr hf2 (fun h => h))
  have HP2 := Lib.hid hp2
  have HGP : Hid (g ≠ p ∧ w.heap.size ≤ p ∧ w.heap.size = g) := Lib.hid (by have h1 := hr1.lt; have h2 := hf1.size; omega)
  have HF2 := Lib.hid (hf1.trans hf2 (fun _ _ h => h))
  have HRD := Lib.hid hr
  have HBN := Lib.hid hBn
  have HKB := Lib.hid hk
  obtain ⟨E, hE⟩ : ∃ E, spanE B = E := ⟨_, rfl⟩
  obtain ⟨K, hK⟩ : ∃ K, spanK B = K := ⟨_, rfl⟩
  have hsp := fun w' (hf : Fr (fun _ => False) w w') => rspan_any A n c B w' (hr.fr hf (fun _ _ h => h))
  have hkl := spanK_le B
  have hel := spanE_le B
  rw [hK] at hkl
  rw [hE] at hel
  rw [hE, hK] at hsp
  rw [hBn] at hkl
  have han := get_sgn h hs0 hs1
  rw [hans] at han
  have hsg := sign_of hs0 hs1
  have hltl := last_lt (span_of hs0 hs1).1
  have HAN := Lib.hid han.symm
  have hpos := (span_of hs0 hs1).2.2
  obtain rfl : 0 = E := by rw [← hE, hs0]
  obtain rfl : n = K := by rw [← hK, hs1, hBn]
  rw [hBn] at hpos
  rw [hBn] at hcond
  have HCOND := Lib.hid hcond
  have HSP := Lib.hid hsp
  have HSG := Lib.hid hsg
  have HLT := Lib.hid hltl
  clear han hs0 hs1 hE hK hsp hsg hltl hcond
  clear hf1 hr1 hf2 hp2 hans hk hr hBn
  rcases cl2 h with e | e | e
  all_goals (first | (have t3 : (k == 3) = false := (by simp; omega); have t4 : (k == 4) = true := (by simp; omega)) | (have t3 : (k == 3) = false := (by simp; omega); have t4 : (k == 4) = false := (by simp; omega); have t7 : (k == 7) = true := (by simp; omega)) | (have t3 : (k == 3) = false := (by simp; omega); have t4 : (k == 4) = false := (by simp; omega); have t7 : (k == 7) = false := (by simp; omega); have t8 : (k == 8) = true := (by simp; omega)))
  all_goals clear e h
  all_goals
    go_enter Try.func14, Try.ntmps14
    go_upto_region 2 with (refine store_st vSz rfl (.tmp 6) (.tmp 15) rfl p (by rfl) (vls ⟨k, 0, 0, []⟩) (by rfl) _ _ HP2.out rfl rfl (v_one _) ?_)
    intro w3 hr3 hf3
    clear hw1 hw2 hg hp
    have HP3 : Hid (RowV w3 p ⟨k, 0, 0, []⟩) := Lib.hid hr3
    have HG3 := Lib.hid (HR2.out.fr hf3 HGP.out.1)
    have HF3 := Lib.hid (HF2.out.trans hf3 (fun b hb h => by have := HGP.out.2; omega))
    clear hr3 hf3
    go_wp2_with fail
    refine (HSP.out w3 HF3.out).mono ?_
    rintro e w4 ⟨rfl, rfl⟩
    go_wp2_with fail
    go_loopw [12, 13] (fun u i wr => ∃ x : Int, -1 ≤ x ∧ x < n ∧ i = .int .i64 x ∧ u = .int .u64 (vd B (x + 1).toNat : Int) ∧ Hid (w3 = wr)) (fun u i _ => (intOf i + 1).toNat)
    case atStart => exact ⟨(n : Int) - 1, by omega, by omega, rfl, by rw [show ((n : Int) - 1 + 1).toNat = n by omega, vd_end (by have := HBN.out; omega)]; rfl, rfl⟩
    case round =>
      obtain ⟨x, hx0, hx1, rfl, rfl, HW⟩ := hrel
      rename World => wr
      obtain rfl : w3 = wr := HW.out
      by_cases h0 : 0 ≤ x
      · obtain ⟨j, rfl⟩ := Int.eq_ofNat_of_zero_le h0
        have hjn : j < n := by omega
        rw [show ((j : Int) + 1).toNat = j + 1 by omega]
        obtain ⟨U, hU⟩ : ∃ U, vd B (j + 1) = U := ⟨_, rfl⟩
        have hUl : U < 18446744073709551616 := by rw [← hU]; exact vd_lt _ _
        obtain ⟨ad, v, rfl, hv, hcell⟩ := (HRD.out.fr HF3.out (fun _ _ h => h)).at_ hjn
        obtain ⟨b, hb⟩ : ∃ b, B[j]? = some b := ⟨B[j]'(by have := HBN.out; omega), List.getElem?_eq_getElem _⟩
        obtain rfl : bytec b = v := by simpa [hb] using hv
        unfold bytec at hcell
        have hb256 := b.toNat_lt
        have hst := vd_step hb
        rw [hU] at hst ⊢
        obtain ⟨X, hX⟩ : ∃ X, U * 128 % 18446744073709551616 = X := ⟨_, rfl⟩
        obtain ⟨y, hy⟩ : ∃ y, b.toNat % 128 = y := ⟨_, rfl⟩
        rw [hX, hy] at hst
        obtain ⟨Z, hZ⟩ : ∃ Z, vd B j = Z := ⟨_, rfl⟩
        rw [hZ] at hst
        have r1 : IntKind.u64.wrap ((U : Int) * 128) = (X : Int) := by rw [IntKind.wrap_u64]; omega
        have r2 : (b.toNat : Int).tmod 128 = (y : Int) := by rw [Int.tmod_eq_emod_of_nonneg (by omega)]; omega
        have r2' : (b.toNat : Int) % 128 = (y : Int) := by omega
        have r3 : IntKind.u64.wrap (y : Int) = (y : Int) := by rw [IntKind.wrap_u64]; omega
        have r4 : IntKind.u64.wrap ((X : Int) + (y : Int)) = (Z : Int) := by rw [IntKind.wrap_u64]; omega
        have HZ := Lib.hid hZ
        clear hst hX hy hv hb hU hZ hUl hb256
        go_wp2_with fail
        exact ⟨⟨(j : Int) - 1, by omega, by omega, rfl, by rw [show ((j : Int) - 1 + 1).toNat = j by omega, HZ.out], trivial⟩, by simp [intOf] <;> omega⟩
      · obtain rfl : x = -1 := by omega
        rw [show (-1 + 1 : Int).toNat = 0 from rfl]
        obtain ⟨M, hM⟩ : ∃ M, vd B 0 = M := ⟨_, rfl⟩
        rw [hM]
        obtain ⟨ad, v, rfl, hv, hcell⟩ := (HRD.out.fr HF3.out (fun _ _ h => h)).at_ (show n - 1 < n by omega)
        have hle := last_get (l := B) (by intro h; have := HBN.out; rw [h] at this; simp at this; omega)
        rw [HBN.out] at hle
        obtain rfl : bytec (UInt8.ofNat (LebM.last B)) = v := by simpa [hle] using hv
        rw [bytec_ofNat (by have := HLT.out; omega)] at hcell
        obtain ⟨l, hl⟩ : ∃ l, LebM.last B = l := ⟨_, rfl⟩
        rw [hl] at hcell
        have hcond := HCOND.out
        have hsg := HSG.out
        obtain ⟨N, hN⟩ : ∃ N, sgn (vd B 0) B.length = N := ⟨_, rfl⟩
        rw [hN, hM, HBN.out, hl] at hsg
        rw [hl] at hcond
        have hMl : M < 18446744073709551616 := by rw [← hM]; exact vd_lt _ _
        rw [hN] at HAN
        obtain ⟨D, hD⟩ : ∃ D : Int, (2 : Int) ^ (7 * n) = D := ⟨_, rfl⟩
        have hD2 : 0 ≤ D ∧ D ≤ 9223372036854775808 := by
          rw [← hD]
          have hc : n = 1 ∨ n = 2 ∨ n = 3 ∨ n = 4 ∨ n = 5 ∨ n = 6 ∨ n = 7 ∨ n = 8 ∨ n = 9 := by omega
          rcases hc with rfl | rfl | rfl | rfl | rfl | rfl | rfl | rfl | rfl <;> decide
        rw [if_pos hcond, hD] at hsg
        have r1 : IntKind.u64.wrap ((2 : Int) ^ (7 * n)) = D := by rw [hD, IntKind.wrap_u64]; omega
        obtain ⟨R, hR⟩ : ∃ R : Int, ((M : Int) - D) % 18446744073709551616 = R := ⟨_, rfl⟩
        have r2 : IntKind.u64.wrap ((M : Int) - D) = R := by rw [IntKind.wrap_u64, hR]
        have r3 : IntKind.i64.wrap R = N := by rw [IntKind.wrap_i64, hsg, hR]; unfold wrap64; omega
        have hNb : -9223372036854775808 ≤ N ∧ N < 9223372036854775808 := by rw [hsg]; unfold wrap64; omega
        have t1 : decide ((n : Int) < 10) = true := by simp; omega
        have t1' : decide (n < 10) = true := by simp; omega
        have t2 : decide ((64 : Int) ≤ (l : Int)) = true := by simp; omega
        have t2' : decide (64 ≤ l) = true := by simp; omega
        have hn1 : n < 10 := hcond.1
        have hn2 : (n : Int) < 10 := by omega
        have hn3 : 7 * (n : Int) < 64 := by omega
        clear hD hD2 hR hMl hl
        clear hv hle hsg hcond hN hM HCOND HSG HSP
        obtain ⟨w4, hw4⟩ : ∃ w4, w3.setCell ⟨p, 2, none⟩ (.int .i64 N) = w4 := ⟨_, rfl⟩
        have f1 : w3.frozen? ⟨p, 2, none⟩ = false := Row.free HP3.out 2
        have i0 : w3.cell? ⟨p, 2, none⟩ = some (.int .i64 0) := Row.cell HP3.out rfl
        have h4 := Row.set HP3.out 2 (.int .i64 N)
        rw [hw4] at h4
        have HP4 : Hid (RowV w4 p ⟨k, 0, N, []⟩) := Lib.hid h4
        have hf4 : Fr (fun b => b = p) w3 w4 := by rw [← hw4]; exact Fr.set1 _ _ _ _
        have HG4 := Lib.hid (HG3.out.fr hf4 HGP.out.1)
        have HF4 := Lib.hid (HF3.out.trans hf4 (fun b hb h => by have := HGP.out.2; omega))
        have HNB := Lib.hid hNb
        clear h4 hf4 hNb
        go_upto_region 28 with fail
        clear hcell f1 i0 hw4 HP3 HG3 HF3
        have HPX := HP4
        have HGX := HG4
        have HFX := HF4
        clear HP4 HG4 HF4
        have hyo : V.ok (⟨k, 0, N, []⟩) := ⟨HKB.out, by show (0 : Nat) < _; omega, HNB.out⟩
        have hrt := fun w => rvRight_any (⟨k, 0, N, []⟩) w hyo (by have := HBN.out; simp; try omega)
        have hpt := fun w => rvPut_any (⟨k, 0, N, []⟩) w hyo
        obtain ⟨b1, hb1⟩ : ∃ b1, rightV (⟨k, 0, N, []⟩) = b1 := ⟨_, rfl⟩
        obtain ⟨Y, hY⟩ : ∃ Y, putV (⟨k, 0, N, []⟩) = Y := ⟨_, rfl⟩
        have han := HAN.out
        unfold endG at han
        rw [hb1, hY] at han
        simp only [hb1, valc] at hrt
        simp only [hY, valc] at hpt
        (try rw [show ((0 : Nat) : Int) = 0 from rfl] at hrt)
        (try rw [show ((0 : Nat) : Int) = 0 from rfl] at hpt)
        have HRT := Lib.hid hrt
        have HPT := Lib.hid hpt
        clear hyo hrt hpt hb1 hY HAN
        cases b1
        · have HAN : Hid ((zeroV, false) = ans) := Lib.hid han
          clear han
          refine wp_region_held_drew (S := fun w' => Fr (fun _ => False) w4 w') (by kernel_rfl) ?_ (fun hHeld => ?_)
          · exact (Fr.refl _ _).drew
          refine wpAnyH_take (i := 0) (v := ?_) rfl (by kernel_rfl) (by kernel_rfl) (by kernel_rfl) (fun _ _ _ h => h) (Or.inl ⟨by rfl, ?_⟩) hHeld ?_
          rotate_left
          · intro w hSw; (try dsimp only at hSw); obtain ⟨c0, c1, c2, c3⟩ := (HPX.out.fr hSw (fun h => h)).cells; (try dsimp only at c0 c1 c2 c3); go_simp; try (with_reducible rfl)
          (try simp only [Act.put, List.setIfInBounds_toArray, List.set_cons_zero, List.set_cons_succ, List.getElem_toArray, List.getElem_cons_zero])
          refine wpAnyH_ready (rs := [1]) (by kernel_rfl) (by simp) ?_
          refine AllReadyH.cons rfl (fun Kx hKx => ?_) AllReadyH.nil
          go_simp
          have hcon := HRT.out w4.drew
          with_reducible refine hcon.mono ?_
          clear hcon
          rintro e' w6 ⟨rfl, hff⟩
          have HFw6 : Hid (Fr (fun _ => False) w4 w6) := Lib.hid ((Fr.refl _ _).drew.trans hff (fun _ _ h => h))
          refine hKx.out _ _ ?_ (fun hHeld => ?_)
          · exact HFw6.out
          clear hKx Kx hff
          (try simp only [Act.put, List.setIfInBounds_toArray, List.set_cons_zero, List.set_cons_succ, List.getElem_toArray, List.getElem_cons_zero, List.getElem_cons_succ])
          refine wpAnyH_more (fun w' => Fr (fun _ => False) w6 w') (fun _ h => HFw6.out.trans h (fun _ _ h => h)) ?_ (fun hHeld => ?_)
          · exact Fr.refl _ _
          refine wpAnyH_take (i := 2) (v := ?_) rfl (by kernel_rfl) (by kernel_rfl) (by kernel_rfl) (fun _ _ _ h => h) (Or.inl ⟨by rfl, ?_⟩) hHeld ?_
          rotate_left
          · intro w hSw; (try dsimp only at hSw); go_simp; try (with_reducible rfl)
          (try simp only [Act.put, List.setIfInBounds_toArray, List.set_cons_zero, List.set_cons_succ, List.getElem_toArray, List.getElem_cons_zero, List.getElem_cons_succ])
          refine wpAnyH_take (i := 3) (v := ?_) rfl (by kernel_rfl) (by kernel_rfl) (by kernel_rfl) (fun _ _ _ h => h) (Or.inl ⟨by rfl, ?_⟩) hHeld ?_
          rotate_left
          · intro w hSw; (try dsimp only at hSw); go_simp; try (with_reducible rfl)
          (try simp only [Act.put, List.setIfInBounds_toArray, List.set_cons_zero, List.set_cons_succ, List.getElem_toArray, List.getElem_cons_zero, List.getElem_cons_succ])
          refine wpAnyH_take (i := 4) (v := undef) rfl (by kernel_rfl) (by kernel_rfl) (by kernel_rfl) (fun _ _ _ h => h) (Or.inr ⟨by rfl, rfl⟩) hHeld ?_
          (try simp only [Act.put, List.setIfInBounds_toArray, List.set_cons_zero, List.set_cons_succ, List.getElem_toArray, List.getElem_cons_zero, List.getElem_cons_succ])
          refine wpAnyH_take (i := 5) (v := undef) rfl (by kernel_rfl) (by kernel_rfl) (by kernel_rfl) (fun _ _ _ h => h) (Or.inr ⟨by rfl, rfl⟩) hHeld ?_
          (try simp only [Act.put, List.setIfInBounds_toArray, List.set_cons_zero, List.set_cons_succ, List.getElem_toArray, List.getElem_cons_zero, List.getElem_cons_succ])
          refine wpAnyH_take (i := 6) (v := undef) rfl (by kernel_rfl) (by kernel_rfl) (by kernel_rfl) (fun _ _ _ h => h) (Or.inr ⟨by rfl, rfl⟩) hHeld ?_
          (try simp only [Act.put, List.setIfInBounds_toArray, List.set_cons_zero, List.set_cons_succ, List.getElem_toArray, List.getElem_cons_zero, List.getElem_cons_succ])
          refine wpAnyH_take (i := 7) (v := undef) rfl (by kernel_rfl) (by kernel_rfl) (by kernel_rfl) (fun _ _ _ h => h) (Or.inr ⟨by rfl, rfl⟩) hHeld ?_
          (try simp only [Act.put, List.setIfInBounds_toArray, List.set_cons_zero, List.set_cons_succ, List.getElem_toArray, List.getElem_cons_zero, List.getElem_cons_succ])
          refine wpAnyH_take (i := 8) (v := undef) rfl (by kernel_rfl) (by kernel_rfl) (by kernel_rfl) (fun _ _ _ h => h) (Or.inr ⟨by rfl, rfl⟩) hHeld ?_
          (try simp only [Act.put, List.setIfInBounds_toArray, List.set_cons_zero, List.set_cons_succ, List.getElem_toArray, List.getElem_cons_zero, List.getElem_cons_succ])
          refine wpAnyH_take (i := 9) (v := undef) rfl (by kernel_rfl) (by kernel_rfl) (by kernel_rfl) (fun _ _ _ h => h) (Or.inr ⟨by rfl, rfl⟩) hHeld ?_
          (try simp only [Act.put, List.setIfInBounds_toArray, List.set_cons_zero, List.set_cons_succ, List.getElem_toArray, List.getElem_cons_zero, List.getElem_cons_succ])
          refine wpAnyH_take (i := 10) (v := ?_) rfl (by kernel_rfl) (by kernel_rfl) (by kernel_rfl) (fun _ _ _ h => h) (Or.inl ⟨by rfl, ?_⟩) hHeld ?_
          rotate_left
          · intro w hSw; (try dsimp only at hSw); go_simp; try (with_reducible rfl)
          (try simp only [Act.put, List.setIfInBounds_toArray, List.set_cons_zero, List.set_cons_succ, List.getElem_toArray, List.getElem_cons_zero, List.getElem_cons_succ])
          refine wpAnyH_done (by kernel_rfl) ?_ _
          have HGL := Lib.hid ((HGX.out.fr HFw6.out (fun h => h)))
          have HFL := Lib.hid ((HFX.out.trans HFw6.out (fun _ _ h => h)))
          go_wp2_with (refine store_st vSz rfl (.tmp 4) (.tmp 118) rfl g (by rfl) (vls zeroV) (by rfl) _ _ HGL.out rfl rfl (v_one _) ?_)
          intro w8 hr8 hf8
          have HR8 : Hid (RowV w8 g zeroV) := Lib.hid hr8
          have HF8 := Lib.hid (HFL.out.trans hf8 (fun b hb h => by have := HGP.out; omega))
          have d0 := HR8.out.c0
          have d1 := HR8.out.c1
          have d2 := HR8.out.c2
          have d3 := HR8.out.c3
          clear hr8 hf8
          go_wp2_with fail
          refine bodyPost_ret (v := getR (zeroV, false)) (by simp [results, getR, valc, d0, d1, d2, d3, Try.results14, go_sem]) rfl ⟨by rw [← HAN.out], HF8.out⟩
        · by_cases hq : Y = B
          · have HAN : Hid ((⟨k, 0, N, []⟩, true) = ans) := Lib.hid (by rw [← han]; simp [hq])
            obtain rfl : B = Y := hq.symm
            clear han hq
            refine wp_region_held_drew (S := fun w' => Fr (fun _ => False) w4 w') (by kernel_rfl) ?_ (fun hHeld => ?_)
            · exact (Fr.refl _ _).drew
            refine wpAnyH_take (i := 0) (v := ?_) rfl (by kernel_rfl) (by kernel_rfl) (by kernel_rfl) (fun _ _ _ h => h) (Or.inl ⟨by rfl, ?_⟩) hHeld ?_
            rotate_left
            · intro w hSw; (try dsimp only at hSw); obtain ⟨c0, c1, c2, c3⟩ := (HPX.out.fr hSw (fun h => h)).cells; (try dsimp only at c0 c1 c2 c3); go_simp; try (with_reducible rfl)
            (try simp only [Act.put, List.setIfInBounds_toArray, List.set_cons_zero, List.set_cons_succ, List.getElem_toArray, List.getElem_cons_zero])
            refine wpAnyH_ready (rs := [1]) (by kernel_rfl) (by simp) ?_
            refine AllReadyH.cons rfl (fun Kx hKx => ?_) AllReadyH.nil
            go_simp
            have hcon := HRT.out w4.drew
            with_reducible refine hcon.mono ?_
            clear hcon
            rintro e' w6 ⟨rfl, hff⟩
            have HFw6 : Hid (Fr (fun _ => False) w4 w6) := Lib.hid ((Fr.refl _ _).drew.trans hff (fun _ _ h => h))
            refine hKx.out _ _ ?_ (fun hHeld => ?_)
            · exact HFw6.out
            clear hKx Kx hff
            (try simp only [Act.put, List.setIfInBounds_toArray, List.set_cons_zero, List.set_cons_succ, List.getElem_toArray, List.getElem_cons_zero, List.getElem_cons_succ])
            refine wpAnyH_more (fun w' => Fr (fun _ => False) w6 w') (fun _ h => HFw6.out.trans h (fun _ _ h => h)) ?_ (fun hHeld => ?_)
            · exact Fr.refl _ _
            refine wpAnyH_take (i := 2) (v := ?_) rfl (by kernel_rfl) (by kernel_rfl) (by kernel_rfl) (fun _ _ _ h => h) (Or.inl ⟨by rfl, ?_⟩) hHeld ?_
            rotate_left
            · intro w hSw; (try dsimp only at hSw); go_simp; try (with_reducible rfl)
            (try simp only [Act.put, List.setIfInBounds_toArray, List.set_cons_zero, List.set_cons_succ, List.getElem_toArray, List.getElem_cons_zero, List.getElem_cons_succ])
            refine wpAnyH_take (i := 3) (v := ?_) rfl (by kernel_rfl) (by kernel_rfl) (by kernel_rfl) (fun _ _ _ h => h) (Or.inl ⟨by rfl, ?_⟩) hHeld ?_
            rotate_left
            · intro w hSw; (try dsimp only at hSw); go_simp; try (with_reducible rfl)
            (try simp only [Act.put, List.setIfInBounds_toArray, List.set_cons_zero, List.set_cons_succ, List.getElem_toArray, List.getElem_cons_zero, List.getElem_cons_succ])
            refine wpAnyH_take (i := 4) (v := ?_) rfl (by kernel_rfl) (by kernel_rfl) (by kernel_rfl) (fun _ _ _ h => h) (Or.inl ⟨by rfl, ?_⟩) hHeld ?_
            rotate_left
            · intro w hSw; (try dsimp only at hSw); obtain ⟨c0, c1, c2, c3⟩ := ((HPX.out.fr HFw6.out (fun h => h)).fr hSw (fun h => h)).cells; (try dsimp only at c0 c1 c2 c3); go_simp; try (with_reducible rfl)
            (try simp only [Act.put, List.setIfInBounds_toArray, List.set_cons_zero, List.set_cons_succ, List.getElem_toArray, List.getElem_cons_zero, List.getElem_cons_succ])
            refine wpAnyH_take (i := 7) (v := ?_) rfl (by kernel_rfl) (by kernel_rfl) (by kernel_rfl) (fun _ _ _ h => h) (Or.inl ⟨by rfl, ?_⟩) hHeld ?_
            rotate_left
            · intro w hSw; (try dsimp only at hSw); go_simp; try (with_reducible rfl)
            (try simp only [Act.put, List.setIfInBounds_toArray, List.set_cons_zero, List.set_cons_succ, List.getElem_toArray, List.getElem_cons_zero, List.getElem_cons_succ])
            refine wpAnyH_take (i := 8) (v := ?_) rfl (by kernel_rfl) (by kernel_rfl) (by kernel_rfl) (fun _ _ _ h => h) (Or.inl ⟨by rfl, ?_⟩) hHeld ?_
            rotate_left
            · intro w hSw; (try dsimp only at hSw); have hcv := str_rd (((HRD.out.fr HFX.out (fun _ _ h => h)).fr HFw6.out (fun _ _ h => h)).fr hSw (fun _ _ h => h)) c; go_simp; try (with_reducible rfl)
            (try simp only [Act.put, List.setIfInBounds_toArray, List.set_cons_zero, List.set_cons_succ, List.getElem_toArray, List.getElem_cons_zero, List.getElem_cons_succ])
            refine wpAnyH_ready (rs := [5]) (by kernel_rfl) (by simp) ?_
            refine AllReadyH.cons rfl (fun Kx hKx => ?_) AllReadyH.nil
            go_simp
            have hcon := HPT.out w6
            with_reducible refine hcon.mono ?_
            clear hcon
            rintro e' w7 ⟨A7, c7, rfl, hc7, hr7, hff⟩
            have HFw7 : Hid (Fr (fun _ => False) w6 w7) := Lib.hid (hff)
            have HR7 := Lib.hid hr7
            clear hc7 hr7
            refine hKx.out _ _ ?_ (fun hHeld => ?_)
            · exact HFw7.out
            clear hKx Kx hff
            (try simp only [Act.put, List.setIfInBounds_toArray, List.set_cons_zero, List.set_cons_succ, List.getElem_toArray, List.getElem_cons_zero, List.getElem_cons_succ])
            refine wpAnyH_more (fun w' => Fr (fun _ => False) w7 w') (fun _ h => HFw7.out.trans h (fun _ _ h => h)) ?_ (fun hHeld => ?_)
            · exact Fr.refl _ _
            refine wpAnyH_take (i := 6) (v := ?_) rfl (by kernel_rfl) (by kernel_rfl) (by kernel_rfl) (fun _ _ _ h => h) (Or.inl ⟨by rfl, ?_⟩) hHeld ?_
            rotate_left
            · intro w hSw; (try dsimp only at hSw); have hcv := str_rd (HR7.out.fr hSw (fun _ _ h => h)) c7; go_simp; try (with_reducible rfl)
            (try simp only [Act.put, List.setIfInBounds_toArray, List.set_cons_zero, List.set_cons_succ, List.getElem_toArray, List.getElem_cons_zero, List.getElem_cons_succ])
            refine wpAnyH_take (i := 9) (v := ?_) rfl (by kernel_rfl) (by kernel_rfl) (by kernel_rfl) (fun _ _ _ h => h) (Or.inl ⟨by rfl, ?_⟩) hHeld ?_
            rotate_left
            · intro w hSw; (try dsimp only at hSw); go_simp; try (with_reducible rfl)
            (try simp only [Act.put, List.setIfInBounds_toArray, List.set_cons_zero, List.set_cons_succ, List.getElem_toArray, List.getElem_cons_zero, List.getElem_cons_succ])
            refine wpAnyH_take (i := 10) (v := ?_) rfl (by kernel_rfl) (by kernel_rfl) (by kernel_rfl) (fun _ _ _ h => h) (Or.inl ⟨by rfl, ?_⟩) hHeld ?_
            rotate_left
            · intro w hSw; (try dsimp only at hSw); go_simp; try (with_reducible rfl)
            (try simp only [Act.put, List.setIfInBounds_toArray, List.set_cons_zero, List.set_cons_succ, List.getElem_toArray, List.getElem_cons_zero, List.getElem_cons_succ])
            refine wpAnyH_done (by kernel_rfl) ?_ _
            have HGL := Lib.hid (((HGX.out.fr HFw6.out (fun h => h)).fr HFw7.out (fun h => h)))
            have HFL := Lib.hid (((HFX.out.trans HFw6.out (fun _ _ h => h)).trans HFw7.out (fun _ _ h => h)))
            obtain ⟨c0, c1, c2, c3⟩ := ((HPX.out.fr HFw6.out (fun h => h)).fr HFw7.out (fun h => h)).cells
            (try dsimp only at c0 c1 c2 c3)
            go_wp2_with (refine store_st vSz rfl (.tmp 4) (.tmp 119) rfl g (by rfl) (vls (⟨k, 0, N, []⟩)) (by rfl) _ _ HGL.out rfl rfl (v_one _) ?_)
            intro w8 hr8 hf8
            have HR8 : Hid (RowV w8 g (⟨k, 0, N, []⟩)) := Lib.hid hr8
            have HF8 := Lib.hid (HFL.out.trans hf8 (fun b hb h => by have := HGP.out; omega))
            have d0 := HR8.out.c0
            have d1 := HR8.out.c1
            have d2 := HR8.out.c2
            have d3 := HR8.out.c3
            clear hr8 hf8
            go_wp2_with fail
            refine bodyPost_ret (v := getR ((⟨k, 0, N, []⟩), true)) (by simp [results, getR, valc, d0, d1, d2, d3, Try.results14, go_sem]) rfl ⟨by rw [← HAN.out], HF8.out⟩
          · have HAN : Hid ((zeroV, false) = ans) := Lib.hid (by rw [← han]; simp [hq])
            have hne : ((txt Y).toList == (txt B).toList) = false := by rw [beq_txt]; simp [hq]
            clear han hq
            refine wp_region_held_drew (S := fun w' => Fr (fun _ => False) w4 w') (by kernel_rfl) ?_ (fun hHeld => ?_)
            · exact (Fr.refl _ _).drew
            refine wpAnyH_take (i := 0) (v := ?_) rfl (by kernel_rfl) (by kernel_rfl) (by kernel_rfl) (fun _ _ _ h => h) (Or.inl ⟨by rfl, ?_⟩) hHeld ?_
            rotate_left
            · intro w hSw; (try dsimp only at hSw); obtain ⟨c0, c1, c2, c3⟩ := (HPX.out.fr hSw (fun h => h)).cells; (try dsimp only at c0 c1 c2 c3); go_simp; try (with_reducible rfl)
            (try simp only [Act.put, List.setIfInBounds_toArray, List.set_cons_zero, List.set_cons_succ, List.getElem_toArray, List.getElem_cons_zero])
            refine wpAnyH_ready (rs := [1]) (by kernel_rfl) (by simp) ?_
            refine AllReadyH.cons rfl (fun Kx hKx => ?_) AllReadyH.nil
            go_simp
            have hcon := HRT.out w4.drew
            with_reducible refine hcon.mono ?_
            clear hcon
            rintro e' w6 ⟨rfl, hff⟩
            have HFw6 : Hid (Fr (fun _ => False) w4 w6) := Lib.hid ((Fr.refl _ _).drew.trans hff (fun _ _ h => h))
            refine hKx.out _ _ ?_ (fun hHeld => ?_)
            · exact HFw6.out
            clear hKx Kx hff
            (try simp only [Act.put, List.setIfInBounds_toArray, List.set_cons_zero, List.set_cons_succ, List.getElem_toArray, List.getElem_cons_zero, List.getElem_cons_succ])
            refine wpAnyH_more (fun w' => Fr (fun _ => False) w6 w') (fun _ h => HFw6.out.trans h (fun _ _ h => h)) ?_ (fun hHeld => ?_)
            · exact Fr.refl _ _
            refine wpAnyH_take (i := 2) (v := ?_) rfl (by kernel_rfl) (by kernel_rfl) (by kernel_rfl) (fun _ _ _ h => h) (Or.inl ⟨by rfl, ?_⟩) hHeld ?_
            rotate_left
            · intro w hSw; (try dsimp only at hSw); go_simp; try (with_reducible rfl)
            (try simp only [Act.put, List.setIfInBounds_toArray, List.set_cons_zero, List.set_cons_succ, List.getElem_toArray, List.getElem_cons_zero, List.getElem_cons_succ])
            refine wpAnyH_take (i := 3) (v := ?_) rfl (by kernel_rfl) (by kernel_rfl) (by kernel_rfl) (fun _ _ _ h => h) (Or.inl ⟨by rfl, ?_⟩) hHeld ?_
            rotate_left
            · intro w hSw; (try dsimp only at hSw); go_simp; try (with_reducible rfl)
            (try simp only [Act.put, List.setIfInBounds_toArray, List.set_cons_zero, List.set_cons_succ, List.getElem_toArray, List.getElem_cons_zero, List.getElem_cons_succ])
            refine wpAnyH_take (i := 4) (v := ?_) rfl (by kernel_rfl) (by kernel_rfl) (by kernel_rfl) (fun _ _ _ h => h) (Or.inl ⟨by rfl, ?_⟩) hHeld ?_
            rotate_left
            · intro w hSw; (try dsimp only at hSw); obtain ⟨c0, c1, c2, c3⟩ := ((HPX.out.fr HFw6.out (fun h => h)).fr hSw (fun h => h)).cells; (try dsimp only at c0 c1 c2 c3); go_simp; try (with_reducible rfl)
            (try simp only [Act.put, List.setIfInBounds_toArray, List.set_cons_zero, List.set_cons_succ, List.getElem_toArray, List.getElem_cons_zero, List.getElem_cons_succ])
            refine wpAnyH_take (i := 7) (v := ?_) rfl (by kernel_rfl) (by kernel_rfl) (by kernel_rfl) (fun _ _ _ h => h) (Or.inl ⟨by rfl, ?_⟩) hHeld ?_
            rotate_left
            · intro w hSw; (try dsimp only at hSw); go_simp; try (with_reducible rfl)
            (try simp only [Act.put, List.setIfInBounds_toArray, List.set_cons_zero, List.set_cons_succ, List.getElem_toArray, List.getElem_cons_zero, List.getElem_cons_succ])
            refine wpAnyH_take (i := 8) (v := ?_) rfl (by kernel_rfl) (by kernel_rfl) (by kernel_rfl) (fun _ _ _ h => h) (Or.inl ⟨by rfl, ?_⟩) hHeld ?_
            rotate_left
            · intro w hSw; (try dsimp only at hSw); have hcv := str_rd (((HRD.out.fr HFX.out (fun _ _ h => h)).fr HFw6.out (fun _ _ h => h)).fr hSw (fun _ _ h => h)) c; go_simp; try (with_reducible rfl)
            (try simp only [Act.put, List.setIfInBounds_toArray, List.set_cons_zero, List.set_cons_succ, List.getElem_toArray, List.getElem_cons_zero, List.getElem_cons_succ])
            refine wpAnyH_ready (rs := [5]) (by kernel_rfl) (by simp) ?_
            refine AllReadyH.cons rfl (fun Kx hKx => ?_) AllReadyH.nil
            go_simp
            have hcon := HPT.out w6
            with_reducible refine hcon.mono ?_
            clear hcon
            rintro e' w7 ⟨A7, c7, rfl, hc7, hr7, hff⟩
            have HFw7 : Hid (Fr (fun _ => False) w6 w7) := Lib.hid (hff)
            have HR7 := Lib.hid hr7
            clear hc7 hr7
            refine hKx.out _ _ ?_ (fun hHeld => ?_)
            · exact HFw7.out
            clear hKx Kx hff
            (try simp only [Act.put, List.setIfInBounds_toArray, List.set_cons_zero, List.set_cons_succ, List.getElem_toArray, List.getElem_cons_zero, List.getElem_cons_succ])
            refine wpAnyH_more (fun w' => Fr (fun _ => False) w7 w') (fun _ h => HFw7.out.trans h (fun _ _ h => h)) ?_ (fun hHeld => ?_)
            · exact Fr.refl _ _
            refine wpAnyH_take (i := 6) (v := ?_) rfl (by kernel_rfl) (by kernel_rfl) (by kernel_rfl) (fun _ _ _ h => h) (Or.inl ⟨by rfl, ?_⟩) hHeld ?_
            rotate_left
            · intro w hSw; (try dsimp only at hSw); have hcv := str_rd (HR7.out.fr hSw (fun _ _ h => h)) c7; go_simp; try (with_reducible rfl)
            (try simp only [Act.put, List.setIfInBounds_toArray, List.set_cons_zero, List.set_cons_succ, List.getElem_toArray, List.getElem_cons_zero, List.getElem_cons_succ])
            refine wpAnyH_take (i := 9) (v := ?_) rfl (by kernel_rfl) (by kernel_rfl) (by kernel_rfl) (fun _ _ _ h => h) (Or.inl ⟨by rfl, ?_⟩) hHeld ?_
            rotate_left
            · intro w hSw; (try dsimp only at hSw); go_simp; try (with_reducible rfl)
            (try simp only [Act.put, List.setIfInBounds_toArray, List.set_cons_zero, List.set_cons_succ, List.getElem_toArray, List.getElem_cons_zero, List.getElem_cons_succ])
            refine wpAnyH_take (i := 10) (v := ?_) rfl (by kernel_rfl) (by kernel_rfl) (by kernel_rfl) (fun _ _ _ h => h) (Or.inl ⟨by rfl, ?_⟩) hHeld ?_
            rotate_left
            · intro w hSw; (try dsimp only at hSw); go_simp; try (with_reducible rfl)
            (try simp only [Act.put, List.setIfInBounds_toArray, List.set_cons_zero, List.set_cons_succ, List.getElem_toArray, List.getElem_cons_zero, List.getElem_cons_succ])
            refine wpAnyH_done (by kernel_rfl) ?_ _
            have HGL := Lib.hid (((HGX.out.fr HFw6.out (fun h => h)).fr HFw7.out (fun h => h)))
            have HFL := Lib.hid (((HFX.out.trans HFw6.out (fun _ _ h => h)).trans HFw7.out (fun _ _ h => h)))
            go_wp2_with (refine store_st vSz rfl (.tmp 4) (.tmp 118) rfl g (by rfl) (vls zeroV) (by rfl) _ _ HGL.out rfl rfl (v_one _) ?_)
            intro w8 hr8 hf8
            have HR8 : Hid (RowV w8 g zeroV) := Lib.hid hr8
            have HF8 := Lib.hid (HFL.out.trans hf8 (fun b hb h => by have := HGP.out; omega))
            have d0 := HR8.out.c0
            have d1 := HR8.out.c1
            have d2 := HR8.out.c2
            have d3 := HR8.out.c3
            clear hr8 hf8
            go_wp2_with fail
            refine bodyPost_ret (v := getR (zeroV, false)) (by simp [results, getR, valc, d0, d1, d2, d3, Try.results14, go_sem]) rfl ⟨by rw [← HAN.out], HF8.out⟩

set_option maxRecDepth 100000 in
set_option maxHeartbeats 6400000 in
theorem rgetF2b_any (k : Int) (A : Option Addr) (n c : Nat) (B : List UInt8) (w : World) (hk : -9223372036854775808 ≤ k ∧ k < 9223372036854775808) (hr : Rd w A n (B.map bytec)) (hc : n ≤ c) (hn : n ≤ 1000000) (h : cl k = 2) (hs0 : spanE B = 0) (hs1 : spanK B = B.length) (hcond : ¬ (B.length < 10 ∧ 64 ≤ LebM.last B) ∧ 10 ≤ B.length) :
    Calls Try.prog 14 #[.int .i64 k, .slice A n c] w fun e w' => e = .returned (getR (getV k B)) ∧ Fr (fun _ => False) w w' := by
  have hBn : B.length = n := by simpa using hr.1
  obtain ⟨ans, hans⟩ : ∃ ans, getV k B = ans := ⟨_, rfl⟩
  rw [hans]
  obtain ⟨g, hg⟩ : ∃ g, w.heap.size = g := ⟨_, rfl⟩
  obtain ⟨w1, hw1⟩ : ∃ w1, w.alloc (.cells #[.int .i64 0, .int .u64 0, .int .i64 0, .string ⟨#[]⟩] 24) = w1 := ⟨_, rfl⟩
  have hf1 : Fr (fun _ => False) w w1 := by rw [← hw1]; exact (Fr.refl _ _).alloc _
  have hr1 : RowV w1 g zeroV := by rw [← hw1, ← hg]; exact RowV.new w zeroV
  obtain ⟨p, hp⟩ : ∃ p, w1.heap.size = p := ⟨_, rfl⟩
  obtain ⟨w2, hw2⟩ : ∃ w2, w1.alloc (.cells #[.int .i64 0, .int .u64 0, .int .i64 0, .string ⟨#[]⟩] 24) = w2 := ⟨_, rfl⟩
  have hf2 : Fr (fun _ => False) w1 w2 := by rw [← hw2]; exact (Fr.refl _ _).alloc _
  have hp2 : RowV w2 p zeroV := by rw [← hw2, ← hp]; exact RowV.new w1 zeroV
  have HR2 := Lib.hid (hr1.fr hf2 (fun h => h))
  have HP2 := Lib.hid hp2
  have HGP : Hid (g ≠ p ∧ w.heap.size ≤ p ∧ w.heap.size = g) := Lib.hid (by have h1 := hr1.lt; have h2 := hf1.size; omega)
  have HF2 := Lib.hid (hf1.trans hf2 (fun _ _ h => h))
  have HRD := Lib.hid hr
  have HBN := Lib.hid hBn
  have HKB := Lib.hid hk
  obtain ⟨E, hE⟩ : ∃ E, spanE B = E := ⟨_, rfl⟩
  obtain ⟨K, hK⟩ : ∃ K, spanK B = K := ⟨_, rfl⟩
  have hsp := fun w' (hf : Fr (fun _ => False) w w') => rspan_any A n c B w' (hr.fr hf (fun _ _ h => h))
  have hkl := spanK_le B
  have hel := spanE_le B
  rw [hK] at hkl
  rw [hE] at hel
  rw [hE, hK] at hsp
  rw [hBn] at hkl
  have han := get_sgn h hs0 hs1
  rw [hans] at han
  have hsg := sign_of hs0 hs1
  have hltl := last_lt (span_of hs0 hs1).1
  have HAN := Lib.hid han.symm
  have hpos := (span_of hs0 hs1).2.2
  obtain rfl : 0 = E := by rw [← hE, hs0]
  obtain rfl : n = K := by rw [← hK, hs1, hBn]
  rw [hBn] at hpos
  rw [hBn] at hcond
  have HCOND := Lib.hid hcond
  have HSP := Lib.hid hsp
  have HSG := Lib.hid hsg
  have HLT := Lib.hid hltl
  clear han hs0 hs1 hE hK hsp hsg hltl hcond
  clear hf1 hr1 hf2 hp2 hans hk hr hBn
  rcases cl2 h with e | e | e
  all_goals (first | (have t3 : (k == 3) = false := (by simp; omega); have t4 : (k == 4) = true := (by simp; omega)) | (have t3 : (k == 3) = false := (by simp; omega); have t4 : (k == 4) = false := (by simp; omega); have t7 : (k == 7) = true := (by simp; omega)) | (have t3 : (k == 3) = false := (by simp; omega); have t4 : (k == 4) = false := (by simp; omega); have t7 : (k == 7) = false := (by simp; omega); have t8 : (k == 8) = true := (by simp; omega)))
  all_goals clear e h
  all_goals
    go_enter Try.func14, Try.ntmps14
    go_upto_region 2 with (refine store_st vSz rfl (.tmp 6) (.tmp 15) rfl p (by rfl) (vls ⟨k, 0, 0, []⟩) (by rfl) _ _ HP2.out rfl rfl (v_one _) ?_)
    intro w3 hr3 hf3
    clear hw1 hw2 hg hp
    have HP3 : Hid (RowV w3 p ⟨k, 0, 0, []⟩) := Lib.hid hr3
    have HG3 := Lib.hid (HR2.out.fr hf3 HGP.out.1)
    have HF3 := Lib.hid (HF2.out.trans hf3 (fun b hb h => by have := HGP.out.2; omega))
    clear hr3 hf3
    go_wp2_with fail
    refine (HSP.out w3 HF3.out).mono ?_
    rintro e w4 ⟨rfl, rfl⟩
    go_wp2_with fail
    go_loopw [12, 13] (fun u i wr => ∃ x : Int, -1 ≤ x ∧ x < n ∧ i = .int .i64 x ∧ u = .int .u64 (vd B (x + 1).toNat : Int) ∧ Hid (w3 = wr)) (fun u i _ => (intOf i + 1).toNat)
    case atStart => exact ⟨(n : Int) - 1, by omega, by omega, rfl, by rw [show ((n : Int) - 1 + 1).toNat = n by omega, vd_end (by have := HBN.out; omega)]; rfl, rfl⟩
    case round =>
      obtain ⟨x, hx0, hx1, rfl, rfl, HW⟩ := hrel
      rename World => wr
      obtain rfl : w3 = wr := HW.out
      by_cases h0 : 0 ≤ x
      · obtain ⟨j, rfl⟩ := Int.eq_ofNat_of_zero_le h0
        have hjn : j < n := by omega
        rw [show ((j : Int) + 1).toNat = j + 1 by omega]
        obtain ⟨U, hU⟩ : ∃ U, vd B (j + 1) = U := ⟨_, rfl⟩
        have hUl : U < 18446744073709551616 := by rw [← hU]; exact vd_lt _ _
        obtain ⟨ad, v, rfl, hv, hcell⟩ := (HRD.out.fr HF3.out (fun _ _ h => h)).at_ hjn
        obtain ⟨b, hb⟩ : ∃ b, B[j]? = some b := ⟨B[j]'(by have := HBN.out; omega), List.getElem?_eq_getElem _⟩
        obtain rfl : bytec b = v := by simpa [hb] using hv
        unfold bytec at hcell
        have hb256 := b.toNat_lt
        have hst := vd_step hb
        rw [hU] at hst ⊢
        obtain ⟨X, hX⟩ : ∃ X, U * 128 % 18446744073709551616 = X := ⟨_, rfl⟩
        obtain ⟨y, hy⟩ : ∃ y, b.toNat % 128 = y := ⟨_, rfl⟩
        rw [hX, hy] at hst
        obtain ⟨Z, hZ⟩ : ∃ Z, vd B j = Z := ⟨_, rfl⟩
        rw [hZ] at hst
        have r1 : IntKind.u64.wrap ((U : Int) * 128) = (X : Int) := by rw [IntKind.wrap_u64]; omega
        have r2 : (b.toNat : Int).tmod 128 = (y : Int) := by rw [Int.tmod_eq_emod_of_nonneg (by omega)]; omega
        have r2' : (b.toNat : Int) % 128 = (y : Int) := by omega
        have r3 : IntKind.u64.wrap (y : Int) = (y : Int) := by rw [IntKind.wrap_u64]; omega
        have r4 : IntKind.u64.wrap ((X : Int) + (y : Int)) = (Z : Int) := by rw [IntKind.wrap_u64]; omega
        have HZ := Lib.hid hZ
        clear hst hX hy hv hb hU hZ hUl hb256
        go_wp2_with fail
        exact ⟨⟨(j : Int) - 1, by omega, by omega, rfl, by rw [show ((j : Int) - 1 + 1).toNat = j by omega, HZ.out], trivial⟩, by simp [intOf] <;> omega⟩
      · obtain rfl : x = -1 := by omega
        rw [show (-1 + 1 : Int).toNat = 0 from rfl]
        obtain ⟨M, hM⟩ : ∃ M, vd B 0 = M := ⟨_, rfl⟩
        rw [hM]
        obtain ⟨ad, v, rfl, hv, hcell⟩ := (HRD.out.fr HF3.out (fun _ _ h => h)).at_ (show n - 1 < n by omega)
        have hle := last_get (l := B) (by intro h; have := HBN.out; rw [h] at this; simp at this; omega)
        rw [HBN.out] at hle
        obtain rfl : bytec (UInt8.ofNat (LebM.last B)) = v := by simpa [hle] using hv
        rw [bytec_ofNat (by have := HLT.out; omega)] at hcell
        obtain ⟨l, hl⟩ : ∃ l, LebM.last B = l := ⟨_, rfl⟩
        rw [hl] at hcell
        have hcond := HCOND.out
        have hsg := HSG.out
        obtain ⟨N, hN⟩ : ∃ N, sgn (vd B 0) B.length = N := ⟨_, rfl⟩
        rw [hN, hM, HBN.out, hl] at hsg
        rw [hl] at hcond
        have hMl : M < 18446744073709551616 := by rw [← hM]; exact vd_lt _ _
        rw [hN] at HAN
        rw [if_neg hcond.1] at hsg
        have r3 : IntKind.i64.wrap (M : Int) = N := by rw [IntKind.wrap_i64, hsg]; unfold wrap64; omega
        have hNb : -9223372036854775808 ≤ N ∧ N < 9223372036854775808 := by rw [hsg]; unfold wrap64; omega
        clear hMl hl
        have t1 : decide ((n : Int) < 10) = false := by simp; omega
        have t1' : decide (n < 10) = false := by simp; omega
        clear hv hle hsg hcond hN hM HCOND HSG HSP
        obtain ⟨w4, hw4⟩ : ∃ w4, w3.setCell ⟨p, 2, none⟩ (.int .i64 N) = w4 := ⟨_, rfl⟩
        have f1 : w3.frozen? ⟨p, 2, none⟩ = false := Row.free HP3.out 2
        have i0 : w3.cell? ⟨p, 2, none⟩ = some (.int .i64 0) := Row.cell HP3.out rfl
        have h4 := Row.set HP3.out 2 (.int .i64 N)
        rw [hw4] at h4
        have HP4 : Hid (RowV w4 p ⟨k, 0, N, []⟩) := Lib.hid h4
        have hf4 : Fr (fun b => b = p) w3 w4 := by rw [← hw4]; exact Fr.set1 _ _ _ _
        have HG4 := Lib.hid (HG3.out.fr hf4 HGP.out.1)
        have HF4 := Lib.hid (HF3.out.trans hf4 (fun b hb h => by have := HGP.out.2; omega))
        have HNB := Lib.hid hNb
        clear h4 hf4 hNb
        go_upto_region 28 with fail
        clear hcell f1 i0 hw4 HP3 HG3 HF3
        have HPX := HP4
        have HGX := HG4
        have HFX := HF4
        clear HP4 HG4 HF4
        have hyo : V.ok (⟨k, 0, N, []⟩) := ⟨HKB.out, by show (0 : Nat) < _; omega, HNB.out⟩
        have hrt := fun w => rvRight_any (⟨k, 0, N, []⟩) w hyo (by have := HBN.out; simp; try omega)
        have hpt := fun w => rvPut_any (⟨k, 0, N, []⟩) w hyo
        obtain ⟨b1, hb1⟩ : ∃ b1, rightV (⟨k, 0, N, []⟩) = b1 := ⟨_, rfl⟩
        obtain ⟨Y, hY⟩ : ∃ Y, putV (⟨k, 0, N, []⟩) = Y := ⟨_, rfl⟩
        have han := HAN.out
        unfold endG at han
        rw [hb1, hY] at han
        simp only [hb1, valc] at hrt
        simp only [hY, valc] at hpt
        (try rw [show ((0 : Nat) : Int) = 0 from rfl] at hrt)
        (try rw [show ((0 : Nat) : Int) = 0 from rfl] at hpt)
        have HRT := Lib.hid hrt
        have HPT := Lib.hid hpt
        clear hyo hrt hpt hb1 hY HAN
        cases b1
        · have HAN : Hid ((zeroV, false) = ans) := Lib.hid han
          clear han
          refine wp_region_held_drew (S := fun w' => Fr (fun _ => False) w4 w') (by kernel_rfl) ?_ (fun hHeld => ?_)
          · exact (Fr.refl _ _).drew
          refine wpAnyH_take (i := 0) (v := ?_) rfl (by kernel_rfl) (by kernel_rfl) (by kernel_rfl) (fun _ _ _ h => h) (Or.inl ⟨by rfl, ?_⟩) hHeld ?_
          rotate_left
          · intro w hSw; (try dsimp only at hSw); obtain ⟨c0, c1, c2, c3⟩ := (HPX.out.fr hSw (fun h => h)).cells; (try dsimp only at c0 c1 c2 c3); go_simp; try (with_reducible rfl)
          (try simp only [Act.put, List.setIfInBounds_toArray, List.set_cons_zero, List.set_cons_succ, List.getElem_toArray, List.getElem_cons_zero])
          refine wpAnyH_ready (rs := [1]) (by kernel_rfl) (by simp) ?_
          refine AllReadyH.cons rfl (fun Kx hKx => ?_) AllReadyH.nil
          go_simp
          have hcon := HRT.out w4.drew
          with_reducible refine hcon.mono ?_
          clear hcon
          rintro e' w6 ⟨rfl, hff⟩
          have HFw6 : Hid (Fr (fun _ => False) w4 w6) := Lib.hid ((Fr.refl _ _).drew.trans hff (fun _ _ h => h))
          refine hKx.out _ _ ?_ (fun hHeld => ?_)
          · exact HFw6.out
          clear hKx Kx hff
          (try simp only [Act.put, List.setIfInBounds_toArray, List.set_cons_zero, List.set_cons_succ, List.getElem_toArray, List.getElem_cons_zero, List.getElem_cons_succ])
          refine wpAnyH_more (fun w' => Fr (fun _ => False) w6 w') (fun _ h => HFw6.out.trans h (fun _ _ h => h)) ?_ (fun hHeld => ?_)
          · exact Fr.refl _ _
          refine wpAnyH_take (i := 2) (v := ?_) rfl (by kernel_rfl) (by kernel_rfl) (by kernel_rfl) (fun _ _ _ h => h) (Or.inl ⟨by rfl, ?_⟩) hHeld ?_
          rotate_left
          · intro w hSw; (try dsimp only at hSw); go_simp; try (with_reducible rfl)
          (try simp only [Act.put, List.setIfInBounds_toArray, List.set_cons_zero, List.set_cons_succ, List.getElem_toArray, List.getElem_cons_zero, List.getElem_cons_succ])
          refine wpAnyH_take (i := 3) (v := ?_) rfl (by kernel_rfl) (by kernel_rfl) (by kernel_rfl) (fun _ _ _ h => h) (Or.inl ⟨by rfl, ?_⟩) hHeld ?_
          rotate_left
          · intro w hSw; (try dsimp only at hSw); go_simp; try (with_reducible rfl)
          (try simp only [Act.put, List.setIfInBounds_toArray, List.set_cons_zero, List.set_cons_succ, List.getElem_toArray, List.getElem_cons_zero, List.getElem_cons_succ])
          refine wpAnyH_take (i := 4) (v := undef) rfl (by kernel_rfl) (by kernel_rfl) (by kernel_rfl) (fun _ _ _ h => h) (Or.inr ⟨by rfl, rfl⟩) hHeld ?_
          (try simp only [Act.put, List.setIfInBounds_toArray, List.set_cons_zero, List.set_cons_succ, List.getElem_toArray, List.getElem_cons_zero, List.getElem_cons_succ])
          refine wpAnyH_take (i := 5) (v := undef) rfl (by kernel_rfl) (by kernel_rfl) (by kernel_rfl) (fun _ _ _ h => h) (Or.inr ⟨by rfl, rfl⟩) hHeld ?_
          (try simp only [Act.put, List.setIfInBounds_toArray, List.set_cons_zero, List.set_cons_succ, List.getElem_toArray, List.getElem_cons_zero, List.getElem_cons_succ])
          refine wpAnyH_take (i := 6) (v := undef) rfl (by kernel_rfl) (by kernel_rfl) (by kernel_rfl) (fun _ _ _ h => h) (Or.inr ⟨by rfl, rfl⟩) hHeld ?_
          (try simp only [Act.put, List.setIfInBounds_toArray, List.set_cons_zero, List.set_cons_succ, List.getElem_toArray, List.getElem_cons_zero, List.getElem_cons_succ])
          refine wpAnyH_take (i := 7) (v := undef) rfl (by kernel_rfl) (by kernel_rfl) (by kernel_rfl) (fun _ _ _ h => h) (Or.inr ⟨by rfl, rfl⟩) hHeld ?_
          (try simp only [Act.put, List.setIfInBounds_toArray, List.set_cons_zero, List.set_cons_succ, List.getElem_toArray, List.getElem_cons_zero, List.getElem_cons_succ])
          refine wpAnyH_take (i := 8) (v := undef) rfl (by kernel_rfl) (by kernel_rfl) (by kernel_rfl) (fun _ _ _ h => h) (Or.inr ⟨by rfl, rfl⟩) hHeld ?_
          (try simp only [Act.put, List.setIfInBounds_toArray, List.set_cons_zero, List.set_cons_succ, List.getElem_toArray, List.getElem_cons_zero, List.getElem_cons_succ])
          refine wpAnyH_take (i := 9) (v := undef) rfl (by kernel_rfl) (by kernel_rfl) (by kernel_rfl) (fun _ _ _ h => h) (Or.inr ⟨by rfl, rfl⟩) hHeld ?_
          (try simp only [Act.put, List.setIfInBounds_toArray, List.set_cons_zero, List.set_cons_succ, List.getElem_toArray, List.getElem_cons_zero, List.getElem_cons_succ])
          refine wpAnyH_take (i := 10) (v := ?_) rfl (by kernel_rfl) (by kernel_rfl) (by kernel_rfl) (fun _ _ _ h => h) (Or.inl ⟨by rfl, ?_⟩) hHeld ?_
          rotate_left
          · intro w hSw; (try dsimp only at hSw); go_simp; try (with_reducible rfl)
          (try simp only [Act.put, List.setIfInBounds_toArray, List.set_cons_zero, List.set_cons_succ, List.getElem_toArray, List.getElem_cons_zero, List.getElem_cons_succ])
          refine wpAnyH_done (by kernel_rfl) ?_ _
          have HGL := Lib.hid ((HGX.out.fr HFw6.out (fun h => h)))
          have HFL := Lib.hid ((HFX.out.trans HFw6.out (fun _ _ h => h)))
          go_wp2_with (refine store_st vSz rfl (.tmp 4) (.tmp 118) rfl g (by rfl) (vls zeroV) (by rfl) _ _ HGL.out rfl rfl (v_one _) ?_)
          intro w8 hr8 hf8
          have HR8 : Hid (RowV w8 g zeroV) := Lib.hid hr8
          have HF8 := Lib.hid (HFL.out.trans hf8 (fun b hb h => by have := HGP.out; omega))
          have d0 := HR8.out.c0
          have d1 := HR8.out.c1
          have d2 := HR8.out.c2
          have d3 := HR8.out.c3
          clear hr8 hf8
          go_wp2_with fail
          refine bodyPost_ret (v := getR (zeroV, false)) (by simp [results, getR, valc, d0, d1, d2, d3, Try.results14, go_sem]) rfl ⟨by rw [← HAN.out], HF8.out⟩
        · by_cases hq : Y = B
          · have HAN : Hid ((⟨k, 0, N, []⟩, true) = ans) := Lib.hid (by rw [← han]; simp [hq])
            obtain rfl : B = Y := hq.symm
            clear han hq
            refine wp_region_held_drew (S := fun w' => Fr (fun _ => False) w4 w') (by kernel_rfl) ?_ (fun hHeld => ?_)
            · exact (Fr.refl _ _).drew
            refine wpAnyH_take (i := 0) (v := ?_) rfl (by kernel_rfl) (by kernel_rfl) (by kernel_rfl) (fun _ _ _ h => h) (Or.inl ⟨by rfl, ?_⟩) hHeld ?_
            rotate_left
            · intro w hSw; (try dsimp only at hSw); obtain ⟨c0, c1, c2, c3⟩ := (HPX.out.fr hSw (fun h => h)).cells; (try dsimp only at c0 c1 c2 c3); go_simp; try (with_reducible rfl)
            (try simp only [Act.put, List.setIfInBounds_toArray, List.set_cons_zero, List.set_cons_succ, List.getElem_toArray, List.getElem_cons_zero])
            refine wpAnyH_ready (rs := [1]) (by kernel_rfl) (by simp) ?_
            refine AllReadyH.cons rfl (fun Kx hKx => ?_) AllReadyH.nil
            go_simp
            have hcon := HRT.out w4.drew
            with_reducible refine hcon.mono ?_
            clear hcon
            rintro e' w6 ⟨rfl, hff⟩
            have HFw6 : Hid (Fr (fun _ => False) w4 w6) := Lib.hid ((Fr.refl _ _).drew.trans hff (fun _ _ h => h))
            refine hKx.out _ _ ?_ (fun hHeld => ?_)
            · exact HFw6.out
            clear hKx Kx hff
            (try simp only [Act.put, List.setIfInBounds_toArray, List.set_cons_zero, List.set_cons_succ, List.getElem_toArray, List.getElem_cons_zero, List.getElem_cons_succ])
            refine wpAnyH_more (fun w' => Fr (fun _ => False) w6 w') (fun _ h => HFw6.out.trans h (fun _ _ h => h)) ?_ (fun hHeld => ?_)
            · exact Fr.refl _ _
            refine wpAnyH_take (i := 2) (v := ?_) rfl (by kernel_rfl) (by kernel_rfl) (by kernel_rfl) (fun _ _ _ h => h) (Or.inl ⟨by rfl, ?_⟩) hHeld ?_
            rotate_left
            · intro w hSw; (try dsimp only at hSw); go_simp; try (with_reducible rfl)
            (try simp only [Act.put, List.setIfInBounds_toArray, List.set_cons_zero, List.set_cons_succ, List.getElem_toArray, List.getElem_cons_zero, List.getElem_cons_succ])
            refine wpAnyH_take (i := 3) (v := ?_) rfl (by kernel_rfl) (by kernel_rfl) (by kernel_rfl) (fun _ _ _ h => h) (Or.inl ⟨by rfl, ?_⟩) hHeld ?_
            rotate_left
            · intro w hSw; (try dsimp only at hSw); go_simp; try (with_reducible rfl)
            (try simp only [Act.put, List.setIfInBounds_toArray, List.set_cons_zero, List.set_cons_succ, List.getElem_toArray, List.getElem_cons_zero, List.getElem_cons_succ])
            refine wpAnyH_take (i := 4) (v := ?_) rfl (by kernel_rfl) (by kernel_rfl) (by kernel_rfl) (fun _ _ _ h => h) (Or.inl ⟨by rfl, ?_⟩) hHeld ?_
            rotate_left
            · intro w hSw; (try dsimp only at hSw); obtain ⟨c0, c1, c2, c3⟩ := ((HPX.out.fr HFw6.out (fun h => h)).fr hSw (fun h => h)).cells; (try dsimp only at c0 c1 c2 c3); go_simp; try (with_reducible rfl)
            (try simp only [Act.put, List.setIfInBounds_toArray, List.set_cons_zero, List.set_cons_succ, List.getElem_toArray, List.getElem_cons_zero, List.getElem_cons_succ])
            refine wpAnyH_take (i := 7) (v := ?_) rfl (by kernel_rfl) (by kernel_rfl) (by kernel_rfl) (fun _ _ _ h => h) (Or.inl ⟨by rfl, ?_⟩) hHeld ?_
            rotate_left
            · intro w hSw; (try dsimp only at hSw); go_simp; try (with_reducible rfl)
            (try simp only [Act.put, List.setIfInBounds_toArray, List.set_cons_zero, List.set_cons_succ, List.getElem_toArray, List.getElem_cons_zero, List.getElem_cons_succ])
            refine wpAnyH_take (i := 8) (v := ?_) rfl (by kernel_rfl) (by kernel_rfl) (by kernel_rfl) (fun _ _ _ h => h) (Or.inl ⟨by rfl, ?_⟩) hHeld ?_
            rotate_left
            · intro w hSw; (try dsimp only at hSw); have hcv := str_rd (((HRD.out.fr HFX.out (fun _ _ h => h)).fr HFw6.out (fun _ _ h => h)).fr hSw (fun _ _ h => h)) c; go_simp; try (with_reducible rfl)
            (try simp only [Act.put, List.setIfInBounds_toArray, List.set_cons_zero, List.set_cons_succ, List.getElem_toArray, List.getElem_cons_zero, List.getElem_cons_succ])
            refine wpAnyH_ready (rs := [5]) (by kernel_rfl) (by simp) ?_
            refine AllReadyH.cons rfl (fun Kx hKx => ?_) AllReadyH.nil
            go_simp
            have hcon := HPT.out w6
            with_reducible refine hcon.mono ?_
            clear hcon
            rintro e' w7 ⟨A7, c7, rfl, hc7, hr7, hff⟩
            have HFw7 : Hid (Fr (fun _ => False) w6 w7) := Lib.hid (hff)
            have HR7 := Lib.hid hr7
            clear hc7 hr7
            refine hKx.out _ _ ?_ (fun hHeld => ?_)
            · exact HFw7.out
            clear hKx Kx hff
            (try simp only [Act.put, List.setIfInBounds_toArray, List.set_cons_zero, List.set_cons_succ, List.getElem_toArray, List.getElem_cons_zero, List.getElem_cons_succ])
            refine wpAnyH_more (fun w' => Fr (fun _ => False) w7 w') (fun _ h => HFw7.out.trans h (fun _ _ h => h)) ?_ (fun hHeld => ?_)
            · exact Fr.refl _ _
            refine wpAnyH_take (i := 6) (v := ?_) rfl (by kernel_rfl) (by kernel_rfl) (by kernel_rfl) (fun _ _ _ h => h) (Or.inl ⟨by rfl, ?_⟩) hHeld ?_
            rotate_left
            · intro w hSw; (try dsimp only at hSw); have hcv := str_rd (HR7.out.fr hSw (fun _ _ h => h)) c7; go_simp; try (with_reducible rfl)
            (try simp only [Act.put, List.setIfInBounds_toArray, List.set_cons_zero, List.set_cons_succ, List.getElem_toArray, List.getElem_cons_zero, List.getElem_cons_succ])
            refine wpAnyH_take (i := 9) (v := ?_) rfl (by kernel_rfl) (by kernel_rfl) (by kernel_rfl) (fun _ _ _ h => h) (Or.inl ⟨by rfl, ?_⟩) hHeld ?_
            rotate_left
            · intro w hSw; (try dsimp only at hSw); go_simp; try (with_reducible rfl)
            (try simp only [Act.put, List.setIfInBounds_toArray, List.set_cons_zero, List.set_cons_succ, List.getElem_toArray, List.getElem_cons_zero, List.getElem_cons_succ])
            refine wpAnyH_take (i := 10) (v := ?_) rfl (by kernel_rfl) (by kernel_rfl) (by kernel_rfl) (fun _ _ _ h => h) (Or.inl ⟨by rfl, ?_⟩) hHeld ?_
            rotate_left
            · intro w hSw; (try dsimp only at hSw); go_simp; try (with_reducible rfl)
            (try simp only [Act.put, List.setIfInBounds_toArray, List.set_cons_zero, List.set_cons_succ, List.getElem_toArray, List.getElem_cons_zero, List.getElem_cons_succ])
            refine wpAnyH_done (by kernel_rfl) ?_ _
            have HGL := Lib.hid (((HGX.out.fr HFw6.out (fun h => h)).fr HFw7.out (fun h => h)))
            have HFL := Lib.hid (((HFX.out.trans HFw6.out (fun _ _ h => h)).trans HFw7.out (fun _ _ h => h)))
            obtain ⟨c0, c1, c2, c3⟩ := ((HPX.out.fr HFw6.out (fun h => h)).fr HFw7.out (fun h => h)).cells
            (try dsimp only at c0 c1 c2 c3)
            go_wp2_with (refine store_st vSz rfl (.tmp 4) (.tmp 119) rfl g (by rfl) (vls (⟨k, 0, N, []⟩)) (by rfl) _ _ HGL.out rfl rfl (v_one _) ?_)
            intro w8 hr8 hf8
            have HR8 : Hid (RowV w8 g (⟨k, 0, N, []⟩)) := Lib.hid hr8
            have HF8 := Lib.hid (HFL.out.trans hf8 (fun b hb h => by have := HGP.out; omega))
            have d0 := HR8.out.c0
            have d1 := HR8.out.c1
            have d2 := HR8.out.c2
            have d3 := HR8.out.c3
            clear hr8 hf8
            go_wp2_with fail
            refine bodyPost_ret (v := getR ((⟨k, 0, N, []⟩), true)) (by simp [results, getR, valc, d0, d1, d2, d3, Try.results14, go_sem]) rfl ⟨by rw [← HAN.out], HF8.out⟩
          · have HAN : Hid ((zeroV, false) = ans) := Lib.hid (by rw [← han]; simp [hq])
            have hne : ((txt Y).toList == (txt B).toList) = false := by rw [beq_txt]; simp [hq]
            clear han hq
            refine wp_region_held_drew (S := fun w' => Fr (fun _ => False) w4 w') (by kernel_rfl) ?_ (fun hHeld => ?_)
            · exact (Fr.refl _ _).drew
            refine wpAnyH_take (i := 0) (v := ?_) rfl (by kernel_rfl) (by kernel_rfl) (by kernel_rfl) (fun _ _ _ h => h) (Or.inl ⟨by rfl, ?_⟩) hHeld ?_
            rotate_left
            · intro w hSw; (try dsimp only at hSw); obtain ⟨c0, c1, c2, c3⟩ := (HPX.out.fr hSw (fun h => h)).cells; (try dsimp only at c0 c1 c2 c3); go_simp; try (with_reducible rfl)
            (try simp only [Act.put, List.setIfInBounds_toArray, List.set_cons_zero, List.set_cons_succ, List.getElem_toArray, List.getElem_cons_zero])
            refine wpAnyH_ready (rs := [1]) (by kernel_rfl) (by simp) ?_
            refine AllReadyH.cons rfl (fun Kx hKx => ?_) AllReadyH.nil
            go_simp
            have hcon := HRT.out w4.drew
            with_reducible refine hcon.mono ?_
            clear hcon
            rintro e' w6 ⟨rfl, hff⟩
            have HFw6 : Hid (Fr (fun _ => False) w4 w6) := Lib.hid ((Fr.refl _ _).drew.trans hff (fun _ _ h => h))
            refine hKx.out _ _ ?_ (fun hHeld => ?_)
            · exact HFw6.out
            clear hKx Kx hff
            (try simp only [Act.put, List.setIfInBounds_toArray, List.set_cons_zero, List.set_cons_succ, List.getElem_toArray, List.getElem_cons_zero, List.getElem_cons_succ])
            refine wpAnyH_more (fun w' => Fr (fun _ => False) w6 w') (fun _ h => HFw6.out.trans h (fun _ _ h => h)) ?_ (fun hHeld => ?_)
            · exact Fr.refl _ _
            refine wpAnyH_take (i := 2) (v := ?_) rfl (by kernel_rfl) (by kernel_rfl) (by kernel_rfl) (fun _ _ _ h => h) (Or.inl ⟨by rfl, ?_⟩) hHeld ?_
            rotate_left
            · intro w hSw; (try dsimp only at hSw); go_simp; try (with_reducible rfl)
            (try simp only [Act.put, List.setIfInBounds_toArray, List.set_cons_zero, List.set_cons_succ, List.getElem_toArray, List.getElem_cons_zero, List.getElem_cons_succ])
            refine wpAnyH_take (i := 3) (v := ?_) rfl (by kernel_rfl) (by kernel_rfl) (by kernel_rfl) (fun _ _ _ h => h) (Or.inl ⟨by rfl, ?_⟩) hHeld ?_
            rotate_left
            · intro w hSw; (try dsimp only at hSw); go_simp; try (with_reducible rfl)
            (try simp only [Act.put, List.setIfInBounds_toArray, List.set_cons_zero, List.set_cons_succ, List.getElem_toArray, List.getElem_cons_zero, List.getElem_cons_succ])
            refine wpAnyH_take (i := 4) (v := ?_) rfl (by kernel_rfl) (by kernel_rfl) (by kernel_rfl) (fun _ _ _ h => h) (Or.inl ⟨by rfl, ?_⟩) hHeld ?_
            rotate_left
            · intro w hSw; (try dsimp only at hSw); obtain ⟨c0, c1, c2, c3⟩ := ((HPX.out.fr HFw6.out (fun h => h)).fr hSw (fun h => h)).cells; (try dsimp only at c0 c1 c2 c3); go_simp; try (with_reducible rfl)
            (try simp only [Act.put, List.setIfInBounds_toArray, List.set_cons_zero, List.set_cons_succ, List.getElem_toArray, List.getElem_cons_zero, List.getElem_cons_succ])
            refine wpAnyH_take (i := 7) (v := ?_) rfl (by kernel_rfl) (by kernel_rfl) (by kernel_rfl) (fun _ _ _ h => h) (Or.inl ⟨by rfl, ?_⟩) hHeld ?_
            rotate_left
            · intro w hSw; (try dsimp only at hSw); go_simp; try (with_reducible rfl)
            (try simp only [Act.put, List.setIfInBounds_toArray, List.set_cons_zero, List.set_cons_succ, List.getElem_toArray, List.getElem_cons_zero, List.getElem_cons_succ])
            refine wpAnyH_take (i := 8) (v := ?_) rfl (by kernel_rfl) (by kernel_rfl) (by kernel_rfl) (fun _ _ _ h => h) (Or.inl ⟨by rfl, ?_⟩) hHeld ?_
            rotate_left
            · intro w hSw; (try dsimp only at hSw); have hcv := str_rd (((HRD.out.fr HFX.out (fun _ _ h => h)).fr HFw6.out (fun _ _ h => h)).fr hSw (fun _ _ h => h)) c; go_simp; try (with_reducible rfl)
            (try simp only [Act.put, List.setIfInBounds_toArray, List.set_cons_zero, List.set_cons_succ, List.getElem_toArray, List.getElem_cons_zero, List.getElem_cons_succ])
            refine wpAnyH_ready (rs := [5]) (by kernel_rfl) (by simp) ?_
            refine AllReadyH.cons rfl (fun Kx hKx => ?_) AllReadyH.nil
            go_simp
            have hcon := HPT.out w6
            with_reducible refine hcon.mono ?_
            clear hcon
            rintro e' w7 ⟨A7, c7, rfl, hc7, hr7, hff⟩
            have HFw7 : Hid (Fr (fun _ => False) w6 w7) := Lib.hid (hff)
            have HR7 := Lib.hid hr7
            clear hc7 hr7
            refine hKx.out _ _ ?_ (fun hHeld => ?_)
            · exact HFw7.out
            clear hKx Kx hff
            (try simp only [Act.put, List.setIfInBounds_toArray, List.set_cons_zero, List.set_cons_succ, List.getElem_toArray, List.getElem_cons_zero, List.getElem_cons_succ])
            refine wpAnyH_more (fun w' => Fr (fun _ => False) w7 w') (fun _ h => HFw7.out.trans h (fun _ _ h => h)) ?_ (fun hHeld => ?_)
            · exact Fr.refl _ _
            refine wpAnyH_take (i := 6) (v := ?_) rfl (by kernel_rfl) (by kernel_rfl) (by kernel_rfl) (fun _ _ _ h => h) (Or.inl ⟨by rfl, ?_⟩) hHeld ?_
            rotate_left
            · intro w hSw; (try dsimp only at hSw); have hcv := str_rd (HR7.out.fr hSw (fun _ _ h => h)) c7; go_simp; try (with_reducible rfl)
            (try simp only [Act.put, List.setIfInBounds_toArray, List.set_cons_zero, List.set_cons_succ, List.getElem_toArray, List.getElem_cons_zero, List.getElem_cons_succ])
            refine wpAnyH_take (i := 9) (v := ?_) rfl (by kernel_rfl) (by kernel_rfl) (by kernel_rfl) (fun _ _ _ h => h) (Or.inl ⟨by rfl, ?_⟩) hHeld ?_
            rotate_left
            · intro w hSw; (try dsimp only at hSw); go_simp; try (with_reducible rfl)
            (try simp only [Act.put, List.setIfInBounds_toArray, List.set_cons_zero, List.set_cons_succ, List.getElem_toArray, List.getElem_cons_zero, List.getElem_cons_succ])
            refine wpAnyH_take (i := 10) (v := ?_) rfl (by kernel_rfl) (by kernel_rfl) (by kernel_rfl) (fun _ _ _ h => h) (Or.inl ⟨by rfl, ?_⟩) hHeld ?_
            rotate_left
            · intro w hSw; (try dsimp only at hSw); go_simp; try (with_reducible rfl)
            (try simp only [Act.put, List.setIfInBounds_toArray, List.set_cons_zero, List.set_cons_succ, List.getElem_toArray, List.getElem_cons_zero, List.getElem_cons_succ])
            refine wpAnyH_done (by kernel_rfl) ?_ _
            have HGL := Lib.hid (((HGX.out.fr HFw6.out (fun h => h)).fr HFw7.out (fun h => h)))
            have HFL := Lib.hid (((HFX.out.trans HFw6.out (fun _ _ h => h)).trans HFw7.out (fun _ _ h => h)))
            go_wp2_with (refine store_st vSz rfl (.tmp 4) (.tmp 118) rfl g (by rfl) (vls zeroV) (by rfl) _ _ HGL.out rfl rfl (v_one _) ?_)
            intro w8 hr8 hf8
            have HR8 : Hid (RowV w8 g zeroV) := Lib.hid hr8
            have HF8 := Lib.hid (HFL.out.trans hf8 (fun b hb h => by have := HGP.out; omega))
            have d0 := HR8.out.c0
            have d1 := HR8.out.c1
            have d2 := HR8.out.c2
            have d3 := HR8.out.c3
            clear hr8 hf8
            go_wp2_with fail
            refine bodyPost_ret (v := getR (zeroV, false)) (by simp [results, getR, valc, d0, d1, d2, d3, Try.results14, go_sem]) rfl ⟨by rw [← HAN.out], HF8.out⟩

set_option maxRecDepth 100000 in
set_option maxHeartbeats 6400000 in
theorem rgetF2c_any (k : Int) (A : Option Addr) (n c : Nat) (B : List UInt8) (w : World) (hk : -9223372036854775808 ≤ k ∧ k < 9223372036854775808) (hr : Rd w A n (B.map bytec)) (hc : n ≤ c) (hn : n ≤ 1000000) (h : cl k = 2) (hs0 : spanE B = 0) (hs1 : spanK B = B.length) (hcond : ¬ (B.length < 10 ∧ 64 ≤ LebM.last B) ∧ B.length < 10) :
    Calls Try.prog 14 #[.int .i64 k, .slice A n c] w fun e w' => e = .returned (getR (getV k B)) ∧ Fr (fun _ => False) w w' := by
  have hBn : B.length = n := by simpa using hr.1
  obtain ⟨ans, hans⟩ : ∃ ans, getV k B = ans := ⟨_, rfl⟩
  rw [hans]
  obtain ⟨g, hg⟩ : ∃ g, w.heap.size = g := ⟨_, rfl⟩
  obtain ⟨w1, hw1⟩ : ∃ w1, w.alloc (.cells #[.int .i64 0, .int .u64 0, .int .i64 0, .string ⟨#[]⟩] 24) = w1 := ⟨_, rfl⟩
  have hf1 : Fr (fun _ => False) w w1 := by rw [← hw1]; exact (Fr.refl _ _).alloc _
  have hr1 : RowV w1 g zeroV := by rw [← hw1, ← hg]; exact RowV.new w zeroV
  obtain ⟨p, hp⟩ : ∃ p, w1.heap.size = p := ⟨_, rfl⟩
  obtain ⟨w2, hw2⟩ : ∃ w2, w1.alloc (.cells #[.int .i64 0, .int .u64 0, .int .i64 0, .string ⟨#[]⟩] 24) = w2 := ⟨_, rfl⟩
  have hf2 : Fr (fun _ => False) w1 w2 := by rw [← hw2]; exact (Fr.refl _ _).alloc _
  have hp2 : RowV w2 p zeroV := by rw [← hw2, ← hp]; exact RowV.new w1 zeroV
  have HR2 := Lib.hid (hr1.fr hf2 (fun h => h))
  have HP2 := Lib.hid hp2
  have HGP : Hid (g ≠ p ∧ w.heap.size ≤ p ∧ w.heap.size = g) := Lib.hid (by have h1 := hr1.lt; have h2 := hf1.size; omega)
  have HF2 := Lib.hid (hf1.trans hf2 (fun _ _ h => h))
  have HRD := Lib.hid hr
  have HBN := Lib.hid hBn
  have HKB := Lib.hid hk
  obtain ⟨E, hE⟩ : ∃ E, spanE B = E := ⟨_, rfl⟩
  obtain ⟨K, hK⟩ : ∃ K, spanK B = K := ⟨_, rfl⟩
  have hsp := fun w' (hf : Fr (fun _ => False) w w') => rspan_any A n c B w' (hr.fr hf (fun _ _ h => h))
  have hkl := spanK_le B
  have hel := spanE_le B
  rw [hK] at hkl
  rw [hE] at hel
  rw [hE, hK] at hsp
  rw [hBn] at hkl
  have han := get_sgn h hs0 hs1
  rw [hans] at han
  have hsg := sign_of hs0 hs1
  have hltl := last_lt (span_of hs0 hs1).1
  have HAN := Lib.hid han.symm
  have hpos := (span_of hs0 hs1).2.2
  obtain rfl : 0 = E := by rw [← hE, hs0]
  obtain rfl : n = K := by rw [← hK, hs1, hBn]
  rw [hBn] at hpos
  rw [hBn] at hcond
  have HCOND := Lib.hid hcond
  have HSP := Lib.hid hsp
  have HSG := Lib.hid hsg
  have HLT := Lib.hid hltl
  clear han hs0 hs1 hE hK hsp hsg hltl hcond
  clear hf1 hr1 hf2 hp2 hans hk hr hBn
  rcases cl2 h with e | e | e
  all_goals (first | (have t3 : (k == 3) = false := (by simp; omega); have t4 : (k == 4) = true := (by simp; omega)) | (have t3 : (k == 3) = false := (by simp; omega); have t4 : (k == 4) = false := (by simp; omega); have t7 : (k == 7) = true := (by simp; omega)) | (have t3 : (k == 3) = false := (by simp; omega); have t4 : (k == 4) = false := (by simp; omega); have t7 : (k == 7) = false := (by simp; omega); have t8 : (k == 8) = true := (by simp; omega)))
  all_goals clear e h
  all_goals
    go_enter Try.func14, Try.ntmps14
    go_upto_region 2 with (refine store_st vSz rfl (.tmp 6) (.tmp 15) rfl p (by rfl) (vls ⟨k, 0, 0, []⟩) (by rfl) _ _ HP2.out rfl rfl (v_one _) ?_)
    intro w3 hr3 hf3
    clear hw1 hw2 hg hp
    have HP3 : Hid (RowV w3 p ⟨k, 0, 0, []⟩) := Lib.hid hr3
    have HG3 := Lib.hid (HR2.out.fr hf3 HGP.out.1)
    have HF3 := Lib.hid (HF2.out.trans hf3 (fun b hb h => by have := HGP.out.2; omega))
    clear hr3 hf3
    go_wp2_with fail
    refine (HSP.out w3 HF3.out).mono ?_
    rintro e w4 ⟨rfl, rfl⟩
    go_wp2_with fail
    go_loopw [12, 13] (fun u i wr => ∃ x : Int, -1 ≤ x ∧ x < n ∧ i = .int .i64 x ∧ u = .int .u64 (vd B (x + 1).toNat : Int) ∧ Hid (w3 = wr)) (fun u i _ => (intOf i + 1).toNat)
    case atStart => exact ⟨(n : Int) - 1, by omega, by omega, rfl, by rw [show ((n : Int) - 1 + 1).toNat = n by omega, vd_end (by have := HBN.out; omega)]; rfl, rfl⟩
    case round =>
      obtain ⟨x, hx0, hx1, rfl, rfl, HW⟩ := hrel
      rename World => wr
      obtain rfl : w3 = wr := HW.out
      by_cases h0 : 0 ≤ x
      · obtain ⟨j, rfl⟩ := Int.eq_ofNat_of_zero_le h0
        have hjn : j < n := by omega
        rw [show ((j : Int) + 1).toNat = j + 1 by omega]
        obtain ⟨U, hU⟩ : ∃ U, vd B (j + 1) = U := ⟨_, rfl⟩
        have hUl : U < 18446744073709551616 := by rw [← hU]; exact vd_lt _ _
        obtain ⟨ad, v, rfl, hv, hcell⟩ := (HRD.out.fr HF3.out (fun _ _ h => h)).at_ hjn
        obtain ⟨b, hb⟩ : ∃ b, B[j]? = some b := ⟨B[j]'(by have := HBN.out; omega), List.getElem?_eq_getElem _⟩
        obtain rfl : bytec b = v := by simpa [hb] using hv
        unfold bytec at hcell
        have hb256 := b.toNat_lt
        have hst := vd_step hb
        rw [hU] at hst ⊢
        obtain ⟨X, hX⟩ : ∃ X, U * 128 % 18446744073709551616 = X := ⟨_, rfl⟩
        obtain ⟨y, hy⟩ : ∃ y, b.toNat % 128 = y := ⟨_, rfl⟩
        rw [hX, hy] at hst
        obtain ⟨Z, hZ⟩ : ∃ Z, vd B j = Z := ⟨_, rfl⟩
        rw [hZ] at hst
        have r1 : IntKind.u64.wrap ((U : Int) * 128) = (X : Int) := by rw [IntKind.wrap_u64]; omega
        have r2 : (b.toNat : Int).tmod 128 = (y : Int) := by rw [Int.tmod_eq_emod_of_nonneg (by omega)]; omega
        have r2' : (b.toNat : Int) % 128 = (y : Int) := by omega
        have r3 : IntKind.u64.wrap (y : Int) = (y : Int) := by rw [IntKind.wrap_u64]; omega
        have r4 : IntKind.u64.wrap ((X : Int) + (y : Int)) = (Z : Int) := by rw [IntKind.wrap_u64]; omega
        have HZ := Lib.hid hZ
        clear hst hX hy hv hb hU hZ hUl hb256
        go_wp2_with fail
        exact ⟨⟨(j : Int) - 1, by omega, by omega, rfl, by rw [show ((j : Int) - 1 + 1).toNat = j by omega, HZ.out], trivial⟩, by simp [intOf] <;> omega⟩
      · obtain rfl : x = -1 := by omega
        rw [show (-1 + 1 : Int).toNat = 0 from rfl]
        obtain ⟨M, hM⟩ : ∃ M, vd B 0 = M := ⟨_, rfl⟩
        rw [hM]
        obtain ⟨ad, v, rfl, hv, hcell⟩ := (HRD.out.fr HF3.out (fun _ _ h => h)).at_ (show n - 1 < n by omega)
        have hle := last_get (l := B) (by intro h; have := HBN.out; rw [h] at this; simp at this; omega)
        rw [HBN.out] at hle
        obtain rfl : bytec (UInt8.ofNat (LebM.last B)) = v := by simpa [hle] using hv
        rw [bytec_ofNat (by have := HLT.out; omega)] at hcell
        obtain ⟨l, hl⟩ : ∃ l, LebM.last B = l := ⟨_, rfl⟩
        rw [hl] at hcell
        have hcond := HCOND.out
        have hsg := HSG.out
        obtain ⟨N, hN⟩ : ∃ N, sgn (vd B 0) B.length = N := ⟨_, rfl⟩
        rw [hN, hM, HBN.out, hl] at hsg
        rw [hl] at hcond
        have hMl : M < 18446744073709551616 := by rw [← hM]; exact vd_lt _ _
        rw [hN] at HAN
        rw [if_neg hcond.1] at hsg
        have r3 : IntKind.i64.wrap (M : Int) = N := by rw [IntKind.wrap_i64, hsg]; unfold wrap64; omega
        have hNb : -9223372036854775808 ≤ N ∧ N < 9223372036854775808 := by rw [hsg]; unfold wrap64; omega
        clear hMl hl
        have t1 : decide ((n : Int) < 10) = true := by simp; omega
        have t1' : decide (n < 10) = true := by simp; omega
        have t2 : decide ((64 : Int) ≤ (l : Int)) = false := by simp; omega
        have t2' : decide (64 ≤ l) = false := by simp; omega
        clear hv hle hsg hcond hN hM HCOND HSG HSP
        obtain ⟨w4, hw4⟩ : ∃ w4, w3.setCell ⟨p, 2, none⟩ (.int .i64 N) = w4 := ⟨_, rfl⟩
        have f1 : w3.frozen? ⟨p, 2, none⟩ = false := Row.free HP3.out 2
        have i0 : w3.cell? ⟨p, 2, none⟩ = some (.int .i64 0) := Row.cell HP3.out rfl
        have h4 := Row.set HP3.out 2 (.int .i64 N)
        rw [hw4] at h4
        have HP4 : Hid (RowV w4 p ⟨k, 0, N, []⟩) := Lib.hid h4
        have hf4 : Fr (fun b => b = p) w3 w4 := by rw [← hw4]; exact Fr.set1 _ _ _ _
        have HG4 := Lib.hid (HG3.out.fr hf4 HGP.out.1)
        have HF4 := Lib.hid (HF3.out.trans hf4 (fun b hb h => by have := HGP.out.2; omega))
        have HNB := Lib.hid hNb
        clear h4 hf4 hNb
        go_upto_region 28 with fail
        clear hcell f1 i0 hw4 HP3 HG3 HF3
        have HPX := HP4
        have HGX := HG4
        have HFX := HF4
        clear HP4 HG4 HF4
        have hyo : V.ok (⟨k, 0, N, []⟩) := ⟨HKB.out, by show (0 : Nat) < _; omega, HNB.out⟩
        have hrt := fun w => rvRight_any (⟨k, 0, N, []⟩) w hyo (by have := HBN.out; simp; try omega)
        have hpt := fun w => rvPut_any (⟨k, 0, N, []⟩) w hyo
        obtain ⟨b1, hb1⟩ : ∃ b1, rightV (⟨k, 0, N, []⟩) = b1 := ⟨_, rfl⟩
        obtain ⟨Y, hY⟩ : ∃ Y, putV (⟨k, 0, N, []⟩) = Y := ⟨_, rfl⟩
        have han := HAN.out
        unfold endG at han
        rw [hb1, hY] at han
        simp only [hb1, valc] at hrt
        simp only [hY, valc] at hpt
        (try rw [show ((0 : Nat) : Int) = 0 from rfl] at hrt)
        (try rw [show ((0 : Nat) : Int) = 0 from rfl] at hpt)
        have HRT := Lib.hid hrt
        have HPT := Lib.hid hpt
        clear hyo hrt hpt hb1 hY HAN
        cases b1
        · have HAN : Hid ((zeroV, false) = ans) := Lib.hid han
          clear han
          refine wp_region_held_drew (S := fun w' => Fr (fun _ => False) w4 w') (by kernel_rfl) ?_ (fun hHeld => ?_)
          · exact (Fr.refl _ _).drew
          refine wpAnyH_take (i := 0) (v := ?_) rfl (by kernel_rfl) (by kernel_rfl) (by kernel_rfl) (fun _ _ _ h => h) (Or.inl ⟨by rfl, ?_⟩) hHeld ?_
          rotate_left
          · intro w hSw; (try dsimp only at hSw); obtain ⟨c0, c1, c2, c3⟩ := (HPX.out.fr hSw (fun h => h)).cells; (try dsimp only at c0 c1 c2 c3); go_simp; try (with_reducible rfl)
          (try simp only [Act.put, List.setIfInBounds_toArray, List.set_cons_zero, List.set_cons_succ, List.getElem_toArray, List.getElem_cons_zero])
          refine wpAnyH_ready (rs := [1]) (by kernel_rfl) (by simp) ?_
          refine AllReadyH.cons rfl (fun Kx hKx => ?_) AllReadyH.nil
          go_simp
          have hcon := HRT.out w4.drew
          with_reducible refine hcon.mono ?_
          clear hcon
          rintro e' w6 ⟨rfl, hff⟩
          have HFw6 : Hid (Fr (fun _ => False) w4 w6) := Lib.hid ((Fr.refl _ _).drew.trans hff (fun _ _ h => h))
          refine hKx.out _ _ ?_ (fun hHeld => ?_)
          · exact HFw6.out
          clear hKx Kx hff
          (try simp only [Act.put, List.setIfInBounds_toArray, List.set_cons_zero, List.set_cons_succ, List.getElem_toArray, List.getElem_cons_zero, List.getElem_cons_succ])
          refine wpAnyH_more (fun w' => Fr (fun _ => False) w6 w') (fun _ h => HFw6.out.trans h (fun _ _ h => h)) ?_ (fun hHeld => ?_)
          · exact Fr.refl _ _
          refine wpAnyH_take (i := 2) (v := ?_) rfl (by kernel_rfl) (by kernel_rfl) (by kernel_rfl) (fun _ _ _ h => h) (Or.inl ⟨by rfl, ?_⟩) hHeld ?_
          rotate_left
          · intro w hSw; (try dsimp only at hSw); go_simp; try (with_reducible rfl)
          (try simp only [Act.put, List.setIfInBounds_toArray, List.set_cons_zero, List.set_cons_succ, List.getElem_toArray, List.getElem_cons_zero, List.getElem_cons_succ])
          refine wpAnyH_take (i := 3) (v := ?_) rfl (by kernel_rfl) (by kernel_rfl) (by kernel_rfl) (fun _ _ _ h => h) (Or.inl ⟨by rfl, ?_⟩) hHeld ?_
          rotate_left
          · intro w hSw; (try dsimp only at hSw); go_simp; try (with_reducible rfl)
          (try simp only [Act.put, List.setIfInBounds_toArray, List.set_cons_zero, List.set_cons_succ, List.getElem_toArray, List.getElem_cons_zero, List.getElem_cons_succ])
          refine wpAnyH_take (i := 4) (v := undef) rfl (by kernel_rfl) (by kernel_rfl) (by kernel_rfl) (fun _ _ _ h => h) (Or.inr ⟨by rfl, rfl⟩) hHeld ?_
          (try simp only [Act.put, List.setIfInBounds_toArray, List.set_cons_zero, List.set_cons_succ, List.getElem_toArray, List.getElem_cons_zero, List.getElem_cons_succ])
          refine wpAnyH_take (i := 5) (v := undef) rfl (by kernel_rfl) (by kernel_rfl) (by kernel_rfl) (fun _ _ _ h => h) (Or.inr ⟨by rfl, rfl⟩) hHeld ?_
          (try simp only [Act.put, List.setIfInBounds_toArray, List.set_cons_zero, List.set_cons_succ, List.getElem_toArray, List.getElem_cons_zero, List.getElem_cons_succ])
          refine wpAnyH_take (i := 6) (v := undef) rfl (by kernel_rfl) (by kernel_rfl) (by kernel_rfl) (fun _ _ _ h => h) (Or.inr ⟨by rfl, rfl⟩) hHeld ?_
          (try simp only [Act.put, List.setIfInBounds_toArray, List.set_cons_zero, List.set_cons_succ, List.getElem_toArray, List.getElem_cons_zero, List.getElem_cons_succ])
          refine wpAnyH_take (i := 7) (v := undef) rfl (by kernel_rfl) (by kernel_rfl) (by kernel_rfl) (fun _ _ _ h => h) (Or.inr ⟨by rfl, rfl⟩) hHeld ?_
          (try simp only [Act.put, List.setIfInBounds_toArray, List.set_cons_zero, List.set_cons_succ, List.getElem_toArray, List.getElem_cons_zero, List.getElem_cons_succ])
          refine wpAnyH_take (i := 8) (v := undef) rfl (by kernel_rfl) (by kernel_rfl) (by kernel_rfl) (fun _ _ _ h => h) (Or.inr ⟨by rfl, rfl⟩) hHeld ?_
          (try simp only [Act.put, List.setIfInBounds_toArray, List.set_cons_zero, List.set_cons_succ, List.getElem_toArray, List.getElem_cons_zero, List.getElem_cons_succ])
          refine wpAnyH_take (i := 9) (v := undef) rfl (by kernel_rfl) (by kernel_rfl) (by kernel_rfl) (fun _ _ _ h => h) (Or.inr ⟨by rfl, rfl⟩) hHeld ?_
          (try simp only [Act.put, List.setIfInBounds_toArray, List.set_cons_zero, List.set_cons_succ, List.getElem_toArray, List.getElem_cons_zero, List.getElem_cons_succ])
          refine wpAnyH_take (i := 10) (v := ?_) rfl (by kernel_rfl) (by kernel_rfl) (by kernel_rfl) (fun _ _ _ h => h) (Or.inl ⟨by rfl, ?_⟩) hHeld ?_
          rotate_left
          · intro w hSw; (try dsimp only at hSw); go_simp; try (with_reducible rfl)
          (try simp only [Act.put, List.setIfInBounds_toArray, List.set_cons_zero, List.set_cons_succ, List.getElem_toArray, List.getElem_cons_zero, List.getElem_cons_succ])
          refine wpAnyH_done (by kernel_rfl) ?_ _
          have HGL := Lib.hid ((HGX.out.fr HFw6.out (fun h => h)))
          have HFL := Lib.hid ((HFX.out.trans HFw6.out (fun _ _ h => h)))
          go_wp2_with (refine store_st vSz rfl (.tmp 4) (.tmp 118) rfl g (by rfl) (vls zeroV) (by rfl) _ _ HGL.out rfl rfl (v_one _) ?_)
          intro w8 hr8 hf8
          have HR8 : Hid (RowV w8 g zeroV) := Lib.hid hr8
          have HF8 := Lib.hid (HFL.out.trans hf8 (fun b hb h => by have := HGP.out; omega))
          have d0 := HR8.out.c0
          have d1 := HR8.out.c1
          have d2 := HR8.out.c2
          have d3 := HR8.out.c3
          clear hr8 hf8
          go_wp2_with fail
          refine bodyPost_ret (v := getR (zeroV, false)) (by simp [results, getR, valc, d0, d1, d2, d3, Try.results14, go_sem]) rfl ⟨by rw [← HAN.out], HF8.out⟩
        · by_cases hq : Y = B
          · have HAN : Hid ((⟨k, 0, N, []⟩, true) = ans) := Lib.hid (by rw [← han]; simp [hq])
            obtain rfl : B = Y := hq.symm
            clear han hq
            refine wp_region_held_drew (S := fun w' => Fr (fun _ => False) w4 w') (by kernel_rfl) ?_ (fun hHeld => ?_)
            · exact (Fr.refl _ _).drew
            refine wpAnyH_take (i := 0) (v := ?_) rfl (by kernel_rfl) (by kernel_rfl) (by kernel_rfl) (fun _ _ _ h => h) (Or.inl ⟨by rfl, ?_⟩) hHeld ?_
            rotate_left
            · intro w hSw; (try dsimp only at hSw); obtain ⟨c0, c1, c2, c3⟩ := (HPX.out.fr hSw (fun h => h)).cells; (try dsimp only at c0 c1 c2 c3); go_simp; try (with_reducible rfl)
            (try simp only [Act.put, List.setIfInBounds_toArray, List.set_cons_zero, List.set_cons_succ, List.getElem_toArray, List.getElem_cons_zero])
            refine wpAnyH_ready (rs := [1]) (by kernel_rfl) (by simp) ?_
            refine AllReadyH.cons rfl (fun Kx hKx => ?_) AllReadyH.nil
            go_simp
            have hcon := HRT.out w4.drew
            with_reducible refine hcon.mono ?_
            clear hcon
            rintro e' w6 ⟨rfl, hff⟩
            have HFw6 : Hid (Fr (fun _ => False) w4 w6) := Lib.hid ((Fr.refl _ _).drew.trans hff (fun _ _ h => h))
            refine hKx.out _ _ ?_ (fun hHeld => ?_)
            · exact HFw6.out
            clear hKx Kx hff
            (try simp only [Act.put, List.setIfInBounds_toArray, List.set_cons_zero, List.set_cons_succ, List.getElem_toArray, List.getElem_cons_zero, List.getElem_cons_succ])
            refine wpAnyH_more (fun w' => Fr (fun _ => False) w6 w') (fun _ h => HFw6.out.trans h (fun _ _ h => h)) ?_ (fun hHeld => ?_)
            · exact Fr.refl _ _
            refine wpAnyH_take (i := 2) (v := ?_) rfl (by kernel_rfl) (by kernel_rfl) (by kernel_rfl) (fun _ _ _ h => h) (Or.inl ⟨by rfl, ?_⟩) hHeld ?_
            rotate_left
            · intro w hSw; (try dsimp only at hSw); go_simp; try (with_reducible rfl)
            (try simp only [Act.put, List.setIfInBounds_toArray, List.set_cons_zero, List.set_cons_succ, List.getElem_toArray, List.getElem_cons_zero, List.getElem_cons_succ])
            refine wpAnyH_take (i := 3) (v := ?_) rfl (by kernel_rfl) (by kernel_rfl) (by kernel_rfl) (fun _ _ _ h => h) (Or.inl ⟨by rfl, ?_⟩) hHeld ?_
            rotate_left
            · intro w hSw; (try dsimp only at hSw); go_simp; try (with_reducible rfl)
            (try simp only [Act.put, List.setIfInBounds_toArray, List.set_cons_zero, List.set_cons_succ, List.getElem_toArray, List.getElem_cons_zero, List.getElem_cons_succ])
            refine wpAnyH_take (i := 4) (v := ?_) rfl (by kernel_rfl) (by kernel_rfl) (by kernel_rfl) (fun _ _ _ h => h) (Or.inl ⟨by rfl, ?_⟩) hHeld ?_
            rotate_left
            · intro w hSw; (try dsimp only at hSw); obtain ⟨c0, c1, c2, c3⟩ := ((HPX.out.fr HFw6.out (fun h => h)).fr hSw (fun h => h)).cells; (try dsimp only at c0 c1 c2 c3); go_simp; try (with_reducible rfl)
            (try simp only [Act.put, List.setIfInBounds_toArray, List.set_cons_zero, List.set_cons_succ, List.getElem_toArray, List.getElem_cons_zero, List.getElem_cons_succ])
            refine wpAnyH_take (i := 7) (v := ?_) rfl (by kernel_rfl) (by kernel_rfl) (by kernel_rfl) (fun _ _ _ h => h) (Or.inl ⟨by rfl, ?_⟩) hHeld ?_
            rotate_left
            · intro w hSw; (try dsimp only at hSw); go_simp; try (with_reducible rfl)
            (try simp only [Act.put, List.setIfInBounds_toArray, List.set_cons_zero, List.set_cons_succ, List.getElem_toArray, List.getElem_cons_zero, List.getElem_cons_succ])
            refine wpAnyH_take (i := 8) (v := ?_) rfl (by kernel_rfl) (by kernel_rfl) (by kernel_rfl) (fun _ _ _ h => h) (Or.inl ⟨by rfl, ?_⟩) hHeld ?_
            rotate_left
            · intro w hSw; (try dsimp only at hSw); have hcv := str_rd (((HRD.out.fr HFX.out (fun _ _ h => h)).fr HFw6.out (fun _ _ h => h)).fr hSw (fun _ _ h => h)) c; go_simp; try (with_reducible rfl)
            (try simp only [Act.put, List.setIfInBounds_toArray, List.set_cons_zero, List.set_cons_succ, List.getElem_toArray, List.getElem_cons_zero, List.getElem_cons_succ])
            refine wpAnyH_ready (rs := [5]) (by kernel_rfl) (by simp) ?_
            refine AllReadyH.cons rfl (fun Kx hKx => ?_) AllReadyH.nil
            go_simp
            have hcon := HPT.out w6
            with_reducible refine hcon.mono ?_
            clear hcon
            rintro e' w7 ⟨A7, c7, rfl, hc7, hr7, hff⟩
            have HFw7 : Hid (Fr (fun _ => False) w6 w7) := Lib.hid (hff)
            have HR7 := Lib.hid hr7
            clear hc7 hr7
            refine hKx.out _ _ ?_ (fun hHeld => ?_)
            · exact HFw7.out
            clear hKx Kx hff
            (try simp only [Act.put, List.setIfInBounds_toArray, List.set_cons_zero, List.set_cons_succ, List.getElem_toArray, List.getElem_cons_zero, List.getElem_cons_succ])
            refine wpAnyH_more (fun w' => Fr (fun _ => False) w7 w') (fun _ h => HFw7.out.trans h (fun _ _ h => h)) ?_ (fun hHeld => ?_)
            · exact Fr.refl _ _
            refine wpAnyH_take (i := 6) (v := ?_) rfl (by kernel_rfl) (by kernel_rfl) (by kernel_rfl) (fun _ _ _ h => h) (Or.inl ⟨by rfl, ?_⟩) hHeld ?_
            rotate_left
            · intro w hSw; (try dsimp only at hSw); have hcv := str_rd (HR7.out.fr hSw (fun _ _ h => h)) c7; go_simp; try (with_reducible rfl)
            (try simp only [Act.put, List.setIfInBounds_toArray, List.set_cons_zero, List.set_cons_succ, List.getElem_toArray, List.getElem_cons_zero, List.getElem_cons_succ])
            refine wpAnyH_take (i := 9) (v := ?_) rfl (by kernel_rfl) (by kernel_rfl) (by kernel_rfl) (fun _ _ _ h => h) (Or.inl ⟨by rfl, ?_⟩) hHeld ?_
            rotate_left
            · intro w hSw; (try dsimp only at hSw); go_simp; try (with_reducible rfl)
            (try simp only [Act.put, List.setIfInBounds_toArray, List.set_cons_zero, List.set_cons_succ, List.getElem_toArray, List.getElem_cons_zero, List.getElem_cons_succ])
            refine wpAnyH_take (i := 10) (v := ?_) rfl (by kernel_rfl) (by kernel_rfl) (by kernel_rfl) (fun _ _ _ h => h) (Or.inl ⟨by rfl, ?_⟩) hHeld ?_
            rotate_left
            · intro w hSw; (try dsimp only at hSw); go_simp; try (with_reducible rfl)
            (try simp only [Act.put, List.setIfInBounds_toArray, List.set_cons_zero, List.set_cons_succ, List.getElem_toArray, List.getElem_cons_zero, List.getElem_cons_succ])
            refine wpAnyH_done (by kernel_rfl) ?_ _
            have HGL := Lib.hid (((HGX.out.fr HFw6.out (fun h => h)).fr HFw7.out (fun h => h)))
            have HFL := Lib.hid (((HFX.out.trans HFw6.out (fun _ _ h => h)).trans HFw7.out (fun _ _ h => h)))
            obtain ⟨c0, c1, c2, c3⟩ := ((HPX.out.fr HFw6.out (fun h => h)).fr HFw7.out (fun h => h)).cells
            (try dsimp only at c0 c1 c2 c3)
            go_wp2_with (refine store_st vSz rfl (.tmp 4) (.tmp 119) rfl g (by rfl) (vls (⟨k, 0, N, []⟩)) (by rfl) _ _ HGL.out rfl rfl (v_one _) ?_)
            intro w8 hr8 hf8
            have HR8 : Hid (RowV w8 g (⟨k, 0, N, []⟩)) := Lib.hid hr8
            have HF8 := Lib.hid (HFL.out.trans hf8 (fun b hb h => by have := HGP.out; omega))
            have d0 := HR8.out.c0
            have d1 := HR8.out.c1
            have d2 := HR8.out.c2
            have d3 := HR8.out.c3
            clear hr8 hf8
            go_wp2_with fail
            refine bodyPost_ret (v := getR ((⟨k, 0, N, []⟩), true)) (by simp [results, getR, valc, d0, d1, d2, d3, Try.results14, go_sem]) rfl ⟨by rw [← HAN.out], HF8.out⟩
          · have HAN : Hid ((zeroV, false) = ans) := Lib.hid (by rw [← han]; simp [hq])
            have hne : ((txt Y).toList == (txt B).toList) = false := by rw [beq_txt]; simp [hq]
            clear han hq
            refine wp_region_held_drew (S := fun w' => Fr (fun _ => False) w4 w') (by kernel_rfl) ?_ (fun hHeld => ?_)
            · exact (Fr.refl _ _).drew
            refine wpAnyH_take (i := 0) (v := ?_) rfl (by kernel_rfl) (by kernel_rfl) (by kernel_rfl) (fun _ _ _ h => h) (Or.inl ⟨by rfl, ?_⟩) hHeld ?_
            rotate_left
            · intro w hSw; (try dsimp only at hSw); obtain ⟨c0, c1, c2, c3⟩ := (HPX.out.fr hSw (fun h => h)).cells; (try dsimp only at c0 c1 c2 c3); go_simp; try (with_reducible rfl)
            (try simp only [Act.put, List.setIfInBounds_toArray, List.set_cons_zero, List.set_cons_succ, List.getElem_toArray, List.getElem_cons_zero])
            refine wpAnyH_ready (rs := [1]) (by kernel_rfl) (by simp) ?_
            refine AllReadyH.cons rfl (fun Kx hKx => ?_) AllReadyH.nil
            go_simp
            have hcon := HRT.out w4.drew
            with_reducible refine hcon.mono ?_
            clear hcon
            rintro e' w6 ⟨rfl, hff⟩
            have HFw6 : Hid (Fr (fun _ => False) w4 w6) := Lib.hid ((Fr.refl _ _).drew.trans hff (fun _ _ h => h))
            refine hKx.out _ _ ?_ (fun hHeld => ?_)
            · exact HFw6.out
            clear hKx Kx hff
            (try simp only [Act.put, List.setIfInBounds_toArray, List.set_cons_zero, List.set_cons_succ, List.getElem_toArray, List.getElem_cons_zero, List.getElem_cons_succ])
            refine wpAnyH_more (fun w' => Fr (fun _ => False) w6 w') (fun _ h => HFw6.out.trans h (fun _ _ h => h)) ?_ (fun hHeld => ?_)
            · exact Fr.refl _ _
            refine wpAnyH_take (i := 2) (v := ?_) rfl (by kernel_rfl) (by kernel_rfl) (by kernel_rfl) (fun _ _ _ h => h) (Or.inl ⟨by rfl, ?_⟩) hHeld ?_
            rotate_left
            · intro w hSw; (try dsimp only at hSw); go_simp; try (with_reducible rfl)
            (try simp only [Act.put, List.setIfInBounds_toArray, List.set_cons_zero, List.set_cons_succ, List.getElem_toArray, List.getElem_cons_zero, List.getElem_cons_succ])
            refine wpAnyH_take (i := 3) (v := ?_) rfl (by kernel_rfl) (by kernel_rfl) (by kernel_rfl) (fun _ _ _ h => h) (Or.inl ⟨by rfl, ?_⟩) hHeld ?_
            rotate_left
            · intro w hSw; (try dsimp only at hSw); go_simp; try (with_reducible rfl)
            (try simp only [Act.put, List.setIfInBounds_toArray, List.set_cons_zero, List.set_cons_succ, List.getElem_toArray, List.getElem_cons_zero, List.getElem_cons_succ])
            refine wpAnyH_take (i := 4) (v := ?_) rfl (by kernel_rfl) (by kernel_rfl) (by kernel_rfl) (fun _ _ _ h => h) (Or.inl ⟨by rfl, ?_⟩) hHeld ?_
            rotate_left
            · intro w hSw; (try dsimp only at hSw); obtain ⟨c0, c1, c2, c3⟩ := ((HPX.out.fr HFw6.out (fun h => h)).fr hSw (fun h => h)).cells; (try dsimp only at c0 c1 c2 c3); go_simp; try (with_reducible rfl)
            (try simp only [Act.put, List.setIfInBounds_toArray, List.set_cons_zero, List.set_cons_succ, List.getElem_toArray, List.getElem_cons_zero, List.getElem_cons_succ])
            refine wpAnyH_take (i := 7) (v := ?_) rfl (by kernel_rfl) (by kernel_rfl) (by kernel_rfl) (fun _ _ _ h => h) (Or.inl ⟨by rfl, ?_⟩) hHeld ?_
            rotate_left
            · intro w hSw; (try dsimp only at hSw); go_simp; try (with_reducible rfl)
            (try simp only [Act.put, List.setIfInBounds_toArray, List.set_cons_zero, List.set_cons_succ, List.getElem_toArray, List.getElem_cons_zero, List.getElem_cons_succ])
            refine wpAnyH_take (i := 8) (v := ?_) rfl (by kernel_rfl) (by kernel_rfl) (by kernel_rfl) (fun _ _ _ h => h) (Or.inl ⟨by rfl, ?_⟩) hHeld ?_
            rotate_left
            · intro w hSw; (try dsimp only at hSw); have hcv := str_rd (((HRD.out.fr HFX.out (fun _ _ h => h)).fr HFw6.out (fun _ _ h => h)).fr hSw (fun _ _ h => h)) c; go_simp; try (with_reducible rfl)
            (try simp only [Act.put, List.setIfInBounds_toArray, List.set_cons_zero, List.set_cons_succ, List.getElem_toArray, List.getElem_cons_zero, List.getElem_cons_succ])
            refine wpAnyH_ready (rs := [5]) (by kernel_rfl) (by simp) ?_
            refine AllReadyH.cons rfl (fun Kx hKx => ?_) AllReadyH.nil
            go_simp
            have hcon := HPT.out w6
            with_reducible refine hcon.mono ?_
            clear hcon
            rintro e' w7 ⟨A7, c7, rfl, hc7, hr7, hff⟩
            have HFw7 : Hid (Fr (fun _ => False) w6 w7) := Lib.hid (hff)
            have HR7 := Lib.hid hr7
            clear hc7 hr7
            refine hKx.out _ _ ?_ (fun hHeld => ?_)
            · exact HFw7.out
            clear hKx Kx hff
            (try simp only [Act.put, List.setIfInBounds_toArray, List.set_cons_zero, List.set_cons_succ, List.getElem_toArray, List.getElem_cons_zero, List.getElem_cons_succ])
            refine wpAnyH_more (fun w' => Fr (fun _ => False) w7 w') (fun _ h => HFw7.out.trans h (fun _ _ h => h)) ?_ (fun hHeld => ?_)
            · exact Fr.refl _ _
            refine wpAnyH_take (i := 6) (v := ?_) rfl (by kernel_rfl) (by kernel_rfl) (by kernel_rfl) (fun _ _ _ h => h) (Or.inl ⟨by rfl, ?_⟩) hHeld ?_
            rotate_left
            · intro w hSw; (try dsimp only at hSw); have hcv := str_rd (HR7.out.fr hSw (fun _ _ h => h)) c7; go_simp; try (with_reducible rfl)
            (try simp only [Act.put, List.setIfInBounds_toArray, List.set_cons_zero, List.set_cons_succ, List.getElem_toArray, List.getElem_cons_zero, List.getElem_cons_succ])
            refine wpAnyH_take (i := 9) (v := ?_) rfl (by kernel_rfl) (by kernel_rfl) (by kernel_rfl) (fun _ _ _ h => h) (Or.inl ⟨by rfl, ?_⟩) hHeld ?_
            rotate_left
            · intro w hSw; (try dsimp only at hSw); go_simp; try (with_reducible rfl)
            (try simp only [Act.put, List.setIfInBounds_toArray, List.set_cons_zero, List.set_cons_succ, List.getElem_toArray, List.getElem_cons_zero, List.getElem_cons_succ])
            refine wpAnyH_take (i := 10) (v := ?_) rfl (by kernel_rfl) (by kernel_rfl) (by kernel_rfl) (fun _ _ _ h => h) (Or.inl ⟨by rfl, ?_⟩) hHeld ?_
            rotate_left
            · intro w hSw; (try dsimp only at hSw); go_simp; try (with_reducible rfl)
            (try simp only [Act.put, List.setIfInBounds_toArray, List.set_cons_zero, List.set_cons_succ, List.getElem_toArray, List.getElem_cons_zero, List.getElem_cons_succ])
            refine wpAnyH_done (by kernel_rfl) ?_ _
            have HGL := Lib.hid (((HGX.out.fr HFw6.out (fun h => h)).fr HFw7.out (fun h => h)))
            have HFL := Lib.hid (((HFX.out.trans HFw6.out (fun _ _ h => h)).trans HFw7.out (fun _ _ h => h)))
            go_wp2_with (refine store_st vSz rfl (.tmp 4) (.tmp 118) rfl g (by rfl) (vls zeroV) (by rfl) _ _ HGL.out rfl rfl (v_one _) ?_)
            intro w8 hr8 hf8
            have HR8 : Hid (RowV w8 g zeroV) := Lib.hid hr8
            have HF8 := Lib.hid (HFL.out.trans hf8 (fun b hb h => by have := HGP.out; omega))
            have d0 := HR8.out.c0
            have d1 := HR8.out.c1
            have d2 := HR8.out.c2
            have d3 := HR8.out.c3
            clear hr8 hf8
            go_wp2_with fail
            refine bodyPost_ret (v := getR (zeroV, false)) (by simp [results, getR, valc, d0, d1, d2, d3, Try.results14, go_sem]) rfl ⟨by rw [← HAN.out], HF8.out⟩
end Go.Proofs.Ytomhljpnpphbcaa
