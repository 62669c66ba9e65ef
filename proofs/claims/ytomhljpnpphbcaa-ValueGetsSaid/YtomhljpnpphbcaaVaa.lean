/-
  Layer 14, the reference: Get, of numbers (written by gen_rget.py).
-/
import Derived.Test.YtomhljpnpphbcaaVaZ
import Derived.IntWalk
namespace Go.Proofs.Ytomhljpnpphbcaa
open Go.RowKit Mem Go.Lib VaM LebM UtfM
attribute [local go_sem ↓] Go.wp_at_zero Go.wp_at_succ
set_option linter.unusedVariables false


set_option maxRecDepth 100000 in
set_option maxHeartbeats 6400000 in
theorem rgetF1_any (k : Int) (A : Option Addr) (n c : Nat) (B : List UInt8) (w : World) (hk : -9223372036854775808 ≤ k ∧ k < 9223372036854775808) (hr : Rd w A n (B.map bytec)) (hc : n ≤ c) (hn : n ≤ 1000000) (h : cl k = 1) (hs0 : spanE B = 0) (hs1 : spanK B = B.length) :
    Calls Try.prog 14 #[.int .i64 k, .slice A n c] w fun e w' => e = .returned (getR (getV k B)) ∧ Fr (fun _ => False) w w' := by
  have hBn : B.length = n := by simpa using hr.1
  obtain ⟨ans, hans⟩ : ∃ ans, getV k B = ans := ⟨_, rfl⟩
  rw [hans]
  obtain ⟨g, hg⟩ : ∃ g, w.heap.size = g := ⟨_, rfl⟩
  obtain ⟨w1, hw1⟩ : ∃ w1, w.alloc (.cells #[.int .i64 0, .int .u64 0, .int .i64 0, .string ⟨#[]⟩] 24) = w1 := ⟨_, rfl⟩
  have hf1 : Fr (fun _ => False) w w1 := by rw [← hw1]; exact (Fr.refl _ _).alloc _
  have hr1 : RowV w1 g zeroV := by rw [← hw1, ← hg]; exact RowV.new w zeroV
  obtain ⟨p, hp⟩ : ∃ p, w1.heap.size = p := ⟨_, rfl⟩
  obtain ⟨w2, hw2⟩ : ∃ w2, w1.alloc (.cells #[.int .i64 0, .int .u64 0, .int .i64 0, .string ⟨#[]⟩] 24) = w2 := ⟨_, rfl⟩
  have hf2 : Fr (fun _ => False) w1 w2 := by rw [← hw2]; exact (Fr.refl _ _).alloc _
  have hp2 : RowV w2 p zeroV := by rw [← hw2, ← hp]; exact RowV.new w1 zeroV
  have HR2 := Lib.hid (hr1.fr hf2 (fun h => h))
  have HP2 := Lib.hid hp2
  have HGP : Hid (g ≠ p ∧ w.heap.size ≤ p ∧ w.heap.size = g) := Lib.hid (by have h1 := hr1.lt; have h2 := hf1.size; omega)
  have HF2 := Lib.hid (hf1.trans hf2 (fun _ _ h => h))
  have HRD := Lib.hid hr
  have HBN := Lib.hid hBn
  have HKB := Lib.hid hk
  obtain ⟨E, hE⟩ : ∃ E, spanE B = E := ⟨_, rfl⟩
  obtain ⟨K, hK⟩ : ∃ K, spanK B = K := ⟨_, rfl⟩
  have hsp := fun w' (hf : Fr (fun _ => False) w w') => rspan_any A n c B w' (hr.fr hf (fun _ _ h => h))
  have hkl := spanK_le B
  have hel := spanE_le B
  rw [hK] at hkl
  rw [hE] at hel
  rw [hE, hK] at hsp
  rw [hBn] at hkl
  have han := get_num h hs0 hs1
  rw [hans] at han
  have HAN := Lib.hid han.symm
  have hpos := (span_of hs0 hs1).2.2
  obtain rfl : 0 = E := by rw [← hE, hs0]
  obtain rfl : n = K := by rw [← hK, hs1, hBn]
  rw [hBn] at hpos
  have HSP := Lib.hid hsp
  clear han hs0 hs1 hE hK hsp
  clear hf1 hr1 hf2 hp2 hans hk hr hBn
  have he : k = 3 := by have := cl1 h; omega
  have t3 : (k == 3) = true := by simp; omega
  clear he h
  all_goals
    go_enter Try.func14, Try.ntmps14
    go_upto_region 2 with (refine store_st vSz rfl (.tmp 6) (.tmp 15) rfl p (by rfl) (vls ⟨k, 0, 0, []⟩) (by rfl) _ _ HP2.out rfl rfl (v_one _) ?_)
    intro w3 hr3 hf3
    clear hw1 hw2 hg hp
    have HP3 : Hid (RowV w3 p ⟨k, 0, 0, []⟩) := Lib.hid hr3
    have HG3 := Lib.hid (HR2.out.fr hf3 HGP.out.1)
    have HF3 := Lib.hid (HF2.out.trans hf3 (fun b hb h => by have := HGP.out.2; omega))
    clear hr3 hf3
    go_wp2_with fail
    refine (HSP.out w3 HF3.out).mono ?_
    rintro e w4 ⟨rfl, rfl⟩
    go_wp2_with fail
    go_loopw [9] (fun i wr => ∃ x : Int, -1 ≤ x ∧ x < n ∧ i = .int .i64 x ∧ Hid (RowV wr p ⟨k, vd B (x + 1).toNat, 0, []⟩) ∧ Hid (RowV wr g zeroV) ∧ Hid (Fr (fun _ => False) w wr)) (fun i _ => (intOf i + 1).toNat)
    case atStart => exact ⟨(n : Int) - 1, by omega, by omega, rfl, by rw [show ((n : Int) - 1 + 1).toNat = n by omega, vd_end (by have := HBN.out; omega)]; exact HP3.out, HG3.out, HF3.out⟩
    case round =>
      obtain ⟨x, hx0, hx1, rfl, HP4, HG4, HF4⟩ := hrel
      rename World => wr
      by_cases h0 : 0 ≤ x
      · obtain ⟨j, rfl⟩ := Int.eq_ofNat_of_zero_le h0
        have hjn : j < n := by omega
        rw [show ((j : Int) + 1).toNat = j + 1 by omega] at HP4
        obtain ⟨U, hU⟩ : ∃ U, vd B (j + 1) = U := ⟨_, rfl⟩
        have hUl : U < 18446744073709551616 := by rw [← hU]; exact vd_lt _ _
        obtain ⟨ad, v, rfl, hv, hcell⟩ := (HRD.out.fr HF4.out (fun _ _ h => h)).at_ hjn
        obtain ⟨b, hb⟩ : ∃ b, B[j]? = some b := ⟨B[j]'(by have := HBN.out; omega), List.getElem?_eq_getElem _⟩
        obtain rfl : bytec b = v := by simpa [hb] using hv
        unfold bytec at hcell
        have hb256 := b.toNat_lt
        have hst := vd_step hb
        rw [hU] at hst HP4
        obtain ⟨c1, c2, c3, c4⟩ := HP4.out.cells
        (try dsimp only at c1 c2 c3 c4)
        have f1 : wr.frozen? ⟨p, 1, none⟩ = false := Row.free HP4.out 1
        obtain ⟨X, hX⟩ : ∃ X, U * 128 % 18446744073709551616 = X := ⟨_, rfl⟩
        obtain ⟨y, hy⟩ : ∃ y, b.toNat % 128 = y := ⟨_, rfl⟩
        rw [hX, hy] at hst
        obtain ⟨Z, hZ⟩ : ∃ Z, vd B j = Z := ⟨_, rfl⟩
        rw [hZ] at hst
        have r1 : IntKind.u64.wrap ((U : Int) * 128) = (X : Int) := by rw [IntKind.wrap_u64]; omega
        have r2 : (b.toNat : Int).tmod 128 = (y : Int) := by rw [Int.tmod_eq_emod_of_nonneg (by omega)]; omega
        have r3 : IntKind.u64.wrap (y : Int) = (y : Int) := by rw [IntKind.wrap_u64]; omega
        have r4 : IntKind.u64.wrap ((X : Int) + (y : Int)) = (Z : Int) := by rw [IntKind.wrap_u64]; omega
        have HZ := Lib.hid hZ
        obtain ⟨wd, hwd⟩ : ∃ wd, wr.drew = wd := ⟨_, rfl⟩
        obtain ⟨w5, hw5⟩ : ∃ w5, wd.setCell ⟨p, 1, none⟩ (.int .u64 (Z : Int)) = w5 := ⟨_, rfl⟩
        have hfd : Fr (fun _ => False) wr wd := by rw [← hwd]; exact (Fr.refl _ _).drew
        have hpd := HP4.out.fr hfd (fun h => h)
        have h5 := Row.set hpd 1 (.int .u64 (Z : Int))
        rw [hw5] at h5
        have HP5 : Hid (RowV w5 p ⟨k, Z, 0, []⟩) := Lib.hid h5
        have hf5 : Fr (fun b => b = p) wd w5 := by rw [← hw5]; exact Fr.set1 _ _ _ _
        have HG5 := Lib.hid ((HG4.out.fr hfd (fun h => h)).fr hf5 HGP.out.1)
        have HF5 := Lib.hid ((HF4.out.trans hfd (fun _ _ h => h)).trans hf5 (fun b hb h => by have := HGP.out.2; omega))
        have g1 : wd.frozen? ⟨p, 1, none⟩ = false := Row.free hpd 1
        have e1 := hpd.c1
        (try dsimp only at e1)
        have HWD := Lib.hid hwd
        clear hst hX hy hv hb hU hZ hfd hpd h5 hf5 hUl hb256 hwd
        go_upto_region 10 with fail
        go_still_tail 11, (by kernel_rfl)
        change wpList _ _ _ _ _ wr.drew
        rw [HWD.out]
        clear c1 c2 c3 c4 f1 hcell
        go_wp2_with fail
        exact ⟨⟨(j : Int) - 1, by omega, by omega, rfl, by rw [show ((j : Int) - 1 + 1).toNat = j by omega, HZ.out]; exact HP5.out, HG5.out, HF5.out⟩, by simp [intOf] <;> omega⟩
      · obtain rfl : x = -1 := by omega
        rw [show (-1 + 1 : Int).toNat = 0 from rfl] at HP4
        have HPX := HP4
        have HGX := HG4
        have HFX := HF4
        clear HP4 HG4 HF4
        have hyo : V.ok (⟨k, vd B 0, 0, []⟩) := ⟨HKB.out, vd_lt _ _, by show (-9223372036854775808 : Int) ≤ 0 ∧ (0 : Int) < _; omega⟩
        have hrt := fun w => rvRight_any (⟨k, vd B 0, 0, []⟩) w hyo (by have := HBN.out; simp; try omega)
        have hpt := fun w => rvPut_any (⟨k, vd B 0, 0, []⟩) w hyo
        obtain ⟨b1, hb1⟩ : ∃ b1, rightV (⟨k, vd B 0, 0, []⟩) = b1 := ⟨_, rfl⟩
        obtain ⟨Y, hY⟩ : ∃ Y, putV (⟨k, vd B 0, 0, []⟩) = Y := ⟨_, rfl⟩
        have han := HAN.out
        unfold endG at han
        rw [hb1, hY] at han
        simp only [hb1, valc] at hrt
        simp only [hY, valc] at hpt
        (try rw [show ((0 : Nat) : Int) = 0 from rfl] at hrt)
        (try rw [show ((0 : Nat) : Int) = 0 from rfl] at hpt)
        have HRT := Lib.hid hrt
        have HPT := Lib.hid hpt
        clear hyo hrt hpt hb1 hY HAN
        go_upto_region 28 with fail
        cases b1
        · have HAN : Hid ((zeroV, false) = ans) := Lib.hid han
          clear han
          refine wp_region_held_drew (S := fun w' => Fr (fun _ => False) wr w') (by kernel_rfl) ?_ (fun hHeld => ?_)
          · exact (Fr.refl _ _).drew
          refine wpAnyH_take (i := 0) (v := ?vz130) rfl (by kernel_rfl) (by kernel_rfl) (by kernel_rfl) (fun _ _ _ h => h) (Or.inl ⟨by rfl, ?hyz130⟩) hHeld ?restz130
          case hyz130 => intro w hSw; (try dsimp only at hSw); obtain ⟨c0, c1, c2, c3⟩ := (HPX.out.fr hSw (fun h => h)).cells; (try dsimp only at c0 c1 c2 c3); go_simp; try (with_reducible rfl)
          (try simp only [Act.put, List.setIfInBounds_toArray, List.set_cons_zero, List.set_cons_succ, List.getElem_toArray, List.getElem_cons_zero])
          refine wpAnyH_ready (rs := [1]) (by kernel_rfl) (by simp) ?_
          refine AllReadyH.cons rfl (fun Kx hKx => ?_) AllReadyH.nil
          go_simp
          have hcon := HRT.out wr.drew
          with_reducible refine hcon.mono ?_
          clear hcon
          rintro e' w6 ⟨rfl, hff⟩
          have HFw6 : Hid (Fr (fun _ => False) wr w6) := Lib.hid ((Fr.refl _ _).drew.trans hff (fun _ _ h => h))
          refine hKx.out _ _ ?_ (fun hHeld => ?_)
          · exact HFw6.out
          clear hKx Kx hff
          (try simp only [Act.put, List.setIfInBounds_toArray, List.set_cons_zero, List.set_cons_succ, List.getElem_toArray, List.getElem_cons_zero, List.getElem_cons_succ])
          refine wpAnyH_more (fun w' => Fr (fun _ => False) w6 w') (fun _ h => HFw6.out.trans h (fun _ _ h => h)) ?_ (fun hHeld => ?_)
          · exact Fr.refl _ _
          refine wpAnyH_take (i := 2) (v := ?vz132) rfl (by kernel_rfl) (by kernel_rfl) (by kernel_rfl) (fun _ _ _ h => h) (Or.inl ⟨by rfl, ?hyz132⟩) hHeld ?restz132
          case hyz132 => intro w hSw; (try dsimp only at hSw); go_simp; try (with_reducible rfl)
          (try simp only [Act.put, List.setIfInBounds_toArray, List.set_cons_zero, List.set_cons_succ, List.getElem_toArray, List.getElem_cons_zero, List.getElem_cons_succ])
          refine wpAnyH_take (i := 3) (v := ?vz133) rfl (by kernel_rfl) (by kernel_rfl) (by kernel_rfl) (fun _ _ _ h => h) (Or.inl ⟨by rfl, ?hyz133⟩) hHeld ?restz133
          case hyz133 => intro w hSw; (try dsimp only at hSw); go_simp; try (with_reducible rfl)
          (try simp only [Act.put, List.setIfInBounds_toArray, List.set_cons_zero, List.set_cons_succ, List.getElem_toArray, List.getElem_cons_zero, List.getElem_cons_succ])
          refine wpAnyH_take (i := 4) (v := undef) rfl (by kernel_rfl) (by kernel_rfl) (by kernel_rfl) (fun _ _ _ h => h) (Or.inr ⟨by rfl, rfl⟩) hHeld ?_
          (try simp only [Act.put, List.setIfInBounds_toArray, List.set_cons_zero, List.set_cons_succ, List.getElem_toArray, List.getElem_cons_zero, List.getElem_cons_succ])
          refine wpAnyH_take (i := 5) (v := undef) rfl (by kernel_rfl) (by kernel_rfl) (by kernel_rfl) (fun _ _ _ h => h) (Or.inr ⟨by rfl, rfl⟩) hHeld ?_
          (try simp only [Act.put, List.setIfInBounds_toArray, List.set_cons_zero, List.set_cons_succ, List.getElem_toArray, List.getElem_cons_zero, List.getElem_cons_succ])
          refine wpAnyH_take (i := 6) (v := undef) rfl (by kernel_rfl) (by kernel_rfl) (by kernel_rfl) (fun _ _ _ h => h) (Or.inr ⟨by rfl, rfl⟩) hHeld ?_
          (try simp only [Act.put, List.setIfInBounds_toArray, List.set_cons_zero, List.set_cons_succ, List.getElem_toArray, List.getElem_cons_zero, List.getElem_cons_succ])
          refine wpAnyH_take (i := 7) (v := undef) rfl (by kernel_rfl) (by kernel_rfl) (by kernel_rfl) (fun _ _ _ h => h) (Or.inr ⟨by rfl, rfl⟩) hHeld ?_
          (try simp only [Act.put, List.setIfInBounds_toArray, List.set_cons_zero, List.set_cons_succ, List.getElem_toArray, List.getElem_cons_zero, List.getElem_cons_succ])
          refine wpAnyH_take (i := 8) (v := undef) rfl (by kernel_rfl) (by kernel_rfl) (by kernel_rfl) (fun _ _ _ h => h) (Or.inr ⟨by rfl, rfl⟩) hHeld ?_
          (try simp only [Act.put, List.setIfInBounds_toArray, List.set_cons_zero, List.set_cons_succ, List.getElem_toArray, List.getElem_cons_zero, List.getElem_cons_succ])
          refine wpAnyH_take (i := 9) (v := undef) rfl (by kernel_rfl) (by kernel_rfl) (by kernel_rfl) (fun _ _ _ h => h) (Or.inr ⟨by rfl, rfl⟩) hHeld ?_
          (try simp only [Act.put, List.setIfInBounds_toArray, List.set_cons_zero, List.set_cons_succ, List.getElem_toArray, List.getElem_cons_zero, List.getElem_cons_succ])
          refine wpAnyH_take (i := 10) (v := ?vz1310) rfl (by kernel_rfl) (by kernel_rfl) (by kernel_rfl) (fun _ _ _ h => h) (Or.inl ⟨by rfl, ?hyz1310⟩) hHeld ?restz1310
          case hyz1310 => intro w hSw; (try dsimp only at hSw); go_simp; try (with_reducible rfl)
          (try simp only [Act.put, List.setIfInBounds_toArray, List.set_cons_zero, List.set_cons_succ, List.getElem_toArray, List.getElem_cons_zero, List.getElem_cons_succ])
          refine wpAnyH_done (by kernel_rfl) ?_ _
          have HGL := Lib.hid ((HGX.out.fr HFw6.out (fun h => h)))
          have HFL := Lib.hid ((HFX.out.trans HFw6.out (fun _ _ h => h)))
          go_wp2_with (refine store_st vSz rfl (.tmp 4) (.tmp 118) rfl g (by rfl) (vls zeroV) (by rfl) _ _ HGL.out rfl rfl (v_one _) ?_)
          intro w8 hr8 hf8
          have HR8 : Hid (RowV w8 g zeroV) := Lib.hid hr8
          have HF8 := Lib.hid (HFL.out.trans hf8 (fun b hb h => by have := HGP.out; omega))
          have d0 := HR8.out.c0
          have d1 := HR8.out.c1
          have d2 := HR8.out.c2
          have d3 := HR8.out.c3
          clear hr8 hf8
          go_wp2_with fail
          refine bodyPost_ret (v := getR (zeroV, false)) (by simp [results, getR, valc, d0, d1, d2, d3, Try.results14, go_sem]) rfl ⟨by rw [← HAN.out], HF8.out⟩
        · by_cases hq : Y = B
          · have HAN : Hid ((⟨k, vd B 0, 0, []⟩, true) = ans) := Lib.hid (by rw [← han]; simp [hq])
            obtain rfl : B = Y := hq.symm
            clear han hq
            refine wp_region_held_drew (S := fun w' => Fr (fun _ => False) wr w') (by kernel_rfl) ?_ (fun hHeld => ?_)
            · exact (Fr.refl _ _).drew
            refine wpAnyH_take (i := 0) (v := ?vz140) rfl (by kernel_rfl) (by kernel_rfl) (by kernel_rfl) (fun _ _ _ h => h) (Or.inl ⟨by rfl, ?hyz140⟩) hHeld ?restz140
            case hyz140 => intro w hSw; (try dsimp only at hSw); obtain ⟨c0, c1, c2, c3⟩ := (HPX.out.fr hSw (fun h => h)).cells; (try dsimp only at c0 c1 c2 c3); go_simp; try (with_reducible rfl)
            (try simp only [Act.put, List.setIfInBounds_toArray, List.set_cons_zero, List.set_cons_succ, List.getElem_toArray, List.getElem_cons_zero])
            refine wpAnyH_ready (rs := [1]) (by kernel_rfl) (by simp) ?_
            refine AllReadyH.cons rfl (fun Kx hKx => ?_) AllReadyH.nil
            go_simp
            have hcon := HRT.out wr.drew
            with_reducible refine hcon.mono ?_
            clear hcon
            rintro e' w6 ⟨rfl, hff⟩
            have HFw6 : Hid (Fr (fun _ => False) wr w6) := Lib.hid ((Fr.refl _ _).drew.trans hff (fun _ _ h => h))
            refine hKx.out _ _ ?_ (fun hHeld => ?_)
            · exact HFw6.out
            clear hKx Kx hff
            (try simp only [Act.put, List.setIfInBounds_toArray, List.set_cons_zero, List.set_cons_succ, List.getElem_toArray, List.getElem_cons_zero, List.getElem_cons_succ])
            refine wpAnyH_more (fun w' => Fr (fun _ => False) w6 w') (fun _ h => HFw6.out.trans h (fun _ _ h => h)) ?_ (fun hHeld => ?_)
            · exact Fr.refl _ _
            refine wpAnyH_take (i := 2) (v := ?vz142) rfl (by kernel_rfl) (by kernel_rfl) (by kernel_rfl) (fun _ _ _ h => h) (Or.inl ⟨by rfl, ?hyz142⟩) hHeld ?restz142
            case hyz142 => intro w hSw; (try dsimp only at hSw); go_simp; try (with_reducible rfl)
            (try simp only [Act.put, List.setIfInBounds_toArray, List.set_cons_zero, List.set_cons_succ, List.getElem_toArray, List.getElem_cons_zero, List.getElem_cons_succ])
            refine wpAnyH_take (i := 3) (v := ?vz143) rfl (by kernel_rfl) (by kernel_rfl) (by kernel_rfl) (fun _ _ _ h => h) (Or.inl ⟨by rfl, ?hyz143⟩) hHeld ?restz143
            case hyz143 => intro w hSw; (try dsimp only at hSw); go_simp; try (with_reducible rfl)
            (try simp only [Act.put, List.setIfInBounds_toArray, List.set_cons_zero, List.set_cons_succ, List.getElem_toArray, List.getElem_cons_zero, List.getElem_cons_succ])
            refine wpAnyH_take (i := 4) (v := ?vz144) rfl (by kernel_rfl) (by kernel_rfl) (by kernel_rfl) (fun _ _ _ h => h) (Or.inl ⟨by rfl, ?hyz144⟩) hHeld ?restz144
            case hyz144 => intro w hSw; (try dsimp only at hSw); obtain ⟨c0, c1, c2, c3⟩ := ((HPX.out.fr HFw6.out (fun h => h)).fr hSw (fun h => h)).cells; (try dsimp only at c0 c1 c2 c3); go_simp; try (with_reducible rfl)
            (try simp only [Act.put, List.setIfInBounds_toArray, List.set_cons_zero, List.set_cons_succ, List.getElem_toArray, List.getElem_cons_zero, List.getElem_cons_succ])
            refine wpAnyH_take (i := 7) (v := ?vz147) rfl (by kernel_rfl) (by kernel_rfl) (by kernel_rfl) (fun _ _ _ h => h) (Or.inl ⟨by rfl, ?hyz147⟩) hHeld ?restz147
            case hyz147 => intro w hSw; (try dsimp only at hSw); go_simp; try (with_reducible rfl)
            (try simp only [Act.put, List.setIfInBounds_toArray, List.set_cons_zero, List.set_cons_succ, List.getElem_toArray, List.getElem_cons_zero, List.getElem_cons_succ])
            refine wpAnyH_take (i := 8) (v := ?vz148) rfl (by kernel_rfl) (by kernel_rfl) (by kernel_rfl) (fun _ _ _ h => h) (Or.inl ⟨by rfl, ?hyz148⟩) hHeld ?restz148
            case hyz148 => intro w hSw; (try dsimp only at hSw); have hcv := str_rd (((HRD.out.fr HFX.out (fun _ _ h => h)).fr HFw6.out (fun _ _ h => h)).fr hSw (fun _ _ h => h)) c; go_simp; try (with_reducible rfl)
            (try simp only [Act.put, List.setIfInBounds_toArray, List.set_cons_zero, List.set_cons_succ, List.getElem_toArray, List.getElem_cons_zero, List.getElem_cons_succ])
            refine wpAnyH_ready (rs := [5]) (by kernel_rfl) (by simp) ?_
            refine AllReadyH.cons rfl (fun Kx hKx => ?_) AllReadyH.nil
            go_simp
            have hcon := HPT.out w6
            with_reducible refine hcon.mono ?_
            clear hcon
            rintro e' w7 ⟨A7, c7, rfl, hc7, hr7, hff⟩
            have HFw7 : Hid (Fr (fun _ => False) w6 w7) := Lib.hid (hff)
            have HR7 := Lib.hid hr7
            clear hc7 hr7
            refine hKx.out _ _ ?_ (fun hHeld => ?_)
            · exact HFw7.out
            clear hKx Kx hff
            (try simp only [Act.put, List.setIfInBounds_toArray, List.set_cons_zero, List.set_cons_succ, List.getElem_toArray, List.getElem_cons_zero, List.getElem_cons_succ])
            refine wpAnyH_more (fun w' => Fr (fun _ => False) w7 w') (fun _ h => HFw7.out.trans h (fun _ _ h => h)) ?_ (fun hHeld => ?_)
            · exact Fr.refl _ _
            refine wpAnyH_take (i := 6) (v := ?vz146) rfl (by kernel_rfl) (by kernel_rfl) (by kernel_rfl) (fun _ _ _ h => h) (Or.inl ⟨by rfl, ?hyz146⟩) hHeld ?restz146
            case hyz146 => intro w hSw; (try dsimp only at hSw); have hcv := str_rd (HR7.out.fr hSw (fun _ _ h => h)) c7; go_simp; try (with_reducible rfl)
            (try simp only [Act.put, List.setIfInBounds_toArray, List.set_cons_zero, List.set_cons_succ, List.getElem_toArray, List.getElem_cons_zero, List.getElem_cons_succ])
            refine wpAnyH_take (i := 9) (v := ?vz149) rfl (by kernel_rfl) (by kernel_rfl) (by kernel_rfl) (fun _ _ _ h => h) (Or.inl ⟨by rfl, ?hyz149⟩) hHeld ?restz149
            case hyz149 => intro w hSw; (try dsimp only at hSw); go_simp; try (with_reducible rfl)
            (try simp only [Act.put, List.setIfInBounds_toArray, List.set_cons_zero, List.set_cons_succ, List.getElem_toArray, List.getElem_cons_zero, List.getElem_cons_succ])
            refine wpAnyH_take (i := 10) (v := ?vz1410) rfl (by kernel_rfl) (by kernel_rfl) (by kernel_rfl) (fun _ _ _ h => h) (Or.inl ⟨by rfl, ?hyz1410⟩) hHeld ?restz1410
            case hyz1410 => intro w hSw; (try dsimp only at hSw); go_simp; try (with_reducible rfl)
            (try simp only [Act.put, List.setIfInBounds_toArray, List.set_cons_zero, List.set_cons_succ, List.getElem_toArray, List.getElem_cons_zero, List.getElem_cons_succ])
            refine wpAnyH_done (by kernel_rfl) ?_ _
            have HGL := Lib.hid (((HGX.out.fr HFw6.out (fun h => h)).fr HFw7.out (fun h => h)))
            have HFL := Lib.hid (((HFX.out.trans HFw6.out (fun _ _ h => h)).trans HFw7.out (fun _ _ h => h)))
            obtain ⟨c0, c1, c2, c3⟩ := ((HPX.out.fr HFw6.out (fun h => h)).fr HFw7.out (fun h => h)).cells
            (try dsimp only at c0 c1 c2 c3)
            go_wp2_with (refine store_st vSz rfl (.tmp 4) (.tmp 119) rfl g (by rfl) (vls (⟨k, vd B 0, 0, []⟩)) (by rfl) _ _ HGL.out rfl rfl (v_one _) ?_)
            intro w8 hr8 hf8
            have HR8 : Hid (RowV w8 g (⟨k, vd B 0, 0, []⟩)) := Lib.hid hr8
            have HF8 := Lib.hid (HFL.out.trans hf8 (fun b hb h => by have := HGP.out; omega))
            have d0 := HR8.out.c0
            have d1 := HR8.out.c1
            have d2 := HR8.out.c2
            have d3 := HR8.out.c3
            clear hr8 hf8
            go_wp2_with fail
            refine bodyPost_ret (v := getR ((⟨k, vd B 0, 0, []⟩), true)) (by simp [results, getR, valc, d0, d1, d2, d3, Try.results14, go_sem]) rfl ⟨by rw [← HAN.out], HF8.out⟩
          · have HAN : Hid ((zeroV, false) = ans) := Lib.hid (by rw [← han]; simp [hq])
            have hne : ((txt Y).toList == (txt B).toList) = false := by rw [beq_txt]; simp [hq]
            clear han hq
            refine wp_region_held_drew (S := fun w' => Fr (fun _ => False) wr w') (by kernel_rfl) ?_ (fun hHeld => ?_)
            · exact (Fr.refl _ _).drew
            refine wpAnyH_take (i := 0) (v := ?vz150) rfl (by kernel_rfl) (by kernel_rfl) (by kernel_rfl) (fun _ _ _ h => h) (Or.inl ⟨by rfl, ?hyz150⟩) hHeld ?restz150
            case hyz150 => intro w hSw; (try dsimp only at hSw); obtain ⟨c0, c1, c2, c3⟩ := (HPX.out.fr hSw (fun h => h)).cells; (try dsimp only at c0 c1 c2 c3); go_simp; try (with_reducible rfl)
            (try simp only [Act.put, List.setIfInBounds_toArray, List.set_cons_zero, List.set_cons_succ, List.getElem_toArray, List.getElem_cons_zero])
            refine wpAnyH_ready (rs := [1]) (by kernel_rfl) (by simp) ?_
            refine AllReadyH.cons rfl (fun Kx hKx => ?_) AllReadyH.nil
            go_simp
            have hcon := HRT.out wr.drew
            with_reducible refine hcon.mono ?_
            clear hcon
            rintro e' w6 ⟨rfl, hff⟩
            have HFw6 : Hid (Fr (fun _ => False) wr w6) := Lib.hid ((Fr.refl _ _).drew.trans hff (fun _ _ h => h))
            refine hKx.out _ _ ?_ (fun hHeld => ?_)
            · exact HFw6.out
            clear hKx Kx hff
            (try simp only [Act.put, List.setIfInBounds_toArray, List.set_cons_zero, List.set_cons_succ, List.getElem_toArray, List.getElem_cons_zero, List.getElem_cons_succ])
            refine wpAnyH_more (fun w' => Fr (fun _ => False) w6 w') (fun _ h => HFw6.out.trans h (fun _ _ h => h)) ?_ (fun hHeld => ?_)
            · exact Fr.refl _ _
            refine wpAnyH_take (i := 2) (v := ?vz152) rfl (by kernel_rfl) (by kernel_rfl) (by kernel_rfl) (fun _ _ _ h => h) (Or.inl ⟨by rfl, ?hyz152⟩) hHeld ?restz152
            case hyz152 => intro w hSw; (try dsimp only at hSw); go_simp; try (with_reducible rfl)
            (try simp only [Act.put, List.setIfInBounds_toArray, List.set_cons_zero, List.set_cons_succ, List.getElem_toArray, List.getElem_cons_zero, List.getElem_cons_succ])
            refine wpAnyH_take (i := 3) (v := ?vz153) rfl (by kernel_rfl) (by kernel_rfl) (by kernel_rfl) (fun _ _ _ h => h) (Or.inl ⟨by rfl, ?hyz153⟩) hHeld ?restz153
            case hyz153 => intro w hSw; (try dsimp only at hSw); go_simp; try (with_reducible rfl)
            (try simp only [Act.put, List.setIfInBounds_toArray, List.set_cons_zero, List.set_cons_succ, List.getElem_toArray, List.getElem_cons_zero, List.getElem_cons_succ])
            refine wpAnyH_take (i := 4) (v := ?vz154) rfl (by kernel_rfl) (by kernel_rfl) (by kernel_rfl) (fun _ _ _ h => h) (Or.inl ⟨by rfl, ?hyz154⟩) hHeld ?restz154
            case hyz154 => intro w hSw; (try dsimp only at hSw); obtain ⟨c0, c1, c2, c3⟩ := ((HPX.out.fr HFw6.out (fun h => h)).fr hSw (fun h => h)).cells; (try dsimp only at c0 c1 c2 c3); go_simp; try (with_reducible rfl)
            (try simp only [Act.put, List.setIfInBounds_toArray, List.set_cons_zero, List.set_cons_succ, List.getElem_toArray, List.getElem_cons_zero, List.getElem_cons_succ])
            refine wpAnyH_take (i := 7) (v := ?vz157) rfl (by kernel_rfl) (by kernel_rfl) (by kernel_rfl) (fun _ _ _ h => h) (Or.inl ⟨by rfl, ?hyz157⟩) hHeld ?restz157
            case hyz157 => intro w hSw; (try dsimp only at hSw); go_simp; try (with_reducible rfl)
            (try simp only [Act.put, List.setIfInBounds_toArray, List.set_cons_zero, List.set_cons_succ, List.getElem_toArray, List.getElem_cons_zero, List.getElem_cons_succ])
            refine wpAnyH_take (i := 8) (v := ?vz158) rfl (by kernel_rfl) (by kernel_rfl) (by kernel_rfl) (fun _ _ _ h => h) (Or.inl ⟨by rfl, ?hyz158⟩) hHeld ?restz158
            case hyz158 => intro w hSw; (try dsimp only at hSw); have hcv := str_rd (((HRD.out.fr HFX.out (fun _ _ h => h)).fr HFw6.out (fun _ _ h => h)).fr hSw (fun _ _ h => h)) c; go_simp; try (with_reducible rfl)
            (try simp only [Act.put, List.setIfInBounds_toArray, List.set_cons_zero, List.set_cons_succ, List.getElem_toArray, List.getElem_cons_zero, List.getElem_cons_succ])
            refine wpAnyH_ready (rs := [5]) (by kernel_rfl) (by simp) ?_
            refine AllReadyH.cons rfl (fun Kx hKx => ?_) AllReadyH.nil
            go_simp
            have hcon := HPT.out w6
            with_reducible refine hcon.mono ?_
            clear hcon
            rintro e' w7 ⟨A7, c7, rfl, hc7, hr7, hff⟩
            have HFw7 : Hid (Fr (fun _ => False) w6 w7) := Lib.hid (hff)
            have HR7 := Lib.hid hr7
            clear hc7 hr7
            refine hKx.out _ _ ?_ (fun hHeld => ?_)
            · exact HFw7.out
            clear hKx Kx hff
            (try simp only [Act.put, List.setIfInBounds_toArray, List.set_cons_zero, List.set_cons_succ, List.getElem_toArray, List.getElem_cons_zero, List.getElem_cons_succ])
            refine wpAnyH_more (fun w' => Fr (fun _ => False) w7 w') (fun _ h => HFw7.out.trans h (fun _ _ h => h)) ?_ (fun hHeld => ?_)
            · exact Fr.refl _ _
            refine wpAnyH_take (i := 6) (v := ?vz156) rfl (by kernel_rfl) (by kernel_rfl) (by kernel_rfl) (fun _ _ _ h => h) (Or.inl ⟨by rfl, ?hyz156⟩) hHeld ?restz156
            case hyz156 => intro w hSw; (try dsimp only at hSw); have hcv := str_rd (HR7.out.fr hSw (fun _ _ h => h)) c7; go_simp; try (with_reducible rfl)
            (try simp only [Act.put, List.setIfInBounds_toArray, List.set_cons_zero, List.set_cons_succ, List.getElem_toArray, List.getElem_cons_zero, List.getElem_cons_succ])
            refine wpAnyH_take (i := 9) (v := ?vz159) rfl (by kernel_rfl) (by kernel_rfl) (by kernel_rfl) (fun _ _ _ h => h) (Or.inl ⟨by rfl, ?hyz159⟩) hHeld ?restz159
            case hyz159 => intro w hSw; (try dsimp only at hSw); go_simp; try (with_reducible rfl)
            (try simp only [Act.put, List.setIfInBounds_toArray, List.set_cons_zero, List.set_cons_succ, List.getElem_toArray, List.getElem_cons_zero, List.getElem_cons_succ])
            refine wpAnyH_take (i := 10) (v := ?vz1510) rfl (by kernel_rfl) (by kernel_rfl) (by kernel_rfl) (fun _ _ _ h => h) (Or.inl ⟨by rfl, ?hyz1510⟩) hHeld ?restz1510
            case hyz1510 => intro w hSw; (try dsimp only at hSw); go_simp; try (with_reducible rfl)
            (try simp only [Act.put, List.setIfInBounds_toArray, List.set_cons_zero, List.set_cons_succ, List.getElem_toArray, List.getElem_cons_zero, List.getElem_cons_succ])
            refine wpAnyH_done (by kernel_rfl) ?_ _
            have HGL := Lib.hid (((HGX.out.fr HFw6.out (fun h => h)).fr HFw7.out (fun h => h)))
            have HFL := Lib.hid (((HFX.out.trans HFw6.out (fun _ _ h => h)).trans HFw7.out (fun _ _ h => h)))
            go_wp2_with (refine store_st vSz rfl (.tmp 4) (.tmp 118) rfl g (by rfl) (vls zeroV) (by rfl) _ _ HGL.out rfl rfl (v_one _) ?_)
            intro w8 hr8 hf8
            have HR8 : Hid (RowV w8 g zeroV) := Lib.hid hr8
            have HF8 := Lib.hid (HFL.out.trans hf8 (fun b hb h => by have := HGP.out; omega))
            have d0 := HR8.out.c0
            have d1 := HR8.out.c1
            have d2 := HR8.out.c2
            have d3 := HR8.out.c3
            clear hr8 hf8
            go_wp2_with fail
            refine bodyPost_ret (v := getR (zeroV, false)) (by simp [results, getR, valc, d0, d1, d2, d3, Try.results14, go_sem]) rfl ⟨by rw [← HAN.out], HF8.out⟩

set_option maxRecDepth 100000 in
set_option maxHeartbeats 6400000 in
theorem rgetS1_any (k : Int) (A : Option Addr) (n c : Nat) (B : List UInt8) (w : World) (hk : -9223372036854775808 ≤ k ∧ k < 9223372036854775808) (hr : Rd w A n (B.map bytec)) (hc : n ≤ c) (hn : n ≤ 1000000) (h : cl k = 1) (hs : spanE B ≠ 0 ∨ spanK B ≠ B.length) :
    Calls Try.prog 14 #[.int .i64 k, .slice A n c] w fun e w' => e = .returned (getR (getV k B)) ∧ Fr (fun _ => False) w w' := by
  have hBn : B.length = n := by simpa using hr.1
  obtain ⟨ans, hans⟩ : ∃ ans, getV k B = ans := ⟨_, rfl⟩
  rw [hans]
  obtain ⟨g, hg⟩ : ∃ g, w.heap.size = g := ⟨_, rfl⟩
  obtain ⟨w1, hw1⟩ : ∃ w1, w.alloc (.cells #[.int .i64 0, .int .u64 0, .int .i64 0, .string ⟨#[]⟩] 24) = w1 := ⟨_, rfl⟩
  have hf1 : Fr (fun _ => False) w w1 := by rw [← hw1]; exact (Fr.refl _ _).alloc _
  have hr1 : RowV w1 g zeroV := by rw [← hw1, ← hg]; exact RowV.new w zeroV
  obtain ⟨p, hp⟩ : ∃ p, w1.heap.size = p := ⟨_, rfl⟩
  obtain ⟨w2, hw2⟩ : ∃ w2, w1.alloc (.cells #[.int .i64 0, .int .u64 0, .int .i64 0, .string ⟨#[]⟩] 24) = w2 := ⟨_, rfl⟩
  have hf2 : Fr (fun _ => False) w1 w2 := by rw [← hw2]; exact (Fr.refl _ _).alloc _
  have hp2 : RowV w2 p zeroV := by rw [← hw2, ← hp]; exact RowV.new w1 zeroV
  have HR2 := Lib.hid (hr1.fr hf2 (fun h => h))
  have HP2 := Lib.hid hp2
  have HGP : Hid (g ≠ p ∧ w.heap.size ≤ p ∧ w.heap.size = g) := Lib.hid (by have h1 := hr1.lt; have h2 := hf1.size; omega)
  have HF2 := Lib.hid (hf1.trans hf2 (fun _ _ h => h))
  have HRD := Lib.hid hr
  have HBN := Lib.hid hBn
  have HKB := Lib.hid hk
  obtain ⟨E, hE⟩ : ∃ E, spanE B = E := ⟨_, rfl⟩
  obtain ⟨K, hK⟩ : ∃ K, spanK B = K := ⟨_, rfl⟩
  have hsp := fun w' (hf : Fr (fun _ => False) w w') => rspan_any A n c B w' (hr.fr hf (fun _ _ h => h))
  have hkl := spanK_le B
  have hel := spanE_le B
  rw [hK] at hkl
  rw [hE] at hel
  rw [hE, hK] at hsp
  rw [hBn] at hkl
  have han := get_short (Or.inl h) hs
  rw [hans] at han
  have HAN := Lib.hid han.symm
  rw [hE, hK, hBn] at hs
  obtain ⟨q, hq⟩ : ∃ q, ((E : Int) != 0) = q := ⟨_, rfl⟩
  have t2 : q = false → ((K : Int) != (n : Int)) = true := by
    intro hqf
    rw [hqf] at hq
    simp at hq ⊢
    omega
  have T2 := Lib.hid t2
  have HSP := Lib.hid hsp
  clear han t2 hs hE hK hsp
  clear hf1 hr1 hf2 hp2 hans hk hr hBn
  have he : k = 3 := by have := cl1 h; omega
  have t3 : (k == 3) = true := by simp; omega
  clear he h
  cases q
  all_goals (try have t9 := T2.out rfl)
  all_goals
    go_enter Try.func14, Try.ntmps14
    go_upto_region 2 with (refine store_st vSz rfl (.tmp 6) (.tmp 15) rfl p (by rfl) (vls ⟨k, 0, 0, []⟩) (by rfl) _ _ HP2.out rfl rfl (v_one _) ?_)
    intro w3 hr3 hf3
    clear hw1 hw2 hg hp
    have HP3 : Hid (RowV w3 p ⟨k, 0, 0, []⟩) := Lib.hid hr3
    have HG3 := Lib.hid (HR2.out.fr hf3 HGP.out.1)
    have HF3 := Lib.hid (HF2.out.trans hf3 (fun b hb h => by have := HGP.out.2; omega))
    clear hr3 hf3
    go_wp2_with fail
    refine (HSP.out w3 HF3.out).mono ?_
    rintro e w4 ⟨rfl, rfl⟩
    go_wp2_with (refine store_st vSz rfl (.tmp 4) (.tmp 32) rfl g (by rfl) (vls zeroV) (by rfl) _ _ HG3.out rfl rfl (v_one _) ?_)
    intro w8 hr8 hf8
    have HR8 : Hid (RowV w8 g zeroV) := Lib.hid hr8
    have HF8 := Lib.hid (HF3.out.trans hf8 (fun b hb h => by have := HGP.out; omega))
    have d0 := HR8.out.c0
    have d1 := HR8.out.c1
    have d2 := HR8.out.c2
    have d3 := HR8.out.c3
    clear hr8 hf8
    go_wp2_with fail
    refine bodyPost_ret (v := getR (zeroV, false)) (by simp [results, getR, valc, d0, d1, d2, d3, Try.results14, go_sem]) rfl ⟨by rw [← HAN.out], HF8.out⟩
end Go.Proofs.Ytomhljpnpphbcaa
