/-
  Layer 14, the reference: Get (written by gen_rget.py).
-/
import Derived.Test.YtomhljpnpphbcaaVaY
import Derived.Test.YtomhljpnpphbcaaVaN
namespace Go.Proofs.Ytomhljpnpphbcaa
open Go.RowKit Mem Go.Lib VaM LebM UtfM
attribute [local go_sem ↓] Go.wp_at_zero Go.wp_at_succ
set_option linter.unusedVariables false


set_option maxRecDepth 100000 in
set_option maxHeartbeats 6400000 in
theorem rgetO0_any (k : Int) (A : Option Addr) (n c : Nat) (B : List UInt8) (w : World) (hk : -9223372036854775808 ≤ k ∧ k < 9223372036854775808) (hr : Rd w A n (B.map bytec)) (hc : n ≤ c) (hn : n ≤ 1000000) (h : cl k = 0) :
    Calls Try.prog 14 #[.int .i64 k, .slice A n c] w fun e w' => e = .returned (getR (getV k B)) ∧ Fr (fun _ => False) w w' := by
  have hBn : B.length = n := by simpa using hr.1
  obtain ⟨ans, hans⟩ : ∃ ans, getV k B = ans := ⟨_, rfl⟩
  rw [hans]
  obtain ⟨g, hg⟩ : ∃ g, w.heap.size = g := ⟨_, rfl⟩
  obtain ⟨w1, hw1⟩ : ∃ w1, w.alloc (.cells #[.int .i64 0, .int .u64 0, .int .i64 0, .string ⟨#[]⟩] 24) = w1 := ⟨_, rfl⟩
  have hf1 : Fr (fun _ => False) w w1 := by rw [← hw1]; exact (Fr.refl _ _).alloc _
  have hr1 : RowV w1 g zeroV := by rw [← hw1, ← hg]; exact RowV.new w zeroV
  obtain ⟨p, hp⟩ : ∃ p, w1.heap.size = p := ⟨_, rfl⟩
  obtain ⟨w2, hw2⟩ : ∃ w2, w1.alloc (.cells #[.int .i64 0, .int .u64 0, .int .i64 0, .string ⟨#[]⟩] 24) = w2 := ⟨_, rfl⟩
  have hf2 : Fr (fun _ => False) w1 w2 := by rw [← hw2]; exact (Fr.refl _ _).alloc _
  have hp2 : RowV w2 p zeroV := by rw [← hw2, ← hp]; exact RowV.new w1 zeroV
  have HR2 := Lib.hid (hr1.fr hf2 (fun h => h))
  have HP2 := Lib.hid hp2
  have HGP : Hid (g ≠ p ∧ w.heap.size ≤ p ∧ w.heap.size = g) := Lib.hid (by have h1 := hr1.lt; have h2 := hf1.size; omega)
  have HF2 := Lib.hid (hf1.trans hf2 (fun _ _ h => h))
  have HRD := Lib.hid hr
  have HBN := Lib.hid hBn
  have HKB := Lib.hid hk
  have han := get_bare (B := B) (Or.inl h)
  rw [hans] at han
  have HAN := Lib.hid han.symm
  clear han
  clear hf1 hr1 hf2 hp2 hans hk hr hBn
  have he : k ≠ 3 ∧ k ≠ 4 ∧ k ≠ 7 ∧ k ≠ 8 ∧ k ≠ 5 ∧ k ≠ 6 := by have := cl0 h; omega
  have t3 : (k == 3) = false := by simp; omega
  have t4 : (k == 4) = false := by simp; omega
  have t7 : (k == 7) = false := by simp; omega
  have t8 : (k == 8) = false := by simp; omega
  have t5 : (k == 5) = false := by simp; omega
  have t6 : (k == 6) = false := by simp; omega
  clear he h
  all_goals
    go_enter Try.func14, Try.ntmps14
    go_upto_region 2 with (refine store_st vSz rfl (.tmp 6) (.tmp 15) rfl p (by rfl) (vls ⟨k, 0, 0, []⟩) (by rfl) _ _ HP2.out rfl rfl (v_one _) ?_)
    intro w3 hr3 hf3
    clear hw1 hw2 hg hp
    have HP3 : Hid (RowV w3 p ⟨k, 0, 0, []⟩) := Lib.hid hr3
    have HG3 := Lib.hid (HR2.out.fr hf3 HGP.out.1)
    have HF3 := Lib.hid (HF2.out.trans hf3 (fun b hb h => by have := HGP.out.2; omega))
    clear hr3 hf3
    have HPX := HP3
    have HGX := HG3
    have HFX := HF3
    clear HP3 HG3 HF3
    have hyo : V.ok (⟨k, 0, 0, []⟩) := ⟨HKB.out, by show (0 : Nat) < _; omega, by show (-9223372036854775808 : Int) ≤ 0 ∧ (0 : Int) < _; omega⟩
    have hrt := fun w => rvRight_any (⟨k, 0, 0, []⟩) w hyo (by have := HBN.out; simp; try omega)
    have hpt := fun w => rvPut_any (⟨k, 0, 0, []⟩) w hyo
    obtain ⟨b1, hb1⟩ : ∃ b1, rightV (⟨k, 0, 0, []⟩) = b1 := ⟨_, rfl⟩
    obtain ⟨Y, hY⟩ : ∃ Y, putV (⟨k, 0, 0, []⟩) = Y := ⟨_, rfl⟩
    have han := HAN.out
    unfold endG at han
    rw [hb1, hY] at han
    simp only [hb1, valc] at hrt
    simp only [hY, valc] at hpt
    (try rw [show ((0 : Nat) : Int) = 0 from rfl] at hrt)
    (try rw [show ((0 : Nat) : Int) = 0 from rfl] at hpt)
    have HRT := Lib.hid hrt
    have HPT := Lib.hid hpt
    clear hyo hrt hpt hb1 hY HAN
    go_upto_region 28 with fail
    cases b1
    · have HAN : Hid ((zeroV, false) = ans) := Lib.hid han
      clear han
      refine wp_region_held_drew (S := fun w' => Fr (fun _ => False) w3 w') (by kernel_rfl) ?_ (fun hHeld => ?_)
      · exact (Fr.refl _ _).drew
      refine wpAnyH_take (i := 0) (v := ?vz10) rfl (by kernel_rfl) (by kernel_rfl) (by kernel_rfl) (fun _ _ _ h => h) (Or.inl ⟨by rfl, ?hyz10⟩) hHeld ?restz10
      case hyz10 => intro w hSw; (try dsimp only at hSw); obtain ⟨c0, c1, c2, c3⟩ := (HPX.out.fr hSw (fun h => h)).cells; (try dsimp only at c0 c1 c2 c3); go_simp; try (with_reducible rfl)
      (try simp only [Act.put, List.setIfInBounds_toArray, List.set_cons_zero, List.set_cons_succ, List.getElem_toArray, List.getElem_cons_zero])
      refine wpAnyH_ready (rs := [1]) (by kernel_rfl) (by simp) ?_
      refine AllReadyH.cons rfl (fun Kx hKx => ?_) AllReadyH.nil
      go_simp
      have hcon := HRT.out w3.drew
      with_reducible refine hcon.mono ?_
      clear hcon
      rintro e' w6 ⟨rfl, hff⟩
      have HFw6 : Hid (Fr (fun _ => False) w3 w6) := Lib.hid ((Fr.refl _ _).drew.trans hff (fun _ _ h => h))
      refine hKx.out _ _ ?_ (fun hHeld => ?_)
      · exact HFw6.out
      clear hKx Kx hff
      (try simp only [Act.put, List.setIfInBounds_toArray, List.set_cons_zero, List.set_cons_succ, List.getElem_toArray, List.getElem_cons_zero, List.getElem_cons_succ])
      refine wpAnyH_more (fun w' => Fr (fun _ => False) w6 w') (fun _ h => HFw6.out.trans h (fun _ _ h => h)) ?_ (fun hHeld => ?_)
      · exact Fr.refl _ _
      refine wpAnyH_take (i := 2) (v := ?vz12) rfl (by kernel_rfl) (by kernel_rfl) (by kernel_rfl) (fun _ _ _ h => h) (Or.inl ⟨by rfl, ?hyz12⟩) hHeld ?restz12
      case hyz12 => intro w hSw; (try dsimp only at hSw); go_simp; try (with_reducible rfl)
      (try simp only [Act.put, List.setIfInBounds_toArray, List.set_cons_zero, List.set_cons_succ, List.getElem_toArray, List.getElem_cons_zero, List.getElem_cons_succ])
      refine wpAnyH_take (i := 3) (v := ?vz13) rfl (by kernel_rfl) (by kernel_rfl) (by kernel_rfl) (fun _ _ _ h => h) (Or.inl ⟨by rfl, ?hyz13⟩) hHeld ?restz13
      case hyz13 => intro w hSw; (try dsimp only at hSw); go_simp; try (with_reducible rfl)
      (try simp only [Act.put, List.setIfInBounds_toArray, List.set_cons_zero, List.set_cons_succ, List.getElem_toArray, List.getElem_cons_zero, List.getElem_cons_succ])
      refine wpAnyH_take (i := 4) (v := undef) rfl (by kernel_rfl) (by kernel_rfl) (by kernel_rfl) (fun _ _ _ h => h) (Or.inr ⟨by rfl, rfl⟩) hHeld ?_
      (try simp only [Act.put, List.setIfInBounds_toArray, List.set_cons_zero, List.set_cons_succ, List.getElem_toArray, List.getElem_cons_zero, List.getElem_cons_succ])
      refine wpAnyH_take (i := 5) (v := undef) rfl (by kernel_rfl) (by kernel_rfl) (by kernel_rfl) (fun _ _ _ h => h) (Or.inr ⟨by rfl, rfl⟩) hHeld ?_
      (try simp only [Act.put, List.setIfInBounds_toArray, List.set_cons_zero, List.set_cons_succ, List.getElem_toArray, List.getElem_cons_zero, List.getElem_cons_succ])
      refine wpAnyH_take (i := 6) (v := undef) rfl (by kernel_rfl) (by kernel_rfl) (by kernel_rfl) (fun _ _ _ h => h) (Or.inr ⟨by rfl, rfl⟩) hHeld ?_
      (try simp only [Act.put, List.setIfInBounds_toArray, List.set_cons_zero, List.set_cons_succ, List.getElem_toArray, List.getElem_cons_zero, List.getElem_cons_succ])
      refine wpAnyH_take (i := 7) (v := undef) rfl (by kernel_rfl) (by kernel_rfl) (by kernel_rfl) (fun _ _ _ h => h) (Or.inr ⟨by rfl, rfl⟩) hHeld ?_
      (try simp only [Act.put, List.setIfInBounds_toArray, List.set_cons_zero, List.set_cons_succ, List.getElem_toArray, List.getElem_cons_zero, List.getElem_cons_succ])
      refine wpAnyH_take (i := 8) (v := undef) rfl (by kernel_rfl) (by kernel_rfl) (by kernel_rfl) (fun _ _ _ h => h) (Or.inr ⟨by rfl, rfl⟩) hHeld ?_
      (try simp only [Act.put, List.setIfInBounds_toArray, List.set_cons_zero, List.set_cons_succ, List.getElem_toArray, List.getElem_cons_zero, List.getElem_cons_succ])
      refine wpAnyH_take (i := 9) (v := undef) rfl (by kernel_rfl) (by kernel_rfl) (by kernel_rfl) (fun _ _ _ h => h) (Or.inr ⟨by rfl, rfl⟩) hHeld ?_
      (try simp only [Act.put, List.setIfInBounds_toArray, List.set_cons_zero, List.set_cons_succ, List.getElem_toArray, List.getElem_cons_zero, List.getElem_cons_succ])
      refine wpAnyH_take (i := 10) (v := ?vz110) rfl (by kernel_rfl) (by kernel_rfl) (by kernel_rfl) (fun _ _ _ h => h) (Or.inl ⟨by rfl, ?hyz110⟩) hHeld ?restz110
      case hyz110 => intro w hSw; (try dsimp only at hSw); go_simp; try (with_reducible rfl)
      (try simp only [Act.put, List.setIfInBounds_toArray, List.set_cons_zero, List.set_cons_succ, List.getElem_toArray, List.getElem_cons_zero, List.getElem_cons_succ])
      refine wpAnyH_done (by kernel_rfl) ?_ _
      have HGL := Lib.hid ((HGX.out.fr HFw6.out (fun h => h)))
      have HFL := Lib.hid ((HFX.out.trans HFw6.out (fun _ _ h => h)))
      go_wp2_with (refine store_st vSz rfl (.tmp 4) (.tmp 118) rfl g (by rfl) (vls zeroV) (by rfl) _ _ HGL.out rfl rfl (v_one _) ?_)
      intro w8 hr8 hf8
      have HR8 : Hid (RowV w8 g zeroV) := Lib.hid hr8
      have HF8 := Lib.hid (HFL.out.trans hf8 (fun b hb h => by have := HGP.out; omega))
      have d0 := HR8.out.c0
      have d1 := HR8.out.c1
      have d2 := HR8.out.c2
      have d3 := HR8.out.c3
      clear hr8 hf8
      go_wp2_with fail
      refine bodyPost_ret (v := getR (zeroV, false)) (by simp [results, getR, valc, d0, d1, d2, d3, Try.results14, go_sem]) rfl ⟨by rw [← HAN.out], HF8.out⟩
    · by_cases hq : Y = B
      · have HAN : Hid ((⟨k, 0, 0, []⟩, true) = ans) := Lib.hid (by rw [← han]; simp [hq])
        obtain rfl : B = Y := hq.symm
        clear han hq
        refine wp_region_held_drew (S := fun w' => Fr (fun _ => False) w3 w') (by kernel_rfl) ?_ (fun hHeld => ?_)
        · exact (Fr.refl _ _).drew
        refine wpAnyH_take (i := 0) (v := ?vz20) rfl (by kernel_rfl) (by kernel_rfl) (by kernel_rfl) (fun _ _ _ h => h) (Or.inl ⟨by rfl, ?hyz20⟩) hHeld ?restz20
        case hyz20 => intro w hSw; (try dsimp only at hSw); obtain ⟨c0, c1, c2, c3⟩ := (HPX.out.fr hSw (fun h => h)).cells; (try dsimp only at c0 c1 c2 c3); go_simp; try (with_reducible rfl)
        (try simp only [Act.put, List.setIfInBounds_toArray, List.set_cons_zero, List.set_cons_succ, List.getElem_toArray, List.getElem_cons_zero])
        refine wpAnyH_ready (rs := [1]) (by kernel_rfl) (by simp) ?_
        refine AllReadyH.cons rfl (fun Kx hKx => ?_) AllReadyH.nil
        go_simp
        have hcon := HRT.out w3.drew
        with_reducible refine hcon.mono ?_
        clear hcon
        rintro e' w6 ⟨rfl, hff⟩
        have HFw6 : Hid (Fr (fun _ => False) w3 w6) := Lib.hid ((Fr.refl _ _).drew.trans hff (fun _ _ h => h))
        refine hKx.out _ _ ?_ (fun hHeld => ?_)
        · exact HFw6.out
        clear hKx Kx hff
        (try simp only [Act.put, List.setIfInBounds_toArray, List.set_cons_zero, List.set_cons_succ, List.getElem_toArray, List.getElem_cons_zero, List.getElem_cons_succ])
        refine wpAnyH_more (fun w' => Fr (fun _ => False) w6 w') (fun _ h => HFw6.out.trans h (fun _ _ h => h)) ?_ (fun hHeld => ?_)
        · exact Fr.refl _ _
        refine wpAnyH_take (i := 2) (v := ?vz22) rfl (by kernel_rfl) (by kernel_rfl) (by kernel_rfl) (fun _ _ _ h => h) (Or.inl ⟨by rfl, ?hyz22⟩) hHeld ?restz22
        case hyz22 => intro w hSw; (try dsimp only at hSw); go_simp; try (with_reducible rfl)
        (try simp only [Act.put, List.setIfInBounds_toArray, List.set_cons_zero, List.set_cons_succ, List.getElem_toArray, List.getElem_cons_zero, List.getElem_cons_succ])
        refine wpAnyH_take (i := 3) (v := ?vz23) rfl (by kernel_rfl) (by kernel_rfl) (by kernel_rfl) (fun _ _ _ h => h) (Or.inl ⟨by rfl, ?hyz23⟩) hHeld ?restz23
        case hyz23 => intro w hSw; (try dsimp only at hSw); go_simp; try (with_reducible rfl)
        (try simp only [Act.put, List.setIfInBounds_toArray, List.set_cons_zero, List.set_cons_succ, List.getElem_toArray, List.getElem_cons_zero, List.getElem_cons_succ])
        refine wpAnyH_take (i := 4) (v := ?vz24) rfl (by kernel_rfl) (by kernel_rfl) (by kernel_rfl) (fun _ _ _ h => h) (Or.inl ⟨by rfl, ?hyz24⟩) hHeld ?restz24
        case hyz24 => intro w hSw; (try dsimp only at hSw); obtain ⟨c0, c1, c2, c3⟩ := ((HPX.out.fr HFw6.out (fun h => h)).fr hSw (fun h => h)).cells; (try dsimp only at c0 c1 c2 c3); go_simp; try (with_reducible rfl)
        (try simp only [Act.put, List.setIfInBounds_toArray, List.set_cons_zero, List.set_cons_succ, List.getElem_toArray, List.getElem_cons_zero, List.getElem_cons_succ])
        refine wpAnyH_take (i := 7) (v := ?vz27) rfl (by kernel_rfl) (by kernel_rfl) (by kernel_rfl) (fun _ _ _ h => h) (Or.inl ⟨by rfl, ?hyz27⟩) hHeld ?restz27
        case hyz27 => intro w hSw; (try dsimp only at hSw); go_simp; try (with_reducible rfl)
        (try simp only [Act.put, List.setIfInBounds_toArray, List.set_cons_zero, List.set_cons_succ, List.getElem_toArray, List.getElem_cons_zero, List.getElem_cons_succ])
        refine wpAnyH_take (i := 8) (v := ?vz28) rfl (by kernel_rfl) (by kernel_rfl) (by kernel_rfl) (fun _ _ _ h => h) (Or.inl ⟨by rfl, ?hyz28⟩) hHeld ?restz28
        case hyz28 => intro w hSw; (try dsimp only at hSw); have hcv := str_rd (((HRD.out.fr HFX.out (fun _ _ h => h)).fr HFw6.out (fun _ _ h => h)).fr hSw (fun _ _ h => h)) c; go_simp; try (with_reducible rfl)
        (try simp only [Act.put, List.setIfInBounds_toArray, List.set_cons_zero, List.set_cons_succ, List.getElem_toArray, List.getElem_cons_zero, List.getElem_cons_succ])
        refine wpAnyH_ready (rs := [5]) (by kernel_rfl) (by simp) ?_
        refine AllReadyH.cons rfl (fun Kx hKx => ?_) AllReadyH.nil
        go_simp
        have hcon := HPT.out w6
        with_reducible refine hcon.mono ?_
        clear hcon
        rintro e' w7 ⟨A7, c7, rfl, hc7, hr7, hff⟩
        have HFw7 : Hid (Fr (fun _ => False) w6 w7) := Lib.hid (hff)
        have HR7 := Lib.hid hr7
        clear hc7 hr7
        refine hKx.out _ _ ?_ (fun hHeld => ?_)
        · exact HFw7.out
        clear hKx Kx hff
        (try simp only [Act.put, List.setIfInBounds_toArray, List.set_cons_zero, List.set_cons_succ, List.getElem_toArray, List.getElem_cons_zero, List.getElem_cons_succ])
        refine wpAnyH_more (fun w' => Fr (fun _ => False) w7 w') (fun _ h => HFw7.out.trans h (fun _ _ h => h)) ?_ (fun hHeld => ?_)
        · exact Fr.refl _ _
        refine wpAnyH_take (i := 6) (v := ?vz26) rfl (by kernel_rfl) (by kernel_rfl) (by kernel_rfl) (fun _ _ _ h => h) (Or.inl ⟨by rfl, ?hyz26⟩) hHeld ?restz26
        case hyz26 => intro w hSw; (try dsimp only at hSw); have hcv := str_rd (HR7.out.fr hSw (fun _ _ h => h)) c7; go_simp; try (with_reducible rfl)
        (try simp only [Act.put, List.setIfInBounds_toArray, List.set_cons_zero, List.set_cons_succ, List.getElem_toArray, List.getElem_cons_zero, List.getElem_cons_succ])
        refine wpAnyH_take (i := 9) (v := ?vz29) rfl (by kernel_rfl) (by kernel_rfl) (by kernel_rfl) (fun _ _ _ h => h) (Or.inl ⟨by rfl, ?hyz29⟩) hHeld ?restz29
        case hyz29 => intro w hSw; (try dsimp only at hSw); go_simp; try (with_reducible rfl)
        (try simp only [Act.put, List.setIfInBounds_toArray, List.set_cons_zero, List.set_cons_succ, List.getElem_toArray, List.getElem_cons_zero, List.getElem_cons_succ])
        refine wpAnyH_take (i := 10) (v := ?vz210) rfl (by kernel_rfl) (by kernel_rfl) (by kernel_rfl) (fun _ _ _ h => h) (Or.inl ⟨by rfl, ?hyz210⟩) hHeld ?restz210
        case hyz210 => intro w hSw; (try dsimp only at hSw); go_simp; try (with_reducible rfl)
        (try simp only [Act.put, List.setIfInBounds_toArray, List.set_cons_zero, List.set_cons_succ, List.getElem_toArray, List.getElem_cons_zero, List.getElem_cons_succ])
        refine wpAnyH_done (by kernel_rfl) ?_ _
        have HGL := Lib.hid (((HGX.out.fr HFw6.out (fun h => h)).fr HFw7.out (fun h => h)))
        have HFL := Lib.hid (((HFX.out.trans HFw6.out (fun _ _ h => h)).trans HFw7.out (fun _ _ h => h)))
        obtain ⟨c0, c1, c2, c3⟩ := ((HPX.out.fr HFw6.out (fun h => h)).fr HFw7.out (fun h => h)).cells
        (try dsimp only at c0 c1 c2 c3)
        go_wp2_with (refine store_st vSz rfl (.tmp 4) (.tmp 119) rfl g (by rfl) (vls (⟨k, 0, 0, []⟩)) (by rfl) _ _ HGL.out rfl rfl (v_one _) ?_)
        intro w8 hr8 hf8
        have HR8 : Hid (RowV w8 g (⟨k, 0, 0, []⟩)) := Lib.hid hr8
        have HF8 := Lib.hid (HFL.out.trans hf8 (fun b hb h => by have := HGP.out; omega))
        have d0 := HR8.out.c0
        have d1 := HR8.out.c1
        have d2 := HR8.out.c2
        have d3 := HR8.out.c3
        clear hr8 hf8
        go_wp2_with fail
        refine bodyPost_ret (v := getR ((⟨k, 0, 0, []⟩), true)) (by simp [results, getR, valc, d0, d1, d2, d3, Try.results14, go_sem]) rfl ⟨by rw [← HAN.out], HF8.out⟩
      · have HAN : Hid ((zeroV, false) = ans) := Lib.hid (by rw [← han]; simp [hq])
        have hne : ((txt Y).toList == (txt B).toList) = false := by rw [beq_txt]; simp [hq]
        clear han hq
        refine wp_region_held_drew (S := fun w' => Fr (fun _ => False) w3 w') (by kernel_rfl) ?_ (fun hHeld => ?_)
        · exact (Fr.refl _ _).drew
        refine wpAnyH_take (i := 0) (v := ?vz30) rfl (by kernel_rfl) (by kernel_rfl) (by kernel_rfl) (fun _ _ _ h => h) (Or.inl ⟨by rfl, ?hyz30⟩) hHeld ?restz30
        case hyz30 => intro w hSw; (try dsimp only at hSw); obtain ⟨c0, c1, c2, c3⟩ := (HPX.out.fr hSw (fun h => h)).cells; (try dsimp only at c0 c1 c2 c3); go_simp; try (with_reducible rfl)
        (try simp only [Act.put, List.setIfInBounds_toArray, List.set_cons_zero, List.set_cons_succ, List.getElem_toArray, List.getElem_cons_zero])
        refine wpAnyH_ready (rs := [1]) (by kernel_rfl) (by simp) ?_
        refine AllReadyH.cons rfl (fun Kx hKx => ?_) AllReadyH.nil
        go_simp
        have hcon := HRT.out w3.drew
        with_reducible refine hcon.mono ?_
        clear hcon
        rintro e' w6 ⟨rfl, hff⟩
        have HFw6 : Hid (Fr (fun _ => False) w3 w6) := Lib.hid ((Fr.refl _ _).drew.trans hff (fun _ _ h => h))
        refine hKx.out _ _ ?_ (fun hHeld => ?_)
        · exact HFw6.out
        clear hKx Kx hff
        (try simp only [Act.put, List.setIfInBounds_toArray, List.set_cons_zero, List.set_cons_succ, List.getElem_toArray, List.getElem_cons_zero, List.getElem_cons_succ])
        refine wpAnyH_more (fun w' => Fr (fun _ => False) w6 w') (fun _ h => HFw6.out.trans h (fun _ _ h => h)) ?_ (fun hHeld => ?_)
        · exact Fr.refl _ _
        refine wpAnyH_take (i := 2) (v := ?vz32) rfl (by kernel_rfl) (by kernel_rfl) (by kernel_rfl) (fun _ _ _ h => h) (Or.inl ⟨by rfl, ?hyz32⟩) hHeld ?restz32
        case hyz32 => intro w hSw; (try dsimp only at hSw); go_simp; try (with_reducible rfl)
        (try simp only [Act.put, List.setIfInBounds_toArray, List.set_cons_zero, List.set_cons_succ, List.getElem_toArray, List.getElem_cons_zero, List.getElem_cons_succ])
        refine wpAnyH_take (i := 3) (v := ?vz33) rfl (by kernel_rfl) (by kernel_rfl) (by kernel_rfl) (fun _ _ _ h => h) (Or.inl ⟨by rfl, ?hyz33⟩) hHeld ?restz33
        case hyz33 => intro w hSw; (try dsimp only at hSw); go_simp; try (with_reducible rfl)
        (try simp only [Act.put, List.setIfInBounds_toArray, List.set_cons_zero, List.set_cons_succ, List.getElem_toArray, List.getElem_cons_zero, List.getElem_cons_succ])
        refine wpAnyH_take (i := 4) (v := ?vz34) rfl (by kernel_rfl) (by kernel_rfl) (by kernel_rfl) (fun _ _ _ h => h) (Or.inl ⟨by rfl, ?hyz34⟩) hHeld ?restz34
        case hyz34 => intro w hSw; (try dsimp only at hSw); obtain ⟨c0, c1, c2, c3⟩ := ((HPX.out.fr HFw6.out (fun h => h)).fr hSw (fun h => h)).cells; (try dsimp only at c0 c1 c2 c3); go_simp; try (with_reducible rfl)
        (try simp only [Act.put, List.setIfInBounds_toArray, List.set_cons_zero, List.set_cons_succ, List.getElem_toArray, List.getElem_cons_zero, List.getElem_cons_succ])
        refine wpAnyH_take (i := 7) (v := ?vz37) rfl (by kernel_rfl) (by kernel_rfl) (by kernel_rfl) (fun _ _ _ h => h) (Or.inl ⟨by rfl, ?hyz37⟩) hHeld ?restz37
        case hyz37 => intro w hSw; (try dsimp only at hSw); go_simp; try (with_reducible rfl)
        (try simp only [Act.put, List.setIfInBounds_toArray, List.set_cons_zero, List.set_cons_succ, List.getElem_toArray, List.getElem_cons_zero, List.getElem_cons_succ])
        refine wpAnyH_take (i := 8) (v := ?vz38) rfl (by kernel_rfl) (by kernel_rfl) (by kernel_rfl) (fun _ _ _ h => h) (Or.inl ⟨by rfl, ?hyz38⟩) hHeld ?restz38
        case hyz38 => intro w hSw; (try dsimp only at hSw); have hcv := str_rd (((HRD.out.fr HFX.out (fun _ _ h => h)).fr HFw6.out (fun _ _ h => h)).fr hSw (fun _ _ h => h)) c; go_simp; try (with_reducible rfl)
        (try simp only [Act.put, List.setIfInBounds_toArray, List.set_cons_zero, List.set_cons_succ, List.getElem_toArray, List.getElem_cons_zero, List.getElem_cons_succ])
        refine wpAnyH_ready (rs := [5]) (by kernel_rfl) (by simp) ?_
        refine AllReadyH.cons rfl (fun Kx hKx => ?_) AllReadyH.nil
        go_simp
        have hcon := HPT.out w6
        with_reducible refine hcon.mono ?_
        clear hcon
        rintro e' w7 ⟨A7, c7, rfl, hc7, hr7, hff⟩
        have HFw7 : Hid (Fr (fun _ => False) w6 w7) := Lib.hid (hff)
        have HR7 := Lib.hid hr7
        clear hc7 hr7
        refine hKx.out _ _ ?_ (fun hHeld => ?_)
        · exact HFw7.out
        clear hKx Kx hff
        (try simp only [Act.put, List.setIfInBounds_toArray, List.set_cons_zero, List.set_cons_succ, List.getElem_toArray, List.getElem_cons_zero, List.getElem_cons_succ])
        refine wpAnyH_more (fun w' => Fr (fun _ => False) w7 w') (fun _ h => HFw7.out.trans h (fun _ _ h => h)) ?_ (fun hHeld => ?_)
        · exact Fr.refl _ _
        refine wpAnyH_take (i := 6) (v := ?vz36) rfl (by kernel_rfl) (by kernel_rfl) (by kernel_rfl) (fun _ _ _ h => h) (Or.inl ⟨by rfl, ?hyz36⟩) hHeld ?restz36
        case hyz36 => intro w hSw; (try dsimp only at hSw); have hcv := str_rd (HR7.out.fr hSw (fun _ _ h => h)) c7; go_simp; try (with_reducible rfl)
        (try simp only [Act.put, List.setIfInBounds_toArray, List.set_cons_zero, List.set_cons_succ, List.getElem_toArray, List.getElem_cons_zero, List.getElem_cons_succ])
        refine wpAnyH_take (i := 9) (v := ?vz39) rfl (by kernel_rfl) (by kernel_rfl) (by kernel_rfl) (fun _ _ _ h => h) (Or.inl ⟨by rfl, ?hyz39⟩) hHeld ?restz39
        case hyz39 => intro w hSw; (try dsimp only at hSw); go_simp; try (with_reducible rfl)
        (try simp only [Act.put, List.setIfInBounds_toArray, List.set_cons_zero, List.set_cons_succ, List.getElem_toArray, List.getElem_cons_zero, List.getElem_cons_succ])
        refine wpAnyH_take (i := 10) (v := ?vz310) rfl (by kernel_rfl) (by kernel_rfl) (by kernel_rfl) (fun _ _ _ h => h) (Or.inl ⟨by rfl, ?hyz310⟩) hHeld ?restz310
        case hyz310 => intro w hSw; (try dsimp only at hSw); go_simp; try (with_reducible rfl)
        (try simp only [Act.put, List.setIfInBounds_toArray, List.set_cons_zero, List.set_cons_succ, List.getElem_toArray, List.getElem_cons_zero, List.getElem_cons_succ])
        refine wpAnyH_done (by kernel_rfl) ?_ _
        have HGL := Lib.hid (((HGX.out.fr HFw6.out (fun h => h)).fr HFw7.out (fun h => h)))
        have HFL := Lib.hid (((HFX.out.trans HFw6.out (fun _ _ h => h)).trans HFw7.out (fun _ _ h => h)))
        go_wp2_with (refine store_st vSz rfl (.tmp 4) (.tmp 118) rfl g (by rfl) (vls zeroV) (by rfl) _ _ HGL.out rfl rfl (v_one _) ?_)
        intro w8 hr8 hf8
        have HR8 : Hid (RowV w8 g zeroV) := Lib.hid hr8
        have HF8 := Lib.hid (HFL.out.trans hf8 (fun b hb h => by have := HGP.out; omega))
        have d0 := HR8.out.c0
        have d1 := HR8.out.c1
        have d2 := HR8.out.c2
        have d3 := HR8.out.c3
        clear hr8 hf8
        go_wp2_with fail
        refine bodyPost_ret (v := getR (zeroV, false)) (by simp [results, getR, valc, d0, d1, d2, d3, Try.results14, go_sem]) rfl ⟨by rw [← HAN.out], HF8.out⟩

set_option maxRecDepth 100000 in
set_option maxHeartbeats 6400000 in
theorem rgetO5_any (k : Int) (A : Option Addr) (n c : Nat) (B : List UInt8) (w : World) (hk : -9223372036854775808 ≤ k ∧ k < 9223372036854775808) (hr : Rd w A n (B.map bytec)) (hc : n ≤ c) (hn : n ≤ 1000000) (h : cl k = 5) :
    Calls Try.prog 14 #[.int .i64 k, .slice A n c] w fun e w' => e = .returned (getR (getV k B)) ∧ Fr (fun _ => False) w w' := by
  have hBn : B.length = n := by simpa using hr.1
  obtain ⟨ans, hans⟩ : ∃ ans, getV k B = ans := ⟨_, rfl⟩
  rw [hans]
  obtain ⟨g, hg⟩ : ∃ g, w.heap.size = g := ⟨_, rfl⟩
  obtain ⟨w1, hw1⟩ : ∃ w1, w.alloc (.cells #[.int .i64 0, .int .u64 0, .int .i64 0, .string ⟨#[]⟩] 24) = w1 := ⟨_, rfl⟩
  have hf1 : Fr (fun _ => False) w w1 := by rw [← hw1]; exact (Fr.refl _ _).alloc _
  have hr1 : RowV w1 g zeroV := by rw [← hw1, ← hg]; exact RowV.new w zeroV
  obtain ⟨p, hp⟩ : ∃ p, w1.heap.size = p := ⟨_, rfl⟩
  obtain ⟨w2, hw2⟩ : ∃ w2, w1.alloc (.cells #[.int .i64 0, .int .u64 0, .int .i64 0, .string ⟨#[]⟩] 24) = w2 := ⟨_, rfl⟩
  have hf2 : Fr (fun _ => False) w1 w2 := by rw [← hw2]; exact (Fr.refl _ _).alloc _
  have hp2 : RowV w2 p zeroV := by rw [← hw2, ← hp]; exact RowV.new w1 zeroV
  have HR2 := Lib.hid (hr1.fr hf2 (fun h => h))
  have HP2 := Lib.hid hp2
  have HGP : Hid (g ≠ p ∧ w.heap.size ≤ p ∧ w.heap.size = g) := Lib.hid (by have h1 := hr1.lt; have h2 := hf1.size; omega)
  have HF2 := Lib.hid (hf1.trans hf2 (fun _ _ h => h))
  have HRD := Lib.hid hr
  have HBN := Lib.hid hBn
  have HKB := Lib.hid hk
  have han := get_bare (B := B) (Or.inr h)
  rw [hans] at han
  have HAN := Lib.hid han.symm
  clear han
  clear hf1 hr1 hf2 hp2 hans hk hr hBn
  have he : k ≠ 3 ∧ k ≠ 4 ∧ k ≠ 7 ∧ k ≠ 8 ∧ k ≠ 5 ∧ k ≠ 6 := by have := cl5 h; omega
  have t3 : (k == 3) = false := by simp; omega
  have t4 : (k == 4) = false := by simp; omega
  have t7 : (k == 7) = false := by simp; omega
  have t8 : (k == 8) = false := by simp; omega
  have t5 : (k == 5) = false := by simp; omega
  have t6 : (k == 6) = false := by simp; omega
  clear he h
  all_goals
    go_enter Try.func14, Try.ntmps14
    go_upto_region 2 with (refine store_st vSz rfl (.tmp 6) (.tmp 15) rfl p (by rfl) (vls ⟨k, 0, 0, []⟩) (by rfl) _ _ HP2.out rfl rfl (v_one _) ?_)
    intro w3 hr3 hf3
    clear hw1 hw2 hg hp
    have HP3 : Hid (RowV w3 p ⟨k, 0, 0, []⟩) := Lib.hid hr3
    have HG3 := Lib.hid (HR2.out.fr hf3 HGP.out.1)
    have HF3 := Lib.hid (HF2.out.trans hf3 (fun b hb h => by have := HGP.out.2; omega))
    clear hr3 hf3
    have HPX := HP3
    have HGX := HG3
    have HFX := HF3
    clear HP3 HG3 HF3
    have hyo : V.ok (⟨k, 0, 0, []⟩) := ⟨HKB.out, by show (0 : Nat) < _; omega, by show (-9223372036854775808 : Int) ≤ 0 ∧ (0 : Int) < _; omega⟩
    have hrt := fun w => rvRight_any (⟨k, 0, 0, []⟩) w hyo (by have := HBN.out; simp; try omega)
    have hpt := fun w => rvPut_any (⟨k, 0, 0, []⟩) w hyo
    obtain ⟨b1, hb1⟩ : ∃ b1, rightV (⟨k, 0, 0, []⟩) = b1 := ⟨_, rfl⟩
    obtain ⟨Y, hY⟩ : ∃ Y, putV (⟨k, 0, 0, []⟩) = Y := ⟨_, rfl⟩
    have han := HAN.out
    unfold endG at han
    rw [hb1, hY] at han
    simp only [hb1, valc] at hrt
    simp only [hY, valc] at hpt
    (try rw [show ((0 : Nat) : Int) = 0 from rfl] at hrt)
    (try rw [show ((0 : Nat) : Int) = 0 from rfl] at hpt)
    have HRT := Lib.hid hrt
    have HPT := Lib.hid hpt
    clear hyo hrt hpt hb1 hY HAN
    go_upto_region 28 with fail
    cases b1
    · have HAN : Hid ((zeroV, false) = ans) := Lib.hid han
      clear han
      refine wp_region_held_drew (S := fun w' => Fr (fun _ => False) w3 w') (by kernel_rfl) ?_ (fun hHeld => ?_)
      · exact (Fr.refl _ _).drew
      refine wpAnyH_take (i := 0) (v := ?vz40) rfl (by kernel_rfl) (by kernel_rfl) (by kernel_rfl) (fun _ _ _ h => h) (Or.inl ⟨by rfl, ?hyz40⟩) hHeld ?restz40
      case hyz40 => intro w hSw; (try dsimp only at hSw); obtain ⟨c0, c1, c2, c3⟩ := (HPX.out.fr hSw (fun h => h)).cells; (try dsimp only at c0 c1 c2 c3); go_simp; try (with_reducible rfl)
      (try simp only [Act.put, List.setIfInBounds_toArray, List.set_cons_zero, List.set_cons_succ, List.getElem_toArray, List.getElem_cons_zero])
      refine wpAnyH_ready (rs := [1]) (by kernel_rfl) (by simp) ?_
      refine AllReadyH.cons rfl (fun Kx hKx => ?_) AllReadyH.nil
      go_simp
      have hcon := HRT.out w3.drew
      with_reducible refine hcon.mono ?_
      clear hcon
      rintro e' w6 ⟨rfl, hff⟩
      have HFw6 : Hid (Fr (fun _ => False) w3 w6) := Lib.hid ((Fr.refl _ _).drew.trans hff (fun _ _ h => h))
      refine hKx.out _ _ ?_ (fun hHeld => ?_)
      · exact HFw6.out
      clear hKx Kx hff
      (try simp only [Act.put, List.setIfInBounds_toArray, List.set_cons_zero, List.set_cons_succ, List.getElem_toArray, List.getElem_cons_zero, List.getElem_cons_succ])
      refine wpAnyH_more (fun w' => Fr (fun _ => False) w6 w') (fun _ h => HFw6.out.trans h (fun _ _ h => h)) ?_ (fun hHeld => ?_)
      · exact Fr.refl _ _
      refine wpAnyH_take (i := 2) (v := ?vz42) rfl (by kernel_rfl) (by kernel_rfl) (by kernel_rfl) (fun _ _ _ h => h) (Or.inl ⟨by rfl, ?hyz42⟩) hHeld ?restz42
      case hyz42 => intro w hSw; (try dsimp only at hSw); go_simp; try (with_reducible rfl)
      (try simp only [Act.put, List.setIfInBounds_toArray, List.set_cons_zero, List.set_cons_succ, List.getElem_toArray, List.getElem_cons_zero, List.getElem_cons_succ])
      refine wpAnyH_take (i := 3) (v := ?vz43) rfl (by kernel_rfl) (by kernel_rfl) (by kernel_rfl) (fun _ _ _ h => h) (Or.inl ⟨by rfl, ?hyz43⟩) hHeld ?restz43
      case hyz43 => intro w hSw; (try dsimp only at hSw); go_simp; try (with_reducible rfl)
      (try simp only [Act.put, List.setIfInBounds_toArray, List.set_cons_zero, List.set_cons_succ, List.getElem_toArray, List.getElem_cons_zero, List.getElem_cons_succ])
      refine wpAnyH_take (i := 4) (v := undef) rfl (by kernel_rfl) (by kernel_rfl) (by kernel_rfl) (fun _ _ _ h => h) (Or.inr ⟨by rfl, rfl⟩) hHeld ?_
      (try simp only [Act.put, List.setIfInBounds_toArray, List.set_cons_zero, List.set_cons_succ, List.getElem_toArray, List.getElem_cons_zero, List.getElem_cons_succ])
      refine wpAnyH_take (i := 5) (v := undef) rfl (by kernel_rfl) (by kernel_rfl) (by kernel_rfl) (fun _ _ _ h => h) (Or.inr ⟨by rfl, rfl⟩) hHeld ?_
      (try simp only [Act.put, List.setIfInBounds_toArray, List.set_cons_zero, List.set_cons_succ, List.getElem_toArray, List.getElem_cons_zero, List.getElem_cons_succ])
      refine wpAnyH_take (i := 6) (v := undef) rfl (by kernel_rfl) (by kernel_rfl) (by kernel_rfl) (fun _ _ _ h => h) (Or.inr ⟨by rfl, rfl⟩) hHeld ?_
      (try simp only [Act.put, List.setIfInBounds_toArray, List.set_cons_zero, List.set_cons_succ, List.getElem_toArray, List.getElem_cons_zero, List.getElem_cons_succ])
      refine wpAnyH_take (i := 7) (v := undef) rfl (by kernel_rfl) (by kernel_rfl) (by kernel_rfl) (fun _ _ _ h => h) (Or.inr ⟨by rfl, rfl⟩) hHeld ?_
      (try simp only [Act.put, List.setIfInBounds_toArray, List.set_cons_zero, List.set_cons_succ, List.getElem_toArray, List.getElem_cons_zero, List.getElem_cons_succ])
      refine wpAnyH_take (i := 8) (v := undef) rfl (by kernel_rfl) (by kernel_rfl) (by kernel_rfl) (fun _ _ _ h => h) (Or.inr ⟨by rfl, rfl⟩) hHeld ?_
      (try simp only [Act.put, List.setIfInBounds_toArray, List.set_cons_zero, List.set_cons_succ, List.getElem_toArray, List.getElem_cons_zero, List.getElem_cons_succ])
      refine wpAnyH_take (i := 9) (v := undef) rfl (by kernel_rfl) (by kernel_rfl) (by kernel_rfl) (fun _ _ _ h => h) (Or.inr ⟨by rfl, rfl⟩) hHeld ?_
      (try simp only [Act.put, List.setIfInBounds_toArray, List.set_cons_zero, List.set_cons_succ, List.getElem_toArray, List.getElem_cons_zero, List.getElem_cons_succ])
      refine wpAnyH_take (i := 10) (v := ?vz410) rfl (by kernel_rfl) (by kernel_rfl) (by kernel_rfl) (fun _ _ _ h => h) (Or.inl ⟨by rfl, ?hyz410⟩) hHeld ?restz410
      case hyz410 => intro w hSw; (try dsimp only at hSw); go_simp; try (with_reducible rfl)
      (try simp only [Act.put, List.setIfInBounds_toArray, List.set_cons_zero, List.set_cons_succ, List.getElem_toArray, List.getElem_cons_zero, List.getElem_cons_succ])
      refine wpAnyH_done (by kernel_rfl) ?_ _
      have HGL := Lib.hid ((HGX.out.fr HFw6.out (fun h => h)))
      have HFL := Lib.hid ((HFX.out.trans HFw6.out (fun _ _ h => h)))
      go_wp2_with (refine store_st vSz rfl (.tmp 4) (.tmp 118) rfl g (by rfl) (vls zeroV) (by rfl) _ _ HGL.out rfl rfl (v_one _) ?_)
      intro w8 hr8 hf8
      have HR8 : Hid (RowV w8 g zeroV) := Lib.hid hr8
      have HF8 := Lib.hid (HFL.out.trans hf8 (fun b hb h => by have := HGP.out; omega))
      have d0 := HR8.out.c0
      have d1 := HR8.out.c1
      have d2 := HR8.out.c2
      have d3 := HR8.out.c3
      clear hr8 hf8
      go_wp2_with fail
      refine bodyPost_ret (v := getR (zeroV, false)) (by simp [results, getR, valc, d0, d1, d2, d3, Try.results14, go_sem]) rfl ⟨by rw [← HAN.out], HF8.out⟩
    · by_cases hq : Y = B
      · have HAN : Hid ((⟨k, 0, 0, []⟩, true) = ans) := Lib.hid (by rw [← han]; simp [hq])
        obtain rfl : B = Y := hq.symm
        clear han hq
        refine wp_region_held_drew (S := fun w' => Fr (fun _ => False) w3 w') (by kernel_rfl) ?_ (fun hHeld => ?_)
        · exact (Fr.refl _ _).drew
        refine wpAnyH_take (i := 0) (v := ?vz50) rfl (by kernel_rfl) (by kernel_rfl) (by kernel_rfl) (fun _ _ _ h => h) (Or.inl ⟨by rfl, ?hyz50⟩) hHeld ?restz50
        case hyz50 => intro w hSw; (try dsimp only at hSw); obtain ⟨c0, c1, c2, c3⟩ := (HPX.out.fr hSw (fun h => h)).cells; (try dsimp only at c0 c1 c2 c3); go_simp; try (with_reducible rfl)
        (try simp only [Act.put, List.setIfInBounds_toArray, List.set_cons_zero, List.set_cons_succ, List.getElem_toArray, List.getElem_cons_zero])
        refine wpAnyH_ready (rs := [1]) (by kernel_rfl) (by simp) ?_
        refine AllReadyH.cons rfl (fun Kx hKx => ?_) AllReadyH.nil
        go_simp
        have hcon := HRT.out w3.drew
        with_reducible refine hcon.mono ?_
        clear hcon
        rintro e' w6 ⟨rfl, hff⟩
        have HFw6 : Hid (Fr (fun _ => False) w3 w6) := Lib.hid ((Fr.refl _ _).drew.trans hff (fun _ _ h => h))
        refine hKx.out _ _ ?_ (fun hHeld => ?_)
        · exact HFw6.out
        clear hKx Kx hff
        (try simp only [Act.put, List.setIfInBounds_toArray, List.set_cons_zero, List.set_cons_succ, List.getElem_toArray, List.getElem_cons_zero, List.getElem_cons_succ])
        refine wpAnyH_more (fun w' => Fr (fun _ => False) w6 w') (fun _ h => HFw6.out.trans h (fun _ _ h => h)) ?_ (fun hHeld => ?_)
        · exact Fr.refl _ _
        refine wpAnyH_take (i := 2) (v := ?vz52) rfl (by kernel_rfl) (by kernel_rfl) (by kernel_rfl) (fun _ _ _ h => h) (Or.inl ⟨by rfl, ?hyz52⟩) hHeld ?restz52
        case hyz52 => intro w hSw; (try dsimp only at hSw); go_simp; try (with_reducible rfl)
        (try simp only [Act.put, List.setIfInBounds_toArray, List.set_cons_zero, List.set_cons_succ, List.getElem_toArray, List.getElem_cons_zero, List.getElem_cons_succ])
        refine wpAnyH_take (i := 3) (v := ?vz53) rfl (by kernel_rfl) (by kernel_rfl) (by kernel_rfl) (fun _ _ _ h => h) (Or.inl ⟨by rfl, ?hyz53⟩) hHeld ?restz53
        case hyz53 => intro w hSw; (try dsimp only at hSw); go_simp; try (with_reducible rfl)
        (try simp only [Act.put, List.setIfInBounds_toArray, List.set_cons_zero, List.set_cons_succ, List.getElem_toArray, List.getElem_cons_zero, List.getElem_cons_succ])
        refine wpAnyH_take (i := 4) (v := ?vz54) rfl (by kernel_rfl) (by kernel_rfl) (by kernel_rfl) (fun _ _ _ h => h) (Or.inl ⟨by rfl, ?hyz54⟩) hHeld ?restz54
        case hyz54 => intro w hSw; (try dsimp only at hSw); obtain ⟨c0, c1, c2, c3⟩ := ((HPX.out.fr HFw6.out (fun h => h)).fr hSw (fun h => h)).cells; (try dsimp only at c0 c1 c2 c3); go_simp; try (with_reducible rfl)
        (try simp only [Act.put, List.setIfInBounds_toArray, List.set_cons_zero, List.set_cons_succ, List.getElem_toArray, List.getElem_cons_zero, List.getElem_cons_succ])
        refine wpAnyH_take (i := 7) (v := ?vz57) rfl (by kernel_rfl) (by kernel_rfl) (by kernel_rfl) (fun _ _ _ h => h) (Or.inl ⟨by rfl, ?hyz57⟩) hHeld ?restz57
        case hyz57 => intro w hSw; (try dsimp only at hSw); go_simp; try (with_reducible rfl)
        (try simp only [Act.put, List.setIfInBounds_toArray, List.set_cons_zero, List.set_cons_succ, List.getElem_toArray, List.getElem_cons_zero, List.getElem_cons_succ])
        refine wpAnyH_take (i := 8) (v := ?vz58) rfl (by kernel_rfl) (by kernel_rfl) (by kernel_rfl) (fun _ _ _ h => h) (Or.inl ⟨by rfl, ?hyz58⟩) hHeld ?restz58
        case hyz58 => intro w hSw; (try dsimp only at hSw); have hcv := str_rd (((HRD.out.fr HFX.out (fun _ _ h => h)).fr HFw6.out (fun _ _ h => h)).fr hSw (fun _ _ h => h)) c; go_simp; try (with_reducible rfl)
        (try simp only [Act.put, List.setIfInBounds_toArray, List.set_cons_zero, List.set_cons_succ, List.getElem_toArray, List.getElem_cons_zero, List.getElem_cons_succ])
        refine wpAnyH_ready (rs := [5]) (by kernel_rfl) (by simp) ?_
        refine AllReadyH.cons rfl (fun Kx hKx => ?_) AllReadyH.nil
        go_simp
        have hcon := HPT.out w6
        with_reducible refine hcon.mono ?_
        clear hcon
        rintro e' w7 ⟨A7, c7, rfl, hc7, hr7, hff⟩
        have HFw7 : Hid (Fr (fun _ => False) w6 w7) := Lib.hid (hff)
        have HR7 := Lib.hid hr7
        clear hc7 hr7
        refine hKx.out _ _ ?_ (fun hHeld => ?_)
        · exact HFw7.out
        clear hKx Kx hff
        (try simp only [Act.put, List.setIfInBounds_toArray, List.set_cons_zero, List.set_cons_succ, List.getElem_toArray, List.getElem_cons_zero, List.getElem_cons_succ])
        refine wpAnyH_more (fun w' => Fr (fun _ => False) w7 w') (fun _ h => HFw7.out.trans h (fun _ _ h => h)) ?_ (fun hHeld => ?_)
        · exact Fr.refl _ _
        refine wpAnyH_take (i := 6) (v := ?vz56) rfl (by kernel_rfl) (by kernel_rfl) (by kernel_rfl) (fun _ _ _ h => h) (Or.inl ⟨by rfl, ?hyz56⟩) hHeld ?restz56
        case hyz56 => intro w hSw; (try dsimp only at hSw); have hcv := str_rd (HR7.out.fr hSw (fun _ _ h => h)) c7; go_simp; try (with_reducible rfl)
        (try simp only [Act.put, List.setIfInBounds_toArray, List.set_cons_zero, List.set_cons_succ, List.getElem_toArray, List.getElem_cons_zero, List.getElem_cons_succ])
        refine wpAnyH_take (i := 9) (v := ?vz59) rfl (by kernel_rfl) (by kernel_rfl) (by kernel_rfl) (fun _ _ _ h => h) (Or.inl ⟨by rfl, ?hyz59⟩) hHeld ?restz59
        case hyz59 => intro w hSw; (try dsimp only at hSw); go_simp; try (with_reducible rfl)
        (try simp only [Act.put, List.setIfInBounds_toArray, List.set_cons_zero, List.set_cons_succ, List.getElem_toArray, List.getElem_cons_zero, List.getElem_cons_succ])
        refine wpAnyH_take (i := 10) (v := ?vz510) rfl (by kernel_rfl) (by kernel_rfl) (by kernel_rfl) (fun _ _ _ h => h) (Or.inl ⟨by rfl, ?hyz510⟩) hHeld ?restz510
        case hyz510 => intro w hSw; (try dsimp only at hSw); go_simp; try (with_reducible rfl)
        (try simp only [Act.put, List.setIfInBounds_toArray, List.set_cons_zero, List.set_cons_succ, List.getElem_toArray, List.getElem_cons_zero, List.getElem_cons_succ])
        refine wpAnyH_done (by kernel_rfl) ?_ _
        have HGL := Lib.hid (((HGX.out.fr HFw6.out (fun h => h)).fr HFw7.out (fun h => h)))
        have HFL := Lib.hid (((HFX.out.trans HFw6.out (fun _ _ h => h)).trans HFw7.out (fun _ _ h => h)))
        obtain ⟨c0, c1, c2, c3⟩ := ((HPX.out.fr HFw6.out (fun h => h)).fr HFw7.out (fun h => h)).cells
        (try dsimp only at c0 c1 c2 c3)
        go_wp2_with (refine store_st vSz rfl (.tmp 4) (.tmp 119) rfl g (by rfl) (vls (⟨k, 0, 0, []⟩)) (by rfl) _ _ HGL.out rfl rfl (v_one _) ?_)
        intro w8 hr8 hf8
        have HR8 : Hid (RowV w8 g (⟨k, 0, 0, []⟩)) := Lib.hid hr8
        have HF8 := Lib.hid (HFL.out.trans hf8 (fun b hb h => by have := HGP.out; omega))
        have d0 := HR8.out.c0
        have d1 := HR8.out.c1
        have d2 := HR8.out.c2
        have d3 := HR8.out.c3
        clear hr8 hf8
        go_wp2_with fail
        refine bodyPost_ret (v := getR ((⟨k, 0, 0, []⟩), true)) (by simp [results, getR, valc, d0, d1, d2, d3, Try.results14, go_sem]) rfl ⟨by rw [← HAN.out], HF8.out⟩
      · have HAN : Hid ((zeroV, false) = ans) := Lib.hid (by rw [← han]; simp [hq])
        have hne : ((txt Y).toList == (txt B).toList) = false := by rw [beq_txt]; simp [hq]
        clear han hq
        refine wp_region_held_drew (S := fun w' => Fr (fun _ => False) w3 w') (by kernel_rfl) ?_ (fun hHeld => ?_)
        · exact (Fr.refl _ _).drew
        refine wpAnyH_take (i := 0) (v := ?vz60) rfl (by kernel_rfl) (by kernel_rfl) (by kernel_rfl) (fun _ _ _ h => h) (Or.inl ⟨by rfl, ?hyz60⟩) hHeld ?restz60
        case hyz60 => intro w hSw; (try dsimp only at hSw); obtain ⟨c0, c1, c2, c3⟩ := (HPX.out.fr hSw (fun h => h)).cells; (try dsimp only at c0 c1 c2 c3); go_simp; try (with_reducible rfl)
        (try simp only [Act.put, List.setIfInBounds_toArray, List.set_cons_zero, List.set_cons_succ, List.getElem_toArray, List.getElem_cons_zero])
        refine wpAnyH_ready (rs := [1]) (by kernel_rfl) (by simp) ?_
        refine AllReadyH.cons rfl (fun Kx hKx => ?_) AllReadyH.nil
        go_simp
        have hcon := HRT.out w3.drew
        with_reducible refine hcon.mono ?_
        clear hcon
        rintro e' w6 ⟨rfl, hff⟩
        have HFw6 : Hid (Fr (fun _ => False) w3 w6) := Lib.hid ((Fr.refl _ _).drew.trans hff (fun _ _ h => h))
        refine hKx.out _ _ ?_ (fun hHeld => ?_)
        · exact HFw6.out
        clear hKx Kx hff
        (try simp only [Act.put, List.setIfInBounds_toArray, List.set_cons_zero, List.set_cons_succ, List.getElem_toArray, List.getElem_cons_zero, List.getElem_cons_succ])
        refine wpAnyH_more (fun w' => Fr (fun _ => False) w6 w') (fun _ h => HFw6.out.trans h (fun _ _ h => h)) ?_ (fun hHeld => ?_)
        · exact Fr.refl _ _
        refine wpAnyH_take (i := 2) (v := ?vz62) rfl (by kernel_rfl) (by kernel_rfl) (by kernel_rfl) (fun _ _ _ h => h) (Or.inl ⟨by rfl, ?hyz62⟩) hHeld ?restz62
        case hyz62 => intro w hSw; (try dsimp only at hSw); go_simp; try (with_reducible rfl)
        (try simp only [Act.put, List.setIfInBounds_toArray, List.set_cons_zero, List.set_cons_succ, List.getElem_toArray, List.getElem_cons_zero, List.getElem_cons_succ])
        refine wpAnyH_take (i := 3) (v := ?vz63) rfl (by kernel_rfl) (by kernel_rfl) (by kernel_rfl) (fun _ _ _ h => h) (Or.inl ⟨by rfl, ?hyz63⟩) hHeld ?restz63
        case hyz63 => intro w hSw; (try dsimp only at hSw); go_simp; try (with_reducible rfl)
        (try simp only [Act.put, List.setIfInBounds_toArray, List.set_cons_zero, List.set_cons_succ, List.getElem_toArray, List.getElem_cons_zero, List.getElem_cons_succ])
        refine wpAnyH_take (i := 4) (v := ?vz64) rfl (by kernel_rfl) (by kernel_rfl) (by kernel_rfl) (fun _ _ _ h => h) (Or.inl ⟨by rfl, ?hyz64⟩) hHeld ?restz64
        case hyz64 => intro w hSw; (try dsimp only at hSw); obtain ⟨c0, c1, c2, c3⟩ := ((HPX.out.fr HFw6.out (fun h => h)).fr hSw (fun h => h)).cells; (try dsimp only at c0 c1 c2 c3); go_simp; try (with_reducible rfl)
        (try simp only [Act.put, List.setIfInBounds_toArray, List.set_cons_zero, List.set_cons_succ, List.getElem_toArray, List.getElem_cons_zero, List.getElem_cons_succ])
        refine wpAnyH_take (i := 7) (v := ?vz67) rfl (by kernel_rfl) (by kernel_rfl) (by kernel_rfl) (fun _ _ _ h => h) (Or.inl ⟨by rfl, ?hyz67⟩) hHeld ?restz67
        case hyz67 => intro w hSw; (try dsimp only at hSw); go_simp; try (with_reducible rfl)
        (try simp only [Act.put, List.setIfInBounds_toArray, List.set_cons_zero, List.set_cons_succ, List.getElem_toArray, List.getElem_cons_zero, List.getElem_cons_succ])
        refine wpAnyH_take (i := 8) (v := ?vz68) rfl (by kernel_rfl) (by kernel_rfl) (by kernel_rfl) (fun _ _ _ h => h) (Or.inl ⟨by rfl, ?hyz68⟩) hHeld ?restz68
        case hyz68 => intro w hSw; (try dsimp only at hSw); have hcv := str_rd (((HRD.out.fr HFX.out (fun _ _ h => h)).fr HFw6.out (fun _ _ h => h)).fr hSw (fun _ _ h => h)) c; go_simp; try (with_reducible rfl)
        (try simp only [Act.put, List.setIfInBounds_toArray, List.set_cons_zero, List.set_cons_succ, List.getElem_toArray, List.getElem_cons_zero, List.getElem_cons_succ])
        refine wpAnyH_ready (rs := [5]) (by kernel_rfl) (by simp) ?_
        refine AllReadyH.cons rfl (fun Kx hKx => ?_) AllReadyH.nil
        go_simp
        have hcon := HPT.out w6
        with_reducible refine hcon.mono ?_
        clear hcon
        rintro e' w7 ⟨A7, c7, rfl, hc7, hr7, hff⟩
        have HFw7 : Hid (Fr (fun _ => False) w6 w7) := Lib.hid (hff)
        have HR7 := Lib.hid hr7
        clear hc7 hr7
        refine hKx.out _ _ ?_ (fun hHeld => ?_)
        · exact HFw7.out
        clear hKx Kx hff
        (try simp only [Act.put, List.setIfInBounds_toArray, List.set_cons_zero, List.set_cons_succ, List.getElem_toArray, List.getElem_cons_zero, List.getElem_cons_succ])
        refine wpAnyH_more (fun w' => Fr (fun _ => False) w7 w') (fun _ h => HFw7.out.trans h (fun _ _ h => h)) ?_ (fun hHeld => ?_)
        · exact Fr.refl _ _
        refine wpAnyH_take (i := 6) (v := ?vz66) rfl (by kernel_rfl) (by kernel_rfl) (by kernel_rfl) (fun _ _ _ h => h) (Or.inl ⟨by rfl, ?hyz66⟩) hHeld ?restz66
        case hyz66 => intro w hSw; (try dsimp only at hSw); have hcv := str_rd (HR7.out.fr hSw (fun _ _ h => h)) c7; go_simp; try (with_reducible rfl)
        (try simp only [Act.put, List.setIfInBounds_toArray, List.set_cons_zero, List.set_cons_succ, List.getElem_toArray, List.getElem_cons_zero, List.getElem_cons_succ])
        refine wpAnyH_take (i := 9) (v := ?vz69) rfl (by kernel_rfl) (by kernel_rfl) (by kernel_rfl) (fun _ _ _ h => h) (Or.inl ⟨by rfl, ?hyz69⟩) hHeld ?restz69
        case hyz69 => intro w hSw; (try dsimp only at hSw); go_simp; try (with_reducible rfl)
        (try simp only [Act.put, List.setIfInBounds_toArray, List.set_cons_zero, List.set_cons_succ, List.getElem_toArray, List.getElem_cons_zero, List.getElem_cons_succ])
        refine wpAnyH_take (i := 10) (v := ?vz610) rfl (by kernel_rfl) (by kernel_rfl) (by kernel_rfl) (fun _ _ _ h => h) (Or.inl ⟨by rfl, ?hyz610⟩) hHeld ?restz610
        case hyz610 => intro w hSw; (try dsimp only at hSw); go_simp; try (with_reducible rfl)
        (try simp only [Act.put, List.setIfInBounds_toArray, List.set_cons_zero, List.set_cons_succ, List.getElem_toArray, List.getElem_cons_zero, List.getElem_cons_succ])
        refine wpAnyH_done (by kernel_rfl) ?_ _
        have HGL := Lib.hid (((HGX.out.fr HFw6.out (fun h => h)).fr HFw7.out (fun h => h)))
        have HFL := Lib.hid (((HFX.out.trans HFw6.out (fun _ _ h => h)).trans HFw7.out (fun _ _ h => h)))
        go_wp2_with (refine store_st vSz rfl (.tmp 4) (.tmp 118) rfl g (by rfl) (vls zeroV) (by rfl) _ _ HGL.out rfl rfl (v_one _) ?_)
        intro w8 hr8 hf8
        have HR8 : Hid (RowV w8 g zeroV) := Lib.hid hr8
        have HF8 := Lib.hid (HFL.out.trans hf8 (fun b hb h => by have := HGP.out; omega))
        have d0 := HR8.out.c0
        have d1 := HR8.out.c1
        have d2 := HR8.out.c2
        have d3 := HR8.out.c3
        clear hr8 hf8
        go_wp2_with fail
        refine bodyPost_ret (v := getR (zeroV, false)) (by simp [results, getR, valc, d0, d1, d2, d3, Try.results14, go_sem]) rfl ⟨by rw [← HAN.out], HF8.out⟩

set_option maxRecDepth 100000 in
set_option maxHeartbeats 6400000 in
theorem rgetO3_any (k : Int) (A : Option Addr) (n c : Nat) (B : List UInt8) (w : World) (hk : -9223372036854775808 ≤ k ∧ k < 9223372036854775808) (hr : Rd w A n (B.map bytec)) (hc : n ≤ c) (hn : n ≤ 1000000) (h : cl k = 3) :
    Calls Try.prog 14 #[.int .i64 k, .slice A n c] w fun e w' => e = .returned (getR (getV k B)) ∧ Fr (fun _ => False) w w' := by
  have hBn : B.length = n := by simpa using hr.1
  obtain ⟨ans, hans⟩ : ∃ ans, getV k B = ans := ⟨_, rfl⟩
  rw [hans]
  obtain ⟨g, hg⟩ : ∃ g, w.heap.size = g := ⟨_, rfl⟩
  obtain ⟨w1, hw1⟩ : ∃ w1, w.alloc (.cells #[.int .i64 0, .int .u64 0, .int .i64 0, .string ⟨#[]⟩] 24) = w1 := ⟨_, rfl⟩
  have hf1 : Fr (fun _ => False) w w1 := by rw [← hw1]; exact (Fr.refl _ _).alloc _
  have hr1 : RowV w1 g zeroV := by rw [← hw1, ← hg]; exact RowV.new w zeroV
  obtain ⟨p, hp⟩ : ∃ p, w1.heap.size = p := ⟨_, rfl⟩
  obtain ⟨w2, hw2⟩ : ∃ w2, w1.alloc (.cells #[.int .i64 0, .int .u64 0, .int .i64 0, .string ⟨#[]⟩] 24) = w2 := ⟨_, rfl⟩
  have hf2 : Fr (fun _ => False) w1 w2 := by rw [← hw2]; exact (Fr.refl _ _).alloc _
  have hp2 : RowV w2 p zeroV := by rw [← hw2, ← hp]; exact RowV.new w1 zeroV
  have HR2 := Lib.hid (hr1.fr hf2 (fun h => h))
  have HP2 := Lib.hid hp2
  have HGP : Hid (g ≠ p ∧ w.heap.size ≤ p ∧ w.heap.size = g) := Lib.hid (by have h1 := hr1.lt; have h2 := hf1.size; omega)
  have HF2 := Lib.hid (hf1.trans hf2 (fun _ _ h => h))
  have HRD := Lib.hid hr
  have HBN := Lib.hid hBn
  have HKB := Lib.hid hk
  have han := get_text (B := B) (Or.inl h)
  rw [hans] at han
  have HAN := Lib.hid han.symm
  clear han
  clear hf1 hr1 hf2 hp2 hans hk hr hBn
  have he : k = 5 := by have := cl3 h; omega
  have t3 : (k == 3) = false := by simp; omega
  have t4 : (k == 4) = false := by simp; omega
  have t7 : (k == 7) = false := by simp; omega
  have t8 : (k == 8) = false := by simp; omega
  have t5 : (k == 5) = true := by simp; omega
  clear he h
  all_goals
    go_enter Try.func14, Try.ntmps14
    go_upto_region 2 with (refine store_st vSz rfl (.tmp 6) (.tmp 15) rfl p (by rfl) (vls ⟨k, 0, 0, []⟩) (by rfl) _ _ HP2.out rfl rfl (v_one _) ?_)
    intro w3 hr3 hf3
    clear hw1 hw2 hg hp
    have HP3 : Hid (RowV w3 p ⟨k, 0, 0, []⟩) := Lib.hid hr3
    have HG3 := Lib.hid (HR2.out.fr hf3 HGP.out.1)
    have HF3 := Lib.hid (HF2.out.trans hf3 (fun b hb h => by have := HGP.out.2; omega))
    clear hr3 hf3
    have hcv := str_rd (HRD.out.fr HF3.out (fun _ _ h => h)) c
    have f1 : w3.frozen? ⟨p, 3, none⟩ = false := Row.free HP3.out 3
    have i0 : w3.cell? ⟨p, 3, none⟩ = some (.string (txt [])) := Row.cell HP3.out rfl
    obtain ⟨w4, hw4⟩ : ∃ w4, w3.setCell ⟨p, 3, none⟩ (.string (txt B)) = w4 := ⟨_, rfl⟩
    have h4 := Row.set HP3.out 3 (.string (txt B))
    rw [hw4] at h4
    have HP4 : Hid (RowV w4 p ⟨k, 0, 0, B⟩) := Lib.hid h4
    have hf4 : Fr (fun b => b = p) w3 w4 := by rw [← hw4]; exact Fr.set1 _ _ _ _
    have HG4 := Lib.hid (HG3.out.fr hf4 HGP.out.1)
    have HF4 := Lib.hid (HF3.out.trans hf4 (fun b hb h => by have := HGP.out.2; omega))
    clear h4 hf4
    go_upto_region 28 with fail
    clear hcv f1 i0 hw4 HP3 HG3 HF3
    have HPX := HP4
    have HGX := HG4
    have HFX := HF4
    clear HP4 HG4 HF4
    have hyo : V.ok (⟨k, 0, 0, B⟩) := ⟨HKB.out, by show (0 : Nat) < _; omega, by show (-9223372036854775808 : Int) ≤ 0 ∧ (0 : Int) < _; omega⟩
    have hrt := fun w => rvRight_any (⟨k, 0, 0, B⟩) w hyo (by have := HBN.out; simp; try omega)
    have hpt := fun w => rvPut_any (⟨k, 0, 0, B⟩) w hyo
    obtain ⟨b1, hb1⟩ : ∃ b1, rightV (⟨k, 0, 0, B⟩) = b1 := ⟨_, rfl⟩
    obtain ⟨Y, hY⟩ : ∃ Y, putV (⟨k, 0, 0, B⟩) = Y := ⟨_, rfl⟩
    have han := HAN.out
    unfold endG at han
    rw [hb1, hY] at han
    simp only [hb1, valc] at hrt
    simp only [hY, valc] at hpt
    (try rw [show ((0 : Nat) : Int) = 0 from rfl] at hrt)
    (try rw [show ((0 : Nat) : Int) = 0 from rfl] at hpt)
    have HRT := Lib.hid hrt
    have HPT := Lib.hid hpt
    clear hyo hrt hpt hb1 hY HAN
    cases b1
    · have HAN : Hid ((zeroV, false) = ans) := Lib.hid han
      clear han
      refine wp_region_held_drew (S := fun w' => Fr (fun _ => False) w4 w') (by kernel_rfl) ?_ (fun hHeld => ?_)
      · exact (Fr.refl _ _).drew
      refine wpAnyH_take (i := 0) (v := ?vz70) rfl (by kernel_rfl) (by kernel_rfl) (by kernel_rfl) (fun _ _ _ h => h) (Or.inl ⟨by rfl, ?hyz70⟩) hHeld ?restz70
      case hyz70 => intro w hSw; (try dsimp only at hSw); obtain ⟨c0, c1, c2, c3⟩ := (HPX.out.fr hSw (fun h => h)).cells; (try dsimp only at c0 c1 c2 c3); go_simp; try (with_reducible rfl)
      (try simp only [Act.put, List.setIfInBounds_toArray, List.set_cons_zero, List.set_cons_succ, List.getElem_toArray, List.getElem_cons_zero])
      refine wpAnyH_ready (rs := [1]) (by kernel_rfl) (by simp) ?_
      refine AllReadyH.cons rfl (fun Kx hKx => ?_) AllReadyH.nil
      go_simp
      have hcon := HRT.out w4.drew
      with_reducible refine hcon.mono ?_
      clear hcon
      rintro e' w6 ⟨rfl, hff⟩
      have HFw6 : Hid (Fr (fun _ => False) w4 w6) := Lib.hid ((Fr.refl _ _).drew.trans hff (fun _ _ h => h))
      refine hKx.out _ _ ?_ (fun hHeld => ?_)
      · exact HFw6.out
      clear hKx Kx hff
      (try simp only [Act.put, List.setIfInBounds_toArray, List.set_cons_zero, List.set_cons_succ, List.getElem_toArray, List.getElem_cons_zero, List.getElem_cons_succ])
      refine wpAnyH_more (fun w' => Fr (fun _ => False) w6 w') (fun _ h => HFw6.out.trans h (fun _ _ h => h)) ?_ (fun hHeld => ?_)
      · exact Fr.refl _ _
      refine wpAnyH_take (i := 2) (v := ?vz72) rfl (by kernel_rfl) (by kernel_rfl) (by kernel_rfl) (fun _ _ _ h => h) (Or.inl ⟨by rfl, ?hyz72⟩) hHeld ?restz72
      case hyz72 => intro w hSw; (try dsimp only at hSw); go_simp; try (with_reducible rfl)
      (try simp only [Act.put, List.setIfInBounds_toArray, List.set_cons_zero, List.set_cons_succ, List.getElem_toArray, List.getElem_cons_zero, List.getElem_cons_succ])
      refine wpAnyH_take (i := 3) (v := ?vz73) rfl (by kernel_rfl) (by kernel_rfl) (by kernel_rfl) (fun _ _ _ h => h) (Or.inl ⟨by rfl, ?hyz73⟩) hHeld ?restz73
      case hyz73 => intro w hSw; (try dsimp only at hSw); go_simp; try (with_reducible rfl)
      (try simp only [Act.put, List.setIfInBounds_toArray, List.set_cons_zero, List.set_cons_succ, List.getElem_toArray, List.getElem_cons_zero, List.getElem_cons_succ])
      refine wpAnyH_take (i := 4) (v := undef) rfl (by kernel_rfl) (by kernel_rfl) (by kernel_rfl) (fun _ _ _ h => h) (Or.inr ⟨by rfl, rfl⟩) hHeld ?_
      (try simp only [Act.put, List.setIfInBounds_toArray, List.set_cons_zero, List.set_cons_succ, List.getElem_toArray, List.getElem_cons_zero, List.getElem_cons_succ])
      refine wpAnyH_take (i := 5) (v := undef) rfl (by kernel_rfl) (by kernel_rfl) (by kernel_rfl) (fun _ _ _ h => h) (Or.inr ⟨by rfl, rfl⟩) hHeld ?_
      (try simp only [Act.put, List.setIfInBounds_toArray, List.set_cons_zero, List.set_cons_succ, List.getElem_toArray, List.getElem_cons_zero, List.getElem_cons_succ])
      refine wpAnyH_take (i := 6) (v := undef) rfl (by kernel_rfl) (by kernel_rfl) (by kernel_rfl) (fun _ _ _ h => h) (Or.inr ⟨by rfl, rfl⟩) hHeld ?_
      (try simp only [Act.put, List.setIfInBounds_toArray, List.set_cons_zero, List.set_cons_succ, List.getElem_toArray, List.getElem_cons_zero, List.getElem_cons_succ])
      refine wpAnyH_take (i := 7) (v := undef) rfl (by kernel_rfl) (by kernel_rfl) (by kernel_rfl) (fun _ _ _ h => h) (Or.inr ⟨by rfl, rfl⟩) hHeld ?_
      (try simp only [Act.put, List.setIfInBounds_toArray, List.set_cons_zero, List.set_cons_succ, List.getElem_toArray, List.getElem_cons_zero, List.getElem_cons_succ])
      refine wpAnyH_take (i := 8) (v := undef) rfl (by kernel_rfl) (by kernel_rfl) (by kernel_rfl) (fun _ _ _ h => h) (Or.inr ⟨by rfl, rfl⟩) hHeld ?_
      (try simp only [Act.put, List.setIfInBounds_toArray, List.set_cons_zero, List.set_cons_succ, List.getElem_toArray, List.getElem_cons_zero, List.getElem_cons_succ])
      refine wpAnyH_take (i := 9) (v := undef) rfl (by kernel_rfl) (by kernel_rfl) (by kernel_rfl) (fun _ _ _ h => h) (Or.inr ⟨by rfl, rfl⟩) hHeld ?_
      (try simp only [Act.put, List.setIfInBounds_toArray, List.set_cons_zero, List.set_cons_succ, List.getElem_toArray, List.getElem_cons_zero, List.getElem_cons_succ])
      refine wpAnyH_take (i := 10) (v := ?vz710) rfl (by kernel_rfl) (by kernel_rfl) (by kernel_rfl) (fun _ _ _ h => h) (Or.inl ⟨by rfl, ?hyz710⟩) hHeld ?restz710
      case hyz710 => intro w hSw; (try dsimp only at hSw); go_simp; try (with_reducible rfl)
      (try simp only [Act.put, List.setIfInBounds_toArray, List.set_cons_zero, List.set_cons_succ, List.getElem_toArray, List.getElem_cons_zero, List.getElem_cons_succ])
      refine wpAnyH_done (by kernel_rfl) ?_ _
      have HGL := Lib.hid ((HGX.out.fr HFw6.out (fun h => h)))
      have HFL := Lib.hid ((HFX.out.trans HFw6.out (fun _ _ h => h)))
      go_wp2_with (refine store_st vSz rfl (.tmp 4) (.tmp 118) rfl g (by rfl) (vls zeroV) (by rfl) _ _ HGL.out rfl rfl (v_one _) ?_)
      intro w8 hr8 hf8
      have HR8 : Hid (RowV w8 g zeroV) := Lib.hid hr8
      have HF8 := Lib.hid (HFL.out.trans hf8 (fun b hb h => by have := HGP.out; omega))
      have d0 := HR8.out.c0
      have d1 := HR8.out.c1
      have d2 := HR8.out.c2
      have d3 := HR8.out.c3
      clear hr8 hf8
      go_wp2_with fail
      refine bodyPost_ret (v := getR (zeroV, false)) (by simp [results, getR, valc, d0, d1, d2, d3, Try.results14, go_sem]) rfl ⟨by rw [← HAN.out], HF8.out⟩
    · by_cases hq : Y = B
      · have HAN : Hid ((⟨k, 0, 0, B⟩, true) = ans) := Lib.hid (by rw [← han]; simp [hq])
        obtain rfl : B = Y := hq.symm
        clear han hq
        refine wp_region_held_drew (S := fun w' => Fr (fun _ => False) w4 w') (by kernel_rfl) ?_ (fun hHeld => ?_)
        · exact (Fr.refl _ _).drew
        refine wpAnyH_take (i := 0) (v := ?vz80) rfl (by kernel_rfl) (by kernel_rfl) (by kernel_rfl) (fun _ _ _ h => h) (Or.inl ⟨by rfl, ?hyz80⟩) hHeld ?restz80
        case hyz80 => intro w hSw; (try dsimp only at hSw); obtain ⟨c0, c1, c2, c3⟩ := (HPX.out.fr hSw (fun h => h)).cells; (try dsimp only at c0 c1 c2 c3); go_simp; try (with_reducible rfl)
        (try simp only [Act.put, List.setIfInBounds_toArray, List.set_cons_zero, List.set_cons_succ, List.getElem_toArray, List.getElem_cons_zero])
        refine wpAnyH_ready (rs := [1]) (by kernel_rfl) (by simp) ?_
        refine AllReadyH.cons rfl (fun Kx hKx => ?_) AllReadyH.nil
        go_simp
        have hcon := HRT.out w4.drew
        with_reducible refine hcon.mono ?_
        clear hcon
        rintro e' w6 ⟨rfl, hff⟩
        have HFw6 : Hid (Fr (fun _ => False) w4 w6) := Lib.hid ((Fr.refl _ _).drew.trans hff (fun _ _ h => h))
        refine hKx.out _ _ ?_ (fun hHeld => ?_)
        · exact HFw6.out
        clear hKx Kx hff
        (try simp only [Act.put, List.setIfInBounds_toArray, List.set_cons_zero, List.set_cons_succ, List.getElem_toArray, List.getElem_cons_zero, List.getElem_cons_succ])
        refine wpAnyH_more (fun w' => Fr (fun _ => False) w6 w') (fun _ h => HFw6.out.trans h (fun _ _ h => h)) ?_ (fun hHeld => ?_)
        · exact Fr.refl _ _
        refine wpAnyH_take (i := 2) (v := ?vz82) rfl (by kernel_rfl) (by kernel_rfl) (by kernel_rfl) (fun _ _ _ h => h) (Or.inl ⟨by rfl, ?hyz82⟩) hHeld ?restz82
        case hyz82 => intro w hSw; (try dsimp only at hSw); go_simp; try (with_reducible rfl)
        (try simp only [Act.put, List.setIfInBounds_toArray, List.set_cons_zero, List.set_cons_succ, List.getElem_toArray, List.getElem_cons_zero, List.getElem_cons_succ])
        refine wpAnyH_take (i := 3) (v := ?vz83) rfl (by kernel_rfl) (by kernel_rfl) (by kernel_rfl) (fun _ _ _ h => h) (Or.inl ⟨by rfl, ?hyz83⟩) hHeld ?restz83
        case hyz83 => intro w hSw; (try dsimp only at hSw); go_simp; try (with_reducible rfl)
        (try simp only [Act.put, List.setIfInBounds_toArray, List.set_cons_zero, List.set_cons_succ, List.getElem_toArray, List.getElem_cons_zero, List.getElem_cons_succ])
        refine wpAnyH_take (i := 4) (v := ?vz84) rfl (by kernel_rfl) (by kernel_rfl) (by kernel_rfl) (fun _ _ _ h => h) (Or.inl ⟨by rfl, ?hyz84⟩) hHeld ?restz84
        case hyz84 => intro w hSw; (try dsimp only at hSw); obtain ⟨c0, c1, c2, c3⟩ := ((HPX.out.fr HFw6.out (fun h => h)).fr hSw (fun h => h)).cells; (try dsimp only at c0 c1 c2 c3); go_simp; try (with_reducible rfl)
        (try simp only [Act.put, List.setIfInBounds_toArray, List.set_cons_zero, List.set_cons_succ, List.getElem_toArray, List.getElem_cons_zero, List.getElem_cons_succ])
        refine wpAnyH_take (i := 7) (v := ?vz87) rfl (by kernel_rfl) (by kernel_rfl) (by kernel_rfl) (fun _ _ _ h => h) (Or.inl ⟨by rfl, ?hyz87⟩) hHeld ?restz87
        case hyz87 => intro w hSw; (try dsimp only at hSw); go_simp; try (with_reducible rfl)
        (try simp only [Act.put, List.setIfInBounds_toArray, List.set_cons_zero, List.set_cons_succ, List.getElem_toArray, List.getElem_cons_zero, List.getElem_cons_succ])
        refine wpAnyH_take (i := 8) (v := ?vz88) rfl (by kernel_rfl) (by kernel_rfl) (by kernel_rfl) (fun _ _ _ h => h) (Or.inl ⟨by rfl, ?hyz88⟩) hHeld ?restz88
        case hyz88 => intro w hSw; (try dsimp only at hSw); have hcv := str_rd (((HRD.out.fr HFX.out (fun _ _ h => h)).fr HFw6.out (fun _ _ h => h)).fr hSw (fun _ _ h => h)) c; go_simp; try (with_reducible rfl)
        (try simp only [Act.put, List.setIfInBounds_toArray, List.set_cons_zero, List.set_cons_succ, List.getElem_toArray, List.getElem_cons_zero, List.getElem_cons_succ])
        refine wpAnyH_ready (rs := [5]) (by kernel_rfl) (by simp) ?_
        refine AllReadyH.cons rfl (fun Kx hKx => ?_) AllReadyH.nil
        go_simp
        have hcon := HPT.out w6
        with_reducible refine hcon.mono ?_
        clear hcon
        rintro e' w7 ⟨A7, c7, rfl, hc7, hr7, hff⟩
        have HFw7 : Hid (Fr (fun _ => False) w6 w7) := Lib.hid (hff)
        have HR7 := Lib.hid hr7
        clear hc7 hr7
        refine hKx.out _ _ ?_ (fun hHeld => ?_)
        · exact HFw7.out
        clear hKx Kx hff
        (try simp only [Act.put, List.setIfInBounds_toArray, List.set_cons_zero, List.set_cons_succ, List.getElem_toArray, List.getElem_cons_zero, List.getElem_cons_succ])
        refine wpAnyH_more (fun w' => Fr (fun _ => False) w7 w') (fun _ h => HFw7.out.trans h (fun _ _ h => h)) ?_ (fun hHeld => ?_)
        · exact Fr.refl _ _
        refine wpAnyH_take (i := 6) (v := ?vz86) rfl (by kernel_rfl) (by kernel_rfl) (by kernel_rfl) (fun _ _ _ h => h) (Or.inl ⟨by rfl, ?hyz86⟩) hHeld ?restz86
        case hyz86 => intro w hSw; (try dsimp only at hSw); have hcv := str_rd (HR7.out.fr hSw (fun _ _ h => h)) c7; go_simp; try (with_reducible rfl)
        (try simp only [Act.put, List.setIfInBounds_toArray, List.set_cons_zero, List.set_cons_succ, List.getElem_toArray, List.getElem_cons_zero, List.getElem_cons_succ])
        refine wpAnyH_take (i := 9) (v := ?vz89) rfl (by kernel_rfl) (by kernel_rfl) (by kernel_rfl) (fun _ _ _ h => h) (Or.inl ⟨by rfl, ?hyz89⟩) hHeld ?restz89
        case hyz89 => intro w hSw; (try dsimp only at hSw); go_simp; try (with_reducible rfl)
        (try simp only [Act.put, List.setIfInBounds_toArray, List.set_cons_zero, List.set_cons_succ, List.getElem_toArray, List.getElem_cons_zero, List.getElem_cons_succ])
        refine wpAnyH_take (i := 10) (v := ?vz810) rfl (by kernel_rfl) (by kernel_rfl) (by kernel_rfl) (fun _ _ _ h => h) (Or.inl ⟨by rfl, ?hyz810⟩) hHeld ?restz810
        case hyz810 => intro w hSw; (try dsimp only at hSw); go_simp; try (with_reducible rfl)
        (try simp only [Act.put, List.setIfInBounds_toArray, List.set_cons_zero, List.set_cons_succ, List.getElem_toArray, List.getElem_cons_zero, List.getElem_cons_succ])
        refine wpAnyH_done (by kernel_rfl) ?_ _
        have HGL := Lib.hid (((HGX.out.fr HFw6.out (fun h => h)).fr HFw7.out (fun h => h)))
        have HFL := Lib.hid (((HFX.out.trans HFw6.out (fun _ _ h => h)).trans HFw7.out (fun _ _ h => h)))
        obtain ⟨c0, c1, c2, c3⟩ := ((HPX.out.fr HFw6.out (fun h => h)).fr HFw7.out (fun h => h)).cells
        (try dsimp only at c0 c1 c2 c3)
        go_wp2_with (refine store_st vSz rfl (.tmp 4) (.tmp 119) rfl g (by rfl) (vls (⟨k, 0, 0, B⟩)) (by rfl) _ _ HGL.out rfl rfl (v_one _) ?_)
        intro w8 hr8 hf8
        have HR8 : Hid (RowV w8 g (⟨k, 0, 0, B⟩)) := Lib.hid hr8
        have HF8 := Lib.hid (HFL.out.trans hf8 (fun b hb h => by have := HGP.out; omega))
        have d0 := HR8.out.c0
        have d1 := HR8.out.c1
        have d2 := HR8.out.c2
        have d3 := HR8.out.c3
        clear hr8 hf8
        go_wp2_with fail
        refine bodyPost_ret (v := getR ((⟨k, 0, 0, B⟩), true)) (by simp [results, getR, valc, d0, d1, d2, d3, Try.results14, go_sem]) rfl ⟨by rw [← HAN.out], HF8.out⟩
      · have HAN : Hid ((zeroV, false) = ans) := Lib.hid (by rw [← han]; simp [hq])
        have hne : ((txt Y).toList == (txt B).toList) = false := by rw [beq_txt]; simp [hq]
        clear han hq
        refine wp_region_held_drew (S := fun w' => Fr (fun _ => False) w4 w') (by kernel_rfl) ?_ (fun hHeld => ?_)
        · exact (Fr.refl _ _).drew
        refine wpAnyH_take (i := 0) (v := ?vz90) rfl (by kernel_rfl) (by kernel_rfl) (by kernel_rfl) (fun _ _ _ h => h) (Or.inl ⟨by rfl, ?hyz90⟩) hHeld ?restz90
        case hyz90 => intro w hSw; (try dsimp only at hSw); obtain ⟨c0, c1, c2, c3⟩ := (HPX.out.fr hSw (fun h => h)).cells; (try dsimp only at c0 c1 c2 c3); go_simp; try (with_reducible rfl)
        (try simp only [Act.put, List.setIfInBounds_toArray, List.set_cons_zero, List.set_cons_succ, List.getElem_toArray, List.getElem_cons_zero])
        refine wpAnyH_ready (rs := [1]) (by kernel_rfl) (by simp) ?_
        refine AllReadyH.cons rfl (fun Kx hKx => ?_) AllReadyH.nil
        go_simp
        have hcon := HRT.out w4.drew
        with_reducible refine hcon.mono ?_
        clear hcon
        rintro e' w6 ⟨rfl, hff⟩
        have HFw6 : Hid (Fr (fun _ => False) w4 w6) := Lib.hid ((Fr.refl _ _).drew.trans hff (fun _ _ h => h))
        refine hKx.out _ _ ?_ (fun hHeld => ?_)
        · exact HFw6.out
        clear hKx Kx hff
        (try simp only [Act.put, List.setIfInBounds_toArray, List.set_cons_zero, List.set_cons_succ, List.getElem_toArray, List.getElem_cons_zero, List.getElem_cons_succ])
        refine wpAnyH_more (fun w' => Fr (fun _ => False) w6 w') (fun _ h => HFw6.out.trans h (fun _ _ h => h)) ?_ (fun hHeld => ?_)
        · exact Fr.refl _ _
        refine wpAnyH_take (i := 2) (v := ?vz92) rfl (by kernel_rfl) (by kernel_rfl) (by kernel_rfl) (fun _ _ _ h => h) (Or.inl ⟨by rfl, ?hyz92⟩) hHeld ?restz92
        case hyz92 => intro w hSw; (try dsimp only at hSw); go_simp; try (with_reducible rfl)
        (try simp only [Act.put, List.setIfInBounds_toArray, List.set_cons_zero, List.set_cons_succ, List.getElem_toArray, List.getElem_cons_zero, List.getElem_cons_succ])
        refine wpAnyH_take (i := 3) (v := ?vz93) rfl (by kernel_rfl) (by kernel_rfl) (by kernel_rfl) (fun _ _ _ h => h) (Or.inl ⟨by rfl, ?hyz93⟩) hHeld ?restz93
        case hyz93 => intro w hSw; (try dsimp only at hSw); go_simp; try (with_reducible rfl)
        (try simp only [Act.put, List.setIfInBounds_toArray, List.set_cons_zero, List.set_cons_succ, List.getElem_toArray, List.getElem_cons_zero, List.getElem_cons_succ])
        refine wpAnyH_take (i := 4) (v := ?vz94) rfl (by kernel_rfl) (by kernel_rfl) (by kernel_rfl) (fun _ _ _ h => h) (Or.inl ⟨by rfl, ?hyz94⟩) hHeld ?restz94
        case hyz94 => intro w hSw; (try dsimp only at hSw); obtain ⟨c0, c1, c2, c3⟩ := ((HPX.out.fr HFw6.out (fun h => h)).fr hSw (fun h => h)).cells; (try dsimp only at c0 c1 c2 c3); go_simp; try (with_reducible rfl)
        (try simp only [Act.put, List.setIfInBounds_toArray, List.set_cons_zero, List.set_cons_succ, List.getElem_toArray, List.getElem_cons_zero, List.getElem_cons_succ])
        refine wpAnyH_take (i := 7) (v := ?vz97) rfl (by kernel_rfl) (by kernel_rfl) (by kernel_rfl) (fun _ _ _ h => h) (Or.inl ⟨by rfl, ?hyz97⟩) hHeld ?restz97
        case hyz97 => intro w hSw; (try dsimp only at hSw); go_simp; try (with_reducible rfl)
        (try simp only [Act.put, List.setIfInBounds_toArray, List.set_cons_zero, List.set_cons_succ, List.getElem_toArray, List.getElem_cons_zero, List.getElem_cons_succ])
        refine wpAnyH_take (i := 8) (v := ?vz98) rfl (by kernel_rfl) (by kernel_rfl) (by kernel_rfl) (fun _ _ _ h => h) (Or.inl ⟨by rfl, ?hyz98⟩) hHeld ?restz98
        case hyz98 => intro w hSw; (try dsimp only at hSw); have hcv := str_rd (((HRD.out.fr HFX.out (fun _ _ h => h)).fr HFw6.out (fun _ _ h => h)).fr hSw (fun _ _ h => h)) c; go_simp; try (with_reducible rfl)
        (try simp only [Act.put, List.setIfInBounds_toArray, List.set_cons_zero, List.set_cons_succ, List.getElem_toArray, List.getElem_cons_zero, List.getElem_cons_succ])
        refine wpAnyH_ready (rs := [5]) (by kernel_rfl) (by simp) ?_
        refine AllReadyH.cons rfl (fun Kx hKx => ?_) AllReadyH.nil
        go_simp
        have hcon := HPT.out w6
        with_reducible refine hcon.mono ?_
        clear hcon
        rintro e' w7 ⟨A7, c7, rfl, hc7, hr7, hff⟩
        have HFw7 : Hid (Fr (fun _ => False) w6 w7) := Lib.hid (hff)
        have HR7 := Lib.hid hr7
        clear hc7 hr7
        refine hKx.out _ _ ?_ (fun hHeld => ?_)
        · exact HFw7.out
        clear hKx Kx hff
        (try simp only [Act.put, List.setIfInBounds_toArray, List.set_cons_zero, List.set_cons_succ, List.getElem_toArray, List.getElem_cons_zero, List.getElem_cons_succ])
        refine wpAnyH_more (fun w' => Fr (fun _ => False) w7 w') (fun _ h => HFw7.out.trans h (fun _ _ h => h)) ?_ (fun hHeld => ?_)
        · exact Fr.refl _ _
        refine wpAnyH_take (i := 6) (v := ?vz96) rfl (by kernel_rfl) (by kernel_rfl) (by kernel_rfl) (fun _ _ _ h => h) (Or.inl ⟨by rfl, ?hyz96⟩) hHeld ?restz96
        case hyz96 => intro w hSw; (try dsimp only at hSw); have hcv := str_rd (HR7.out.fr hSw (fun _ _ h => h)) c7; go_simp; try (with_reducible rfl)
        (try simp only [Act.put, List.setIfInBounds_toArray, List.set_cons_zero, List.set_cons_succ, List.getElem_toArray, List.getElem_cons_zero, List.getElem_cons_succ])
        refine wpAnyH_take (i := 9) (v := ?vz99) rfl (by kernel_rfl) (by kernel_rfl) (by kernel_rfl) (fun _ _ _ h => h) (Or.inl ⟨by rfl, ?hyz99⟩) hHeld ?restz99
        case hyz99 => intro w hSw; (try dsimp only at hSw); go_simp; try (with_reducible rfl)
        (try simp only [Act.put, List.setIfInBounds_toArray, List.set_cons_zero, List.set_cons_succ, List.getElem_toArray, List.getElem_cons_zero, List.getElem_cons_succ])
        refine wpAnyH_take (i := 10) (v := ?vz910) rfl (by kernel_rfl) (by kernel_rfl) (by kernel_rfl) (fun _ _ _ h => h) (Or.inl ⟨by rfl, ?hyz910⟩) hHeld ?restz910
        case hyz910 => intro w hSw; (try dsimp only at hSw); go_simp; try (with_reducible rfl)
        (try simp only [Act.put, List.setIfInBounds_toArray, List.set_cons_zero, List.set_cons_succ, List.getElem_toArray, List.getElem_cons_zero, List.getElem_cons_succ])
        refine wpAnyH_done (by kernel_rfl) ?_ _
        have HGL := Lib.hid (((HGX.out.fr HFw6.out (fun h => h)).fr HFw7.out (fun h => h)))
        have HFL := Lib.hid (((HFX.out.trans HFw6.out (fun _ _ h => h)).trans HFw7.out (fun _ _ h => h)))
        go_wp2_with (refine store_st vSz rfl (.tmp 4) (.tmp 118) rfl g (by rfl) (vls zeroV) (by rfl) _ _ HGL.out rfl rfl (v_one _) ?_)
        intro w8 hr8 hf8
        have HR8 : Hid (RowV w8 g zeroV) := Lib.hid hr8
        have HF8 := Lib.hid (HFL.out.trans hf8 (fun b hb h => by have := HGP.out; omega))
        have d0 := HR8.out.c0
        have d1 := HR8.out.c1
        have d2 := HR8.out.c2
        have d3 := HR8.out.c3
        clear hr8 hf8
        go_wp2_with fail
        refine bodyPost_ret (v := getR (zeroV, false)) (by simp [results, getR, valc, d0, d1, d2, d3, Try.results14, go_sem]) rfl ⟨by rw [← HAN.out], HF8.out⟩

set_option maxRecDepth 100000 in
set_option maxHeartbeats 6400000 in
theorem rgetO4_any (k : Int) (A : Option Addr) (n c : Nat) (B : List UInt8) (w : World) (hk : -9223372036854775808 ≤ k ∧ k < 9223372036854775808) (hr : Rd w A n (B.map bytec)) (hc : n ≤ c) (hn : n ≤ 1000000) (h : cl k = 4) :
    Calls Try.prog 14 #[.int .i64 k, .slice A n c] w fun e w' => e = .returned (getR (getV k B)) ∧ Fr (fun _ => False) w w' := by
  have hBn : B.length = n := by simpa using hr.1
  obtain ⟨ans, hans⟩ : ∃ ans, getV k B = ans := ⟨_, rfl⟩
  rw [hans]
  obtain ⟨g, hg⟩ : ∃ g, w.heap.size = g := ⟨_, rfl⟩
  obtain ⟨w1, hw1⟩ : ∃ w1, w.alloc (.cells #[.int .i64 0, .int .u64 0, .int .i64 0, .string ⟨#[]⟩] 24) = w1 := ⟨_, rfl⟩
  have hf1 : Fr (fun _ => False) w w1 := by rw [← hw1]; exact (Fr.refl _ _).alloc _
  have hr1 : RowV w1 g zeroV := by rw [← hw1, ← hg]; exact RowV.new w zeroV
  obtain ⟨p, hp⟩ : ∃ p, w1.heap.size = p := ⟨_, rfl⟩
  obtain ⟨w2, hw2⟩ : ∃ w2, w1.alloc (.cells #[.int .i64 0, .int .u64 0, .int .i64 0, .string ⟨#[]⟩] 24) = w2 := ⟨_, rfl⟩
  have hf2 : Fr (fun _ => False) w1 w2 := by rw [← hw2]; exact (Fr.refl _ _).alloc _
  have hp2 : RowV w2 p zeroV := by rw [← hw2, ← hp]; exact RowV.new w1 zeroV
  have HR2 := Lib.hid (hr1.fr hf2 (fun h => h))
  have HP2 := Lib.hid hp2
  have HGP : Hid (g ≠ p ∧ w.heap.size ≤ p ∧ w.heap.size = g) := Lib.hid (by have h1 := hr1.lt; have h2 := hf1.size; omega)
  have HF2 := Lib.hid (hf1.trans hf2 (fun _ _ h => h))
  have HRD := Lib.hid hr
  have HBN := Lib.hid hBn
  have HKB := Lib.hid hk
  have han := get_text (B := B) (Or.inr h)
  rw [hans] at han
  have HAN := Lib.hid han.symm
  clear han
  clear hf1 hr1 hf2 hp2 hans hk hr hBn
  have he : k = 6 := by have := cl4 h; omega
  have t3 : (k == 3) = false := by simp; omega
  have t4 : (k == 4) = false := by simp; omega
  have t7 : (k == 7) = false := by simp; omega
  have t8 : (k == 8) = false := by simp; omega
  have t5 : (k == 5) = false := by simp; omega
  have t6 : (k == 6) = true := by simp; omega
  clear he h
  all_goals
    go_enter Try.func14, Try.ntmps14
    go_upto_region 2 with (refine store_st vSz rfl (.tmp 6) (.tmp 15) rfl p (by rfl) (vls ⟨k, 0, 0, []⟩) (by rfl) _ _ HP2.out rfl rfl (v_one _) ?_)
    intro w3 hr3 hf3
    clear hw1 hw2 hg hp
    have HP3 : Hid (RowV w3 p ⟨k, 0, 0, []⟩) := Lib.hid hr3
    have HG3 := Lib.hid (HR2.out.fr hf3 HGP.out.1)
    have HF3 := Lib.hid (HF2.out.trans hf3 (fun b hb h => by have := HGP.out.2; omega))
    clear hr3 hf3
    have hcv := str_rd (HRD.out.fr HF3.out (fun _ _ h => h)) c
    have f1 : w3.frozen? ⟨p, 3, none⟩ = false := Row.free HP3.out 3
    have i0 : w3.cell? ⟨p, 3, none⟩ = some (.string (txt [])) := Row.cell HP3.out rfl
    obtain ⟨w4, hw4⟩ : ∃ w4, w3.setCell ⟨p, 3, none⟩ (.string (txt B)) = w4 := ⟨_, rfl⟩
    have h4 := Row.set HP3.out 3 (.string (txt B))
    rw [hw4] at h4
    have HP4 : Hid (RowV w4 p ⟨k, 0, 0, B⟩) := Lib.hid h4
    have hf4 : Fr (fun b => b = p) w3 w4 := by rw [← hw4]; exact Fr.set1 _ _ _ _
    have HG4 := Lib.hid (HG3.out.fr hf4 HGP.out.1)
    have HF4 := Lib.hid (HF3.out.trans hf4 (fun b hb h => by have := HGP.out.2; omega))
    clear h4 hf4
    go_upto_region 28 with fail
    clear hcv f1 i0 hw4 HP3 HG3 HF3
    have HPX := HP4
    have HGX := HG4
    have HFX := HF4
    clear HP4 HG4 HF4
    have hyo : V.ok (⟨k, 0, 0, B⟩) := ⟨HKB.out, by show (0 : Nat) < _; omega, by show (-9223372036854775808 : Int) ≤ 0 ∧ (0 : Int) < _; omega⟩
    have hrt := fun w => rvRight_any (⟨k, 0, 0, B⟩) w hyo (by have := HBN.out; simp; try omega)
    have hpt := fun w => rvPut_any (⟨k, 0, 0, B⟩) w hyo
    obtain ⟨b1, hb1⟩ : ∃ b1, rightV (⟨k, 0, 0, B⟩) = b1 := ⟨_, rfl⟩
    obtain ⟨Y, hY⟩ : ∃ Y, putV (⟨k, 0, 0, B⟩) = Y := ⟨_, rfl⟩
    have han := HAN.out
    unfold endG at han
    rw [hb1, hY] at han
    simp only [hb1, valc] at hrt
    simp only [hY, valc] at hpt
    (try rw [show ((0 : Nat) : Int) = 0 from rfl] at hrt)
    (try rw [show ((0 : Nat) : Int) = 0 from rfl] at hpt)
    have HRT := Lib.hid hrt
    have HPT := Lib.hid hpt
    clear hyo hrt hpt hb1 hY HAN
    cases b1
    · have HAN : Hid ((zeroV, false) = ans) := Lib.hid han
      clear han
      refine wp_region_held_drew (S := fun w' => Fr (fun _ => False) w4 w') (by kernel_rfl) ?_ (fun hHeld => ?_)
      · exact (Fr.refl _ _).drew
      refine wpAnyH_take (i := 0) (v := ?vz100) rfl (by kernel_rfl) (by kernel_rfl) (by kernel_rfl) (fun _ _ _ h => h) (Or.inl ⟨by rfl, ?hyz100⟩) hHeld ?restz100
      case hyz100 => intro w hSw; (try dsimp only at hSw); obtain ⟨c0, c1, c2, c3⟩ := (HPX.out.fr hSw (fun h => h)).cells; (try dsimp only at c0 c1 c2 c3); go_simp; try (with_reducible rfl)
      (try simp only [Act.put, List.setIfInBounds_toArray, List.set_cons_zero, List.set_cons_succ, List.getElem_toArray, List.getElem_cons_zero])
      refine wpAnyH_ready (rs := [1]) (by kernel_rfl) (by simp) ?_
      refine AllReadyH.cons rfl (fun Kx hKx => ?_) AllReadyH.nil
      go_simp
      have hcon := HRT.out w4.drew
      with_reducible refine hcon.mono ?_
      clear hcon
      rintro e' w6 ⟨rfl, hff⟩
      have HFw6 : Hid (Fr (fun _ => False) w4 w6) := Lib.hid ((Fr.refl _ _).drew.trans hff (fun _ _ h => h))
      refine hKx.out _ _ ?_ (fun hHeld => ?_)
      · exact HFw6.out
      clear hKx Kx hff
      (try simp only [Act.put, List.setIfInBounds_toArray, List.set_cons_zero, List.set_cons_succ, List.getElem_toArray, List.getElem_cons_zero, List.getElem_cons_succ])
      refine wpAnyH_more (fun w' => Fr (fun _ => False) w6 w') (fun _ h => HFw6.out.trans h (fun _ _ h => h)) ?_ (fun hHeld => ?_)
      · exact Fr.refl _ _
      refine wpAnyH_take (i := 2) (v := ?vz102) rfl (by kernel_rfl) (by kernel_rfl) (by kernel_rfl) (fun _ _ _ h => h) (Or.inl ⟨by rfl, ?hyz102⟩) hHeld ?restz102
      case hyz102 => intro w hSw; (try dsimp only at hSw); go_simp; try (with_reducible rfl)
      (try simp only [Act.put, List.setIfInBounds_toArray, List.set_cons_zero, List.set_cons_succ, List.getElem_toArray, List.getElem_cons_zero, List.getElem_cons_succ])
      refine wpAnyH_take (i := 3) (v := ?vz103) rfl (by kernel_rfl) (by kernel_rfl) (by kernel_rfl) (fun _ _ _ h => h) (Or.inl ⟨by rfl, ?hyz103⟩) hHeld ?restz103
      case hyz103 => intro w hSw; (try dsimp only at hSw); go_simp; try (with_reducible rfl)
      (try simp only [Act.put, List.setIfInBounds_toArray, List.set_cons_zero, List.set_cons_succ, List.getElem_toArray, List.getElem_cons_zero, List.getElem_cons_succ])
      refine wpAnyH_take (i := 4) (v := undef) rfl (by kernel_rfl) (by kernel_rfl) (by kernel_rfl) (fun _ _ _ h => h) (Or.inr ⟨by rfl, rfl⟩) hHeld ?_
      (try simp only [Act.put, List.setIfInBounds_toArray, List.set_cons_zero, List.set_cons_succ, List.getElem_toArray, List.getElem_cons_zero, List.getElem_cons_succ])
      refine wpAnyH_take (i := 5) (v := undef) rfl (by kernel_rfl) (by kernel_rfl) (by kernel_rfl) (fun _ _ _ h => h) (Or.inr ⟨by rfl, rfl⟩) hHeld ?_
      (try simp only [Act.put, List.setIfInBounds_toArray, List.set_cons_zero, List.set_cons_succ, List.getElem_toArray, List.getElem_cons_zero, List.getElem_cons_succ])
      refine wpAnyH_take (i := 6) (v := undef) rfl (by kernel_rfl) (by kernel_rfl) (by kernel_rfl) (fun _ _ _ h => h) (Or.inr ⟨by rfl, rfl⟩) hHeld ?_
      (try simp only [Act.put, List.setIfInBounds_toArray, List.set_cons_zero, List.set_cons_succ, List.getElem_toArray, List.getElem_cons_zero, List.getElem_cons_succ])
      refine wpAnyH_take (i := 7) (v := undef) rfl (by kernel_rfl) (by kernel_rfl) (by kernel_rfl) (fun _ _ _ h => h) (Or.inr ⟨by rfl, rfl⟩) hHeld ?_
      (try simp only [Act.put, List.setIfInBounds_toArray, List.set_cons_zero, List.set_cons_succ, List.getElem_toArray, List.getElem_cons_zero, List.getElem_cons_succ])
      refine wpAnyH_take (i := 8) (v := undef) rfl (by kernel_rfl) (by kernel_rfl) (by kernel_rfl) (fun _ _ _ h => h) (Or.inr ⟨by rfl, rfl⟩) hHeld ?_
      (try simp only [Act.put, List.setIfInBounds_toArray, List.set_cons_zero, List.set_cons_succ, List.getElem_toArray, List.getElem_cons_zero, List.getElem_cons_succ])
      refine wpAnyH_take (i := 9) (v := undef) rfl (by kernel_rfl) (by kernel_rfl) (by kernel_rfl) (fun _ _ _ h => h) (Or.inr ⟨by rfl, rfl⟩) hHeld ?_
      (try simp only [Act.put, List.setIfInBounds_toArray, List.set_cons_zero, List.set_cons_succ, List.getElem_toArray, List.getElem_cons_zero, List.getElem_cons_succ])
      refine wpAnyH_take (i := 10) (v := ?vz1010) rfl (by kernel_rfl) (by kernel_rfl) (by kernel_rfl) (fun _ _ _ h => h) (Or.inl ⟨by rfl, ?hyz1010⟩) hHeld ?restz1010
      case hyz1010 => intro w hSw; (try dsimp only at hSw); go_simp; try (with_reducible rfl)
      (try simp only [Act.put, List.setIfInBounds_toArray, List.set_cons_zero, List.set_cons_succ, List.getElem_toArray, List.getElem_cons_zero, List.getElem_cons_succ])
      refine wpAnyH_done (by kernel_rfl) ?_ _
      have HGL := Lib.hid ((HGX.out.fr HFw6.out (fun h => h)))
      have HFL := Lib.hid ((HFX.out.trans HFw6.out (fun _ _ h => h)))
      go_wp2_with (refine store_st vSz rfl (.tmp 4) (.tmp 118) rfl g (by rfl) (vls zeroV) (by rfl) _ _ HGL.out rfl rfl (v_one _) ?_)
      intro w8 hr8 hf8
      have HR8 : Hid (RowV w8 g zeroV) := Lib.hid hr8
      have HF8 := Lib.hid (HFL.out.trans hf8 (fun b hb h => by have := HGP.out; omega))
      have d0 := HR8.out.c0
      have d1 := HR8.out.c1
      have d2 := HR8.out.c2
      have d3 := HR8.out.c3
      clear hr8 hf8
      go_wp2_with fail
      refine bodyPost_ret (v := getR (zeroV, false)) (by simp [results, getR, valc, d0, d1, d2, d3, Try.results14, go_sem]) rfl ⟨by rw [← HAN.out], HF8.out⟩
    · by_cases hq : Y = B
      · have HAN : Hid ((⟨k, 0, 0, B⟩, true) = ans) := Lib.hid (by rw [← han]; simp [hq])
        obtain rfl : B = Y := hq.symm
        clear han hq
        refine wp_region_held_drew (S := fun w' => Fr (fun _ => False) w4 w') (by kernel_rfl) ?_ (fun hHeld => ?_)
        · exact (Fr.refl _ _).drew
        refine wpAnyH_take (i := 0) (v := ?vz110) rfl (by kernel_rfl) (by kernel_rfl) (by kernel_rfl) (fun _ _ _ h => h) (Or.inl ⟨by rfl, ?hyz110⟩) hHeld ?restz110
        case hyz110 => intro w hSw; (try dsimp only at hSw); obtain ⟨c0, c1, c2, c3⟩ := (HPX.out.fr hSw (fun h => h)).cells; (try dsimp only at c0 c1 c2 c3); go_simp; try (with_reducible rfl)
        (try simp only [Act.put, List.setIfInBounds_toArray, List.set_cons_zero, List.set_cons_succ, List.getElem_toArray, List.getElem_cons_zero])
        refine wpAnyH_ready (rs := [1]) (by kernel_rfl) (by simp) ?_
        refine AllReadyH.cons rfl (fun Kx hKx => ?_) AllReadyH.nil
        go_simp
        have hcon := HRT.out w4.drew
        with_reducible refine hcon.mono ?_
        clear hcon
        rintro e' w6 ⟨rfl, hff⟩
        have HFw6 : Hid (Fr (fun _ => False) w4 w6) := Lib.hid ((Fr.refl _ _).drew.trans hff (fun _ _ h => h))
        refine hKx.out _ _ ?_ (fun hHeld => ?_)
        · exact HFw6.out
        clear hKx Kx hff
        (try simp only [Act.put, List.setIfInBounds_toArray, List.set_cons_zero, List.set_cons_succ, List.getElem_toArray, List.getElem_cons_zero, List.getElem_cons_succ])
        refine wpAnyH_more (fun w' => Fr (fun _ => False) w6 w') (fun _ h => HFw6.out.trans h (fun _ _ h => h)) ?_ (fun hHeld => ?_)
        · exact Fr.refl _ _
        refine wpAnyH_take (i := 2) (v := ?vz112) rfl (by kernel_rfl) (by kernel_rfl) (by kernel_rfl) (fun _ _ _ h => h) (Or.inl ⟨by rfl, ?hyz112⟩) hHeld ?restz112
        case hyz112 => intro w hSw; (try dsimp only at hSw); go_simp; try (with_reducible rfl)
        (try simp only [Act.put, List.setIfInBounds_toArray, List.set_cons_zero, List.set_cons_succ, List.getElem_toArray, List.getElem_cons_zero, List.getElem_cons_succ])
        refine wpAnyH_take (i := 3) (v := ?vz113) rfl (by kernel_rfl) (by kernel_rfl) (by kernel_rfl) (fun _ _ _ h => h) (Or.inl ⟨by rfl, ?hyz113⟩) hHeld ?restz113
        case hyz113 => intro w hSw; (try dsimp only at hSw); go_simp; try (with_reducible rfl)
        (try simp only [Act.put, List.setIfInBounds_toArray, List.set_cons_zero, List.set_cons_succ, List.getElem_toArray, List.getElem_cons_zero, List.getElem_cons_succ])
        refine wpAnyH_take (i := 4) (v := ?vz114) rfl (by kernel_rfl) (by kernel_rfl) (by kernel_rfl) (fun _ _ _ h => h) (Or.inl ⟨by rfl, ?hyz114⟩) hHeld ?restz114
        case hyz114 => intro w hSw; (try dsimp only at hSw); obtain ⟨c0, c1, c2, c3⟩ := ((HPX.out.fr HFw6.out (fun h => h)).fr hSw (fun h => h)).cells; (try dsimp only at c0 c1 c2 c3); go_simp; try (with_reducible rfl)
        (try simp only [Act.put, List.setIfInBounds_toArray, List.set_cons_zero, List.set_cons_succ, List.getElem_toArray, List.getElem_cons_zero, List.getElem_cons_succ])
        refine wpAnyH_take (i := 7) (v := ?vz117) rfl (by kernel_rfl) (by kernel_rfl) (by kernel_rfl) (fun _ _ _ h => h) (Or.inl ⟨by rfl, ?hyz117⟩) hHeld ?restz117
        case hyz117 => intro w hSw; (try dsimp only at hSw); go_simp; try (with_reducible rfl)
        (try simp only [Act.put, List.setIfInBounds_toArray, List.set_cons_zero, List.set_cons_succ, List.getElem_toArray, List.getElem_cons_zero, List.getElem_cons_succ])
        refine wpAnyH_take (i := 8) (v := ?vz118) rfl (by kernel_rfl) (by kernel_rfl) (by kernel_rfl) (fun _ _ _ h => h) (Or.inl ⟨by rfl, ?hyz118⟩) hHeld ?restz118
        case hyz118 => intro w hSw; (try dsimp only at hSw); have hcv := str_rd (((HRD.out.fr HFX.out (fun _ _ h => h)).fr HFw6.out (fun _ _ h => h)).fr hSw (fun _ _ h => h)) c; go_simp; try (with_reducible rfl)
        (try simp only [Act.put, List.setIfInBounds_toArray, List.set_cons_zero, List.set_cons_succ, List.getElem_toArray, List.getElem_cons_zero, List.getElem_cons_succ])
        refine wpAnyH_ready (rs := [5]) (by kernel_rfl) (by simp) ?_
        refine AllReadyH.cons rfl (fun Kx hKx => ?_) AllReadyH.nil
        go_simp
        have hcon := HPT.out w6
        with_reducible refine hcon.mono ?_
        clear hcon
        rintro e' w7 ⟨A7, c7, rfl, hc7, hr7, hff⟩
        have HFw7 : Hid (Fr (fun _ => False) w6 w7) := Lib.hid (hff)
        have HR7 := Lib.hid hr7
        clear hc7 hr7
        refine hKx.out _ _ ?_ (fun hHeld => ?_)
        · exact HFw7.out
        clear hKx Kx hff
        (try simp only [Act.put, List.setIfInBounds_toArray, List.set_cons_zero, List.set_cons_succ, List.getElem_toArray, List.getElem_cons_zero, List.getElem_cons_succ])
        refine wpAnyH_more (fun w' => Fr (fun _ => False) w7 w') (fun _ h => HFw7.out.trans h (fun _ _ h => h)) ?_ (fun hHeld => ?_)
        · exact Fr.refl _ _
        refine wpAnyH_take (i := 6) (v := ?vz116) rfl (by kernel_rfl) (by kernel_rfl) (by kernel_rfl) (fun _ _ _ h => h) (Or.inl ⟨by rfl, ?hyz116⟩) hHeld ?restz116
        case hyz116 => intro w hSw; (try dsimp only at hSw); have hcv := str_rd (HR7.out.fr hSw (fun _ _ h => h)) c7; go_simp; try (with_reducible rfl)
        (try simp only [Act.put, List.setIfInBounds_toArray, List.set_cons_zero, List.set_cons_succ, List.getElem_toArray, List.getElem_cons_zero, List.getElem_cons_succ])
        refine wpAnyH_take (i := 9) (v := ?vz119) rfl (by kernel_rfl) (by kernel_rfl) (by kernel_rfl) (fun _ _ _ h => h) (Or.inl ⟨by rfl, ?hyz119⟩) hHeld ?restz119
        case hyz119 => intro w hSw; (try dsimp only at hSw); go_simp; try (with_reducible rfl)
        (try simp only [Act.put, List.setIfInBounds_toArray, List.set_cons_zero, List.set_cons_succ, List.getElem_toArray, List.getElem_cons_zero, List.getElem_cons_succ])
        refine wpAnyH_take (i := 10) (v := ?vz1110) rfl (by kernel_rfl) (by kernel_rfl) (by kernel_rfl) (fun _ _ _ h => h) (Or.inl ⟨by rfl, ?hyz1110⟩) hHeld ?restz1110
        case hyz1110 => intro w hSw; (try dsimp only at hSw); go_simp; try (with_reducible rfl)
        (try simp only [Act.put, List.setIfInBounds_toArray, List.set_cons_zero, List.set_cons_succ, List.getElem_toArray, List.getElem_cons_zero, List.getElem_cons_succ])
        refine wpAnyH_done (by kernel_rfl) ?_ _
        have HGL := Lib.hid (((HGX.out.fr HFw6.out (fun h => h)).fr HFw7.out (fun h => h)))
        have HFL := Lib.hid (((HFX.out.trans HFw6.out (fun _ _ h => h)).trans HFw7.out (fun _ _ h => h)))
        obtain ⟨c0, c1, c2, c3⟩ := ((HPX.out.fr HFw6.out (fun h => h)).fr HFw7.out (fun h => h)).cells
        (try dsimp only at c0 c1 c2 c3)
        go_wp2_with (refine store_st vSz rfl (.tmp 4) (.tmp 119) rfl g (by rfl) (vls (⟨k, 0, 0, B⟩)) (by rfl) _ _ HGL.out rfl rfl (v_one _) ?_)
        intro w8 hr8 hf8
        have HR8 : Hid (RowV w8 g (⟨k, 0, 0, B⟩)) := Lib.hid hr8
        have HF8 := Lib.hid (HFL.out.trans hf8 (fun b hb h => by have := HGP.out; omega))
        have d0 := HR8.out.c0
        have d1 := HR8.out.c1
        have d2 := HR8.out.c2
        have d3 := HR8.out.c3
        clear hr8 hf8
        go_wp2_with fail
        refine bodyPost_ret (v := getR ((⟨k, 0, 0, B⟩), true)) (by simp [results, getR, valc, d0, d1, d2, d3, Try.results14, go_sem]) rfl ⟨by rw [← HAN.out], HF8.out⟩
      · have HAN : Hid ((zeroV, false) = ans) := Lib.hid (by rw [← han]; simp [hq])
        have hne : ((txt Y).toList == (txt B).toList) = false := by rw [beq_txt]; simp [hq]
        clear han hq
        refine wp_region_held_drew (S := fun w' => Fr (fun _ => False) w4 w') (by kernel_rfl) ?_ (fun hHeld => ?_)
        · exact (Fr.refl _ _).drew
        refine wpAnyH_take (i := 0) (v := ?vz120) rfl (by kernel_rfl) (by kernel_rfl) (by kernel_rfl) (fun _ _ _ h => h) (Or.inl ⟨by rfl, ?hyz120⟩) hHeld ?restz120
        case hyz120 => intro w hSw; (try dsimp only at hSw); obtain ⟨c0, c1, c2, c3⟩ := (HPX.out.fr hSw (fun h => h)).cells; (try dsimp only at c0 c1 c2 c3); go_simp; try (with_reducible rfl)
        (try simp only [Act.put, List.setIfInBounds_toArray, List.set_cons_zero, List.set_cons_succ, List.getElem_toArray, List.getElem_cons_zero])
        refine wpAnyH_ready (rs := [1]) (by kernel_rfl) (by simp) ?_
        refine AllReadyH.cons rfl (fun Kx hKx => ?_) AllReadyH.nil
        go_simp
        have hcon := HRT.out w4.drew
        with_reducible refine hcon.mono ?_
        clear hcon
        rintro e' w6 ⟨rfl, hff⟩
        have HFw6 : Hid (Fr (fun _ => False) w4 w6) := Lib.hid ((Fr.refl _ _).drew.trans hff (fun _ _ h => h))
        refine hKx.out _ _ ?_ (fun hHeld => ?_)
        · exact HFw6.out
        clear hKx Kx hff
        (try simp only [Act.put, List.setIfInBounds_toArray, List.set_cons_zero, List.set_cons_succ, List.getElem_toArray, List.getElem_cons_zero, List.getElem_cons_succ])
        refine wpAnyH_more (fun w' => Fr (fun _ => False) w6 w') (fun _ h => HFw6.out.trans h (fun _ _ h => h)) ?_ (fun hHeld => ?_)
        · exact Fr.refl _ _
        refine wpAnyH_take (i := 2) (v := ?vz122) rfl (by kernel_rfl) (by kernel_rfl) (by kernel_rfl) (fun _ _ _ h => h) (Or.inl ⟨by rfl, ?hyz122⟩) hHeld ?restz122
        case hyz122 => intro w hSw; (try dsimp only at hSw); go_simp; try (with_reducible rfl)
        (try simp only [Act.put, List.setIfInBounds_toArray, List.set_cons_zero, List.set_cons_succ, List.getElem_toArray, List.getElem_cons_zero, List.getElem_cons_succ])
        refine wpAnyH_take (i := 3) (v := ?vz123) rfl (by kernel_rfl) (by kernel_rfl) (by kernel_rfl) (fun _ _ _ h => h) (Or.inl ⟨by rfl, ?hyz123⟩) hHeld ?restz123
        case hyz123 => intro w hSw; (try dsimp only at hSw); go_simp; try (with_reducible rfl)
        (try simp only [Act.put, List.setIfInBounds_toArray, List.set_cons_zero, List.set_cons_succ, List.getElem_toArray, List.getElem_cons_zero, List.getElem_cons_succ])
        refine wpAnyH_take (i := 4) (v := ?vz124) rfl (by kernel_rfl) (by kernel_rfl) (by kernel_rfl) (fun _ _ _ h => h) (Or.inl ⟨by rfl, ?hyz124⟩) hHeld ?restz124
        case hyz124 => intro w hSw; (try dsimp only at hSw); obtain ⟨c0, c1, c2, c3⟩ := ((HPX.out.fr HFw6.out (fun h => h)).fr hSw (fun h => h)).cells; (try dsimp only at c0 c1 c2 c3); go_simp; try (with_reducible rfl)
        (try simp only [Act.put, List.setIfInBounds_toArray, List.set_cons_zero, List.set_cons_succ, List.getElem_toArray, List.getElem_cons_zero, List.getElem_cons_succ])
        refine wpAnyH_take (i := 7) (v := ?vz127) rfl (by kernel_rfl) (by kernel_rfl) (by kernel_rfl) (fun _ _ _ h => h) (Or.inl ⟨by rfl, ?hyz127⟩) hHeld ?restz127
        case hyz127 => intro w hSw; (try dsimp only at hSw); go_simp; try (with_reducible rfl)
        (try simp only [Act.put, List.setIfInBounds_toArray, List.set_cons_zero, List.set_cons_succ, List.getElem_toArray, List.getElem_cons_zero, List.getElem_cons_succ])
        refine wpAnyH_take (i := 8) (v := ?vz128) rfl (by kernel_rfl) (by kernel_rfl) (by kernel_rfl) (fun _ _ _ h => h) (Or.inl ⟨by rfl, ?hyz128⟩) hHeld ?restz128
        case hyz128 => intro w hSw; (try dsimp only at hSw); have hcv := str_rd (((HRD.out.fr HFX.out (fun _ _ h => h)).fr HFw6.out (fun _ _ h => h)).fr hSw (fun _ _ h => h)) c; go_simp; try (with_reducible rfl)
        (try simp only [Act.put, List.setIfInBounds_toArray, List.set_cons_zero, List.set_cons_succ, List.getElem_toArray, List.getElem_cons_zero, List.getElem_cons_succ])
        refine wpAnyH_ready (rs := [5]) (by kernel_rfl) (by simp) ?_
        refine AllReadyH.cons rfl (fun Kx hKx => ?_) AllReadyH.nil
        go_simp
        have hcon := HPT.out w6
        with_reducible refine hcon.mono ?_
        clear hcon
        rintro e' w7 ⟨A7, c7, rfl, hc7, hr7, hff⟩
        have HFw7 : Hid (Fr (fun _ => False) w6 w7) := Lib.hid (hff)
        have HR7 := Lib.hid hr7
        clear hc7 hr7
        refine hKx.out _ _ ?_ (fun hHeld => ?_)
        · exact HFw7.out
        clear hKx Kx hff
        (try simp only [Act.put, List.setIfInBounds_toArray, List.set_cons_zero, List.set_cons_succ, List.getElem_toArray, List.getElem_cons_zero, List.getElem_cons_succ])
        refine wpAnyH_more (fun w' => Fr (fun _ => False) w7 w') (fun _ h => HFw7.out.trans h (fun _ _ h => h)) ?_ (fun hHeld => ?_)
        · exact Fr.refl _ _
        refine wpAnyH_take (i := 6) (v := ?vz126) rfl (by kernel_rfl) (by kernel_rfl) (by kernel_rfl) (fun _ _ _ h => h) (Or.inl ⟨by rfl, ?hyz126⟩) hHeld ?restz126
        case hyz126 => intro w hSw; (try dsimp only at hSw); have hcv := str_rd (HR7.out.fr hSw (fun _ _ h => h)) c7; go_simp; try (with_reducible rfl)
        (try simp only [Act.put, List.setIfInBounds_toArray, List.set_cons_zero, List.set_cons_succ, List.getElem_toArray, List.getElem_cons_zero, List.getElem_cons_succ])
        refine wpAnyH_take (i := 9) (v := ?vz129) rfl (by kernel_rfl) (by kernel_rfl) (by kernel_rfl) (fun _ _ _ h => h) (Or.inl ⟨by rfl, ?hyz129⟩) hHeld ?restz129
        case hyz129 => intro w hSw; (try dsimp only at hSw); go_simp; try (with_reducible rfl)
        (try simp only [Act.put, List.setIfInBounds_toArray, List.set_cons_zero, List.set_cons_succ, List.getElem_toArray, List.getElem_cons_zero, List.getElem_cons_succ])
        refine wpAnyH_take (i := 10) (v := ?vz1210) rfl (by kernel_rfl) (by kernel_rfl) (by kernel_rfl) (fun _ _ _ h => h) (Or.inl ⟨by rfl, ?hyz1210⟩) hHeld ?restz1210
        case hyz1210 => intro w hSw; (try dsimp only at hSw); go_simp; try (with_reducible rfl)
        (try simp only [Act.put, List.setIfInBounds_toArray, List.set_cons_zero, List.set_cons_succ, List.getElem_toArray, List.getElem_cons_zero, List.getElem_cons_succ])
        refine wpAnyH_done (by kernel_rfl) ?_ _
        have HGL := Lib.hid (((HGX.out.fr HFw6.out (fun h => h)).fr HFw7.out (fun h => h)))
        have HFL := Lib.hid (((HFX.out.trans HFw6.out (fun _ _ h => h)).trans HFw7.out (fun _ _ h => h)))
        go_wp2_with (refine store_st vSz rfl (.tmp 4) (.tmp 118) rfl g (by rfl) (vls zeroV) (by rfl) _ _ HGL.out rfl rfl (v_one _) ?_)
        intro w8 hr8 hf8
        have HR8 : Hid (RowV w8 g zeroV) := Lib.hid hr8
        have HF8 := Lib.hid (HFL.out.trans hf8 (fun b hb h => by have := HGP.out; omega))
        have d0 := HR8.out.c0
        have d1 := HR8.out.c1
        have d2 := HR8.out.c2
        have d3 := HR8.out.c3
        clear hr8 hf8
        go_wp2_with fail
        refine bodyPost_ret (v := getR (zeroV, false)) (by simp [results, getR, valc, d0, d1, d2, d3, Try.results14, go_sem]) rfl ⟨by rw [← HAN.out], HF8.out⟩
end Go.Proofs.Ytomhljpnpphbcaa
