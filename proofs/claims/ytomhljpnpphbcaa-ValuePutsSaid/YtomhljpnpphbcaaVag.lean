/-
  Layer 14, the law ValuePuts (written by gen_laws14.py).
-/
import Derived.Test.YtomhljpnpphbcaaVad
import Derived.Test.YtomhljpnpphbcaaVaY
import Derived.Test.YtomhljpnpphbcaaReg
namespace Go.Proofs.Ytomhljpnpphbcaa
open Go.RowKit Mem Go.Lib VaM LebM UtfM
attribute [local go_sem ↓] Go.wp_at_zero Go.wp_at_succ
set_option linter.unusedVariables false


set_option maxRecDepth 100000 in
set_option maxHeartbeats 6400000 in
theorem vputs_law (K : VaC) (v y : V) (w : World) (hv : v.ok) (hy : y.ok) (hmv : v.s.length ≤ maxLen) (hmy : y.s.length ≤ maxLen) : Calls Try.prog 3 #[valc v, valc y] w fun e w' => e = .returned (.bool true) ∧ Fr (fun _ => False) w w' := by
  obtain ⟨l, hl⟩ : ∃ l, l = v.s.length := ⟨_, rfl⟩
  have hszl : (txt v.s).size = l := by rw [txt_sz, hl]
  rw [← hl] at hmv
  have hxl : l ≤ 9223372036854775807 := hmv
  obtain ⟨m, hm⟩ : ∃ l, l = y.s.length := ⟨_, rfl⟩
  have hszm : (txt y.s).size = m := by rw [txt_sz, hm]
  rw [← hm] at hmy
  have hxm : m ≤ 9223372036854775807 := hmy
  obtain ⟨g1, hg1⟩ : ∃ g, w.heap.size = g := ⟨_, rfl⟩
  obtain ⟨w0, hw1⟩ : ∃ w', w.alloc (.cells #[.int .i64 v.k, .int .u64 (v.u : Int), .int .i64 v.n, .string (txt v.s)] 24) = w' := ⟨_, rfl⟩
  have hfb1 : Fr (fun _ => False) w w0 := by rw [← hw1]; exact (Fr.refl _ _).alloc _
  have hr1 : RowV w0 g1 v := by rw [← hw1, ← hg1]; exact RowV.new w v
  obtain ⟨g2, hg2⟩ : ∃ g, w0.heap.size = g := ⟨_, rfl⟩
  obtain ⟨w1, hw2⟩ : ∃ w', w0.alloc (.cells #[.int .i64 y.k, .int .u64 (y.u : Int), .int .i64 y.n, .string (txt y.s)] 24) = w' := ⟨_, rfl⟩
  have hfb2 : Fr (fun _ => False) w0 w1 := by rw [← hw2]; exact (Fr.refl _ _).alloc _
  have hr2 : RowV w1 g2 y := by rw [← hw2, ← hg2]; exact RowV.new w0 y
  have haw := fun w => awake14_any K w
  have HAW := Lib.hid haw
  have HR1 := Lib.hid (hr1.fr hfb2 (fun h => h))
  have HS1 := Lib.hid hr2
  have HFw1 := Lib.hid (hfb1.trans hfb2 (fun _ _ h => h))
  unfold valc
  clear hr1 hfb1 hr2 hfb2 haw
  by_cases hbig : 5000 < l
  · have tl : decide ((5000 : Int) < (l : Int)) = true := by simp; omega
    have ul : decide (5000 < l) = true := by simp; omega
    clear hl hv hm hy
    go_enter Try.func3, Try.ntmps3
    go_wp2_with fail
    clear hw1 hg1 hw2 hg2
    refine (HAW.out _).mono ?_
    rintro e w2 ⟨rfl, hf⟩
    have HFw2 := Lib.hid (HFw1.out.trans hf (fun _ _ h => h))
    have HR2 := Lib.hid (HR1.out.fr hf (fun h => h))
    have HS2 := Lib.hid (HS1.out.fr hf (fun h => h))
    clear hf
    obtain ⟨c0, c1, c2, c3⟩ := HR2.out.cells
    obtain ⟨d0, d1, d2, d3⟩ := HS2.out.cells
    go_wp2_with fail
    refine (HAW.out _).mono ?_
    rintro e w3 ⟨rfl, hf⟩
    have HFw3 := Lib.hid (HFw2.out.trans hf (fun _ _ h => h))
    clear hf
    go_wp2_with fail
    go_ret
    exact ⟨rfl, HFw3.out⟩
  by_cases hbig2 : 5000 < m
  · have tl : decide ((5000 : Int) < (l : Int)) = false := by simp; omega
    have ul : decide (5000 < l) = false := by simp; omega
    have tm : decide ((5000 : Int) < (m : Int)) = true := by simp; omega
    have um : decide (5000 < m) = true := by simp; omega
    clear hl hv hm hy
    go_enter Try.func3, Try.ntmps3
    go_wp2_with fail
    clear hw1 hg1 hw2 hg2
    refine (HAW.out _).mono ?_
    rintro e w2 ⟨rfl, hf⟩
    have HFw2 := Lib.hid (HFw1.out.trans hf (fun _ _ h => h))
    have HR2 := Lib.hid (HR1.out.fr hf (fun h => h))
    have HS2 := Lib.hid (HS1.out.fr hf (fun h => h))
    clear hf
    obtain ⟨c0, c1, c2, c3⟩ := HR2.out.cells
    obtain ⟨d0, d1, d2, d3⟩ := HS2.out.cells
    go_wp2_with fail
    refine (HAW.out _).mono ?_
    rintro e w3 ⟨rfl, hf⟩
    have HFw3 := Lib.hid (HFw2.out.trans hf (fun _ _ h => h))
    clear hf
    go_wp2_with fail
    go_ret
    exact ⟨rfl, HFw3.out⟩
  have tl : decide ((5000 : Int) < (l : Int)) = false := by simp; omega
  have ul : decide (5000 < l) = false := by simp; omega
  have tm : decide ((5000 : Int) < (m : Int)) = false := by simp; omega
  have um : decide (5000 < m) = false := by simp; omega
  have h1 := fun (w : World) => vright1 K v w rfl hv (by omega)
  have h2 := fun (w : World) => vright2 K v y w rfl hv hy (by omega) (by omega)
  have h3 := fun (w : World) => vright3 K y v y w rfl hy hv hy (by omega) (by omega) (by omega)
  have r1 := fun (w : World) => rvRight_any v w hv (by omega)
  have r2 := fun (w : World) => rvRight_any y w hy (by omega)
  have hpt := fun (w : World) => K.put v w hv
  have hpr := fun (w : World) => rvPut_any v w hv
  obtain ⟨P, hP⟩ : ∃ P, putV v = P := ⟨_, rfl⟩
  obtain ⟨a, ha⟩ : ∃ a, rightV v = a := ⟨_, rfl⟩
  obtain ⟨b, hb⟩ : ∃ b, rightV y = b := ⟨_, rfl⟩
  obtain ⟨ab, hab⟩ : ∃ ab, (a && b) = ab := ⟨_, rfl⟩
  have hab3 : (b && (a && b)) = ab := by rw [← hab]; cases a <;> cases b <;> rfl
  simp only [ha, hb, hab] at h2
  simp only [ha, hb, hab3] at h3
  simp only [ha] at h1
  simp only [ha, valc] at r1
  simp only [hb, valc] at r2
  simp only [hP, valc] at hpt hpr
  have H1 := Lib.hid h1
  have H2 := Lib.hid h2
  have H3 := Lib.hid h3
  have R1 := Lib.hid r1
  have R2 := Lib.hid r2
  have HPT := Lib.hid hpt
  have HPR := Lib.hid hpr
  clear h1 h2 h3 r1 r2 hpt hpr hv hy ha hb hP hl hm hab3
  cases a
  · obtain rfl : ab = false := by rw [← hab]; rfl
    clear hab
    go_enter Try.func3, Try.ntmps3
    go_wp2_with fail
    clear hw1 hg1 hw2 hg2
    refine (HAW.out _).mono ?_
    rintro e w2 ⟨rfl, hf⟩
    have HFw2 := Lib.hid (HFw1.out.trans hf (fun _ _ h => h))
    have HR2 := Lib.hid (HR1.out.fr hf (fun h => h))
    have HS2 := Lib.hid (HS1.out.fr hf (fun h => h))
    clear hf
    obtain ⟨c0, c1, c2, c3⟩ := HR2.out.cells
    obtain ⟨d0, d1, d2, d3⟩ := HS2.out.cells
    go_upto_region 3 with fail
    clear c0 c1 c2 c3 d0 d1 d2 d3
    refine wp_region_held_drew (S := fun w' => Fr (fun _ => False) w2 w') (by kernel_rfl) ?_ (fun hHeld => ?_)
    · exact (Fr.refl _ _).drew
    refine wpAnyH_take (i := 0) (v := ?vz30) rfl (by kernel_rfl) (by kernel_rfl) (by kernel_rfl) (fun _ _ _ h => h) (Or.inl ⟨by rfl, ?hyz30⟩) hHeld ?restz30
    case hyz30 => intro w hSw; (try dsimp only at hSw); obtain ⟨c0, c1, c2, c3⟩ := (HR2.out.fr hSw (fun h => h)).cells; go_simp; try (with_reducible rfl)
    (try simp only [Act.put, List.setIfInBounds_toArray, List.set_cons_zero, List.set_cons_succ, List.getElem_toArray, List.getElem_cons_zero])
    refine wpAnyH_take (i := 2) (v := ?vz32) rfl (by kernel_rfl) (by kernel_rfl) (by kernel_rfl) (fun _ _ _ h => h) (Or.inl ⟨by rfl, ?hyz32⟩) hHeld ?restz32
    case hyz32 => intro w hSw; (try dsimp only at hSw); obtain ⟨c0, c1, c2, c3⟩ := (HS2.out.fr hSw (fun h => h)).cells; go_simp; try (with_reducible rfl)
    (try simp only [Act.put, List.setIfInBounds_toArray, List.set_cons_zero, List.set_cons_succ, List.getElem_toArray, List.getElem_cons_zero, List.getElem_cons_succ])
    refine wpAnyH_ready (rs := [1]) (by kernel_rfl) (by simp) ?_
    refine AllReadyH.cons rfl (fun Kx hKx => ?_) AllReadyH.nil
    go_simp
    have hcon := R1.out w2.drew
    with_reducible refine hcon.mono ?_
    clear hcon
    rintro e' w3 ⟨rfl, hff⟩
    have HFw3 : Hid (Fr (fun _ => False) w2 w3) := Lib.hid ((Fr.refl _ _).drew.trans hff (fun _ _ h => h))
    refine hKx.out _ _ ?_ (fun hHeld => ?_)
    · exact HFw3.out
    clear hKx Kx hff
    (try simp only [Act.put, List.setIfInBounds_toArray, List.set_cons_zero, List.set_cons_succ, List.getElem_toArray, List.getElem_cons_zero, List.getElem_cons_succ])
    refine wpAnyH_more (fun w' => Fr (fun _ => False) w3 w') (fun _ h => HFw3.out.trans h (fun _ _ h => h)) ?_ (fun hHeld => ?_)
    · exact Fr.refl _ _
    refine wpAnyH_ready (rs := [3]) (by kernel_rfl) (by simp) ?_
    refine AllReadyH.cons rfl (fun Kx hKx => ?_) AllReadyH.nil
    go_simp
    have hcon := R2.out w3
    with_reducible refine hcon.mono ?_
    clear hcon
    rintro e' w4 ⟨rfl, hff⟩
    have HFw4 : Hid (Fr (fun _ => False) w3 w4) := Lib.hid (hff)
    refine hKx.out _ _ ?_ (fun hHeld => ?_)
    · exact HFw4.out
    clear hKx Kx hff
    (try simp only [Act.put, List.setIfInBounds_toArray, List.set_cons_zero, List.set_cons_succ, List.getElem_toArray, List.getElem_cons_zero, List.getElem_cons_succ])
    refine wpAnyH_more (fun w' => Fr (fun _ => False) w4 w') (fun _ h => HFw4.out.trans h (fun _ _ h => h)) ?_ (fun hHeld => ?_)
    · exact Fr.refl _ _
    refine wpAnyH_take (i := 4) (v := ?vz34) rfl (by kernel_rfl) (by kernel_rfl) (by kernel_rfl) (fun _ _ _ h => h) (Or.inl ⟨by rfl, ?hyz34⟩) hHeld ?restz34
    case hyz34 => intro w hSw; (try dsimp only at hSw); go_simp; try (with_reducible rfl)
    (try simp only [Act.put, List.setIfInBounds_toArray, List.set_cons_zero, List.set_cons_succ, List.getElem_toArray, List.getElem_cons_zero, List.getElem_cons_succ])
    refine wpAnyH_take (i := 5) (v := ?vz35) rfl (by kernel_rfl) (by kernel_rfl) (by kernel_rfl) (fun _ _ _ h => h) (Or.inl ⟨by rfl, ?hyz35⟩) hHeld ?restz35
    case hyz35 => intro w hSw; (try dsimp only at hSw); go_simp; try (with_reducible rfl)
    (try simp only [Act.put, List.setIfInBounds_toArray, List.set_cons_zero, List.set_cons_succ, List.getElem_toArray, List.getElem_cons_zero, List.getElem_cons_succ])
    refine wpAnyH_done (by kernel_rfl) ?_ _
    clear HAW R1 R2
    have HR4 := Lib.hid ((HR2.out.fr HFw3.out (fun h => h)).fr HFw4.out (fun h => h))
    have HS4 := Lib.hid ((HS2.out.fr HFw3.out (fun h => h)).fr HFw4.out (fun h => h))
    have HFw5 := Lib.hid ((HFw2.out.trans HFw3.out (fun _ _ h => h)).trans HFw4.out (fun _ _ h => h))
    have HR5 := HR4
    have HS5 := HS4
    obtain ⟨c0, c1, c2, c3⟩ := HR5.out.cells
    obtain ⟨d0, d1, d2, d3⟩ := HS5.out.cells
    go_wp2_with fail
    refine (H1.out _).mono ?_
    rintro e w6 ⟨rfl, hf⟩
    have HFw6 := Lib.hid (HFw5.out.trans hf (fun _ _ h => h))
    have HR6 := Lib.hid (HR5.out.fr hf (fun h => h))
    have HS6 := Lib.hid (HS5.out.fr hf (fun h => h))
    clear hf c0 c1 c2 c3 d0 d1 d2 d3
    obtain ⟨c0, c1, c2, c3⟩ := HR6.out.cells
    obtain ⟨d0, d1, d2, d3⟩ := HS6.out.cells
    go_wp2_with fail
    refine (H2.out _).mono ?_
    rintro e w7 ⟨rfl, hf⟩
    have HFw7 := Lib.hid (HFw6.out.trans hf (fun _ _ h => h))
    have HR7 := Lib.hid (HR6.out.fr hf (fun h => h))
    have HS7 := Lib.hid (HS6.out.fr hf (fun h => h))
    clear hf c0 c1 c2 c3 d0 d1 d2 d3
    obtain ⟨c0, c1, c2, c3⟩ := HR7.out.cells
    obtain ⟨d0, d1, d2, d3⟩ := HS7.out.cells
    go_wp2_with fail
    refine (H3.out _).mono ?_
    rintro e w8 ⟨rfl, hf⟩
    have HFw8 := Lib.hid (HFw7.out.trans hf (fun _ _ h => h))
    have HR8 := Lib.hid (HR7.out.fr hf (fun h => h))
    have HS8 := Lib.hid (HS7.out.fr hf (fun h => h))
    clear hf c0 c1 c2 c3 d0 d1 d2 d3
    obtain ⟨c0, c1, c2, c3⟩ := HR8.out.cells
    obtain ⟨d0, d1, d2, d3⟩ := HS8.out.cells
    go_upto_region 6 with fail
    clear c0 c1 c2 c3 d0 d1 d2 d3
    refine wp_region_held_drew (S := fun w' => Fr (fun _ => False) w8 w') (by kernel_rfl) ?_ (fun hHeld => ?_)
    · exact (Fr.refl _ _).drew
    refine wpAnyH_take (i := 0) (v := ?vz40) rfl (by kernel_rfl) (by kernel_rfl) (by kernel_rfl) (fun _ _ _ h => h) (Or.inl ⟨by rfl, ?hyz40⟩) hHeld ?restz40
    case hyz40 => intro w hSw; (try dsimp only at hSw); go_simp; try (with_reducible rfl)
    (try simp only [Act.put, List.setIfInBounds_toArray, List.set_cons_zero, List.set_cons_succ, List.getElem_toArray, List.getElem_cons_zero])
    refine wpAnyH_take (i := 1) (v := ?vz41) rfl (by kernel_rfl) (by kernel_rfl) (by kernel_rfl) (fun _ _ _ h => h) (Or.inl ⟨by rfl, ?hyz41⟩) hHeld ?restz41
    case hyz41 => intro w hSw; (try dsimp only at hSw); go_simp; try (with_reducible rfl)
    (try simp only [Act.put, List.setIfInBounds_toArray, List.set_cons_zero, List.set_cons_succ, List.getElem_toArray, List.getElem_cons_zero, List.getElem_cons_succ])
    refine wpAnyH_take (i := 2) (v := ?vz42) rfl (by kernel_rfl) (by kernel_rfl) (by kernel_rfl) (fun _ _ _ h => h) (Or.inl ⟨by rfl, ?hyz42⟩) hHeld ?restz42
    case hyz42 => intro w hSw; (try dsimp only at hSw); go_simp; try (with_reducible rfl)
    (try simp only [Act.put, List.setIfInBounds_toArray, List.set_cons_zero, List.set_cons_succ, List.getElem_toArray, List.getElem_cons_zero, List.getElem_cons_succ])
    refine wpAnyH_take (i := 3) (v := undef) rfl (by kernel_rfl) (by kernel_rfl) (by kernel_rfl) (fun _ _ _ h => h) (Or.inr ⟨by rfl, rfl⟩) hHeld ?_
    (try simp only [Act.put, List.setIfInBounds_toArray, List.set_cons_zero, List.set_cons_succ, List.getElem_toArray, List.getElem_cons_zero, List.getElem_cons_succ])
    refine wpAnyH_take (i := 4) (v := undef) rfl (by kernel_rfl) (by kernel_rfl) (by kernel_rfl) (fun _ _ _ h => h) (Or.inr ⟨by rfl, rfl⟩) hHeld ?_
    (try simp only [Act.put, List.setIfInBounds_toArray, List.set_cons_zero, List.set_cons_succ, List.getElem_toArray, List.getElem_cons_zero, List.getElem_cons_succ])
    refine wpAnyH_take (i := 5) (v := undef) rfl (by kernel_rfl) (by kernel_rfl) (by kernel_rfl) (fun _ _ _ h => h) (Or.inr ⟨by rfl, rfl⟩) hHeld ?_
    (try simp only [Act.put, List.setIfInBounds_toArray, List.set_cons_zero, List.set_cons_succ, List.getElem_toArray, List.getElem_cons_zero, List.getElem_cons_succ])
    refine wpAnyH_take (i := 6) (v := undef) rfl (by kernel_rfl) (by kernel_rfl) (by kernel_rfl) (fun _ _ _ h => h) (Or.inr ⟨by rfl, rfl⟩) hHeld ?_
    (try simp only [Act.put, List.setIfInBounds_toArray, List.set_cons_zero, List.set_cons_succ, List.getElem_toArray, List.getElem_cons_zero, List.getElem_cons_succ])
    refine wpAnyH_take (i := 7) (v := undef) rfl (by kernel_rfl) (by kernel_rfl) (by kernel_rfl) (fun _ _ _ h => h) (Or.inr ⟨by rfl, rfl⟩) hHeld ?_
    (try simp only [Act.put, List.setIfInBounds_toArray, List.set_cons_zero, List.set_cons_succ, List.getElem_toArray, List.getElem_cons_zero, List.getElem_cons_succ])
    refine wpAnyH_take (i := 8) (v := undef) rfl (by kernel_rfl) (by kernel_rfl) (by kernel_rfl) (fun _ _ _ h => h) (Or.inr ⟨by rfl, rfl⟩) hHeld ?_
    (try simp only [Act.put, List.setIfInBounds_toArray, List.set_cons_zero, List.set_cons_succ, List.getElem_toArray, List.getElem_cons_zero, List.getElem_cons_succ])
    refine wpAnyH_take (i := 9) (v := undef) rfl (by kernel_rfl) (by kernel_rfl) (by kernel_rfl) (fun _ _ _ h => h) (Or.inr ⟨by rfl, rfl⟩) hHeld ?_
    (try simp only [Act.put, List.setIfInBounds_toArray, List.set_cons_zero, List.set_cons_succ, List.getElem_toArray, List.getElem_cons_zero, List.getElem_cons_succ])
    refine wpAnyH_take (i := 10) (v := ?vz410) rfl (by kernel_rfl) (by kernel_rfl) (by kernel_rfl) (fun _ _ _ h => h) (Or.inl ⟨by rfl, ?hyz410⟩) hHeld ?restz410
    case hyz410 => intro w hSw; (try dsimp only at hSw); go_simp; try (with_reducible rfl)
    (try simp only [Act.put, List.setIfInBounds_toArray, List.set_cons_zero, List.set_cons_succ, List.getElem_toArray, List.getElem_cons_zero, List.getElem_cons_succ])
    refine wpAnyH_take (i := 11) (v := ?vz411) rfl (by kernel_rfl) (by kernel_rfl) (by kernel_rfl) (fun _ _ _ h => h) (Or.inl ⟨by rfl, ?hyz411⟩) hHeld ?restz411
    case hyz411 => intro w hSw; (try dsimp only at hSw); go_simp; try (with_reducible rfl)
    (try simp only [Act.put, List.setIfInBounds_toArray, List.set_cons_zero, List.set_cons_succ, List.getElem_toArray, List.getElem_cons_zero, List.getElem_cons_succ])
    refine wpAnyH_done (by kernel_rfl) ?_ _
    go_wp2_with fail
    go_ret
    exact ⟨rfl, HFw8.out.drew⟩
  · cases b
    · obtain rfl : ab = false := by rw [← hab]; rfl
      clear hab
      go_enter Try.func3, Try.ntmps3
      go_wp2_with fail
      clear hw1 hg1 hw2 hg2
      refine (HAW.out _).mono ?_
      rintro e w2 ⟨rfl, hf⟩
      have HFw2 := Lib.hid (HFw1.out.trans hf (fun _ _ h => h))
      have HR2 := Lib.hid (HR1.out.fr hf (fun h => h))
      have HS2 := Lib.hid (HS1.out.fr hf (fun h => h))
      clear hf
      obtain ⟨c0, c1, c2, c3⟩ := HR2.out.cells
      obtain ⟨d0, d1, d2, d3⟩ := HS2.out.cells
      go_upto_region 3 with fail
      clear c0 c1 c2 c3 d0 d1 d2 d3
      refine wp_region_held_drew (S := fun w' => Fr (fun _ => False) w2 w') (by kernel_rfl) ?_ (fun hHeld => ?_)
      · exact (Fr.refl _ _).drew
      refine wpAnyH_take (i := 0) (v := ?vz50) rfl (by kernel_rfl) (by kernel_rfl) (by kernel_rfl) (fun _ _ _ h => h) (Or.inl ⟨by rfl, ?hyz50⟩) hHeld ?restz50
      case hyz50 => intro w hSw; (try dsimp only at hSw); obtain ⟨c0, c1, c2, c3⟩ := (HR2.out.fr hSw (fun h => h)).cells; go_simp; try (with_reducible rfl)
      (try simp only [Act.put, List.setIfInBounds_toArray, List.set_cons_zero, List.set_cons_succ, List.getElem_toArray, List.getElem_cons_zero])
      refine wpAnyH_take (i := 2) (v := ?vz52) rfl (by kernel_rfl) (by kernel_rfl) (by kernel_rfl) (fun _ _ _ h => h) (Or.inl ⟨by rfl, ?hyz52⟩) hHeld ?restz52
      case hyz52 => intro w hSw; (try dsimp only at hSw); obtain ⟨c0, c1, c2, c3⟩ := (HS2.out.fr hSw (fun h => h)).cells; go_simp; try (with_reducible rfl)
      (try simp only [Act.put, List.setIfInBounds_toArray, List.set_cons_zero, List.set_cons_succ, List.getElem_toArray, List.getElem_cons_zero, List.getElem_cons_succ])
      refine wpAnyH_ready (rs := [1]) (by kernel_rfl) (by simp) ?_
      refine AllReadyH.cons rfl (fun Kx hKx => ?_) AllReadyH.nil
      go_simp
      have hcon := R1.out w2.drew
      with_reducible refine hcon.mono ?_
      clear hcon
      rintro e' w3 ⟨rfl, hff⟩
      have HFw3 : Hid (Fr (fun _ => False) w2 w3) := Lib.hid ((Fr.refl _ _).drew.trans hff (fun _ _ h => h))
      refine hKx.out _ _ ?_ (fun hHeld => ?_)
      · exact HFw3.out
      clear hKx Kx hff
      (try simp only [Act.put, List.setIfInBounds_toArray, List.set_cons_zero, List.set_cons_succ, List.getElem_toArray, List.getElem_cons_zero, List.getElem_cons_succ])
      refine wpAnyH_more (fun w' => Fr (fun _ => False) w3 w') (fun _ h => HFw3.out.trans h (fun _ _ h => h)) ?_ (fun hHeld => ?_)
      · exact Fr.refl _ _
      refine wpAnyH_ready (rs := [3]) (by kernel_rfl) (by simp) ?_
      refine AllReadyH.cons rfl (fun Kx hKx => ?_) AllReadyH.nil
      go_simp
      have hcon := R2.out w3
      with_reducible refine hcon.mono ?_
      clear hcon
      rintro e' w4 ⟨rfl, hff⟩
      have HFw4 : Hid (Fr (fun _ => False) w3 w4) := Lib.hid (hff)
      refine hKx.out _ _ ?_ (fun hHeld => ?_)
      · exact HFw4.out
      clear hKx Kx hff
      (try simp only [Act.put, List.setIfInBounds_toArray, List.set_cons_zero, List.set_cons_succ, List.getElem_toArray, List.getElem_cons_zero, List.getElem_cons_succ])
      refine wpAnyH_more (fun w' => Fr (fun _ => False) w4 w') (fun _ h => HFw4.out.trans h (fun _ _ h => h)) ?_ (fun hHeld => ?_)
      · exact Fr.refl _ _
      refine wpAnyH_take (i := 4) (v := ?vz54) rfl (by kernel_rfl) (by kernel_rfl) (by kernel_rfl) (fun _ _ _ h => h) (Or.inl ⟨by rfl, ?hyz54⟩) hHeld ?restz54
      case hyz54 => intro w hSw; (try dsimp only at hSw); go_simp; try (with_reducible rfl)
      (try simp only [Act.put, List.setIfInBounds_toArray, List.set_cons_zero, List.set_cons_succ, List.getElem_toArray, List.getElem_cons_zero, List.getElem_cons_succ])
      refine wpAnyH_take (i := 5) (v := ?vz55) rfl (by kernel_rfl) (by kernel_rfl) (by kernel_rfl) (fun _ _ _ h => h) (Or.inl ⟨by rfl, ?hyz55⟩) hHeld ?restz55
      case hyz55 => intro w hSw; (try dsimp only at hSw); go_simp; try (with_reducible rfl)
      (try simp only [Act.put, List.setIfInBounds_toArray, List.set_cons_zero, List.set_cons_succ, List.getElem_toArray, List.getElem_cons_zero, List.getElem_cons_succ])
      refine wpAnyH_done (by kernel_rfl) ?_ _
      clear HAW R1 R2
      have HR4 := Lib.hid ((HR2.out.fr HFw3.out (fun h => h)).fr HFw4.out (fun h => h))
      have HS4 := Lib.hid ((HS2.out.fr HFw3.out (fun h => h)).fr HFw4.out (fun h => h))
      have HFw5 := Lib.hid ((HFw2.out.trans HFw3.out (fun _ _ h => h)).trans HFw4.out (fun _ _ h => h))
      have HR5 := HR4
      have HS5 := HS4
      obtain ⟨c0, c1, c2, c3⟩ := HR5.out.cells
      obtain ⟨d0, d1, d2, d3⟩ := HS5.out.cells
      go_wp2_with fail
      refine (H1.out _).mono ?_
      rintro e w6 ⟨rfl, hf⟩
      have HFw6 := Lib.hid (HFw5.out.trans hf (fun _ _ h => h))
      have HR6 := Lib.hid (HR5.out.fr hf (fun h => h))
      have HS6 := Lib.hid (HS5.out.fr hf (fun h => h))
      clear hf c0 c1 c2 c3 d0 d1 d2 d3
      obtain ⟨c0, c1, c2, c3⟩ := HR6.out.cells
      obtain ⟨d0, d1, d2, d3⟩ := HS6.out.cells
      go_wp2_with fail
      refine (H2.out _).mono ?_
      rintro e w7 ⟨rfl, hf⟩
      have HFw7 := Lib.hid (HFw6.out.trans hf (fun _ _ h => h))
      have HR7 := Lib.hid (HR6.out.fr hf (fun h => h))
      have HS7 := Lib.hid (HS6.out.fr hf (fun h => h))
      clear hf c0 c1 c2 c3 d0 d1 d2 d3
      obtain ⟨c0, c1, c2, c3⟩ := HR7.out.cells
      obtain ⟨d0, d1, d2, d3⟩ := HS7.out.cells
      go_wp2_with fail
      refine (H3.out _).mono ?_
      rintro e w8 ⟨rfl, hf⟩
      have HFw8 := Lib.hid (HFw7.out.trans hf (fun _ _ h => h))
      have HR8 := Lib.hid (HR7.out.fr hf (fun h => h))
      have HS8 := Lib.hid (HS7.out.fr hf (fun h => h))
      clear hf c0 c1 c2 c3 d0 d1 d2 d3
      obtain ⟨c0, c1, c2, c3⟩ := HR8.out.cells
      obtain ⟨d0, d1, d2, d3⟩ := HS8.out.cells
      go_upto_region 6 with fail
      clear c0 c1 c2 c3 d0 d1 d2 d3
      refine wp_region_held_drew (S := fun w' => Fr (fun _ => False) w8 w') (by kernel_rfl) ?_ (fun hHeld => ?_)
      · exact (Fr.refl _ _).drew
      refine wpAnyH_take (i := 0) (v := ?vz60) rfl (by kernel_rfl) (by kernel_rfl) (by kernel_rfl) (fun _ _ _ h => h) (Or.inl ⟨by rfl, ?hyz60⟩) hHeld ?restz60
      case hyz60 => intro w hSw; (try dsimp only at hSw); go_simp; try (with_reducible rfl)
      (try simp only [Act.put, List.setIfInBounds_toArray, List.set_cons_zero, List.set_cons_succ, List.getElem_toArray, List.getElem_cons_zero])
      refine wpAnyH_take (i := 1) (v := ?vz61) rfl (by kernel_rfl) (by kernel_rfl) (by kernel_rfl) (fun _ _ _ h => h) (Or.inl ⟨by rfl, ?hyz61⟩) hHeld ?restz61
      case hyz61 => intro w hSw; (try dsimp only at hSw); go_simp; try (with_reducible rfl)
      (try simp only [Act.put, List.setIfInBounds_toArray, List.set_cons_zero, List.set_cons_succ, List.getElem_toArray, List.getElem_cons_zero, List.getElem_cons_succ])
      refine wpAnyH_take (i := 2) (v := ?vz62) rfl (by kernel_rfl) (by kernel_rfl) (by kernel_rfl) (fun _ _ _ h => h) (Or.inl ⟨by rfl, ?hyz62⟩) hHeld ?restz62
      case hyz62 => intro w hSw; (try dsimp only at hSw); go_simp; try (with_reducible rfl)
      (try simp only [Act.put, List.setIfInBounds_toArray, List.set_cons_zero, List.set_cons_succ, List.getElem_toArray, List.getElem_cons_zero, List.getElem_cons_succ])
      refine wpAnyH_take (i := 3) (v := ?vz63) rfl (by kernel_rfl) (by kernel_rfl) (by kernel_rfl) (fun _ _ _ h => h) (Or.inl ⟨by rfl, ?hyz63⟩) hHeld ?restz63
      case hyz63 => intro w hSw; (try dsimp only at hSw); obtain ⟨c0, c1, c2, c3⟩ := (HR8.out.fr hSw (fun h => h)).cells; go_simp; try (with_reducible rfl)
      (try simp only [Act.put, List.setIfInBounds_toArray, List.set_cons_zero, List.set_cons_succ, List.getElem_toArray, List.getElem_cons_zero, List.getElem_cons_succ])
      refine wpAnyH_take (i := 6) (v := ?vz66) rfl (by kernel_rfl) (by kernel_rfl) (by kernel_rfl) (fun _ _ _ h => h) (Or.inl ⟨by rfl, ?hyz66⟩) hHeld ?restz66
      case hyz66 => intro w hSw; (try dsimp only at hSw); obtain ⟨c0, c1, c2, c3⟩ := (HR8.out.fr hSw (fun h => h)).cells; go_simp; try (with_reducible rfl)
      (try simp only [Act.put, List.setIfInBounds_toArray, List.set_cons_zero, List.set_cons_succ, List.getElem_toArray, List.getElem_cons_zero, List.getElem_cons_succ])
      refine wpAnyH_ready (rs := [4]) (by kernel_rfl) (by simp) ?_
      refine AllReadyH.cons rfl (fun Kx hKx => ?_) AllReadyH.nil
      go_simp
      have hcon := HPT.out w8.drew
      with_reducible refine hcon.mono ?_
      clear hcon
      rintro e' w9 ⟨A9, m9, rfl, hc9, hr9, hff⟩
      have HFw9 : Hid (Fr (fun _ => False) w8 w9) := Lib.hid ((Fr.refl _ _).drew.trans hff (fun _ _ h => h))
      have HR9 := Lib.hid hr9
      clear hc9 hr9
      refine hKx.out _ _ ?_ (fun hHeld => ?_)
      · exact HFw9.out
      clear hKx Kx hff
      (try simp only [Act.put, List.setIfInBounds_toArray, List.set_cons_zero, List.set_cons_succ, List.getElem_toArray, List.getElem_cons_zero, List.getElem_cons_succ])
      refine wpAnyH_more (fun w' => Fr (fun _ => False) w9 w') (fun _ h => HFw9.out.trans h (fun _ _ h => h)) ?_ (fun hHeld => ?_)
      · exact Fr.refl _ _
      refine wpAnyH_take (i := 5) (v := ?vz65) rfl (by kernel_rfl) (by kernel_rfl) (by kernel_rfl) (fun _ _ _ h => h) (Or.inl ⟨by rfl, ?hyz65⟩) hHeld ?restz65
      case hyz65 => intro w hSw; (try dsimp only at hSw); have hcv := str_rd (HR9.out.fr hSw (fun _ _ h => h)) m9; go_simp; try (with_reducible rfl)
      (try simp only [Act.put, List.setIfInBounds_toArray, List.set_cons_zero, List.set_cons_succ, List.getElem_toArray, List.getElem_cons_zero, List.getElem_cons_succ])
      refine wpAnyH_ready (rs := [7]) (by kernel_rfl) (by simp) ?_
      refine AllReadyH.cons rfl (fun Kx hKx => ?_) AllReadyH.nil
      go_simp
      have hcon := HPR.out w9
      with_reducible refine hcon.mono ?_
      clear hcon
      rintro e' w10 ⟨A10, m10, rfl, hc10, hr10, hff⟩
      have HFw10 : Hid (Fr (fun _ => False) w9 w10) := Lib.hid (hff)
      have HR10 := Lib.hid hr10
      clear hc10 hr10
      refine hKx.out _ _ ?_ (fun hHeld => ?_)
      · exact HFw10.out
      clear hKx Kx hff
      (try simp only [Act.put, List.setIfInBounds_toArray, List.set_cons_zero, List.set_cons_succ, List.getElem_toArray, List.getElem_cons_zero, List.getElem_cons_succ])
      refine wpAnyH_more (fun w' => Fr (fun _ => False) w10 w') (fun _ h => HFw10.out.trans h (fun _ _ h => h)) ?_ (fun hHeld => ?_)
      · exact Fr.refl _ _
      refine wpAnyH_take (i := 8) (v := ?vz68) rfl (by kernel_rfl) (by kernel_rfl) (by kernel_rfl) (fun _ _ _ h => h) (Or.inl ⟨by rfl, ?hyz68⟩) hHeld ?restz68
      case hyz68 => intro w hSw; (try dsimp only at hSw); have hcv := str_rd (HR10.out.fr hSw (fun _ _ h => h)) m10; go_simp; try (with_reducible rfl)
      (try simp only [Act.put, List.setIfInBounds_toArray, List.set_cons_zero, List.set_cons_succ, List.getElem_toArray, List.getElem_cons_zero, List.getElem_cons_succ])
      refine wpAnyH_take (i := 9) (v := ?vz69) rfl (by kernel_rfl) (by kernel_rfl) (by kernel_rfl) (fun _ _ _ h => h) (Or.inl ⟨by rfl, ?hyz69⟩) hHeld ?restz69
      case hyz69 => intro w hSw; (try dsimp only at hSw); go_simp; try (with_reducible rfl)
      (try simp only [Act.put, List.setIfInBounds_toArray, List.set_cons_zero, List.set_cons_succ, List.getElem_toArray, List.getElem_cons_zero, List.getElem_cons_succ])
      refine wpAnyH_take (i := 10) (v := ?vz610) rfl (by kernel_rfl) (by kernel_rfl) (by kernel_rfl) (fun _ _ _ h => h) (Or.inl ⟨by rfl, ?hyz610⟩) hHeld ?restz610
      case hyz610 => intro w hSw; (try dsimp only at hSw); go_simp; try (with_reducible rfl)
      (try simp only [Act.put, List.setIfInBounds_toArray, List.set_cons_zero, List.set_cons_succ, List.getElem_toArray, List.getElem_cons_zero, List.getElem_cons_succ])
      refine wpAnyH_take (i := 11) (v := ?vz611) rfl (by kernel_rfl) (by kernel_rfl) (by kernel_rfl) (fun _ _ _ h => h) (Or.inl ⟨by rfl, ?hyz611⟩) hHeld ?restz611
      case hyz611 => intro w hSw; (try dsimp only at hSw); go_simp; try (with_reducible rfl)
      (try simp only [Act.put, List.setIfInBounds_toArray, List.set_cons_zero, List.set_cons_succ, List.getElem_toArray, List.getElem_cons_zero, List.getElem_cons_succ])
      refine wpAnyH_done (by kernel_rfl) ?_ _
      go_wp2_with fail
      go_ret
      exact ⟨rfl, (HFw8.out.trans HFw9.out (fun _ _ h => h)).trans HFw10.out (fun _ _ h => h)⟩
    · obtain rfl : ab = true := by rw [← hab]; rfl
      clear hab
      go_enter Try.func3, Try.ntmps3
      go_wp2_with fail
      clear hw1 hg1 hw2 hg2
      refine (HAW.out _).mono ?_
      rintro e w2 ⟨rfl, hf⟩
      have HFw2 := Lib.hid (HFw1.out.trans hf (fun _ _ h => h))
      have HR2 := Lib.hid (HR1.out.fr hf (fun h => h))
      have HS2 := Lib.hid (HS1.out.fr hf (fun h => h))
      clear hf
      obtain ⟨c0, c1, c2, c3⟩ := HR2.out.cells
      obtain ⟨d0, d1, d2, d3⟩ := HS2.out.cells
      go_upto_region 3 with fail
      clear c0 c1 c2 c3 d0 d1 d2 d3
      refine wp_region_held_drew (S := fun w' => Fr (fun _ => False) w2 w') (by kernel_rfl) ?_ (fun hHeld => ?_)
      · exact (Fr.refl _ _).drew
      refine wpAnyH_take (i := 0) (v := ?vz70) rfl (by kernel_rfl) (by kernel_rfl) (by kernel_rfl) (fun _ _ _ h => h) (Or.inl ⟨by rfl, ?hyz70⟩) hHeld ?restz70
      case hyz70 => intro w hSw; (try dsimp only at hSw); obtain ⟨c0, c1, c2, c3⟩ := (HR2.out.fr hSw (fun h => h)).cells; go_simp; try (with_reducible rfl)
      (try simp only [Act.put, List.setIfInBounds_toArray, List.set_cons_zero, List.set_cons_succ, List.getElem_toArray, List.getElem_cons_zero])
      refine wpAnyH_take (i := 2) (v := ?vz72) rfl (by kernel_rfl) (by kernel_rfl) (by kernel_rfl) (fun _ _ _ h => h) (Or.inl ⟨by rfl, ?hyz72⟩) hHeld ?restz72
      case hyz72 => intro w hSw; (try dsimp only at hSw); obtain ⟨c0, c1, c2, c3⟩ := (HS2.out.fr hSw (fun h => h)).cells; go_simp; try (with_reducible rfl)
      (try simp only [Act.put, List.setIfInBounds_toArray, List.set_cons_zero, List.set_cons_succ, List.getElem_toArray, List.getElem_cons_zero, List.getElem_cons_succ])
      refine wpAnyH_ready (rs := [1]) (by kernel_rfl) (by simp) ?_
      refine AllReadyH.cons rfl (fun Kx hKx => ?_) AllReadyH.nil
      go_simp
      have hcon := R1.out w2.drew
      with_reducible refine hcon.mono ?_
      clear hcon
      rintro e' w3 ⟨rfl, hff⟩
      have HFw3 : Hid (Fr (fun _ => False) w2 w3) := Lib.hid ((Fr.refl _ _).drew.trans hff (fun _ _ h => h))
      refine hKx.out _ _ ?_ (fun hHeld => ?_)
      · exact HFw3.out
      clear hKx Kx hff
      (try simp only [Act.put, List.setIfInBounds_toArray, List.set_cons_zero, List.set_cons_succ, List.getElem_toArray, List.getElem_cons_zero, List.getElem_cons_succ])
      refine wpAnyH_more (fun w' => Fr (fun _ => False) w3 w') (fun _ h => HFw3.out.trans h (fun _ _ h => h)) ?_ (fun hHeld => ?_)
      · exact Fr.refl _ _
      refine wpAnyH_ready (rs := [3]) (by kernel_rfl) (by simp) ?_
      refine AllReadyH.cons rfl (fun Kx hKx => ?_) AllReadyH.nil
      go_simp
      have hcon := R2.out w3
      with_reducible refine hcon.mono ?_
      clear hcon
      rintro e' w4 ⟨rfl, hff⟩
      have HFw4 : Hid (Fr (fun _ => False) w3 w4) := Lib.hid (hff)
      refine hKx.out _ _ ?_ (fun hHeld => ?_)
      · exact HFw4.out
      clear hKx Kx hff
      (try simp only [Act.put, List.setIfInBounds_toArray, List.set_cons_zero, List.set_cons_succ, List.getElem_toArray, List.getElem_cons_zero, List.getElem_cons_succ])
      refine wpAnyH_more (fun w' => Fr (fun _ => False) w4 w') (fun _ h => HFw4.out.trans h (fun _ _ h => h)) ?_ (fun hHeld => ?_)
      · exact Fr.refl _ _
      refine wpAnyH_take (i := 4) (v := ?vz74) rfl (by kernel_rfl) (by kernel_rfl) (by kernel_rfl) (fun _ _ _ h => h) (Or.inl ⟨by rfl, ?hyz74⟩) hHeld ?restz74
      case hyz74 => intro w hSw; (try dsimp only at hSw); go_simp; try (with_reducible rfl)
      (try simp only [Act.put, List.setIfInBounds_toArray, List.set_cons_zero, List.set_cons_succ, List.getElem_toArray, List.getElem_cons_zero, List.getElem_cons_succ])
      refine wpAnyH_take (i := 5) (v := ?vz75) rfl (by kernel_rfl) (by kernel_rfl) (by kernel_rfl) (fun _ _ _ h => h) (Or.inl ⟨by rfl, ?hyz75⟩) hHeld ?restz75
      case hyz75 => intro w hSw; (try dsimp only at hSw); go_simp; try (with_reducible rfl)
      (try simp only [Act.put, List.setIfInBounds_toArray, List.set_cons_zero, List.set_cons_succ, List.getElem_toArray, List.getElem_cons_zero, List.getElem_cons_succ])
      refine wpAnyH_done (by kernel_rfl) ?_ _
      clear HAW R1 R2
      have HR4 := Lib.hid ((HR2.out.fr HFw3.out (fun h => h)).fr HFw4.out (fun h => h))
      have HS4 := Lib.hid ((HS2.out.fr HFw3.out (fun h => h)).fr HFw4.out (fun h => h))
      have HFw5 := Lib.hid ((HFw2.out.trans HFw3.out (fun _ _ h => h)).trans HFw4.out (fun _ _ h => h))
      have HR5 := HR4
      have HS5 := HS4
      obtain ⟨c0, c1, c2, c3⟩ := HR5.out.cells
      obtain ⟨d0, d1, d2, d3⟩ := HS5.out.cells
      go_wp2_with fail
      refine (H1.out _).mono ?_
      rintro e w6 ⟨rfl, hf⟩
      have HFw6 := Lib.hid (HFw5.out.trans hf (fun _ _ h => h))
      have HR6 := Lib.hid (HR5.out.fr hf (fun h => h))
      have HS6 := Lib.hid (HS5.out.fr hf (fun h => h))
      clear hf c0 c1 c2 c3 d0 d1 d2 d3
      obtain ⟨c0, c1, c2, c3⟩ := HR6.out.cells
      obtain ⟨d0, d1, d2, d3⟩ := HS6.out.cells
      go_wp2_with fail
      refine (H2.out _).mono ?_
      rintro e w7 ⟨rfl, hf⟩
      have HFw7 := Lib.hid (HFw6.out.trans hf (fun _ _ h => h))
      have HR7 := Lib.hid (HR6.out.fr hf (fun h => h))
      have HS7 := Lib.hid (HS6.out.fr hf (fun h => h))
      clear hf c0 c1 c2 c3 d0 d1 d2 d3
      obtain ⟨c0, c1, c2, c3⟩ := HR7.out.cells
      obtain ⟨d0, d1, d2, d3⟩ := HS7.out.cells
      go_wp2_with fail
      refine (H3.out _).mono ?_
      rintro e w8 ⟨rfl, hf⟩
      have HFw8 := Lib.hid (HFw7.out.trans hf (fun _ _ h => h))
      have HR8 := Lib.hid (HR7.out.fr hf (fun h => h))
      have HS8 := Lib.hid (HS7.out.fr hf (fun h => h))
      clear hf c0 c1 c2 c3 d0 d1 d2 d3
      obtain ⟨c0, c1, c2, c3⟩ := HR8.out.cells
      obtain ⟨d0, d1, d2, d3⟩ := HS8.out.cells
      go_upto_region 6 with fail
      clear c0 c1 c2 c3 d0 d1 d2 d3
      refine wp_region_held_drew (S := fun w' => Fr (fun _ => False) w8 w') (by kernel_rfl) ?_ (fun hHeld => ?_)
      · exact (Fr.refl _ _).drew
      refine wpAnyH_take (i := 0) (v := ?vz80) rfl (by kernel_rfl) (by kernel_rfl) (by kernel_rfl) (fun _ _ _ h => h) (Or.inl ⟨by rfl, ?hyz80⟩) hHeld ?restz80
      case hyz80 => intro w hSw; (try dsimp only at hSw); go_simp; try (with_reducible rfl)
      (try simp only [Act.put, List.setIfInBounds_toArray, List.set_cons_zero, List.set_cons_succ, List.getElem_toArray, List.getElem_cons_zero])
      refine wpAnyH_take (i := 1) (v := ?vz81) rfl (by kernel_rfl) (by kernel_rfl) (by kernel_rfl) (fun _ _ _ h => h) (Or.inl ⟨by rfl, ?hyz81⟩) hHeld ?restz81
      case hyz81 => intro w hSw; (try dsimp only at hSw); go_simp; try (with_reducible rfl)
      (try simp only [Act.put, List.setIfInBounds_toArray, List.set_cons_zero, List.set_cons_succ, List.getElem_toArray, List.getElem_cons_zero, List.getElem_cons_succ])
      refine wpAnyH_take (i := 2) (v := ?vz82) rfl (by kernel_rfl) (by kernel_rfl) (by kernel_rfl) (fun _ _ _ h => h) (Or.inl ⟨by rfl, ?hyz82⟩) hHeld ?restz82
      case hyz82 => intro w hSw; (try dsimp only at hSw); go_simp; try (with_reducible rfl)
      (try simp only [Act.put, List.setIfInBounds_toArray, List.set_cons_zero, List.set_cons_succ, List.getElem_toArray, List.getElem_cons_zero, List.getElem_cons_succ])
      refine wpAnyH_take (i := 3) (v := ?vz83) rfl (by kernel_rfl) (by kernel_rfl) (by kernel_rfl) (fun _ _ _ h => h) (Or.inl ⟨by rfl, ?hyz83⟩) hHeld ?restz83
      case hyz83 => intro w hSw; (try dsimp only at hSw); obtain ⟨c0, c1, c2, c3⟩ := (HR8.out.fr hSw (fun h => h)).cells; go_simp; try (with_reducible rfl)
      (try simp only [Act.put, List.setIfInBounds_toArray, List.set_cons_zero, List.set_cons_succ, List.getElem_toArray, List.getElem_cons_zero, List.getElem_cons_succ])
      refine wpAnyH_take (i := 6) (v := ?vz86) rfl (by kernel_rfl) (by kernel_rfl) (by kernel_rfl) (fun _ _ _ h => h) (Or.inl ⟨by rfl, ?hyz86⟩) hHeld ?restz86
      case hyz86 => intro w hSw; (try dsimp only at hSw); obtain ⟨c0, c1, c2, c3⟩ := (HR8.out.fr hSw (fun h => h)).cells; go_simp; try (with_reducible rfl)
      (try simp only [Act.put, List.setIfInBounds_toArray, List.set_cons_zero, List.set_cons_succ, List.getElem_toArray, List.getElem_cons_zero, List.getElem_cons_succ])
      refine wpAnyH_ready (rs := [4]) (by kernel_rfl) (by simp) ?_
      refine AllReadyH.cons rfl (fun Kx hKx => ?_) AllReadyH.nil
      go_simp
      have hcon := HPT.out w8.drew
      with_reducible refine hcon.mono ?_
      clear hcon
      rintro e' w9 ⟨A9, m9, rfl, hc9, hr9, hff⟩
      have HFw9 : Hid (Fr (fun _ => False) w8 w9) := Lib.hid ((Fr.refl _ _).drew.trans hff (fun _ _ h => h))
      have HR9 := Lib.hid hr9
      clear hc9 hr9
      refine hKx.out _ _ ?_ (fun hHeld => ?_)
      · exact HFw9.out
      clear hKx Kx hff
      (try simp only [Act.put, List.setIfInBounds_toArray, List.set_cons_zero, List.set_cons_succ, List.getElem_toArray, List.getElem_cons_zero, List.getElem_cons_succ])
      refine wpAnyH_more (fun w' => Fr (fun _ => False) w9 w') (fun _ h => HFw9.out.trans h (fun _ _ h => h)) ?_ (fun hHeld => ?_)
      · exact Fr.refl _ _
      refine wpAnyH_take (i := 5) (v := ?vz85) rfl (by kernel_rfl) (by kernel_rfl) (by kernel_rfl) (fun _ _ _ h => h) (Or.inl ⟨by rfl, ?hyz85⟩) hHeld ?restz85
      case hyz85 => intro w hSw; (try dsimp only at hSw); have hcv := str_rd (HR9.out.fr hSw (fun _ _ h => h)) m9; go_simp; try (with_reducible rfl)
      (try simp only [Act.put, List.setIfInBounds_toArray, List.set_cons_zero, List.set_cons_succ, List.getElem_toArray, List.getElem_cons_zero, List.getElem_cons_succ])
      refine wpAnyH_ready (rs := [7]) (by kernel_rfl) (by simp) ?_
      refine AllReadyH.cons rfl (fun Kx hKx => ?_) AllReadyH.nil
      go_simp
      have hcon := HPR.out w9
      with_reducible refine hcon.mono ?_
      clear hcon
      rintro e' w10 ⟨A10, m10, rfl, hc10, hr10, hff⟩
      have HFw10 : Hid (Fr (fun _ => False) w9 w10) := Lib.hid (hff)
      have HR10 := Lib.hid hr10
      clear hc10 hr10
      refine hKx.out _ _ ?_ (fun hHeld => ?_)
      · exact HFw10.out
      clear hKx Kx hff
      (try simp only [Act.put, List.setIfInBounds_toArray, List.set_cons_zero, List.set_cons_succ, List.getElem_toArray, List.getElem_cons_zero, List.getElem_cons_succ])
      refine wpAnyH_more (fun w' => Fr (fun _ => False) w10 w') (fun _ h => HFw10.out.trans h (fun _ _ h => h)) ?_ (fun hHeld => ?_)
      · exact Fr.refl _ _
      refine wpAnyH_take (i := 8) (v := ?vz88) rfl (by kernel_rfl) (by kernel_rfl) (by kernel_rfl) (fun _ _ _ h => h) (Or.inl ⟨by rfl, ?hyz88⟩) hHeld ?restz88
      case hyz88 => intro w hSw; (try dsimp only at hSw); have hcv := str_rd (HR10.out.fr hSw (fun _ _ h => h)) m10; go_simp; try (with_reducible rfl)
      (try simp only [Act.put, List.setIfInBounds_toArray, List.set_cons_zero, List.set_cons_succ, List.getElem_toArray, List.getElem_cons_zero, List.getElem_cons_succ])
      refine wpAnyH_take (i := 9) (v := ?vz89) rfl (by kernel_rfl) (by kernel_rfl) (by kernel_rfl) (fun _ _ _ h => h) (Or.inl ⟨by rfl, ?hyz89⟩) hHeld ?restz89
      case hyz89 => intro w hSw; (try dsimp only at hSw); go_simp; try (with_reducible rfl)
      (try simp only [Act.put, List.setIfInBounds_toArray, List.set_cons_zero, List.set_cons_succ, List.getElem_toArray, List.getElem_cons_zero, List.getElem_cons_succ])
      refine wpAnyH_take (i := 10) (v := ?vz810) rfl (by kernel_rfl) (by kernel_rfl) (by kernel_rfl) (fun _ _ _ h => h) (Or.inl ⟨by rfl, ?hyz810⟩) hHeld ?restz810
      case hyz810 => intro w hSw; (try dsimp only at hSw); go_simp; try (with_reducible rfl)
      (try simp only [Act.put, List.setIfInBounds_toArray, List.set_cons_zero, List.set_cons_succ, List.getElem_toArray, List.getElem_cons_zero, List.getElem_cons_succ])
      refine wpAnyH_take (i := 11) (v := ?vz811) rfl (by kernel_rfl) (by kernel_rfl) (by kernel_rfl) (fun _ _ _ h => h) (Or.inl ⟨by rfl, ?hyz811⟩) hHeld ?restz811
      case hyz811 => intro w hSw; (try dsimp only at hSw); go_simp; try (with_reducible rfl)
      (try simp only [Act.put, List.setIfInBounds_toArray, List.set_cons_zero, List.set_cons_succ, List.getElem_toArray, List.getElem_cons_zero, List.getElem_cons_succ])
      refine wpAnyH_done (by kernel_rfl) ?_ _
      go_wp2_with fail
      go_ret
      exact ⟨rfl, (HFw8.out.trans HFw9.out (fun _ _ h => h)).trans HFw10.out (fun _ _ h => h)⟩
end Go.Proofs.Ytomhljpnpphbcaa
