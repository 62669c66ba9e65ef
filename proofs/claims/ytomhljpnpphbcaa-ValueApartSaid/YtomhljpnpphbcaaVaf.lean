/-
  Layer 14, the law ValueApart (written by gen_laws14.py).
-/
import Derived.Test.YtomhljpnpphbcaaVad
import Derived.Test.YtomhljpnpphbcaaLebC
import Derived.Test.YtomhljpnpphbcaaReg
namespace Go.Proofs.Ytomhljpnpphbcaa
open Go.RowKit Mem Go.Lib VaM LebM UtfM
attribute [local go_sem ↓] Go.wp_at_zero Go.wp_at_succ
set_option linter.unusedVariables false


set_option maxRecDepth 100000 in
set_option maxHeartbeats 6400000 in
theorem vapart_law (K : VaC) (v y : V) (w : World) (hv : v.ok) (hy : y.ok) (hmv : v.s.length ≤ maxLen) (hmy : y.s.length ≤ maxLen) : Calls Try.prog 6 #[valc v, valc y] w fun e w' => e = .returned (.bool true) ∧ Fr (fun _ => False) w w' := by
  obtain ⟨l, hl⟩ : ∃ l, l = v.s.length := ⟨_, rfl⟩
  have hszl : (txt v.s).size = l := by rw [txt_sz, hl]
  rw [← hl] at hmv
  have hxl : l ≤ 9223372036854775807 := hmv
  obtain ⟨m, hm⟩ : ∃ l, l = y.s.length := ⟨_, rfl⟩
  have hszm : (txt y.s).size = m := by rw [txt_sz, hm]
  rw [← hm] at hmy
  have hxm : m ≤ 9223372036854775807 := hmy
  obtain ⟨g1, hg1⟩ : ∃ g, w.heap.size = g := ⟨_, rfl⟩
  obtain ⟨w0, hw1⟩ : ∃ w', w.alloc (.cells #[.int .i64 v.k, .int .u64 (v.u : Int), .int .i64 v.n, .string (txt v.s)] 24) = w' := ⟨_, rfl⟩
  have hfb1 : Fr (fun _ => False) w w0 := by rw [← hw1]; exact (Fr.refl _ _).alloc _
  have hr1 : RowV w0 g1 v := by rw [← hw1, ← hg1]; exact RowV.new w v
  obtain ⟨g2, hg2⟩ : ∃ g, w0.heap.size = g := ⟨_, rfl⟩
  obtain ⟨w1, hw2⟩ : ∃ w', w0.alloc (.cells #[.int .i64 y.k, .int .u64 (y.u : Int), .int .i64 y.n, .string (txt y.s)] 24) = w' := ⟨_, rfl⟩
  have hfb2 : Fr (fun _ => False) w0 w1 := by rw [← hw2]; exact (Fr.refl _ _).alloc _
  have hr2 : RowV w1 g2 y := by rw [← hw2, ← hg2]; exact RowV.new w0 y
  have haw := fun w => awake14_any K w
  have HAW := Lib.hid haw
  have HR1 := Lib.hid (hr1.fr hfb2 (fun h => h))
  have HS1 := Lib.hid hr2
  have HFw1 := Lib.hid (hfb1.trans hfb2 (fun _ _ h => h))
  unfold valc
  clear hr1 hfb1 hr2 hfb2 haw
  by_cases hbig : 5000 < l
  · have tl : decide ((5000 : Int) < (l : Int)) = true := by simp; omega
    have ul : decide (5000 < l) = true := by simp; omega
    clear hl hv hm hy
    go_enter Try.func6, Try.ntmps6
    go_wp2_with fail
    clear hw1 hg1 hw2 hg2
    refine (HAW.out _).mono ?_
    rintro e w2 ⟨rfl, hf⟩
    have HFw2 := Lib.hid (HFw1.out.trans hf (fun _ _ h => h))
    have HR2 := Lib.hid (HR1.out.fr hf (fun h => h))
    have HS2 := Lib.hid (HS1.out.fr hf (fun h => h))
    clear hf
    obtain ⟨c0, c1, c2, c3⟩ := HR2.out.cells
    obtain ⟨d0, d1, d2, d3⟩ := HS2.out.cells
    go_wp2_with fail
    refine (HAW.out _).mono ?_
    rintro e w3 ⟨rfl, hf⟩
    have HFw3 := Lib.hid (HFw2.out.trans hf (fun _ _ h => h))
    clear hf
    go_wp2_with fail
    go_ret
    exact ⟨rfl, HFw3.out⟩
  by_cases hbig2 : 5000 < m
  · have tl : decide ((5000 : Int) < (l : Int)) = false := by simp; omega
    have ul : decide (5000 < l) = false := by simp; omega
    have tm : decide ((5000 : Int) < (m : Int)) = true := by simp; omega
    have um : decide (5000 < m) = true := by simp; omega
    clear hl hv hm hy
    go_enter Try.func6, Try.ntmps6
    go_wp2_with fail
    clear hw1 hg1 hw2 hg2
    refine (HAW.out _).mono ?_
    rintro e w2 ⟨rfl, hf⟩
    have HFw2 := Lib.hid (HFw1.out.trans hf (fun _ _ h => h))
    have HR2 := Lib.hid (HR1.out.fr hf (fun h => h))
    have HS2 := Lib.hid (HS1.out.fr hf (fun h => h))
    clear hf
    obtain ⟨c0, c1, c2, c3⟩ := HR2.out.cells
    obtain ⟨d0, d1, d2, d3⟩ := HS2.out.cells
    go_wp2_with fail
    refine (HAW.out _).mono ?_
    rintro e w3 ⟨rfl, hf⟩
    have HFw3 := Lib.hid (HFw2.out.trans hf (fun _ _ h => h))
    clear hf
    go_wp2_with fail
    go_ret
    exact ⟨rfl, HFw3.out⟩
  have tl : decide ((5000 : Int) < (l : Int)) = false := by simp; omega
  have ul : decide (5000 < l) = false := by simp; omega
  have tm : decide ((5000 : Int) < (m : Int)) = false := by simp; omega
  have um : decide (5000 < m) = false := by simp; omega
  have hrt := fun (w : World) => vright2 K v y w rfl hv hy (by omega) (by omega)
  have hpt := fun (w : World) => K.put v w hv
  have hpy := fun (w : World) => K.put y w hy
  have hap := put_apart hv hy
  obtain ⟨b, hb⟩ : ∃ b, (rightV v && rightV y) = b := ⟨_, rfl⟩
  simp only [hb] at hrt
  simp only [valc] at hpt hpy
  have HRT := Lib.hid hrt
  have HPT := Lib.hid hpt
  have HPY := Lib.hid hpy
  have HAP := Lib.hid hap
  have HB := Lib.hid hb
  clear hrt hpt hpy hap hv hy hb hl hm
  cases b
  · go_enter Try.func6, Try.ntmps6
    go_wp2_with fail
    clear hw1 hg1 hw2 hg2
    refine (HAW.out _).mono ?_
    rintro e w2 ⟨rfl, hf⟩
    have HFw2 := Lib.hid (HFw1.out.trans hf (fun _ _ h => h))
    have HR2 := Lib.hid (HR1.out.fr hf (fun h => h))
    have HS2 := Lib.hid (HS1.out.fr hf (fun h => h))
    clear hf
    obtain ⟨c0, c1, c2, c3⟩ := HR2.out.cells
    obtain ⟨d0, d1, d2, d3⟩ := HS2.out.cells
    go_wp2_with fail
    refine (HRT.out _).mono ?_
    rintro e w3 ⟨rfl, hf⟩
    have HFw3 := Lib.hid (HFw2.out.trans hf (fun _ _ h => h))
    have HR3 := Lib.hid (HR2.out.fr hf (fun h => h))
    have HS3 := Lib.hid (HS2.out.fr hf (fun h => h))
    clear hf
    go_wp2_with fail
    refine (HAW.out _).mono ?_
    rintro e w4 ⟨rfl, hf⟩
    have HFw4 := Lib.hid (HFw3.out.trans hf (fun _ _ h => h))
    clear hf
    go_wp2_with fail
    go_ret
    exact ⟨rfl, HFw4.out⟩
  · by_cases hk : v.k = y.k
    · obtain ⟨e1, he1⟩ : ∃ e1, eqV v y = e1 := ⟨_, rfl⟩
      have hrb := HB.out
      rw [Bool.and_eq_true] at hrb
      have hap2 := HAP.out hrb.1 hrb.2 hk
      obtain ⟨P, hP⟩ : ∃ P, putV v = P := ⟨_, rfl⟩
      obtain ⟨Q, hQ⟩ : ∃ Q, putV y = Q := ⟨_, rfl⟩
      rw [hP, hQ, he1] at hap2
      obtain ⟨q1, q2⟩ := v_eql v y
      rw [he1] at q2
      have hst : ((txt P).toList == (txt Q).toList) = e1 := by rw [beq_txt, hap2]
      have tk : (v.k != y.k) = false := by simp [hk]
      rw [hP] at HPT
      rw [hQ] at HPY
      have hbb : (e1 == e1) = true := by simp
      clear hrb hap2 HAP HB hP hQ he1 hk
      go_enter Try.func6, Try.ntmps6
      go_wp2_with fail
      clear hw1 hg1 hw2 hg2
      refine (HAW.out _).mono ?_
      rintro e w2 ⟨rfl, hf⟩
      have HFw2 := Lib.hid (HFw1.out.trans hf (fun _ _ h => h))
      have HR2 := Lib.hid (HR1.out.fr hf (fun h => h))
      have HS2 := Lib.hid (HS1.out.fr hf (fun h => h))
      clear hf
      obtain ⟨c0, c1, c2, c3⟩ := HR2.out.cells
      obtain ⟨d0, d1, d2, d3⟩ := HS2.out.cells
      go_wp2_with fail
      refine (HRT.out _).mono ?_
      rintro e w3 ⟨rfl, hf⟩
      have HFw3 := Lib.hid (HFw2.out.trans hf (fun _ _ h => h))
      have HR3 := Lib.hid (HR2.out.fr hf (fun h => h))
      have HS3 := Lib.hid (HS2.out.fr hf (fun h => h))
      clear hf
      clear c0 c1 c2 c3 d0 d1 d2 d3
      obtain ⟨c0, c1, c2, c3⟩ := HR3.out.cells
      obtain ⟨d0, d1, d2, d3⟩ := HS3.out.cells
      go_upto_region 3 with fail
      clear c0 c1 c2 c3 d0 d1 d2 d3 HAW HRT
      refine wp_region_held_drew (S := fun w' => Fr (fun _ => False) w3 w') (by kernel_rfl) ?_ (fun hHeld => ?_)
      · exact (Fr.refl _ _).drew
      refine wpAnyH_take (i := 0) (v := ?vz10) rfl (by kernel_rfl) (by kernel_rfl) (by kernel_rfl) (fun _ _ _ h => h) (Or.inl ⟨by rfl, ?hyz10⟩) hHeld ?restz10
      case hyz10 => intro w hSw; (try dsimp only at hSw); obtain ⟨c0, c1, c2, c3⟩ := (HR3.out.fr hSw (fun h => h)).cells; go_simp; try (with_reducible rfl)
      (try simp only [Act.put, List.setIfInBounds_toArray, List.set_cons_zero, List.set_cons_succ, List.getElem_toArray, List.getElem_cons_zero])
      refine wpAnyH_take (i := 3) (v := ?vz13) rfl (by kernel_rfl) (by kernel_rfl) (by kernel_rfl) (fun _ _ _ h => h) (Or.inl ⟨by rfl, ?hyz13⟩) hHeld ?restz13
      case hyz13 => intro w hSw; (try dsimp only at hSw); obtain ⟨c0, c1, c2, c3⟩ := (HS3.out.fr hSw (fun h => h)).cells; go_simp; try (with_reducible rfl)
      (try simp only [Act.put, List.setIfInBounds_toArray, List.set_cons_zero, List.set_cons_succ, List.getElem_toArray, List.getElem_cons_zero, List.getElem_cons_succ])
      refine wpAnyH_take (i := 7) (v := ?vz17) rfl (by kernel_rfl) (by kernel_rfl) (by kernel_rfl) (fun _ _ _ h => h) (Or.inl ⟨by rfl, ?hyz17⟩) hHeld ?restz17
      case hyz17 => intro w hSw; (try dsimp only at hSw); obtain ⟨c0, c1, c2, c3⟩ := (HR3.out.fr hSw (fun h => h)).cells; go_simp; try (with_reducible rfl)
      (try simp only [Act.put, List.setIfInBounds_toArray, List.set_cons_zero, List.set_cons_succ, List.getElem_toArray, List.getElem_cons_zero, List.getElem_cons_succ])
      refine wpAnyH_take (i := 8) (v := ?vz18) rfl (by kernel_rfl) (by kernel_rfl) (by kernel_rfl) (fun _ _ _ h => h) (Or.inl ⟨by rfl, ?hyz18⟩) hHeld ?restz18
      case hyz18 => intro w hSw; (try dsimp only at hSw); obtain ⟨c0, c1, c2, c3⟩ := (HS3.out.fr hSw (fun h => h)).cells; go_simp; try (with_reducible rfl)
      (try simp only [Act.put, List.setIfInBounds_toArray, List.set_cons_zero, List.set_cons_succ, List.getElem_toArray, List.getElem_cons_zero, List.getElem_cons_succ])
      refine wpAnyH_take (i := 9) (v := ?vz19) rfl (by kernel_rfl) (by kernel_rfl) (by kernel_rfl) (fun _ _ _ h => h) (Or.inl ⟨by rfl, ?hyz19⟩) hHeld ?restz19
      case hyz19 => intro w hSw; (try dsimp only at hSw); go_simp; try (with_reducible rfl)
      (try simp only [Act.put, List.setIfInBounds_toArray, List.set_cons_zero, List.set_cons_succ, List.getElem_toArray, List.getElem_cons_zero, List.getElem_cons_succ])
      refine wpAnyH_ready (rs := [1]) (by kernel_rfl) (by simp) ?_
      refine AllReadyH.cons rfl (fun Kx hKx => ?_) AllReadyH.nil
      go_simp
      have hcon := HPT.out w3.drew
      with_reducible refine hcon.mono ?_
      clear hcon
      rintro e' w4 ⟨A4, m4, rfl, hc4, hr4, hff⟩
      have HFw4 : Hid (Fr (fun _ => False) w3 w4) := Lib.hid ((Fr.refl _ _).drew.trans hff (fun _ _ h => h))
      have HR4 := Lib.hid hr4
      clear hc4 hr4
      refine hKx.out _ _ ?_ (fun hHeld => ?_)
      · exact HFw4.out
      clear hKx Kx hff
      (try simp only [Act.put, List.setIfInBounds_toArray, List.set_cons_zero, List.set_cons_succ, List.getElem_toArray, List.getElem_cons_zero, List.getElem_cons_succ])
      refine wpAnyH_more (fun w' => Fr (fun _ => False) w4 w') (fun _ h => HFw4.out.trans h (fun _ _ h => h)) ?_ (fun hHeld => ?_)
      · exact Fr.refl _ _
      refine wpAnyH_take (i := 2) (v := ?vz12) rfl (by kernel_rfl) (by kernel_rfl) (by kernel_rfl) (fun _ _ _ h => h) (Or.inl ⟨by rfl, ?hyz12⟩) hHeld ?restz12
      case hyz12 => intro w hSw; (try dsimp only at hSw); have hcv := str_rd (HR4.out.fr hSw (fun _ _ h => h)) m4; go_simp; try (with_reducible rfl)
      (try simp only [Act.put, List.setIfInBounds_toArray, List.set_cons_zero, List.set_cons_succ, List.getElem_toArray, List.getElem_cons_zero, List.getElem_cons_succ])
      refine wpAnyH_ready (rs := [4]) (by kernel_rfl) (by simp) ?_
      refine AllReadyH.cons rfl (fun Kx hKx => ?_) AllReadyH.nil
      go_simp
      have hcon := HPY.out w4
      with_reducible refine hcon.mono ?_
      clear hcon
      rintro e' w5 ⟨A5, m5, rfl, hc5, hr5, hff⟩
      have HFw5 : Hid (Fr (fun _ => False) w4 w5) := Lib.hid (hff)
      have HR5 := Lib.hid hr5
      clear hc5 hr5
      refine hKx.out _ _ ?_ (fun hHeld => ?_)
      · exact HFw5.out
      clear hKx Kx hff
      (try simp only [Act.put, List.setIfInBounds_toArray, List.set_cons_zero, List.set_cons_succ, List.getElem_toArray, List.getElem_cons_zero, List.getElem_cons_succ])
      refine wpAnyH_more (fun w' => Fr (fun _ => False) w5 w') (fun _ h => HFw5.out.trans h (fun _ _ h => h)) ?_ (fun hHeld => ?_)
      · exact Fr.refl _ _
      refine wpAnyH_take (i := 5) (v := ?vz15) rfl (by kernel_rfl) (by kernel_rfl) (by kernel_rfl) (fun _ _ _ h => h) (Or.inl ⟨by rfl, ?hyz15⟩) hHeld ?restz15
      case hyz15 => intro w hSw; (try dsimp only at hSw); have hcv := str_rd (HR5.out.fr hSw (fun _ _ h => h)) m5; go_simp; try (with_reducible rfl)
      (try simp only [Act.put, List.setIfInBounds_toArray, List.set_cons_zero, List.set_cons_succ, List.getElem_toArray, List.getElem_cons_zero, List.getElem_cons_succ])
      refine wpAnyH_take (i := 6) (v := ?vz16) rfl (by kernel_rfl) (by kernel_rfl) (by kernel_rfl) (fun _ _ _ h => h) (Or.inl ⟨by rfl, ?hyz16⟩) hHeld ?restz16
      case hyz16 => intro w hSw; (try dsimp only at hSw); go_simp; try (with_reducible rfl)
      (try simp only [Act.put, List.setIfInBounds_toArray, List.set_cons_zero, List.set_cons_succ, List.getElem_toArray, List.getElem_cons_zero, List.getElem_cons_succ])
      refine wpAnyH_take (i := 10) (v := ?vz110) rfl (by kernel_rfl) (by kernel_rfl) (by kernel_rfl) (fun _ _ _ h => h) (Or.inl ⟨by rfl, ?hyz110⟩) hHeld ?restz110
      case hyz110 => intro w hSw; (try dsimp only at hSw); go_simp; try (with_reducible rfl)
      (try simp only [Act.put, List.setIfInBounds_toArray, List.set_cons_zero, List.set_cons_succ, List.getElem_toArray, List.getElem_cons_zero, List.getElem_cons_succ])
      refine wpAnyH_take (i := 11) (v := ?vz111) rfl (by kernel_rfl) (by kernel_rfl) (by kernel_rfl) (fun _ _ _ h => h) (Or.inl ⟨by rfl, ?hyz111⟩) hHeld ?restz111
      case hyz111 => intro w hSw; (try dsimp only at hSw); go_simp; try (with_reducible rfl)
      (try simp only [Act.put, List.setIfInBounds_toArray, List.set_cons_zero, List.set_cons_succ, List.getElem_toArray, List.getElem_cons_zero, List.getElem_cons_succ])
      refine wpAnyH_done (by kernel_rfl) ?_ _
      go_wp2_with fail
      go_ret
      exact ⟨rfl, (HFw3.out.trans HFw4.out (fun _ _ h => h)).trans HFw5.out (fun _ _ h => h)⟩
    · have tk : (v.k != y.k) = true := by simp [hk]
      clear hk HAP HB HPT HPY
      go_enter Try.func6, Try.ntmps6
      go_wp2_with fail
      clear hw1 hg1 hw2 hg2
      refine (HAW.out _).mono ?_
      rintro e w2 ⟨rfl, hf⟩
      have HFw2 := Lib.hid (HFw1.out.trans hf (fun _ _ h => h))
      have HR2 := Lib.hid (HR1.out.fr hf (fun h => h))
      have HS2 := Lib.hid (HS1.out.fr hf (fun h => h))
      clear hf
      obtain ⟨c0, c1, c2, c3⟩ := HR2.out.cells
      obtain ⟨d0, d1, d2, d3⟩ := HS2.out.cells
      go_wp2_with fail
      refine (HRT.out _).mono ?_
      rintro e w3 ⟨rfl, hf⟩
      have HFw3 := Lib.hid (HFw2.out.trans hf (fun _ _ h => h))
      have HR3 := Lib.hid (HR2.out.fr hf (fun h => h))
      have HS3 := Lib.hid (HS2.out.fr hf (fun h => h))
      clear hf
      clear c0 c1 c2 c3 d0 d1 d2 d3
      obtain ⟨c0, c1, c2, c3⟩ := HR3.out.cells
      obtain ⟨d0, d1, d2, d3⟩ := HS3.out.cells
      go_wp2_with fail
      refine (HAW.out _).mono ?_
      rintro e w4 ⟨rfl, hf⟩
      have HFw4 := Lib.hid (HFw3.out.trans hf (fun _ _ h => h))
      clear hf
      go_wp2_with fail
      go_ret
      exact ⟨rfl, HFw4.out⟩
end Go.Proofs.Ytomhljpnpphbcaa
