/-
  Layer 14, the law ValueFew (written by gen_laws14.py).
-/
import Derived.Test.YtomhljpnpphbcaaVad
namespace Go.Proofs.Ytomhljpnpphbcaa
open Go.RowKit Mem Go.Lib VaM LebM UtfM
attribute [local go_sem ↓] Go.wp_at_zero Go.wp_at_succ
set_option linter.unusedVariables false


theorem put_few (v : V) (hv : v.ok) (hr : rightV v = true) : (cl v.k = 0 ∧ (putV v).length = 0) ∨ ((cl v.k = 3 ∨ cl v.k = 4) ∧ (putV v).length = v.s.length) ∨ ((cl v.k = 1 ∨ cl v.k = 2) ∧ 1 ≤ (putV v).length ∧ (putV v).length ≤ 10) := by
  have hc := cl_le v.k
  have h1 := u_pos v.u
  have h2 := s_pos v.n
  have h3 := u_len10 hv.2.1
  have h4 := s_len10 hv.2.2.1 hv.2.2.2
  rcases (show cl v.k = 0 ∨ cl v.k = 1 ∨ cl v.k = 2 ∨ cl v.k = 3 ∨ cl v.k = 4 ∨ cl v.k = 5 by omega) with e | e | e | e | e | e
  · exact Or.inl ⟨e, by simp [putV, e]⟩
  · exact Or.inr (Or.inr ⟨Or.inl e, by simp [putV, e]; omega⟩)
  · exact Or.inr (Or.inr ⟨Or.inr e, by simp [putV, e]; omega⟩)
  · exact Or.inr (Or.inl ⟨Or.inl e, by simp [putV, e]⟩)
  · exact Or.inr (Or.inl ⟨Or.inr e, by simp [putV, e]⟩)
  · simp [rightV, e] at hr

set_option maxRecDepth 100000 in
set_option maxHeartbeats 6400000 in
theorem vfew_law (K : VaC) (v : V) (w : World) (hv : v.ok) (hmv : v.s.length ≤ maxLen) : Calls Try.prog 7 #[valc v] w fun e w' => e = .returned (.bool true) ∧ Fr (fun _ => False) w w' := by
  obtain ⟨l, hl⟩ : ∃ l, l = v.s.length := ⟨_, rfl⟩
  have hszl : (txt v.s).size = l := by rw [txt_sz, hl]
  rw [← hl] at hmv
  have hxl : l ≤ 9223372036854775807 := hmv
  obtain ⟨g1, hg1⟩ : ∃ g, w.heap.size = g := ⟨_, rfl⟩
  obtain ⟨w1, hw1⟩ : ∃ w', w.alloc (.cells #[.int .i64 v.k, .int .u64 (v.u : Int), .int .i64 v.n, .string (txt v.s)] 24) = w' := ⟨_, rfl⟩
  have hfb1 : Fr (fun _ => False) w w1 := by rw [← hw1]; exact (Fr.refl _ _).alloc _
  have hr1 : RowV w1 g1 v := by rw [← hw1, ← hg1]; exact RowV.new w v
  have haw := fun w => awake14_any K w
  have HAW := Lib.hid haw
  have HR1 := Lib.hid hr1
  have HFw1 := Lib.hid hfb1
  unfold valc
  clear hr1 hfb1 haw
  by_cases hbig : 5000 < l
  · have tl : decide ((5000 : Int) < (l : Int)) = true := by simp; omega
    have ul : decide (5000 < l) = true := by simp; omega
    clear hl hv
    go_enter Try.func7, Try.ntmps7
    go_wp2_with fail
    clear hw1 hg1
    refine (HAW.out _).mono ?_
    rintro e w2 ⟨rfl, hf⟩
    have HFw2 := Lib.hid (HFw1.out.trans hf (fun _ _ h => h))
    have HR2 := Lib.hid (HR1.out.fr hf (fun h => h))
    clear hf
    obtain ⟨c0, c1, c2, c3⟩ := HR2.out.cells
    go_wp2_with fail
    refine (HAW.out _).mono ?_
    rintro e w3 ⟨rfl, hf⟩
    have HFw3 := Lib.hid (HFw2.out.trans hf (fun _ _ h => h))
    clear hf
    go_wp2_with fail
    go_ret
    exact ⟨rfl, HFw3.out⟩
  · have tl : decide ((5000 : Int) < (l : Int)) = false := by simp; omega
    have ul : decide (5000 < l) = false := by simp; omega
    have hrt := fun (w : World) => vright1 K v w rfl hv (by omega)
    have hpt := fun (w : World) => K.put v w hv
    obtain ⟨b, hb⟩ : ∃ b, rightV v = b := ⟨_, rfl⟩
    simp only [hb] at hrt
    simp only [valc] at hpt
    have HRT := Lib.hid hrt
    have HPT := Lib.hid hpt
    have HV := Lib.hid hv
    have HB := Lib.hid hb
    have HL := Lib.hid hl
    clear hrt hpt hv hb hl
    cases b
    · go_enter Try.func7, Try.ntmps7
      go_wp2_with fail
      clear hw1 hg1
      refine (HAW.out _).mono ?_
      rintro e w2 ⟨rfl, hf⟩
      have HFw2 := Lib.hid (HFw1.out.trans hf (fun _ _ h => h))
      have HR2 := Lib.hid (HR1.out.fr hf (fun h => h))
      clear hf
      obtain ⟨c0, c1, c2, c3⟩ := HR2.out.cells
      go_wp2_with fail
      refine (HRT.out _).mono ?_
      rintro e w3 ⟨rfl, hf⟩
      have HFw3 := Lib.hid (HFw2.out.trans hf (fun _ _ h => h))
      have HR3 := Lib.hid (HR2.out.fr hf (fun h => h))
      clear hf
      go_wp2_with fail
      refine (HAW.out _).mono ?_
      rintro e w4 ⟨rfl, hf⟩
      have HFw4 := Lib.hid (HFw3.out.trans hf (fun _ _ h => h))
      clear hf
      go_wp2_with fail
      go_ret
      exact ⟨rfl, HFw4.out⟩
    · have hfew := put_few v HV.out HB.out
      rw [← HL.out] at hfew
      obtain ⟨m, hm⟩ : ∃ m, (putV v).length = m := ⟨_, rfl⟩
      rw [hm] at hfew
      have HM := Lib.hid hm
      clear hm
      rcases hfew with ⟨hcl, hx⟩ | ⟨hcl, hx⟩ | ⟨hcl, hx1, hx2⟩
      · have HCL := Lib.hid hcl
        have HX := Lib.hid hx
        clear hcl hx
        go_enter Try.func7, Try.ntmps7
        go_wp2_with fail
        clear hw1 hg1
        refine (HAW.out _).mono ?_
        rintro e w2 ⟨rfl, hf⟩
        have HFw2 := Lib.hid (HFw1.out.trans hf (fun _ _ h => h))
        have HR2 := Lib.hid (HR1.out.fr hf (fun h => h))
        clear hf
        obtain ⟨c0, c1, c2, c3⟩ := HR2.out.cells
        go_wp2_with fail
        refine (HRT.out _).mono ?_
        rintro e w3 ⟨rfl, hf⟩
        have HFw3 := Lib.hid (HFw2.out.trans hf (fun _ _ h => h))
        have HR3 := Lib.hid (HR2.out.fr hf (fun h => h))
        clear hf
        clear HAW
        clear c0 c1 c2 c3
        obtain ⟨d0, d1, d2, d3⟩ := HR3.out.cells
        go_wp2_with fail
        refine (HPT.out _).mono ?_
        intro e w4 h4
        obtain ⟨A4, m4, rfl, hc4, hr4, hf4⟩ := h4
        have HFw4 := Lib.hid (HFw3.out.trans hf4 (fun _ _ h => h))
        have HR4 := Lib.hid (HR3.out.fr hf4 (fun h => h))
        clear hc4 hr4 hf4 d0 d1 d2 d3
        obtain ⟨e0, e1, e2, e3⟩ := HR4.out.cells
        rw [HM.out]
        obtain ⟨k, hk⟩ : ∃ k, v.k = k := ⟨_, rfl⟩
        rw [hk] at e0 HCL
        clear hk
        obtain rfl : 0 = m := HX.out.symm
        have hk3 := cl0 HCL.out
        (rcases hk3 with rfl | rfl | rfl)
        all_goals
          go_wp2_with fail
          go_ret
          exact ⟨rfl, HFw4.out⟩
      · have HCL := Lib.hid hcl
        obtain rfl : l = m := hx.symm
        clear hcl hx
        go_enter Try.func7, Try.ntmps7
        go_wp2_with fail
        clear hw1 hg1
        refine (HAW.out _).mono ?_
        rintro e w2 ⟨rfl, hf⟩
        have HFw2 := Lib.hid (HFw1.out.trans hf (fun _ _ h => h))
        have HR2 := Lib.hid (HR1.out.fr hf (fun h => h))
        clear hf
        obtain ⟨c0, c1, c2, c3⟩ := HR2.out.cells
        go_wp2_with fail
        refine (HRT.out _).mono ?_
        rintro e w3 ⟨rfl, hf⟩
        have HFw3 := Lib.hid (HFw2.out.trans hf (fun _ _ h => h))
        have HR3 := Lib.hid (HR2.out.fr hf (fun h => h))
        clear hf
        clear HAW
        clear c0 c1 c2 c3
        obtain ⟨d0, d1, d2, d3⟩ := HR3.out.cells
        go_wp2_with fail
        refine (HPT.out _).mono ?_
        intro e w4 h4
        obtain ⟨A4, m4, rfl, hc4, hr4, hf4⟩ := h4
        have HFw4 := Lib.hid (HFw3.out.trans hf4 (fun _ _ h => h))
        have HR4 := Lib.hid (HR3.out.fr hf4 (fun h => h))
        clear hc4 hr4 hf4 d0 d1 d2 d3
        obtain ⟨e0, e1, e2, e3⟩ := HR4.out.cells
        rw [HM.out]
        obtain ⟨k, hk⟩ : ∃ k, v.k = k := ⟨_, rfl⟩
        rw [hk] at e0 HCL
        clear hk
        have hk3 : k = 5 ∨ k = 6 := HCL.out.elim (fun h => Or.inl (cl3 h)) (fun h => Or.inr (cl4 h))
        (rcases hk3 with rfl | rfl)
        all_goals
          go_wp2_with fail
          go_ret
          exact ⟨rfl, HFw4.out⟩
      · have HCL := Lib.hid hcl
        clear hcl
        have s1 : decide ((1 : Int) ≤ (m : Int)) = true := by simp; omega
        have s2 : decide ((m : Int) ≤ 10) = true := by simp; omega
        go_enter Try.func7, Try.ntmps7
        go_wp2_with fail
        clear hw1 hg1
        refine (HAW.out _).mono ?_
        rintro e w2 ⟨rfl, hf⟩
        have HFw2 := Lib.hid (HFw1.out.trans hf (fun _ _ h => h))
        have HR2 := Lib.hid (HR1.out.fr hf (fun h => h))
        clear hf
        obtain ⟨c0, c1, c2, c3⟩ := HR2.out.cells
        go_wp2_with fail
        refine (HRT.out _).mono ?_
        rintro e w3 ⟨rfl, hf⟩
        have HFw3 := Lib.hid (HFw2.out.trans hf (fun _ _ h => h))
        have HR3 := Lib.hid (HR2.out.fr hf (fun h => h))
        clear hf
        clear HAW
        clear c0 c1 c2 c3
        obtain ⟨d0, d1, d2, d3⟩ := HR3.out.cells
        go_wp2_with fail
        refine (HPT.out _).mono ?_
        intro e w4 h4
        obtain ⟨A4, m4, rfl, hc4, hr4, hf4⟩ := h4
        have HFw4 := Lib.hid (HFw3.out.trans hf4 (fun _ _ h => h))
        have HR4 := Lib.hid (HR3.out.fr hf4 (fun h => h))
        clear hc4 hr4 hf4 d0 d1 d2 d3
        obtain ⟨e0, e1, e2, e3⟩ := HR4.out.cells
        rw [HM.out]
        obtain ⟨k, hk⟩ : ∃ k, v.k = k := ⟨_, rfl⟩
        rw [hk] at e0 HCL
        clear hk
        have hk3 : k = 3 ∨ k = 4 ∨ k = 7 ∨ k = 8 := HCL.out.elim (fun h => Or.inl (cl1 h)) (fun h => Or.inr (cl2 h))
        (rcases hk3 with rfl | rfl | rfl | rfl)
        all_goals
          go_wp2_with fail
          go_ret
          exact ⟨rfl, HFw4.out⟩
end Go.Proofs.Ytomhljpnpphbcaa
