/-
  Layer 17, the reference: Right (written by gen_right.py).
-/
import Derived.Test.YtedmnkcoflbciaaGreatZm04
import Derived.Test.YtedmnkcoflbciaaGreatZm14
import Derived.Test.YtedmnkcoflbciaaGreatZm13
import Derived.Test.YtedmnkcoflbciaaGreatVaY
import Derived.Test.YtedmnkcoflbciaaGreatZm06
import Derived.BigQuiet
namespace Go.Proofs.YtedmnkcoflbciaaGreat
open Go.RowKit Mem Go.Lib LebM UtfM VaM OpM
attribute [local go_sem ↓] Go.wp_at_zero Go.wp_at_succ
set_option linter.unusedVariables false

theorem right_bools (p1 n2 i2 kd il a b c d vl e5 e6 rs : Bool) : (p1 && (if kd then a && b && (!n2) && !il else e6 && (!n2 || i2)) && c && d && vl && (e5 && rs)) =
  ((p1 && (!n2 || i2)) && !(kd && (n2 || il || !a || !b)) && !(!kd && !e6 || !c || !d || !vl || !e5) && rs) := by
  cases kd <;> cases n2 <;> cases p1 <;> simp [Bool.and_assoc, Bool.and_comm, Bool.and_left_comm]
set_option maxRecDepth 100000 in
set_option maxHeartbeats 12800000 in
theorem roRight_any (x : Om) (w : World) (hs : x.short) (hv : x.o.val.ok) (hpr : Prd w x) : Calls Tryz.prog 17 #[opc x] w fun e w' => e = .returned (.bool (rightO x.o)) ∧ Fr (fun _ => False) w w' := by
  obtain ⟨g, w1, hg, hw1, hr1, hf1⟩ := new_ols w x
  obtain ⟨b1, b2, b3, b4, b5, b6⟩ := hs
  obtain ⟨g3, hg3⟩ : ∃ g, w1.heap.size = g := ⟨_, rfl⟩
  obtain ⟨w2, hw2⟩ : ∃ w2, w1.alloc (.cells #[.int .i64 0, .string ⟨#[]⟩] 49) = w2 := ⟨_, rfl⟩
  have hf2 : Fr (fun _ => False) w1 w2 := by rw [← hw2]; exact (Fr.refl _ _).alloc _
  have hz2 : RowN w2 g3 zeroN := by rw [← hw2, ← hg3]; exact RowN.new w1 zeroN
  have hgg : g < g3 := by have := hr1.lt; omega
  have HGG : Hid (g ≠ g3 ∧ w.heap.size ≤ g3) := Lib.hid (by have := hf1.size; omega)
  have HX2 := Lib.hid (hr1.fr hf2 (fun h => h))
  have HZ2 := Lib.hid hz2
  have HF2 := Lib.hid (hf1.trans hf2 (fun _ _ h => h))
  have hi1 := fun w => rid_any x.o.obj w (by omega)
  have hi2 := fun w => rid_any x.o.elem w (by omega)
  have hwh := fun w => rWhere_any x.o.key w (by omega)
  have hrv := fun w => rvRight_any x.o.val w hv b4
  obtain ⟨n1, hn1⟩ : ∃ z, (!zeroB x.o.obj) = z := ⟨_, rfl⟩
  obtain ⟨n2, hn2⟩ : ∃ z, (!zeroB x.o.elem) = z := ⟨_, rfl⟩
  obtain ⟨i1, hie1⟩ : ∃ z, idB x.o.obj = z := ⟨_, rfl⟩
  obtain ⟨i2, hie2⟩ : ∃ z, idB x.o.elem = z := ⟨_, rfl⟩
  obtain ⟨kd, hkd⟩ : ∃ z, x.o.keyed = z := ⟨_, rfl⟩
  obtain ⟨il, hil⟩ : ∃ z, x.o.ins = z := ⟨_, rfl⟩
  obtain ⟨vl, hvl⟩ : ∃ z, rightV x.o.val = z := ⟨_, rfl⟩
  obtain ⟨wk, hwk⟩ : ∃ z, wh x.o.key = z := ⟨_, rfl⟩
  obtain ⟨lk, hlk⟩ : ∃ z, z = x.o.key.length := ⟨_, rfl⟩
  obtain ⟨lp, hlp⟩ : ∃ z, x.o.pr.length = z := ⟨_, rfl⟩
  have hwl := wh_le x.o.key
  have hke : decide (x.o.key = []) = decide (lk = 0) := by rw [hlk]; exact decide_eq_decide.2 List.length_eq_zero_iff.symm
  have hq1 := n_neq0 x.o.obj
  have hq2 := n_neq0 x.o.elem
  have hsk := txt_sz x.o.key
  have hz1 : zeroB x.o.obj = !n1 := by rw [← hn1]; simp
  have hz2 : zeroB x.o.elem = !n2 := by rw [← hn2]; simp
  have hro : rightO x.o = (((!n1 || i1) && (!n2 || i2)) && !(kd && (n2 || il || decide (4000 < lk) || decide (wk < lk))) && !(!kd && decide (0 < lk) || decide (x.o.act < 0) || decide (1000 < x.o.act) || !vl || decide (16 < lp)) && riseB zeroN x.o.pr) := by
    unfold rightO keyB ptB predsB
    rw [hz1, hz2, hie1, hie2, hkd, hil, hvl, hwk, ← hlk, hlp, hke]
    have e1 : decide (4000 < lk) = !decide (lk ≤ 4000) := by rw [← decide_not]; exact decide_eq_decide.2 (by omega)
    have e2 : decide (wk < lk) = !(wk == lk) := by
      rw [hwk, ← hlk] at hwl
      by_cases h : wk = lk
      · simp [h]
      · have h1 : (wk == lk) = false := by simp [h]
        rw [h1]
        simp
        omega
    have e3 : decide (x.o.act < 0) = !decide (0 ≤ x.o.act) := by rw [← decide_not]; exact decide_eq_decide.2 (by omega)
    have e4 : decide (1000 < x.o.act) = !decide (x.o.act ≤ 1000) := by rw [← decide_not]; exact decide_eq_decide.2 (by omega)
    have e5 : decide (16 < lp) = !decide (lp ≤ 16) := by rw [← decide_not]; exact decide_eq_decide.2 (by omega)
    have e6 : decide (0 < lk) = !decide (lk = 0) := by rw [← decide_not]; exact decide_eq_decide.2 (by omega)
    rw [e1, e2, e3, e4, e5, e6]
    exact right_bools _ _ _ _ _ _ _ _ _ _ _ _ _
  rw [hro]
  obtain ⟨p, hpe⟩ : ∃ z, ((!n1 || i1) && (!n2 || i2)) = z := ⟨_, rfl⟩
  obtain ⟨q4, hq4⟩ : ∃ z, (kd && (n2 || il || decide (4000 < lk) || decide (wk < lk))) = z := ⟨_, rfl⟩
  obtain ⟨q6, hq6⟩ : ∃ z, (!kd && decide (0 < lk) || decide (x.o.act < 0) || decide (1000 < x.o.act) || !vl || decide (16 < lp)) = z := ⟨_, rfl⟩
  obtain ⟨r, hr⟩ : ∃ z, riseB zeroN x.o.pr = z := ⟨_, rfl⟩
  rw [hpe, hq4, hq6, hr]
  rw [hn1] at hq1
  rw [hn2] at hq2
  obtain ⟨q1a, q1b⟩ := hq1
  obtain ⟨q2a, q2b⟩ := hq2
  simp only [hie1] at hi1
  simp only [hie2] at hi2
  simp only [hwk] at hwh
  simp only [hvl] at hrv
  rw [← hlk] at hsk b3
  unfold nmc at hi1 hi2
  unfold valc at hrv
  unfold opc
  have HPE := Lib.hid hpe
  have HQ4 := Lib.hid hq4
  have HQ6 := Lib.hid hq6
  have HR := Lib.hid hr
  have HI1 := Lib.hid hi1
  have HI2 := Lib.hid hi2
  have HWH := Lib.hid hwh
  have HRV := Lib.hid hrv
  have HKD := Lib.hid hkd
  have HIN := Lib.hid hil
  have HLP := Lib.hid hlp
  have HPR := Lib.hid hpr
  have HB6 := Lib.hid b6
  rw [hlp] at b5
  clear hf1 hf2 hr1 hz2 hgg hi1 hi2 hwh hrv hn1 hn2 hie1 hie2 hkd hil hvl hwk hlk hlp hwl hke hz1 hro hpe hq4 hq6 hr hpr hv b1 b2 b4 b6
  go_enter Tryz.func17, Tryz.ntmps17
  go_upto_region 2 with (refine store_st nSz rfl (.tmp 3) (.tmp 5) rfl g3 (by rfl) (nls zeroN) (by rfl) _ _ HZ2.out rfl rfl (n_one _) ?_)
  intro w3 hr3 hf3
  have HZ3 : Hid (RowN w3 g3 zeroN) := Lib.hid hr3
  have HX3 := Lib.hid (HX2.out.fr hf3 HGG.out.1)
  have HF3 := Lib.hid (HF2.out.trans hf3 (fun b hb h => by have := HGG.out.2; omega))
  clear hw1 hw2 hg hg3 hr3 hf3
  obtain ⟨c0, c1, c2, c3, c4, c5, c6, c7, c8, c9, c10, c11, c12⟩ := HX3.out.cells
  rw [HKD.out] at c3
  rw [HIN.out] at c6
  rw [HLP.out] at c12
  have z0 : w3.cell? ⟨g3, 0, none⟩ = some (.int .i64 0) := HZ3.out.cells.1
  have z1 : w3.cell? ⟨g3, 1, none⟩ = some (.string ⟨#[]⟩) := HZ3.out.cells.2
  go_upto_region 2 with fail
  go_cut [27] (fun v wx => v = .bool (!p) ∧ RowO wx g x ∧ RowN wx g3 zeroN ∧ Fr (fun _ => False) w wx)
  case first =>
    cases n1 with
    | false =>
      cases n2 with
      | false =>
        go_wp2_with fail
        go_meet
        exact ⟨by rw [← HPE.out]; first | rfl | (cases i2 <;> rfl), HX3.out, HZ3.out, HF3.out⟩
      | true =>
        go_wp2_with fail
        refine (HI2.out _).mono ?_
        rintro e w4 ⟨rfl, hf⟩
        have HF4 := Lib.hid (HF3.out.trans hf (fun _ _ h => h))
        have HX4 := Lib.hid (HX3.out.fr hf (fun h => h))
        have HZ4 := Lib.hid (HZ3.out.fr hf (fun h => h))
        clear hf c0 c1 c2 c3 c4 c5 c6 c7 c8 c9 c10 c11 c12 z0 z1
        obtain ⟨c0, c1, c2, c3, c4, c5, c6, c7, c8, c9, c10, c11, c12⟩ := HX4.out.cells
        rw [HKD.out] at c3
        rw [HIN.out] at c6
        rw [HLP.out] at c12
        have z0 : w4.cell? ⟨g3, 0, none⟩ = some (.int .i64 0) := HZ4.out.cells.1
        have z1 : w4.cell? ⟨g3, 1, none⟩ = some (.string ⟨#[]⟩) := HZ4.out.cells.2
        go_wp2_with fail
        go_meet
        exact ⟨by rw [← HPE.out]; first | rfl | (cases i2 <;> rfl), HX4.out, HZ4.out, HF4.out⟩
    | true =>
      go_wp2_with fail
      refine (HI1.out _).mono ?_
      rintro e w4 ⟨rfl, hf⟩
      have HF4 := Lib.hid (HF3.out.trans hf (fun _ _ h => h))
      have HX4 := Lib.hid (HX3.out.fr hf (fun h => h))
      have HZ4 := Lib.hid (HZ3.out.fr hf (fun h => h))
      clear hf c0 c1 c2 c3 c4 c5 c6 c7 c8 c9 c10 c11 c12 z0 z1
      obtain ⟨c0, c1, c2, c3, c4, c5, c6, c7, c8, c9, c10, c11, c12⟩ := HX4.out.cells
      rw [HKD.out] at c3
      rw [HIN.out] at c6
      rw [HLP.out] at c12
      have z0 : w4.cell? ⟨g3, 0, none⟩ = some (.int .i64 0) := HZ4.out.cells.1
      have z1 : w4.cell? ⟨g3, 1, none⟩ = some (.string ⟨#[]⟩) := HZ4.out.cells.2
      cases i1 with
      | false =>
        go_wp2_with fail
        go_meet
        exact ⟨by rw [← HPE.out]; first | rfl | (cases i2 <;> rfl), HX4.out, HZ4.out, HF4.out⟩
      | true =>
        cases n2 with
        | false =>
          go_wp2_with fail
          go_meet
          exact ⟨by rw [← HPE.out]; first | rfl | (cases i2 <;> rfl), HX4.out, HZ4.out, HF4.out⟩
        | true =>
          go_wp2_with fail
          refine (HI2.out _).mono ?_
          rintro e w5 ⟨rfl, hf⟩
          have HF5 := Lib.hid (HF4.out.trans hf (fun _ _ h => h))
          have HX5 := Lib.hid (HX4.out.fr hf (fun h => h))
          have HZ5 := Lib.hid (HZ4.out.fr hf (fun h => h))
          clear hf c0 c1 c2 c3 c4 c5 c6 c7 c8 c9 c10 c11 c12 z0 z1
          obtain ⟨c0, c1, c2, c3, c4, c5, c6, c7, c8, c9, c10, c11, c12⟩ := HX5.out.cells
          rw [HKD.out] at c3
          rw [HIN.out] at c6
          rw [HLP.out] at c12
          have z0 : w5.cell? ⟨g3, 0, none⟩ = some (.int .i64 0) := HZ5.out.cells.1
          have z1 : w5.cell? ⟨g3, 1, none⟩ = some (.string ⟨#[]⟩) := HZ5.out.cells.2
          go_wp2_with fail
          go_meet
          exact ⟨by rw [← HPE.out]; first | rfl | (cases i2 <;> rfl), HX5.out, HZ5.out, HF5.out⟩
  case rest =>
  clear c0 c1 c2 c3 c4 c5 c6 c7 c8 c9 c10 c11 c12 z0 z1
  obtain ⟨rfl, hx, hz, hf⟩ := hcut
  rename World => w5
  have HX5 := Lib.hid hx
  have HZ5 := Lib.hid hz
  have HF5 := Lib.hid hf
  clear hx hz hf
  obtain ⟨c0, c1, c2, c3, c4, c5, c6, c7, c8, c9, c10, c11, c12⟩ := HX5.out.cells
  rw [HKD.out] at c3
  rw [HIN.out] at c6
  rw [HLP.out] at c12
  have z0 : w5.cell? ⟨g3, 0, none⟩ = some (.int .i64 0) := HZ5.out.cells.1
  have z1 : w5.cell? ⟨g3, 1, none⟩ = some (.string ⟨#[]⟩) := HZ5.out.cells.2
  cases p with
  | false =>
    go_wp2_with fail
    go_ret
    exact ⟨rfl, HF5.out⟩
  | true =>
    go_upto_region 4 with fail
    go_cut [54] (fun v wx => v = .bool q4 ∧ RowO wx g x ∧ RowN wx g3 zeroN ∧ Fr (fun _ => False) w wx)
    case first =>
      cases kd with
      | false =>
        go_quiet (fail)
        go_wp2_with fail
        go_meet
        exact ⟨by rw [← HQ4.out]; rfl, HX5.out, HZ5.out, HF5.out.drewN _⟩
      | true =>
        cases n2 with
        | true =>
          go_quiet (fail)
          go_wp2_with fail
          go_meet
          exact ⟨by rw [← HQ4.out]; rfl, HX5.out, HZ5.out, HF5.out.drewN _⟩
        | false =>
          cases il with
          | true =>
            go_quiet (fail)
            go_wp2_with fail
            go_meet
            exact ⟨by rw [← HQ4.out]; rfl, HX5.out, HZ5.out, HF5.out.drewN _⟩
          | false =>
            by_cases h4 : 4000 < lk
            · have t1 : decide ((4000 : Int) < (lk : Int)) = true := decide_eq_true (by omega)
              have t1' : decide (4000 < lk) = true := decide_eq_true (by omega)
              go_quiet (fail)
              go_wp2_with fail
              go_meet
              exact ⟨by rw [← HQ4.out, t1']; rfl, HX5.out, HZ5.out, HF5.out.drewN _⟩
            · have t1 : decide ((4000 : Int) < (lk : Int)) = false := decide_eq_false (by omega)
              have t1' : decide (4000 < lk) = false := decide_eq_false (by omega)
              obtain ⟨s, hs⟩ : ∃ s, decide (wk < lk) = s := ⟨_, rfl⟩
              have t2 : decide ((wk : Int) < (lk : Int)) = s := by rw [← hs]; exact decide_eq_decide.2 (by omega)
              have HS := Lib.hid hs
              clear h4 hs
              refine wp_region_noPanic ?_
              refine wp_region_held_drew (S := fun w' => Fr (fun _ => False) w5 w') (by kernel_rfl) ?_ (fun hHeld => ?_)
              · exact (Fr.refl _ _).drew
              refine tk 0 hHeld ?_
              refine tk 1 hHeld ?_ (hy := by intro w hSw; (try dsimp only at hSw); obtain ⟨c0, c1, c2, c3, c4, c5, c6, c7, c8, c9, c10, c11, c12⟩ := (HX5.out.fr hSw (fun h => h)).cells; rw [HKD.out] at c3; rw [HIN.out] at c6; have z0 : _ = some (Value.int .i64 0) := (HZ5.out.fr hSw (fun h => h)).cells.1; have z1 : _ = some (Value.string ⟨#[]⟩) := (HZ5.out.fr hSw (fun h => h)).cells.2; go_simp; try (with_reducible rfl))
              refine tk 2 hHeld ?_
              refine tk 3 hHeld ?_
              refine tk 4 hHeld ?_ (hy := by intro w hSw; (try dsimp only at hSw); obtain ⟨c0, c1, c2, c3, c4, c5, c6, c7, c8, c9, c10, c11, c12⟩ := (HX5.out.fr hSw (fun h => h)).cells; rw [HKD.out] at c3; rw [HIN.out] at c6; have z0 : _ = some (Value.int .i64 0) := (HZ5.out.fr hSw (fun h => h)).cells.1; have z1 : _ = some (Value.string ⟨#[]⟩) := (HZ5.out.fr hSw (fun h => h)).cells.2; go_simp; try (with_reducible rfl))
              refine tk 5 hHeld ?_ (hy := by intro w hSw; (try dsimp only at hSw); obtain ⟨c0, c1, c2, c3, c4, c5, c6, c7, c8, c9, c10, c11, c12⟩ := (HX5.out.fr hSw (fun h => h)).cells; rw [HKD.out] at c3; rw [HIN.out] at c6; have z0 : _ = some (Value.int .i64 0) := (HZ5.out.fr hSw (fun h => h)).cells.1; have z1 : _ = some (Value.string ⟨#[]⟩) := (HZ5.out.fr hSw (fun h => h)).cells.2; go_simp; try (with_reducible rfl))
              refine tk 6 hHeld ?_
              refine tk 7 hHeld ?_
              refine tk 8 hHeld ?_
              refine tk 9 hHeld ?_ (hy := by intro w hSw; (try dsimp only at hSw); obtain ⟨c0, c1, c2, c3, c4, c5, c6, c7, c8, c9, c10, c11, c12⟩ := (HX5.out.fr hSw (fun h => h)).cells; rw [HKD.out] at c3; rw [HIN.out] at c6; have z0 : _ = some (Value.int .i64 0) := (HZ5.out.fr hSw (fun h => h)).cells.1; have z1 : _ = some (Value.string ⟨#[]⟩) := (HZ5.out.fr hSw (fun h => h)).cells.2; go_simp; try (with_reducible rfl))
              refine tk 10 hHeld ?_
              refine tk 11 hHeld ?_
              refine tk 12 hHeld ?_
              refine tk 13 hHeld ?_ (hy := by intro w hSw; (try dsimp only at hSw); obtain ⟨c0, c1, c2, c3, c4, c5, c6, c7, c8, c9, c10, c11, c12⟩ := (HX5.out.fr hSw (fun h => h)).cells; rw [HKD.out] at c3; rw [HIN.out] at c6; have z0 : _ = some (Value.int .i64 0) := (HZ5.out.fr hSw (fun h => h)).cells.1; have z1 : _ = some (Value.string ⟨#[]⟩) := (HZ5.out.fr hSw (fun h => h)).cells.2; go_simp; try (with_reducible rfl))
              refine tk 14 hHeld ?_
              refine tk 15 hHeld ?_
              refine tk 16 hHeld ?_
              refine tk 17 hHeld ?_
              refine tk 18 hHeld ?_
              refine tk 19 hHeld ?_ (hy := by intro w hSw; (try dsimp only at hSw); obtain ⟨c0, c1, c2, c3, c4, c5, c6, c7, c8, c9, c10, c11, c12⟩ := (HX5.out.fr hSw (fun h => h)).cells; rw [HKD.out] at c3; rw [HIN.out] at c6; have z0 : _ = some (Value.int .i64 0) := (HZ5.out.fr hSw (fun h => h)).cells.1; have z1 : _ = some (Value.string ⟨#[]⟩) := (HZ5.out.fr hSw (fun h => h)).cells.2; go_simp; try (with_reducible rfl))
              refine tk 21 hHeld ?_
              refine tk 22 hHeld ?_ (hy := by intro w hSw; (try dsimp only at hSw); obtain ⟨c0, c1, c2, c3, c4, c5, c6, c7, c8, c9, c10, c11, c12⟩ := (HX5.out.fr hSw (fun h => h)).cells; rw [HKD.out] at c3; rw [HIN.out] at c6; have z0 : _ = some (Value.int .i64 0) := (HZ5.out.fr hSw (fun h => h)).cells.1; have z1 : _ = some (Value.string ⟨#[]⟩) := (HZ5.out.fr hSw (fun h => h)).cells.2; go_simp; try (with_reducible rfl))
              refine tk 23 hHeld ?_
              refine rdo 20 (fun Kx hKx => ?_)
              go_simp
              have hcon := HWH.out (w5.drew)
              with_reducible refine hcon.mono ?_
              clear hcon
              rintro e' w6 ⟨rfl, hff⟩
              have HFw6 : Hid (Fr (fun _ => False) w5 w6) := Lib.hid ((Fr.refl _ _).drew.trans hff (fun _ _ h => h))
              have HX6 := Lib.hid (HX5.out.fr HFw6.out (fun h => h))
              have HZ6 := Lib.hid (HZ5.out.fr HFw6.out (fun h => h))
              have HF6 := Lib.hid (HF5.out.trans HFw6.out (fun _ _ h => h))
              refine hKx.out _ _ ?_ (fun hHeld => ?_)
              · exact HFw6.out
              clear hKx Kx hff
              (try simp only [Act.put, List.setIfInBounds_toArray, List.set_cons_zero, List.set_cons_succ, List.getElem_toArray, List.getElem_cons_zero, List.getElem_cons_succ])
              refine wpAnyH_more (fun w' => Fr (fun _ => False) w6 w') (fun _ h => HFw6.out.trans h (fun _ _ h => h)) ?_ (fun hHeld => ?_)
              · exact Fr.refl _ _
              refine tk 24 hHeld ?_
              refine tk 25 hHeld ?_
              refine tk 26 hHeld ?_
              refine wpAnyH_done (by kernel_rfl) ?_ _
              refine NoPanic.normal ?_
              go_wp2_with fail
              go_meet
              exact ⟨by rw [← HQ4.out, t1', HS.out]; rfl, HX6.out, HZ6.out, HF6.out⟩
    case rest =>
    clear c0 c1 c2 c3 c4 c5 c6 c7 c8 c9 c10 c11 c12 z0 z1
    obtain ⟨rfl, hx, hz, hf⟩ := hcut
    rename World => w7
    have HX7 := Lib.hid hx
    have HZ7 := Lib.hid hz
    have HF7 := Lib.hid hf
    clear hx hz hf
    obtain ⟨c0, c1, c2, c3, c4, c5, c6, c7, c8, c9, c10, c11, c12⟩ := HX7.out.cells
    rw [HKD.out] at c3
    rw [HIN.out] at c6
    rw [HLP.out] at c12
    have z0 : w7.cell? ⟨g3, 0, none⟩ = some (.int .i64 0) := HZ7.out.cells.1
    have z1 : w7.cell? ⟨g3, 1, none⟩ = some (.string ⟨#[]⟩) := HZ7.out.cells.2
    cases q4 with
    | true =>
      go_wp2_with fail
      go_ret
      exact ⟨rfl, HF7.out⟩
    | false =>
      go_upto_region 6 with fail
      go_cut [85] (fun v wx => v = .bool q6 ∧ RowO wx g x ∧ RowN wx g3 zeroN ∧ Fr (fun _ => False) w wx)
      case first =>
        cases kd with
        | true =>
          by_cases g1 : x.o.act < 0
          · have t1 : decide (x.o.act < 0) = true := decide_eq_true g1
            go_wp2_with fail
            go_meet
            exact ⟨by rw [← HQ6.out]; simp [t1], HX7.out, HZ7.out, HF7.out⟩
          · have t1 : decide (x.o.act < 0) = false := decide_eq_false g1
            by_cases g2 : 1000 < x.o.act
            · have t2 : decide (1000 < x.o.act) = true := decide_eq_true g2
              go_wp2_with fail
              go_meet
              exact ⟨by rw [← HQ6.out]; simp [t2], HX7.out, HZ7.out, HF7.out⟩
            · have t2 : decide (1000 < x.o.act) = false := decide_eq_false g2
              go_wp2_with fail
              refine (HRV.out _).mono ?_
              rintro e w8 ⟨rfl, hf⟩
              have HF8 := Lib.hid (HF7.out.trans hf (fun _ _ h => h))
              have HX8 := Lib.hid (HX7.out.fr hf (fun h => h))
              have HZ8 := Lib.hid (HZ7.out.fr hf (fun h => h))
              clear hf c0 c1 c2 c3 c4 c5 c6 c7 c8 c9 c10 c11 c12 z0 z1
              obtain ⟨c0, c1, c2, c3, c4, c5, c6, c7, c8, c9, c10, c11, c12⟩ := HX8.out.cells
              rw [HKD.out] at c3
              rw [HIN.out] at c6
              rw [HLP.out] at c12
              have z0 : w8.cell? ⟨g3, 0, none⟩ = some (.int .i64 0) := HZ8.out.cells.1
              have z1 : w8.cell? ⟨g3, 1, none⟩ = some (.string ⟨#[]⟩) := HZ8.out.cells.2
              cases vl with
              | false =>
                go_wp2_with fail
                go_meet
                exact ⟨by rw [← HQ6.out]; simp, HX8.out, HZ8.out, HF8.out⟩
              | true =>
                by_cases g3' : 16 < lp
                · have t3 : decide ((16 : Int) < (lp : Int)) = true := decide_eq_true (by omega)
                  have t3' : decide (16 < lp) = true := decide_eq_true (by omega)
                  go_wp2_with fail
                  go_meet
                  exact ⟨by rw [← HQ6.out]; simp [t3'], HX8.out, HZ8.out, HF8.out⟩
                · have t3 : decide ((16 : Int) < (lp : Int)) = false := decide_eq_false (by omega)
                  have t3' : decide (16 < lp) = false := decide_eq_false (by omega)
                  go_wp2_with fail
                  go_meet
                  exact ⟨by rw [← HQ6.out]; simp [*], HX8.out, HZ8.out, HF8.out⟩
        | false =>
          by_cases g0 : 0 < lk
          · have t0 : decide ((0 : Int) < (lk : Int)) = true := decide_eq_true (by omega)
            have t0' : decide (0 < lk) = true := decide_eq_true (by omega)
            go_wp2_with fail
            go_meet
            exact ⟨by rw [← HQ6.out, t0']; rfl, HX7.out, HZ7.out, HF7.out⟩
          · have t0 : decide ((0 : Int) < (lk : Int)) = false := decide_eq_false (by omega)
            have t0' : decide (0 < lk) = false := decide_eq_false (by omega)
            by_cases g1 : x.o.act < 0
            · have t1 : decide (x.o.act < 0) = true := decide_eq_true g1
              go_wp2_with fail
              go_meet
              exact ⟨by rw [← HQ6.out]; simp [t1], HX7.out, HZ7.out, HF7.out⟩
            · have t1 : decide (x.o.act < 0) = false := decide_eq_false g1
              by_cases g2 : 1000 < x.o.act
              · have t2 : decide (1000 < x.o.act) = true := decide_eq_true g2
                go_wp2_with fail
                go_meet
                exact ⟨by rw [← HQ6.out]; simp [t2], HX7.out, HZ7.out, HF7.out⟩
              · have t2 : decide (1000 < x.o.act) = false := decide_eq_false g2
                go_wp2_with fail
                refine (HRV.out _).mono ?_
                rintro e w8 ⟨rfl, hf⟩
                have HF8 := Lib.hid (HF7.out.trans hf (fun _ _ h => h))
                have HX8 := Lib.hid (HX7.out.fr hf (fun h => h))
                have HZ8 := Lib.hid (HZ7.out.fr hf (fun h => h))
                clear hf c0 c1 c2 c3 c4 c5 c6 c7 c8 c9 c10 c11 c12 z0 z1
                obtain ⟨c0, c1, c2, c3, c4, c5, c6, c7, c8, c9, c10, c11, c12⟩ := HX8.out.cells
                rw [HKD.out] at c3
                rw [HIN.out] at c6
                rw [HLP.out] at c12
                have z0 : w8.cell? ⟨g3, 0, none⟩ = some (.int .i64 0) := HZ8.out.cells.1
                have z1 : w8.cell? ⟨g3, 1, none⟩ = some (.string ⟨#[]⟩) := HZ8.out.cells.2
                cases vl with
                | false =>
                  go_wp2_with fail
                  go_meet
                  exact ⟨by rw [← HQ6.out]; simp, HX8.out, HZ8.out, HF8.out⟩
                | true =>
                  by_cases g3' : 16 < lp
                  · have t3 : decide ((16 : Int) < (lp : Int)) = true := decide_eq_true (by omega)
                    have t3' : decide (16 < lp) = true := decide_eq_true (by omega)
                    go_wp2_with fail
                    go_meet
                    exact ⟨by rw [← HQ6.out]; simp [t3'], HX8.out, HZ8.out, HF8.out⟩
                  · have t3 : decide ((16 : Int) < (lp : Int)) = false := decide_eq_false (by omega)
                    have t3' : decide (16 < lp) = false := decide_eq_false (by omega)
                    go_wp2_with fail
                    go_meet
                    exact ⟨by rw [← HQ6.out]; simp [*], HX8.out, HZ8.out, HF8.out⟩
      case rest =>
      clear c0 c1 c2 c3 c4 c5 c6 c7 c8 c9 c10 c11 c12 z0 z1
      obtain ⟨rfl, hx, hz, hf⟩ := hcut
      rename World => w8
      have HX8 := Lib.hid hx
      have HZ8 := Lib.hid hz
      have HF8 := Lib.hid hf
      clear hx hz hf
      obtain ⟨c0, c1, c2, c3, c4, c5, c6, c7, c8, c9, c10, c11, c12⟩ := HX8.out.cells
      rw [HKD.out] at c3
      rw [HIN.out] at c6
      rw [HLP.out] at c12
      have z0 : w8.cell? ⟨g3, 0, none⟩ = some (.int .i64 0) := HZ8.out.cells.1
      have z1 : w8.cell? ⟨g3, 1, none⟩ = some (.string ⟨#[]⟩) := HZ8.out.cells.2
      cases q6 with
      | true =>
        go_wp2_with fail
        go_ret
        exact ⟨by simp, HF8.out⟩
      | false =>
        go_wp2_with fail
        clear c0 c1 c2 c3 c4 c5 c6 c7 c8 c9 c10 c11 c12 z0 z1
        go_loopw [4] (fun i wr => ∃ k : Nat, k ≤ lp ∧ i = .int .i64 (k : Int) ∧ Hid (riseB zeroN (x.o.pr.take k) = true) ∧ Hid (RowO wr g x) ∧ Hid (RowN wr g3 zeroN) ∧ Hid (Fr (fun _ => False) w wr)) (fun i _ => lp - (intOf i).toNat)
        case atStart => exact ⟨0, Nat.zero_le _, rfl, (rfl : riseB zeroN (x.o.pr.take 0) = true), HX8, HZ8, HF8⟩
        case round =>
          obtain ⟨k, hk, rfl, HRS, HX9, HZ9, HF9⟩ := hrel
          rename World => w9
          by_cases hlt : k < lp
          · obtain ⟨y, hy⟩ : ∃ y, x.o.pr[k]? = some y := ⟨_, List.getElem?_eq_getElem (by have := HLP.out; omega)⟩
            obtain ⟨gb, ob, hA, _, _, _⟩ := HPR.out.1.2 k y hy
            have HE : Hid (∀ w', Fr (fun _ => False) w w' → w'.cell? ⟨gb, ob + k * 2, none⟩ = some (.int .i64 y.c) ∧ w'.cell? ⟨gb, ob + k * 2 + 1, none⟩ = some (.string (txt y.a))) := Lib.hid (fun w' hf => by
              obtain ⟨g', o', e, _, e0, e1⟩ := HPR.out.1.2 k y hy
              rw [hA] at e
              injection e with e
              injection e with e1' e2'
              subst e1' e2'
              exact ⟨hf.cell e0 (fun h => h), hf.cell e1 (fun h => h)⟩)
            obtain ⟨j, hj⟩ : ∃ j, j = k - 1 := ⟨_, rfl⟩
            obtain ⟨u, hu⟩ : ∃ u, x.o.pr[j]? = some u := ⟨_, List.getElem?_eq_getElem (by have := HLP.out; omega)⟩
            have HP : Hid (∀ w', Fr (fun _ => False) w w' → w'.cell? ⟨gb, ob + j * 2, none⟩ = some (.int .i64 u.c) ∧ w'.cell? ⟨gb, ob + j * 2 + 1, none⟩ = some (.string (txt u.a))) := Lib.hid (fun w' hf => by
              obtain ⟨g', o', e, _, e0, e1⟩ := HPR.out.1.2 j u hu
              rw [hA] at e
              injection e with e
              injection e with e1' e2'
              subst e1' e2'
              exact ⟨hf.cell e0 (fun h => h), hf.cell e1 (fun h => h)⟩)
            have hyl := HB6.out y (List.mem_of_getElem? hy)
            have hul := HB6.out u (List.mem_of_getElem? hu)
            have hid := fun w => rid_any y w (by omega)
            have hls := fun w => rless_any u y w (by omega) (by omega)
            have htk : x.o.pr.take (k + 1) = x.o.pr.take k ++ [y] := by rw [List.take_add_one, hy]; rfl
            have hrs : riseB zeroN (x.o.pr.take (k + 1)) = (idB y && (!decide (0 < k) || lessN u y)) := by
              rw [htk, rise_snoc, HRS.out, Bool.true_and]
              cases hid : idB y with
              | false => rfl
              | true =>
                rw [Bool.true_and, Bool.true_and]
                by_cases h0 : 0 < k
                · rw [decide_eq_true h0, Bool.not_true, Bool.false_or]
                  have e : k = j + 1 := by omega
                  have : lastN (x.o.pr.take k) = u := by
                    rw [e, List.take_add_one, hu]
                    unfold lastN
                    rw [List.getLast?_append]
                    rfl
                  rw [this]
                · obtain rfl : k = 0 := by omega
                  exact zero_less hid
            obtain ⟨i, hi⟩ : ∃ z, idB y = z := ⟨_, rfl⟩
            obtain ⟨s, hs⟩ : ∃ z, lessN u y = z := ⟨_, rfl⟩
            rw [hi, hs] at hrs
            simp only [hi] at hid
            simp only [hs] at hls
            unfold nmc at hid hls
            have hjl : j < lp := by omega
            have hjl' : (j : Int) < (lp : Int) := by omega
            have hlt' : (k : Int) < (lp : Int) := by omega
            have HID := Lib.hid hid
            have HLS := Lib.hid hls
            have HRS2 := Lib.hid hrs
            have HA := Lib.hid hA
            obtain ⟨v, hv⟩ : ∃ z, (i && (!decide (0 < k) || s)) = z := ⟨_, rfl⟩
            have HV := Lib.hid hv
            have hw : 0 < k → IntKind.i64.wrap ((k : Int) - 1) = (j : Int) := fun h => by rw [IntKind.wrap_i64]; omega
            have HW := Lib.hid hw
            clear hy hu hyl hul hid hls htk hrs hi hs hA hv hj hw
            obtain ⟨c0, c1, c2, c3, c4, c5, c6, c7, c8, c9, c10, c11, c12⟩ := HX9.out.cells
            rw [HLP.out, HA.out] at c12
            go_upto_region 11 with fail
            clear c0 c1 c2 c3 c4 c5 c6 c7 c8 c9 c10 c11 c12
            go_cut [118] (fun t wx => t = .bool (!v) ∧ RowO wx g x ∧ RowN wx g3 zeroN ∧ Fr (fun _ => False) w wx)
            case first =>
              cases i with
              | false =>
                refine wp_region_noPanic ?_
                refine wp_region_held_drew (S := fun w' => Fr (fun _ => False) w9 w') (by kernel_rfl) ?_ (fun hHeld => ?_)
                · exact (Fr.refl _ _).drew
                refine tk 0 hHeld ?_
                refine tk 1 hHeld ?_ (hy := by intro w hSw; (try dsimp only at hSw); obtain ⟨c0, c1, c2, c3, c4, c5, c6, c7, c8, c9, c10, c11, c12⟩ := (HX9.out.fr hSw (fun h => h)).cells; rw [HLP.out, HA.out] at c12; obtain ⟨e0, e1⟩ := HE.out w (HF9.out.trans hSw (fun _ _ h => h)); obtain ⟨f0, f1⟩ := HP.out w (HF9.out.trans hSw (fun _ _ h => h)); go_simp; try (with_reducible rfl))
                refine tk 2 hHeld ?_
                refine tk 3 hHeld ?_
                refine tk 4 hHeld ?_ (hy := by intro w hSw; (try dsimp only at hSw); obtain ⟨c0, c1, c2, c3, c4, c5, c6, c7, c8, c9, c10, c11, c12⟩ := (HX9.out.fr hSw (fun h => h)).cells; rw [HLP.out, HA.out] at c12; obtain ⟨e0, e1⟩ := HE.out w (HF9.out.trans hSw (fun _ _ h => h)); obtain ⟨f0, f1⟩ := HP.out w (HF9.out.trans hSw (fun _ _ h => h)); go_simp; try (with_reducible rfl))
                refine rdo 5 (fun Kx hKx => ?_)
                go_simp
                have hcon := HID.out (w9.drew)
                with_reducible refine hcon.mono ?_
                clear hcon
                rintro e' w10 ⟨rfl, hff⟩
                have HFw10 : Hid (Fr (fun _ => False) w9 w10) := Lib.hid ((Fr.refl _ _).drew.trans hff (fun _ _ h => h))
                have HX10 := Lib.hid (HX9.out.fr HFw10.out (fun h => h))
                have HZ10 := Lib.hid (HZ9.out.fr HFw10.out (fun h => h))
                have HF10 := Lib.hid (HF9.out.trans HFw10.out (fun _ _ h => h))
                refine hKx.out _ _ ?_ (fun hHeld => ?_)
                · exact HFw10.out
                clear hKx Kx hff
                (try simp only [Act.put, List.setIfInBounds_toArray, List.set_cons_zero, List.set_cons_succ, List.getElem_toArray, List.getElem_cons_zero, List.getElem_cons_succ])
                refine wpAnyH_more (fun w' => Fr (fun _ => False) w10 w') (fun _ h => HFw10.out.trans h (fun _ _ h => h)) ?_ (fun hHeld => ?_)
                · exact Fr.refl _ _
                refine tk 6 hHeld ?_
                refine tk 7 hHeld ?_
                refine wpAnyH_take (i := 8) (v := undef) rfl (by kernel_rfl) (by kernel_rfl) (by kernel_rfl) (fun _ _ _ h => h) (Or.inr ⟨by rfl, rfl⟩) hHeld ?_
                (try simp only [Act.put, List.setIfInBounds_toArray, List.set_cons_zero, List.set_cons_succ, List.getElem_toArray, List.getElem_cons_zero, List.getElem_cons_succ])
                refine wpAnyH_take (i := 9) (v := undef) rfl (by kernel_rfl) (by kernel_rfl) (by kernel_rfl) (fun _ _ _ h => h) (Or.inr ⟨by rfl, rfl⟩) hHeld ?_
                (try simp only [Act.put, List.setIfInBounds_toArray, List.set_cons_zero, List.set_cons_succ, List.getElem_toArray, List.getElem_cons_zero, List.getElem_cons_succ])
                refine wpAnyH_take (i := 10) (v := undef) rfl (by kernel_rfl) (by kernel_rfl) (by kernel_rfl) (fun _ _ _ h => h) (Or.inr ⟨by rfl, rfl⟩) hHeld ?_
                (try simp only [Act.put, List.setIfInBounds_toArray, List.set_cons_zero, List.set_cons_succ, List.getElem_toArray, List.getElem_cons_zero, List.getElem_cons_succ])
                refine wpAnyH_take (i := 11) (v := undef) rfl (by kernel_rfl) (by kernel_rfl) (by kernel_rfl) (fun _ _ _ h => h) (Or.inr ⟨by rfl, rfl⟩) hHeld ?_
                (try simp only [Act.put, List.setIfInBounds_toArray, List.set_cons_zero, List.set_cons_succ, List.getElem_toArray, List.getElem_cons_zero, List.getElem_cons_succ])
                refine wpAnyH_take (i := 12) (v := undef) rfl (by kernel_rfl) (by kernel_rfl) (by kernel_rfl) (fun _ _ _ h => h) (Or.inr ⟨by rfl, rfl⟩) hHeld ?_
                (try simp only [Act.put, List.setIfInBounds_toArray, List.set_cons_zero, List.set_cons_succ, List.getElem_toArray, List.getElem_cons_zero, List.getElem_cons_succ])
                refine wpAnyH_take (i := 13) (v := undef) rfl (by kernel_rfl) (by kernel_rfl) (by kernel_rfl) (fun _ _ _ h => h) (Or.inr ⟨by rfl, rfl⟩) hHeld ?_
                (try simp only [Act.put, List.setIfInBounds_toArray, List.set_cons_zero, List.set_cons_succ, List.getElem_toArray, List.getElem_cons_zero, List.getElem_cons_succ])
                refine wpAnyH_take (i := 14) (v := undef) rfl (by kernel_rfl) (by kernel_rfl) (by kernel_rfl) (fun _ _ _ h => h) (Or.inr ⟨by rfl, rfl⟩) hHeld ?_
                (try simp only [Act.put, List.setIfInBounds_toArray, List.set_cons_zero, List.set_cons_succ, List.getElem_toArray, List.getElem_cons_zero, List.getElem_cons_succ])
                refine wpAnyH_take (i := 15) (v := undef) rfl (by kernel_rfl) (by kernel_rfl) (by kernel_rfl) (fun _ _ _ h => h) (Or.inr ⟨by rfl, rfl⟩) hHeld ?_
                (try simp only [Act.put, List.setIfInBounds_toArray, List.set_cons_zero, List.set_cons_succ, List.getElem_toArray, List.getElem_cons_zero, List.getElem_cons_succ])
                refine wpAnyH_take (i := 16) (v := undef) rfl (by kernel_rfl) (by kernel_rfl) (by kernel_rfl) (fun _ _ _ h => h) (Or.inr ⟨by rfl, rfl⟩) hHeld ?_
                (try simp only [Act.put, List.setIfInBounds_toArray, List.set_cons_zero, List.set_cons_succ, List.getElem_toArray, List.getElem_cons_zero, List.getElem_cons_succ])
                refine wpAnyH_take (i := 17) (v := undef) rfl (by kernel_rfl) (by kernel_rfl) (by kernel_rfl) (fun _ _ _ h => h) (Or.inr ⟨by rfl, rfl⟩) hHeld ?_
                (try simp only [Act.put, List.setIfInBounds_toArray, List.set_cons_zero, List.set_cons_succ, List.getElem_toArray, List.getElem_cons_zero, List.getElem_cons_succ])
                refine wpAnyH_take (i := 18) (v := undef) rfl (by kernel_rfl) (by kernel_rfl) (by kernel_rfl) (fun _ _ _ h => h) (Or.inr ⟨by rfl, rfl⟩) hHeld ?_
                (try simp only [Act.put, List.setIfInBounds_toArray, List.set_cons_zero, List.set_cons_succ, List.getElem_toArray, List.getElem_cons_zero, List.getElem_cons_succ])
                refine wpAnyH_take (i := 19) (v := undef) rfl (by kernel_rfl) (by kernel_rfl) (by kernel_rfl) (fun _ _ _ h => h) (Or.inr ⟨by rfl, rfl⟩) hHeld ?_
                (try simp only [Act.put, List.setIfInBounds_toArray, List.set_cons_zero, List.set_cons_succ, List.getElem_toArray, List.getElem_cons_zero, List.getElem_cons_succ])
                refine wpAnyH_take (i := 20) (v := undef) rfl (by kernel_rfl) (by kernel_rfl) (by kernel_rfl) (fun _ _ _ h => h) (Or.inr ⟨by rfl, rfl⟩) hHeld ?_
                (try simp only [Act.put, List.setIfInBounds_toArray, List.set_cons_zero, List.set_cons_succ, List.getElem_toArray, List.getElem_cons_zero, List.getElem_cons_succ])
                refine wpAnyH_take (i := 21) (v := undef) rfl (by kernel_rfl) (by kernel_rfl) (by kernel_rfl) (fun _ _ _ h => h) (Or.inr ⟨by rfl, rfl⟩) hHeld ?_
                (try simp only [Act.put, List.setIfInBounds_toArray, List.set_cons_zero, List.set_cons_succ, List.getElem_toArray, List.getElem_cons_zero, List.getElem_cons_succ])
                refine wpAnyH_take (i := 22) (v := undef) rfl (by kernel_rfl) (by kernel_rfl) (by kernel_rfl) (fun _ _ _ h => h) (Or.inr ⟨by rfl, rfl⟩) hHeld ?_
                (try simp only [Act.put, List.setIfInBounds_toArray, List.set_cons_zero, List.set_cons_succ, List.getElem_toArray, List.getElem_cons_zero, List.getElem_cons_succ])
                refine wpAnyH_take (i := 23) (v := undef) rfl (by kernel_rfl) (by kernel_rfl) (by kernel_rfl) (fun _ _ _ h => h) (Or.inr ⟨by rfl, rfl⟩) hHeld ?_
                (try simp only [Act.put, List.setIfInBounds_toArray, List.set_cons_zero, List.set_cons_succ, List.getElem_toArray, List.getElem_cons_zero, List.getElem_cons_succ])
                refine wpAnyH_take (i := 24) (v := undef) rfl (by kernel_rfl) (by kernel_rfl) (by kernel_rfl) (fun _ _ _ h => h) (Or.inr ⟨by rfl, rfl⟩) hHeld ?_
                refine tk 25 hHeld ?_
                refine wpAnyH_done (by kernel_rfl) ?_ _
                refine NoPanic.normal ?_
                go_wp2_with fail
                go_meet
                exact ⟨by rw [← HV.out]; rfl, HX10.out, HZ10.out, HF10.out⟩
              | true =>
                by_cases h0 : 0 < k
                · have t0 : decide ((0 : Int) < (k : Int)) = true := decide_eq_true (by omega)
                  have t0' : decide (0 < k) = true := decide_eq_true h0
                  have tw := HW.out h0
                  clear h0
                  refine wp_region_noPanic ?_
                  refine wp_region_held_drew (S := fun w' => Fr (fun _ => False) w9 w') (by kernel_rfl) ?_ (fun hHeld => ?_)
                  · exact (Fr.refl _ _).drew
                  refine tk 0 hHeld ?_
                  refine tk 1 hHeld ?_ (hy := by intro w hSw; (try dsimp only at hSw); obtain ⟨c0, c1, c2, c3, c4, c5, c6, c7, c8, c9, c10, c11, c12⟩ := (HX9.out.fr hSw (fun h => h)).cells; rw [HLP.out, HA.out] at c12; obtain ⟨e0, e1⟩ := HE.out w (HF9.out.trans hSw (fun _ _ h => h)); obtain ⟨f0, f1⟩ := HP.out w (HF9.out.trans hSw (fun _ _ h => h)); go_simp; try (with_reducible rfl))
                  refine tk 2 hHeld ?_
                  refine tk 3 hHeld ?_
                  refine tk 4 hHeld ?_ (hy := by intro w hSw; (try dsimp only at hSw); obtain ⟨c0, c1, c2, c3, c4, c5, c6, c7, c8, c9, c10, c11, c12⟩ := (HX9.out.fr hSw (fun h => h)).cells; rw [HLP.out, HA.out] at c12; obtain ⟨e0, e1⟩ := HE.out w (HF9.out.trans hSw (fun _ _ h => h)); obtain ⟨f0, f1⟩ := HP.out w (HF9.out.trans hSw (fun _ _ h => h)); go_simp; try (with_reducible rfl))
                  refine rdo 5 (fun Kx hKx => ?_)
                  go_simp
                  have hcon := HID.out (w9.drew)
                  with_reducible refine hcon.mono ?_
                  clear hcon
                  rintro e' w10 ⟨rfl, hff⟩
                  have HFw10 : Hid (Fr (fun _ => False) w9 w10) := Lib.hid ((Fr.refl _ _).drew.trans hff (fun _ _ h => h))
                  have HX10 := Lib.hid (HX9.out.fr HFw10.out (fun h => h))
                  have HZ10 := Lib.hid (HZ9.out.fr HFw10.out (fun h => h))
                  have HF10 := Lib.hid (HF9.out.trans HFw10.out (fun _ _ h => h))
                  refine hKx.out _ _ ?_ (fun hHeld => ?_)
                  · exact HFw10.out
                  clear hKx Kx hff
                  (try simp only [Act.put, List.setIfInBounds_toArray, List.set_cons_zero, List.set_cons_succ, List.getElem_toArray, List.getElem_cons_zero, List.getElem_cons_succ])
                  refine wpAnyH_more (fun w' => Fr (fun _ => False) w10 w') (fun _ h => HFw10.out.trans h (fun _ _ h => h)) ?_ (fun hHeld => ?_)
                  · exact Fr.refl _ _
                  refine tk 6 hHeld ?_
                  refine tk 7 hHeld ?_
                  refine tk 8 hHeld ?_
                  refine tk 9 hHeld ?_
                  refine tk 10 hHeld ?_
                  refine tk 11 hHeld ?_
                  refine tk 12 hHeld ?_ (hy := by intro w hSw; (try dsimp only at hSw); obtain ⟨c0, c1, c2, c3, c4, c5, c6, c7, c8, c9, c10, c11, c12⟩ := (HX10.out.fr hSw (fun h => h)).cells; rw [HLP.out, HA.out] at c12; obtain ⟨e0, e1⟩ := HE.out w (HF10.out.trans hSw (fun _ _ h => h)); obtain ⟨f0, f1⟩ := HP.out w (HF10.out.trans hSw (fun _ _ h => h)); go_simp; try (with_reducible rfl))
                  refine tk 13 hHeld ?_
                  refine tk 14 hHeld ?_
                  refine tk 15 hHeld ?_
                  refine tk 16 hHeld ?_ (hy := by intro w hSw; (try dsimp only at hSw); obtain ⟨c0, c1, c2, c3, c4, c5, c6, c7, c8, c9, c10, c11, c12⟩ := (HX10.out.fr hSw (fun h => h)).cells; rw [HLP.out, HA.out] at c12; obtain ⟨e0, e1⟩ := HE.out w (HF10.out.trans hSw (fun _ _ h => h)); obtain ⟨f0, f1⟩ := HP.out w (HF10.out.trans hSw (fun _ _ h => h)); go_simp; try (with_reducible rfl))
                  refine tk 17 hHeld ?_
                  refine tk 18 hHeld ?_ (hy := by intro w hSw; (try dsimp only at hSw); obtain ⟨c0, c1, c2, c3, c4, c5, c6, c7, c8, c9, c10, c11, c12⟩ := (HX10.out.fr hSw (fun h => h)).cells; rw [HLP.out, HA.out] at c12; obtain ⟨e0, e1⟩ := HE.out w (HF10.out.trans hSw (fun _ _ h => h)); obtain ⟨f0, f1⟩ := HP.out w (HF10.out.trans hSw (fun _ _ h => h)); go_simp; try (with_reducible rfl))
                  refine tk 19 hHeld ?_
                  refine tk 20 hHeld ?_
                  refine tk 21 hHeld ?_ (hy := by intro w hSw; (try dsimp only at hSw); obtain ⟨c0, c1, c2, c3, c4, c5, c6, c7, c8, c9, c10, c11, c12⟩ := (HX10.out.fr hSw (fun h => h)).cells; rw [HLP.out, HA.out] at c12; obtain ⟨e0, e1⟩ := HE.out w (HF10.out.trans hSw (fun _ _ h => h)); obtain ⟨f0, f1⟩ := HP.out w (HF10.out.trans hSw (fun _ _ h => h)); go_simp; try (with_reducible rfl))
                  refine rdo 22 (fun Kx hKx => ?_)
                  go_simp
                  have hcon := HLS.out (w10)
                  with_reducible refine hcon.mono ?_
                  clear hcon
                  rintro e' w11 ⟨rfl, hff⟩
                  have HFw11 : Hid (Fr (fun _ => False) w10 w11) := Lib.hid (hff)
                  have HX11 := Lib.hid (HX10.out.fr HFw11.out (fun h => h))
                  have HZ11 := Lib.hid (HZ10.out.fr HFw11.out (fun h => h))
                  have HF11 := Lib.hid (HF10.out.trans HFw11.out (fun _ _ h => h))
                  refine hKx.out _ _ ?_ (fun hHeld => ?_)
                  · exact HFw11.out
                  clear hKx Kx hff
                  (try simp only [Act.put, List.setIfInBounds_toArray, List.set_cons_zero, List.set_cons_succ, List.getElem_toArray, List.getElem_cons_zero, List.getElem_cons_succ])
                  refine wpAnyH_more (fun w' => Fr (fun _ => False) w11 w') (fun _ h => HFw11.out.trans h (fun _ _ h => h)) ?_ (fun hHeld => ?_)
                  · exact Fr.refl _ _
                  refine tk 23 hHeld ?_
                  refine tk 24 hHeld ?_
                  refine tk 25 hHeld ?_
                  refine wpAnyH_done (by kernel_rfl) ?_ _
                  refine NoPanic.normal ?_
                  go_wp2_with fail
                  go_meet
                  exact ⟨by rw [← HV.out, t0']; cases s <;> rfl, HX11.out, HZ11.out, HF11.out⟩
                · have t0 : decide ((0 : Int) < (k : Int)) = false := decide_eq_false (by omega)
                  have t0' : decide (0 < k) = false := decide_eq_false h0
                  clear h0
                  refine wp_region_noPanic ?_
                  refine wp_region_held_drew (S := fun w' => Fr (fun _ => False) w9 w') (by kernel_rfl) ?_ (fun hHeld => ?_)
                  · exact (Fr.refl _ _).drew
                  refine tk 0 hHeld ?_
                  refine tk 1 hHeld ?_ (hy := by intro w hSw; (try dsimp only at hSw); obtain ⟨c0, c1, c2, c3, c4, c5, c6, c7, c8, c9, c10, c11, c12⟩ := (HX9.out.fr hSw (fun h => h)).cells; rw [HLP.out, HA.out] at c12; obtain ⟨e0, e1⟩ := HE.out w (HF9.out.trans hSw (fun _ _ h => h)); obtain ⟨f0, f1⟩ := HP.out w (HF9.out.trans hSw (fun _ _ h => h)); go_simp; try (with_reducible rfl))
                  refine tk 2 hHeld ?_
                  refine tk 3 hHeld ?_
                  refine tk 4 hHeld ?_ (hy := by intro w hSw; (try dsimp only at hSw); obtain ⟨c0, c1, c2, c3, c4, c5, c6, c7, c8, c9, c10, c11, c12⟩ := (HX9.out.fr hSw (fun h => h)).cells; rw [HLP.out, HA.out] at c12; obtain ⟨e0, e1⟩ := HE.out w (HF9.out.trans hSw (fun _ _ h => h)); obtain ⟨f0, f1⟩ := HP.out w (HF9.out.trans hSw (fun _ _ h => h)); go_simp; try (with_reducible rfl))
                  refine rdo 5 (fun Kx hKx => ?_)
                  go_simp
                  have hcon := HID.out (w9.drew)
                  with_reducible refine hcon.mono ?_
                  clear hcon
                  rintro e' w10 ⟨rfl, hff⟩
                  have HFw10 : Hid (Fr (fun _ => False) w9 w10) := Lib.hid ((Fr.refl _ _).drew.trans hff (fun _ _ h => h))
                  have HX10 := Lib.hid (HX9.out.fr HFw10.out (fun h => h))
                  have HZ10 := Lib.hid (HZ9.out.fr HFw10.out (fun h => h))
                  have HF10 := Lib.hid (HF9.out.trans HFw10.out (fun _ _ h => h))
                  refine hKx.out _ _ ?_ (fun hHeld => ?_)
                  · exact HFw10.out
                  clear hKx Kx hff
                  (try simp only [Act.put, List.setIfInBounds_toArray, List.set_cons_zero, List.set_cons_succ, List.getElem_toArray, List.getElem_cons_zero, List.getElem_cons_succ])
                  refine wpAnyH_more (fun w' => Fr (fun _ => False) w10 w') (fun _ h => HFw10.out.trans h (fun _ _ h => h)) ?_ (fun hHeld => ?_)
                  · exact Fr.refl _ _
                  refine tk 6 hHeld ?_
                  refine tk 7 hHeld ?_
                  refine tk 8 hHeld ?_
                  refine tk 9 hHeld ?_
                  refine tk 10 hHeld ?_
                  refine wpAnyH_take (i := 11) (v := undef) rfl (by kernel_rfl) (by kernel_rfl) (by kernel_rfl) (fun _ _ _ h => h) (Or.inr ⟨by rfl, rfl⟩) hHeld ?_
                  (try simp only [Act.put, List.setIfInBounds_toArray, List.set_cons_zero, List.set_cons_succ, List.getElem_toArray, List.getElem_cons_zero, List.getElem_cons_succ])
                  refine wpAnyH_take (i := 12) (v := undef) rfl (by kernel_rfl) (by kernel_rfl) (by kernel_rfl) (fun _ _ _ h => h) (Or.inr ⟨by rfl, rfl⟩) hHeld ?_
                  (try simp only [Act.put, List.setIfInBounds_toArray, List.set_cons_zero, List.set_cons_succ, List.getElem_toArray, List.getElem_cons_zero, List.getElem_cons_succ])
                  refine wpAnyH_take (i := 13) (v := undef) rfl (by kernel_rfl) (by kernel_rfl) (by kernel_rfl) (fun _ _ _ h => h) (Or.inr ⟨by rfl, rfl⟩) hHeld ?_
                  (try simp only [Act.put, List.setIfInBounds_toArray, List.set_cons_zero, List.set_cons_succ, List.getElem_toArray, List.getElem_cons_zero, List.getElem_cons_succ])
                  refine wpAnyH_take (i := 14) (v := undef) rfl (by kernel_rfl) (by kernel_rfl) (by kernel_rfl) (fun _ _ _ h => h) (Or.inr ⟨by rfl, rfl⟩) hHeld ?_
                  (try simp only [Act.put, List.setIfInBounds_toArray, List.set_cons_zero, List.set_cons_succ, List.getElem_toArray, List.getElem_cons_zero, List.getElem_cons_succ])
                  refine wpAnyH_take (i := 15) (v := undef) rfl (by kernel_rfl) (by kernel_rfl) (by kernel_rfl) (fun _ _ _ h => h) (Or.inr ⟨by rfl, rfl⟩) hHeld ?_
                  (try simp only [Act.put, List.setIfInBounds_toArray, List.set_cons_zero, List.set_cons_succ, List.getElem_toArray, List.getElem_cons_zero, List.getElem_cons_succ])
                  refine wpAnyH_take (i := 16) (v := undef) rfl (by kernel_rfl) (by kernel_rfl) (by kernel_rfl) (fun _ _ _ h => h) (Or.inr ⟨by rfl, rfl⟩) hHeld ?_
                  (try simp only [Act.put, List.setIfInBounds_toArray, List.set_cons_zero, List.set_cons_succ, List.getElem_toArray, List.getElem_cons_zero, List.getElem_cons_succ])
                  refine wpAnyH_take (i := 17) (v := undef) rfl (by kernel_rfl) (by kernel_rfl) (by kernel_rfl) (fun _ _ _ h => h) (Or.inr ⟨by rfl, rfl⟩) hHeld ?_
                  (try simp only [Act.put, List.setIfInBounds_toArray, List.set_cons_zero, List.set_cons_succ, List.getElem_toArray, List.getElem_cons_zero, List.getElem_cons_succ])
                  refine wpAnyH_take (i := 18) (v := undef) rfl (by kernel_rfl) (by kernel_rfl) (by kernel_rfl) (fun _ _ _ h => h) (Or.inr ⟨by rfl, rfl⟩) hHeld ?_
                  (try simp only [Act.put, List.setIfInBounds_toArray, List.set_cons_zero, List.set_cons_succ, List.getElem_toArray, List.getElem_cons_zero, List.getElem_cons_succ])
                  refine wpAnyH_take (i := 19) (v := undef) rfl (by kernel_rfl) (by kernel_rfl) (by kernel_rfl) (fun _ _ _ h => h) (Or.inr ⟨by rfl, rfl⟩) hHeld ?_
                  (try simp only [Act.put, List.setIfInBounds_toArray, List.set_cons_zero, List.set_cons_succ, List.getElem_toArray, List.getElem_cons_zero, List.getElem_cons_succ])
                  refine wpAnyH_take (i := 20) (v := undef) rfl (by kernel_rfl) (by kernel_rfl) (by kernel_rfl) (fun _ _ _ h => h) (Or.inr ⟨by rfl, rfl⟩) hHeld ?_
                  (try simp only [Act.put, List.setIfInBounds_toArray, List.set_cons_zero, List.set_cons_succ, List.getElem_toArray, List.getElem_cons_zero, List.getElem_cons_succ])
                  refine wpAnyH_take (i := 21) (v := undef) rfl (by kernel_rfl) (by kernel_rfl) (by kernel_rfl) (fun _ _ _ h => h) (Or.inr ⟨by rfl, rfl⟩) hHeld ?_
                  (try simp only [Act.put, List.setIfInBounds_toArray, List.set_cons_zero, List.set_cons_succ, List.getElem_toArray, List.getElem_cons_zero, List.getElem_cons_succ])
                  refine wpAnyH_take (i := 22) (v := undef) rfl (by kernel_rfl) (by kernel_rfl) (by kernel_rfl) (fun _ _ _ h => h) (Or.inr ⟨by rfl, rfl⟩) hHeld ?_
                  (try simp only [Act.put, List.setIfInBounds_toArray, List.set_cons_zero, List.set_cons_succ, List.getElem_toArray, List.getElem_cons_zero, List.getElem_cons_succ])
                  refine wpAnyH_take (i := 23) (v := undef) rfl (by kernel_rfl) (by kernel_rfl) (by kernel_rfl) (fun _ _ _ h => h) (Or.inr ⟨by rfl, rfl⟩) hHeld ?_
                  refine tk 24 hHeld ?_
                  refine tk 25 hHeld ?_
                  refine wpAnyH_done (by kernel_rfl) ?_ _
                  refine NoPanic.normal ?_
                  go_wp2_with fail
                  go_meet
                  exact ⟨by rw [← HV.out, t0']; rfl, HX10.out, HZ10.out, HF10.out⟩
            case rest =>
            obtain ⟨rfl, hx, hz, hf⟩ := hcut
            rename World => w12
            have HX12 := Lib.hid hx
            have HZ12 := Lib.hid hz
            have HF12 := Lib.hid hf
            clear hx hz hf
            have HRS3 : Hid (riseB zeroN (x.o.pr.take (k + 1)) = v) := Lib.hid (by rw [HRS2.out, HV.out])
            cases v with
            | false =>
              have HRF : Hid (r = false) := Lib.hid (by rw [← HR.out, ← List.take_append_drop (k + 1) x.o.pr, rise_more HRS3.out])
              go_wp2_with fail
              go_ret
              exact ⟨by rw [HRF.out]; rfl, HF12.out⟩
            | true =>
              go_wp2_with fail
              go_roundw
              case rel => exact ⟨k + 1, by omega, by go_num, HRS3, HX12, HZ12, HF12⟩
              case measure => simp [intOf]; omega
          · obtain rfl : k = lp := by omega
            have HRF : Hid (r = true) := Lib.hid (by
              rw [← HR.out]
              have h := HRS.out
              rw [List.take_of_length_le (by have := HLP.out; omega)] at h
              exact h)
            obtain ⟨c0, c1, c2, c3, c4, c5, c6, c7, c8, c9, c10, c11, c12⟩ := HX9.out.cells
            rw [HLP.out] at c12
            go_wp2_with fail
            go_ret
            exact ⟨by rw [HRF.out]; rfl, HF9.out⟩
end Go.Proofs.YtedmnkcoflbciaaGreat
