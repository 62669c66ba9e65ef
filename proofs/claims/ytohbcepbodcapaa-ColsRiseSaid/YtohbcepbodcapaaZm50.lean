/-
  Layer 17, the reference: Right (written by gen_right.py).
  Layer 17, the reference: Few (written by gen_few.py).
-/
import Derived.Test.YtohbcepbodcapaaZm20
import Derived.Test.YtohbcepbodcapaaZm19
import Derived.Test.YtohbcepbodcapaaZm49
import Derived.Test.YtohbcepbodcapaaZm11
import Derived.Test.YtohbcepbodcapaaZm09
import Derived.BigQuiet
namespace Go.Proofs.Ytohbcepbodcapaa
open Go.RowKit Mem Go.Lib LebM UtfM VaM OpM
attribute [local go_sem ↓] Go.wp_at_zero Go.wp_at_succ
set_option linter.unusedVariables false

theorem right_bools (p1 n2 i2 kd il a b c d vl e5 e6 rs : Bool) : (p1 && (if kd then a && b && (!n2) && !il else e6 && (!n2 || i2)) && c && d && vl && (e5 && rs)) =
  ((p1 && (!n2 || i2)) && !(kd && (n2 || il || !a || !b)) && !(!kd && !e6 || !c || !d || !vl || !e5) && rs) := by
  cases kd <;> cases n2 <;> cases p1 <;> simp [Bool.and_assoc, Bool.and_comm, Bool.and_left_comm]
set_option maxRecDepth 100000 in
set_option maxHeartbeats 12800000 in
theorem roRight_any (x : Om) (w : World) (hs : x.short) (hv : x.o.val.ok) (hpr : Prd w x) : Calls Try.prog 9 #[opc x] w fun e w' => e = .returned (.bool (rightO x.o)) ∧ Fr (fun _ => False) w w' := by
  obtain ⟨g, w1, hg, hw1, hr1, hf1⟩ := new_ols w x
  obtain ⟨b1, b2, b3, b4, b5, b6⟩ := hs
  obtain ⟨g3, hg3⟩ : ∃ g, w1.heap.size = g := ⟨_, rfl⟩
  obtain ⟨w2, hw2⟩ : ∃ w2, w1.alloc (.cells #[.int .i64 0, .string ⟨#[]⟩] 35) = w2 := ⟨_, rfl⟩
  have hf2 : Fr (fun _ => False) w1 w2 := by rw [← hw2]; exact (Fr.refl _ _).alloc _
  have hz2 : RowN w2 g3 zeroN := by rw [← hw2, ← hg3]; exact RowN.new w1 zeroN
  have hgg : g < g3 := by have := hr1.lt; omega
  have HGG : Hid (g ≠ g3 ∧ w.heap.size ≤ g3) := Lib.hid (by have := hf1.size; omega)
  have HX2 := Lib.hid (hr1.fr hf2 (fun h => h))
  have HZ2 := Lib.hid hz2
  have HF2 := Lib.hid (hf1.trans hf2 (fun _ _ h => h))
  have hi1 := fun w => rid_any x.o.obj w (by omega)
  have hi2 := fun w => rid_any x.o.elem w (by omega)
  have hwh := fun w => rWhere_any x.o.key w (by omega)
  have hrv := fun w => rvRight_any x.o.val w hv b4
  obtain ⟨n1, hn1⟩ : ∃ z, (!zeroB x.o.obj) = z := ⟨_, rfl⟩
  obtain ⟨n2, hn2⟩ : ∃ z, (!zeroB x.o.elem) = z := ⟨_, rfl⟩
  obtain ⟨i1, hie1⟩ : ∃ z, idB x.o.obj = z := ⟨_, rfl⟩
  obtain ⟨i2, hie2⟩ : ∃ z, idB x.o.elem = z := ⟨_, rfl⟩
  obtain ⟨kd, hkd⟩ : ∃ z, x.o.keyed = z := ⟨_, rfl⟩
  obtain ⟨il, hil⟩ : ∃ z, x.o.ins = z := ⟨_, rfl⟩
  obtain ⟨vl, hvl⟩ : ∃ z, rightV x.o.val = z := ⟨_, rfl⟩
  obtain ⟨wk, hwk⟩ : ∃ z, wh x.o.key = z := ⟨_, rfl⟩
  obtain ⟨lk, hlk⟩ : ∃ z, z = x.o.key.length := ⟨_, rfl⟩
  obtain ⟨lp, hlp⟩ : ∃ z, x.o.pr.length = z := ⟨_, rfl⟩
  have hwl := wh_le x.o.key
  have hke : decide (x.o.key = []) = decide (lk = 0) := by rw [hlk]; exact decide_eq_decide.2 List.length_eq_zero_iff.symm
  have hq1 := n_neq0 x.o.obj
  have hq2 := n_neq0 x.o.elem
  have hsk := txt_sz x.o.key
  have hz1 : zeroB x.o.obj = !n1 := by rw [← hn1]; simp
  have hz2 : zeroB x.o.elem = !n2 := by rw [← hn2]; simp
  have hro : rightO x.o = (((!n1 || i1) && (!n2 || i2)) && !(kd && (n2 || il || decide (4000 < lk) || decide (wk < lk))) && !(!kd && decide (0 < lk) || decide (x.o.act < 0) || decide (1000 < x.o.act) || !vl || decide (16 < lp)) && riseB zeroN x.o.pr) := by
    unfold rightO keyB ptB predsB
    rw [hz1, hz2, hie1, hie2, hkd, hil, hvl, hwk, ← hlk, hlp, hke]
    have e1 : decide (4000 < lk) = !decide (lk ≤ 4000) := by rw [← decide_not]; exact decide_eq_decide.2 (by omega)
    have e2 : decide (wk < lk) = !(wk == lk) := by
      rw [hwk, ← hlk] at hwl
      by_cases h : wk = lk
      · simp [h]
      · have h1 : (wk == lk) = false := by simp [h]
        rw [h1]
        simp
        omega
    have e3 : decide (x.o.act < 0) = !decide (0 ≤ x.o.act) := by rw [← decide_not]; exact decide_eq_decide.2 (by omega)
    have e4 : decide (1000 < x.o.act) = !decide (x.o.act ≤ 1000) := by rw [← decide_not]; exact decide_eq_decide.2 (by omega)
    have e5 : decide (16 < lp) = !decide (lp ≤ 16) := by rw [← decide_not]; exact decide_eq_decide.2 (by omega)
    have e6 : decide (0 < lk) = !decide (lk = 0) := by rw [← decide_not]; exact decide_eq_decide.2 (by omega)
    rw [e1, e2, e3, e4, e5, e6]
    exact right_bools _ _ _ _ _ _ _ _ _ _ _ _ _
  rw [hro]
  obtain ⟨p, hpe⟩ : ∃ z, ((!n1 || i1) && (!n2 || i2)) = z := ⟨_, rfl⟩
  obtain ⟨q4, hq4⟩ : ∃ z, (kd && (n2 || il || decide (4000 < lk) || decide (wk < lk))) = z := ⟨_, rfl⟩
  obtain ⟨q6, hq6⟩ : ∃ z, (!kd && decide (0 < lk) || decide (x.o.act < 0) || decide (1000 < x.o.act) || !vl || decide (16 < lp)) = z := ⟨_, rfl⟩
  obtain ⟨r, hr⟩ : ∃ z, riseB zeroN x.o.pr = z := ⟨_, rfl⟩
  rw [hpe, hq4, hq6, hr]
  rw [hn1] at hq1
  rw [hn2] at hq2
  obtain ⟨q1a, q1b⟩ := hq1
  obtain ⟨q2a, q2b⟩ := hq2
  simp only [hie1] at hi1
  simp only [hie2] at hi2
  simp only [hwk] at hwh
  simp only [hvl] at hrv
  rw [← hlk] at hsk b3
  unfold nmc at hi1 hi2
  unfold valc at hrv
  unfold opc
  have HPE := Lib.hid hpe
  have HQ4 := Lib.hid hq4
  have HQ6 := Lib.hid hq6
  have HR := Lib.hid hr
  have HI1 := Lib.hid hi1
  have HI2 := Lib.hid hi2
  have HWH := Lib.hid hwh
  have HRV := Lib.hid hrv
  have HKD := Lib.hid hkd
  have HIN := Lib.hid hil
  have HLP := Lib.hid hlp
  have HPR := Lib.hid hpr
  have HB6 := Lib.hid b6
  rw [hlp] at b5
  clear hf1 hf2 hr1 hz2 hgg hi1 hi2 hwh hrv hn1 hn2 hie1 hie2 hkd hil hvl hwk hlk hlp hwl hke hz1 hro hpe hq4 hq6 hr hpr hv b1 b2 b4 b6
  go_enter Try.func9, Try.ntmps9
  go_upto_region 2 with (refine store_st nSz rfl (.tmp 3) (.tmp 5) rfl g3 (by rfl) (nls zeroN) (by rfl) _ _ HZ2.out rfl rfl (n_one _) ?_)
  intro w3 hr3 hf3
  have HZ3 : Hid (RowN w3 g3 zeroN) := Lib.hid hr3
  have HX3 := Lib.hid (HX2.out.fr hf3 HGG.out.1)
  have HF3 := Lib.hid (HF2.out.trans hf3 (fun b hb h => by have := HGG.out.2; omega))
  clear hw1 hw2 hg hg3 hr3 hf3
  obtain ⟨c0, c1, c2, c3, c4, c5, c6, c7, c8, c9, c10, c11, c12⟩ := HX3.out.cells
  rw [HKD.out] at c3
  rw [HIN.out] at c6
  rw [HLP.out] at c12
  have z0 : w3.cell? ⟨g3, 0, none⟩ = some (.int .i64 0) := HZ3.out.cells.1
  have z1 : w3.cell? ⟨g3, 1, none⟩ = some (.string ⟨#[]⟩) := HZ3.out.cells.2
  go_upto_region 2 with fail
  go_cut [27] (fun v wx => v = .bool (!p) ∧ RowO wx g x ∧ RowN wx g3 zeroN ∧ Fr (fun _ => False) w wx)
  case first =>
    cases n1 with
    | false =>
      cases n2 with
      | false =>
        go_wp2_with fail
        go_meet
        exact ⟨by rw [← HPE.out]; first | rfl | (cases i2 <;> rfl), HX3.out, HZ3.out, HF3.out⟩
      | true =>
        go_wp2_with fail
        refine (HI2.out _).mono ?_
        rintro e w4 ⟨rfl, hf⟩
        have HF4 := Lib.hid (HF3.out.trans hf (fun _ _ h => h))
        have HX4 := Lib.hid (HX3.out.fr hf (fun h => h))
        have HZ4 := Lib.hid (HZ3.out.fr hf (fun h => h))
        clear hf c0 c1 c2 c3 c4 c5 c6 c7 c8 c9 c10 c11 c12 z0 z1
        obtain ⟨c0, c1, c2, c3, c4, c5, c6, c7, c8, c9, c10, c11, c12⟩ := HX4.out.cells
        rw [HKD.out] at c3
        rw [HIN.out] at c6
        rw [HLP.out] at c12
        have z0 : w4.cell? ⟨g3, 0, none⟩ = some (.int .i64 0) := HZ4.out.cells.1
        have z1 : w4.cell? ⟨g3, 1, none⟩ = some (.string ⟨#[]⟩) := HZ4.out.cells.2
        go_wp2_with fail
        go_meet
        exact ⟨by rw [← HPE.out]; first | rfl | (cases i2 <;> rfl), HX4.out, HZ4.out, HF4.out⟩
    | true =>
      go_wp2_with fail
      refine (HI1.out _).mono ?_
      rintro e w4 ⟨rfl, hf⟩
      have HF4 := Lib.hid (HF3.out.trans hf (fun _ _ h => h))
      have HX4 := Lib.hid (HX3.out.fr hf (fun h => h))
      have HZ4 := Lib.hid (HZ3.out.fr hf (fun h => h))
      clear hf c0 c1 c2 c3 c4 c5 c6 c7 c8 c9 c10 c11 c12 z0 z1
      obtain ⟨c0, c1, c2, c3, c4, c5, c6, c7, c8, c9, c10, c11, c12⟩ := HX4.out.cells
      rw [HKD.out] at c3
      rw [HIN.out] at c6
      rw [HLP.out] at c12
      have z0 : w4.cell? ⟨g3, 0, none⟩ = some (.int .i64 0) := HZ4.out.cells.1
      have z1 : w4.cell? ⟨g3, 1, none⟩ = some (.string ⟨#[]⟩) := HZ4.out.cells.2
      cases i1 with
      | false =>
        go_wp2_with fail
        go_meet
        exact ⟨by rw [← HPE.out]; first | rfl | (cases i2 <;> rfl), HX4.out, HZ4.out, HF4.out⟩
      | true =>
        cases n2 with
        | false =>
          go_wp2_with fail
          go_meet
          exact ⟨by rw [← HPE.out]; first | rfl | (cases i2 <;> rfl), HX4.out, HZ4.out, HF4.out⟩
        | true =>
          go_wp2_with fail
          refine (HI2.out _).mono ?_
          rintro e w5 ⟨rfl, hf⟩
          have HF5 := Lib.hid (HF4.out.trans hf (fun _ _ h => h))
          have HX5 := Lib.hid (HX4.out.fr hf (fun h => h))
          have HZ5 := Lib.hid (HZ4.out.fr hf (fun h => h))
          clear hf c0 c1 c2 c3 c4 c5 c6 c7 c8 c9 c10 c11 c12 z0 z1
          obtain ⟨c0, c1, c2, c3, c4, c5, c6, c7, c8, c9, c10, c11, c12⟩ := HX5.out.cells
          rw [HKD.out] at c3
          rw [HIN.out] at c6
          rw [HLP.out] at c12
          have z0 : w5.cell? ⟨g3, 0, none⟩ = some (.int .i64 0) := HZ5.out.cells.1
          have z1 : w5.cell? ⟨g3, 1, none⟩ = some (.string ⟨#[]⟩) := HZ5.out.cells.2
          go_wp2_with fail
          go_meet
          exact ⟨by rw [← HPE.out]; first | rfl | (cases i2 <;> rfl), HX5.out, HZ5.out, HF5.out⟩
  case rest =>
  clear c0 c1 c2 c3 c4 c5 c6 c7 c8 c9 c10 c11 c12 z0 z1
  obtain ⟨rfl, hx, hz, hf⟩ := hcut
  rename World => w5
  have HX5 := Lib.hid hx
  have HZ5 := Lib.hid hz
  have HF5 := Lib.hid hf
  clear hx hz hf
  obtain ⟨c0, c1, c2, c3, c4, c5, c6, c7, c8, c9, c10, c11, c12⟩ := HX5.out.cells
  rw [HKD.out] at c3
  rw [HIN.out] at c6
  rw [HLP.out] at c12
  have z0 : w5.cell? ⟨g3, 0, none⟩ = some (.int .i64 0) := HZ5.out.cells.1
  have z1 : w5.cell? ⟨g3, 1, none⟩ = some (.string ⟨#[]⟩) := HZ5.out.cells.2
  cases p with
  | false =>
    go_wp2_with fail
    go_ret
    exact ⟨rfl, HF5.out⟩
  | true =>
    go_upto_region 4 with fail
    go_cut [54] (fun v wx => v = .bool q4 ∧ RowO wx g x ∧ RowN wx g3 zeroN ∧ Fr (fun _ => False) w wx)
    case first =>
      cases kd with
      | false =>
        go_quiet (fail)
        go_wp2_with fail
        go_meet
        exact ⟨by rw [← HQ4.out]; rfl, HX5.out, HZ5.out, HF5.out.drewN _⟩
      | true =>
        cases n2 with
        | true =>
          go_quiet (fail)
          go_wp2_with fail
          go_meet
          exact ⟨by rw [← HQ4.out]; rfl, HX5.out, HZ5.out, HF5.out.drewN _⟩
        | false =>
          cases il with
          | true =>
            go_quiet (fail)
            go_wp2_with fail
            go_meet
            exact ⟨by rw [← HQ4.out]; rfl, HX5.out, HZ5.out, HF5.out.drewN _⟩
          | false =>
            by_cases h4 : 4000 < lk
            · have t1 : decide ((4000 : Int) < (lk : Int)) = true := decide_eq_true (by omega)
              have t1' : decide (4000 < lk) = true := decide_eq_true (by omega)
              go_quiet (fail)
              go_wp2_with fail
              go_meet
              exact ⟨by rw [← HQ4.out, t1']; rfl, HX5.out, HZ5.out, HF5.out.drewN _⟩
            · have t1 : decide ((4000 : Int) < (lk : Int)) = false := decide_eq_false (by omega)
              have t1' : decide (4000 < lk) = false := decide_eq_false (by omega)
              obtain ⟨s, hs⟩ : ∃ s, decide (wk < lk) = s := ⟨_, rfl⟩
              have t2 : decide ((wk : Int) < (lk : Int)) = s := by rw [← hs]; exact decide_eq_decide.2 (by omega)
              have HS := Lib.hid hs
              clear h4 hs
              refine wp_region_noPanic ?_
              refine wp_region_held_drew (S := fun w' => Fr (fun _ => False) w5 w') (by kernel_rfl) ?_ (fun hHeld => ?_)
              · exact (Fr.refl _ _).drew
              refine wpAnyH_take (i := 0) (v := ?vz10) rfl (by kernel_rfl) (by kernel_rfl) (by kernel_rfl) (fun _ _ _ h => h) (Or.inl ⟨by rfl, ?hyz10⟩) hHeld ?restz10
              case hyz10 => intro w hSw; (try dsimp only at hSw); go_simp; try (with_reducible rfl)
              (try simp only [Act.put, List.setIfInBounds_toArray, List.set_cons_zero, List.set_cons_succ, List.getElem_toArray, List.getElem_cons_zero])
              refine wpAnyH_take (i := 1) (v := ?vz11) rfl (by kernel_rfl) (by kernel_rfl) (by kernel_rfl) (fun _ _ _ h => h) (Or.inl ⟨by rfl, ?hyz11⟩) hHeld ?restz11
              case hyz11 => intro w hSw; (try dsimp only at hSw); obtain ⟨c0, c1, c2, c3, c4, c5, c6, c7, c8, c9, c10, c11, c12⟩ := (HX5.out.fr hSw (fun h => h)).cells; rw [HKD.out] at c3; rw [HIN.out] at c6; have z0 : _ = some (Value.int .i64 0) := (HZ5.out.fr hSw (fun h => h)).cells.1; have z1 : _ = some (Value.string ⟨#[]⟩) := (HZ5.out.fr hSw (fun h => h)).cells.2; go_simp; try (with_reducible rfl)
              (try simp only [Act.put, List.setIfInBounds_toArray, List.set_cons_zero, List.set_cons_succ, List.getElem_toArray, List.getElem_cons_zero, List.getElem_cons_succ])
              refine wpAnyH_take (i := 2) (v := ?vz12) rfl (by kernel_rfl) (by kernel_rfl) (by kernel_rfl) (fun _ _ _ h => h) (Or.inl ⟨by rfl, ?hyz12⟩) hHeld ?restz12
              case hyz12 => intro w hSw; (try dsimp only at hSw); go_simp; try (with_reducible rfl)
              (try simp only [Act.put, List.setIfInBounds_toArray, List.set_cons_zero, List.set_cons_succ, List.getElem_toArray, List.getElem_cons_zero, List.getElem_cons_succ])
              refine wpAnyH_take (i := 3) (v := ?vz13) rfl (by kernel_rfl) (by kernel_rfl) (by kernel_rfl) (fun _ _ _ h => h) (Or.inl ⟨by rfl, ?hyz13⟩) hHeld ?restz13
              case hyz13 => intro w hSw; (try dsimp only at hSw); go_simp; try (with_reducible rfl)
              (try simp only [Act.put, List.setIfInBounds_toArray, List.set_cons_zero, List.set_cons_succ, List.getElem_toArray, List.getElem_cons_zero, List.getElem_cons_succ])
              refine wpAnyH_take (i := 4) (v := ?vz14) rfl (by kernel_rfl) (by kernel_rfl) (by kernel_rfl) (fun _ _ _ h => h) (Or.inl ⟨by rfl, ?hyz14⟩) hHeld ?restz14
              case hyz14 => intro w hSw; (try dsimp only at hSw); obtain ⟨c0, c1, c2, c3, c4, c5, c6, c7, c8, c9, c10, c11, c12⟩ := (HX5.out.fr hSw (fun h => h)).cells; rw [HKD.out] at c3; rw [HIN.out] at c6; have z0 : _ = some (Value.int .i64 0) := (HZ5.out.fr hSw (fun h => h)).cells.1; have z1 : _ = some (Value.string ⟨#[]⟩) := (HZ5.out.fr hSw (fun h => h)).cells.2; go_simp; try (with_reducible rfl)
              (try simp only [Act.put, List.setIfInBounds_toArray, List.set_cons_zero, List.set_cons_succ, List.getElem_toArray, List.getElem_cons_zero, List.getElem_cons_succ])
              refine wpAnyH_take (i := 5) (v := ?vz15) rfl (by kernel_rfl) (by kernel_rfl) (by kernel_rfl) (fun _ _ _ h => h) (Or.inl ⟨by rfl, ?hyz15⟩) hHeld ?restz15
              case hyz15 => intro w hSw; (try dsimp only at hSw); obtain ⟨c0, c1, c2, c3, c4, c5, c6, c7, c8, c9, c10, c11, c12⟩ := (HX5.out.fr hSw (fun h => h)).cells; rw [HKD.out] at c3; rw [HIN.out] at c6; have z0 : _ = some (Value.int .i64 0) := (HZ5.out.fr hSw (fun h => h)).cells.1; have z1 : _ = some (Value.string ⟨#[]⟩) := (HZ5.out.fr hSw (fun h => h)).cells.2; go_simp; try (with_reducible rfl)
              (try simp only [Act.put, List.setIfInBounds_toArray, List.set_cons_zero, List.set_cons_succ, List.getElem_toArray, List.getElem_cons_zero, List.getElem_cons_succ])
              refine wpAnyH_take (i := 6) (v := ?vz16) rfl (by kernel_rfl) (by kernel_rfl) (by kernel_rfl) (fun _ _ _ h => h) (Or.inl ⟨by rfl, ?hyz16⟩) hHeld ?restz16
              case hyz16 => intro w hSw; (try dsimp only at hSw); go_simp; try (with_reducible rfl)
              (try simp only [Act.put, List.setIfInBounds_toArray, List.set_cons_zero, List.set_cons_succ, List.getElem_toArray, List.getElem_cons_zero, List.getElem_cons_succ])
              refine wpAnyH_take (i := 7) (v := ?vz17) rfl (by kernel_rfl) (by kernel_rfl) (by kernel_rfl) (fun _ _ _ h => h) (Or.inl ⟨by rfl, ?hyz17⟩) hHeld ?restz17
              case hyz17 => intro w hSw; (try dsimp only at hSw); go_simp; try (with_reducible rfl)
              (try simp only [Act.put, List.setIfInBounds_toArray, List.set_cons_zero, List.set_cons_succ, List.getElem_toArray, List.getElem_cons_zero, List.getElem_cons_succ])
              refine wpAnyH_take (i := 8) (v := ?vz18) rfl (by kernel_rfl) (by kernel_rfl) (by kernel_rfl) (fun _ _ _ h => h) (Or.inl ⟨by rfl, ?hyz18⟩) hHeld ?restz18
              case hyz18 => intro w hSw; (try dsimp only at hSw); go_simp; try (with_reducible rfl)
              (try simp only [Act.put, List.setIfInBounds_toArray, List.set_cons_zero, List.set_cons_succ, List.getElem_toArray, List.getElem_cons_zero, List.getElem_cons_succ])
              refine wpAnyH_take (i := 9) (v := ?vz19) rfl (by kernel_rfl) (by kernel_rfl) (by kernel_rfl) (fun _ _ _ h => h) (Or.inl ⟨by rfl, ?hyz19⟩) hHeld ?restz19
              case hyz19 => intro w hSw; (try dsimp only at hSw); obtain ⟨c0, c1, c2, c3, c4, c5, c6, c7, c8, c9, c10, c11, c12⟩ := (HX5.out.fr hSw (fun h => h)).cells; rw [HKD.out] at c3; rw [HIN.out] at c6; have z0 : _ = some (Value.int .i64 0) := (HZ5.out.fr hSw (fun h => h)).cells.1; have z1 : _ = some (Value.string ⟨#[]⟩) := (HZ5.out.fr hSw (fun h => h)).cells.2; go_simp; try (with_reducible rfl)
              (try simp only [Act.put, List.setIfInBounds_toArray, List.set_cons_zero, List.set_cons_succ, List.getElem_toArray, List.getElem_cons_zero, List.getElem_cons_succ])
              refine wpAnyH_take (i := 10) (v := ?vz110) rfl (by kernel_rfl) (by kernel_rfl) (by kernel_rfl) (fun _ _ _ h => h) (Or.inl ⟨by rfl, ?hyz110⟩) hHeld ?restz110
              case hyz110 => intro w hSw; (try dsimp only at hSw); go_simp; try (with_reducible rfl)
              (try simp only [Act.put, List.setIfInBounds_toArray, List.set_cons_zero, List.set_cons_succ, List.getElem_toArray, List.getElem_cons_zero, List.getElem_cons_succ])
              refine wpAnyH_take (i := 11) (v := ?vz111) rfl (by kernel_rfl) (by kernel_rfl) (by kernel_rfl) (fun _ _ _ h => h) (Or.inl ⟨by rfl, ?hyz111⟩) hHeld ?restz111
              case hyz111 => intro w hSw; (try dsimp only at hSw); go_simp; try (with_reducible rfl)
              (try simp only [Act.put, List.setIfInBounds_toArray, List.set_cons_zero, List.set_cons_succ, List.getElem_toArray, List.getElem_cons_zero, List.getElem_cons_succ])
              refine wpAnyH_take (i := 12) (v := ?vz112) rfl (by kernel_rfl) (by kernel_rfl) (by kernel_rfl) (fun _ _ _ h => h) (Or.inl ⟨by rfl, ?hyz112⟩) hHeld ?restz112
              case hyz112 => intro w hSw; (try dsimp only at hSw); go_simp; try (with_reducible rfl)
              (try simp only [Act.put, List.setIfInBounds_toArray, List.set_cons_zero, List.set_cons_succ, List.getElem_toArray, List.getElem_cons_zero, List.getElem_cons_succ])
              refine wpAnyH_take (i := 13) (v := ?vz113) rfl (by kernel_rfl) (by kernel_rfl) (by kernel_rfl) (fun _ _ _ h => h) (Or.inl ⟨by rfl, ?hyz113⟩) hHeld ?restz113
              case hyz113 => intro w hSw; (try dsimp only at hSw); obtain ⟨c0, c1, c2, c3, c4, c5, c6, c7, c8, c9, c10, c11, c12⟩ := (HX5.out.fr hSw (fun h => h)).cells; rw [HKD.out] at c3; rw [HIN.out] at c6; have z0 : _ = some (Value.int .i64 0) := (HZ5.out.fr hSw (fun h => h)).cells.1; have z1 : _ = some (Value.string ⟨#[]⟩) := (HZ5.out.fr hSw (fun h => h)).cells.2; go_simp; try (with_reducible rfl)
              (try simp only [Act.put, List.setIfInBounds_toArray, List.set_cons_zero, List.set_cons_succ, List.getElem_toArray, List.getElem_cons_zero, List.getElem_cons_succ])
              refine wpAnyH_take (i := 14) (v := ?vz114) rfl (by kernel_rfl) (by kernel_rfl) (by kernel_rfl) (fun _ _ _ h => h) (Or.inl ⟨by rfl, ?hyz114⟩) hHeld ?restz114
              case hyz114 => intro w hSw; (try dsimp only at hSw); go_simp; try (with_reducible rfl)
              (try simp only [Act.put, List.setIfInBounds_toArray, List.set_cons_zero, List.set_cons_succ, List.getElem_toArray, List.getElem_cons_zero, List.getElem_cons_succ])
              refine wpAnyH_take (i := 15) (v := ?vz115) rfl (by kernel_rfl) (by kernel_rfl) (by kernel_rfl) (fun _ _ _ h => h) (Or.inl ⟨by rfl, ?hyz115⟩) hHeld ?restz115
              case hyz115 => intro w hSw; (try dsimp only at hSw); go_simp; try (with_reducible rfl)
              (try simp only [Act.put, List.setIfInBounds_toArray, List.set_cons_zero, List.set_cons_succ, List.getElem_toArray, List.getElem_cons_zero, List.getElem_cons_succ])
              refine wpAnyH_take (i := 16) (v := ?vz116) rfl (by kernel_rfl) (by kernel_rfl) (by kernel_rfl) (fun _ _ _ h => h) (Or.inl ⟨by rfl, ?hyz116⟩) hHeld ?restz116
              case hyz116 => intro w hSw; (try dsimp only at hSw); go_simp; try (with_reducible rfl)
              (try simp only [Act.put, List.setIfInBounds_toArray, List.set_cons_zero, List.set_cons_succ, List.getElem_toArray, List.getElem_cons_zero, List.getElem_cons_succ])
              refine wpAnyH_take (i := 17) (v := ?vz117) rfl (by kernel_rfl) (by kernel_rfl) (by kernel_rfl) (fun _ _ _ h => h) (Or.inl ⟨by rfl, ?hyz117⟩) hHeld ?restz117
              case hyz117 => intro w hSw; (try dsimp only at hSw); go_simp; try (with_reducible rfl)
              (try simp only [Act.put, List.setIfInBounds_toArray, List.set_cons_zero, List.set_cons_succ, List.getElem_toArray, List.getElem_cons_zero, List.getElem_cons_succ])
              refine wpAnyH_take (i := 18) (v := ?vz118) rfl (by kernel_rfl) (by kernel_rfl) (by kernel_rfl) (fun _ _ _ h => h) (Or.inl ⟨by rfl, ?hyz118⟩) hHeld ?restz118
              case hyz118 => intro w hSw; (try dsimp only at hSw); go_simp; try (with_reducible rfl)
              (try simp only [Act.put, List.setIfInBounds_toArray, List.set_cons_zero, List.set_cons_succ, List.getElem_toArray, List.getElem_cons_zero, List.getElem_cons_succ])
              refine wpAnyH_take (i := 19) (v := ?vz119) rfl (by kernel_rfl) (by kernel_rfl) (by kernel_rfl) (fun _ _ _ h => h) (Or.inl ⟨by rfl, ?hyz119⟩) hHeld ?restz119
              case hyz119 => intro w hSw; (try dsimp only at hSw); obtain ⟨c0, c1, c2, c3, c4, c5, c6, c7, c8, c9, c10, c11, c12⟩ := (HX5.out.fr hSw (fun h => h)).cells; rw [HKD.out] at c3; rw [HIN.out] at c6; have z0 : _ = some (Value.int .i64 0) := (HZ5.out.fr hSw (fun h => h)).cells.1; have z1 : _ = some (Value.string ⟨#[]⟩) := (HZ5.out.fr hSw (fun h => h)).cells.2; go_simp; try (with_reducible rfl)
              (try simp only [Act.put, List.setIfInBounds_toArray, List.set_cons_zero, List.set_cons_succ, List.getElem_toArray, List.getElem_cons_zero, List.getElem_cons_succ])
              refine wpAnyH_take (i := 21) (v := ?vz121) rfl (by kernel_rfl) (by kernel_rfl) (by kernel_rfl) (fun _ _ _ h => h) (Or.inl ⟨by rfl, ?hyz121⟩) hHeld ?restz121
              case hyz121 => intro w hSw; (try dsimp only at hSw); go_simp; try (with_reducible rfl)
              (try simp only [Act.put, List.setIfInBounds_toArray, List.set_cons_zero, List.set_cons_succ, List.getElem_toArray, List.getElem_cons_zero, List.getElem_cons_succ])
              refine wpAnyH_take (i := 22) (v := ?vz122) rfl (by kernel_rfl) (by kernel_rfl) (by kernel_rfl) (fun _ _ _ h => h) (Or.inl ⟨by rfl, ?hyz122⟩) hHeld ?restz122
              case hyz122 => intro w hSw; (try dsimp only at hSw); obtain ⟨c0, c1, c2, c3, c4, c5, c6, c7, c8, c9, c10, c11, c12⟩ := (HX5.out.fr hSw (fun h => h)).cells; rw [HKD.out] at c3; rw [HIN.out] at c6; have z0 : _ = some (Value.int .i64 0) := (HZ5.out.fr hSw (fun h => h)).cells.1; have z1 : _ = some (Value.string ⟨#[]⟩) := (HZ5.out.fr hSw (fun h => h)).cells.2; go_simp; try (with_reducible rfl)
              (try simp only [Act.put, List.setIfInBounds_toArray, List.set_cons_zero, List.set_cons_succ, List.getElem_toArray, List.getElem_cons_zero, List.getElem_cons_succ])
              refine wpAnyH_take (i := 23) (v := ?vz123) rfl (by kernel_rfl) (by kernel_rfl) (by kernel_rfl) (fun _ _ _ h => h) (Or.inl ⟨by rfl, ?hyz123⟩) hHeld ?restz123
              case hyz123 => intro w hSw; (try dsimp only at hSw); go_simp; try (with_reducible rfl)
              (try simp only [Act.put, List.setIfInBounds_toArray, List.set_cons_zero, List.set_cons_succ, List.getElem_toArray, List.getElem_cons_zero, List.getElem_cons_succ])
              refine wpAnyH_ready (rs := [20]) (by kernel_rfl) (by simp) ?_
              refine AllReadyH.cons rfl (fun Kx hKx => ?_) AllReadyH.nil
              go_simp
              have hcon := HWH.out (w5.drew)
              with_reducible refine hcon.mono ?_
              clear hcon
              rintro e' w6 ⟨rfl, hff⟩
              have HFw6 : Hid (Fr (fun _ => False) w5 w6) := Lib.hid ((Fr.refl _ _).drew.trans hff (fun _ _ h => h))
              have HX6 := Lib.hid (HX5.out.fr HFw6.out (fun h => h))
              have HZ6 := Lib.hid (HZ5.out.fr HFw6.out (fun h => h))
              have HF6 := Lib.hid (HF5.out.trans HFw6.out (fun _ _ h => h))
              refine hKx.out _ _ ?_ (fun hHeld => ?_)
              · exact HFw6.out
              clear hKx Kx hff
              (try simp only [Act.put, List.setIfInBounds_toArray, List.set_cons_zero, List.set_cons_succ, List.getElem_toArray, List.getElem_cons_zero, List.getElem_cons_succ])
              refine wpAnyH_more (fun w' => Fr (fun _ => False) w6 w') (fun _ h => HFw6.out.trans h (fun _ _ h => h)) ?_ (fun hHeld => ?_)
              · exact Fr.refl _ _
              refine wpAnyH_take (i := 24) (v := ?vz124) rfl (by kernel_rfl) (by kernel_rfl) (by kernel_rfl) (fun _ _ _ h => h) (Or.inl ⟨by rfl, ?hyz124⟩) hHeld ?restz124
              case hyz124 => intro w hSw; (try dsimp only at hSw); go_simp; try (with_reducible rfl)
              (try simp only [Act.put, List.setIfInBounds_toArray, List.set_cons_zero, List.set_cons_succ, List.getElem_toArray, List.getElem_cons_zero, List.getElem_cons_succ])
              refine wpAnyH_take (i := 25) (v := ?vz125) rfl (by kernel_rfl) (by kernel_rfl) (by kernel_rfl) (fun _ _ _ h => h) (Or.inl ⟨by rfl, ?hyz125⟩) hHeld ?restz125
              case hyz125 => intro w hSw; (try dsimp only at hSw); go_simp; try (with_reducible rfl)
              (try simp only [Act.put, List.setIfInBounds_toArray, List.set_cons_zero, List.set_cons_succ, List.getElem_toArray, List.getElem_cons_zero, List.getElem_cons_succ])
              refine wpAnyH_take (i := 26) (v := ?vz126) rfl (by kernel_rfl) (by kernel_rfl) (by kernel_rfl) (fun _ _ _ h => h) (Or.inl ⟨by rfl, ?hyz126⟩) hHeld ?restz126
              case hyz126 => intro w hSw; (try dsimp only at hSw); go_simp; try (with_reducible rfl)
              (try simp only [Act.put, List.setIfInBounds_toArray, List.set_cons_zero, List.set_cons_succ, List.getElem_toArray, List.getElem_cons_zero, List.getElem_cons_succ])
              refine wpAnyH_done (by kernel_rfl) ?_ _
              refine NoPanic.normal ?_
              go_wp2_with fail
              go_meet
              exact ⟨by rw [← HQ4.out, t1', HS.out]; rfl, HX6.out, HZ6.out, HF6.out⟩
    case rest =>
    clear c0 c1 c2 c3 c4 c5 c6 c7 c8 c9 c10 c11 c12 z0 z1
    obtain ⟨rfl, hx, hz, hf⟩ := hcut
    rename World => w7
    have HX7 := Lib.hid hx
    have HZ7 := Lib.hid hz
    have HF7 := Lib.hid hf
    clear hx hz hf
    obtain ⟨c0, c1, c2, c3, c4, c5, c6, c7, c8, c9, c10, c11, c12⟩ := HX7.out.cells
    rw [HKD.out] at c3
    rw [HIN.out] at c6
    rw [HLP.out] at c12
    have z0 : w7.cell? ⟨g3, 0, none⟩ = some (.int .i64 0) := HZ7.out.cells.1
    have z1 : w7.cell? ⟨g3, 1, none⟩ = some (.string ⟨#[]⟩) := HZ7.out.cells.2
    cases q4 with
    | true =>
      go_wp2_with fail
      go_ret
      exact ⟨rfl, HF7.out⟩
    | false =>
      go_upto_region 6 with fail
      go_cut [85] (fun v wx => v = .bool q6 ∧ RowO wx g x ∧ RowN wx g3 zeroN ∧ Fr (fun _ => False) w wx)
      case first =>
        cases kd with
        | true =>
          by_cases g1 : x.o.act < 0
          · have t1 : decide (x.o.act < 0) = true := decide_eq_true g1
            go_wp2_with fail
            go_meet
            exact ⟨by rw [← HQ6.out]; simp [t1], HX7.out, HZ7.out, HF7.out⟩
          · have t1 : decide (x.o.act < 0) = false := decide_eq_false g1
            by_cases g2 : 1000 < x.o.act
            · have t2 : decide (1000 < x.o.act) = true := decide_eq_true g2
              go_wp2_with fail
              go_meet
              exact ⟨by rw [← HQ6.out]; simp [t2], HX7.out, HZ7.out, HF7.out⟩
            · have t2 : decide (1000 < x.o.act) = false := decide_eq_false g2
              go_wp2_with fail
              refine (HRV.out _).mono ?_
              rintro e w8 ⟨rfl, hf⟩
              have HF8 := Lib.hid (HF7.out.trans hf (fun _ _ h => h))
              have HX8 := Lib.hid (HX7.out.fr hf (fun h => h))
              have HZ8 := Lib.hid (HZ7.out.fr hf (fun h => h))
              clear hf c0 c1 c2 c3 c4 c5 c6 c7 c8 c9 c10 c11 c12 z0 z1
              obtain ⟨c0, c1, c2, c3, c4, c5, c6, c7, c8, c9, c10, c11, c12⟩ := HX8.out.cells
              rw [HKD.out] at c3
              rw [HIN.out] at c6
              rw [HLP.out] at c12
              have z0 : w8.cell? ⟨g3, 0, none⟩ = some (.int .i64 0) := HZ8.out.cells.1
              have z1 : w8.cell? ⟨g3, 1, none⟩ = some (.string ⟨#[]⟩) := HZ8.out.cells.2
              cases vl with
              | false =>
                go_wp2_with fail
                go_meet
                exact ⟨by rw [← HQ6.out]; simp, HX8.out, HZ8.out, HF8.out⟩
              | true =>
                by_cases g3' : 16 < lp
                · have t3 : decide ((16 : Int) < (lp : Int)) = true := decide_eq_true (by omega)
                  have t3' : decide (16 < lp) = true := decide_eq_true (by omega)
                  go_wp2_with fail
                  go_meet
                  exact ⟨by rw [← HQ6.out]; simp [t3'], HX8.out, HZ8.out, HF8.out⟩
                · have t3 : decide ((16 : Int) < (lp : Int)) = false := decide_eq_false (by omega)
                  have t3' : decide (16 < lp) = false := decide_eq_false (by omega)
                  go_wp2_with fail
                  go_meet
                  exact ⟨by rw [← HQ6.out]; simp [*], HX8.out, HZ8.out, HF8.out⟩
        | false =>
          by_cases g0 : 0 < lk
          · have t0 : decide ((0 : Int) < (lk : Int)) = true := decide_eq_true (by omega)
            have t0' : decide (0 < lk) = true := decide_eq_true (by omega)
            go_wp2_with fail
            go_meet
            exact ⟨by rw [← HQ6.out, t0']; rfl, HX7.out, HZ7.out, HF7.out⟩
          · have t0 : decide ((0 : Int) < (lk : Int)) = false := decide_eq_false (by omega)
            have t0' : decide (0 < lk) = false := decide_eq_false (by omega)
            by_cases g1 : x.o.act < 0
            · have t1 : decide (x.o.act < 0) = true := decide_eq_true g1
              go_wp2_with fail
              go_meet
              exact ⟨by rw [← HQ6.out]; simp [t1], HX7.out, HZ7.out, HF7.out⟩
            · have t1 : decide (x.o.act < 0) = false := decide_eq_false g1
              by_cases g2 : 1000 < x.o.act
              · have t2 : decide (1000 < x.o.act) = true := decide_eq_true g2
                go_wp2_with fail
                go_meet
                exact ⟨by rw [← HQ6.out]; simp [t2], HX7.out, HZ7.out, HF7.out⟩
              · have t2 : decide (1000 < x.o.act) = false := decide_eq_false g2
                go_wp2_with fail
                refine (HRV.out _).mono ?_
                rintro e w8 ⟨rfl, hf⟩
                have HF8 := Lib.hid (HF7.out.trans hf (fun _ _ h => h))
                have HX8 := Lib.hid (HX7.out.fr hf (fun h => h))
                have HZ8 := Lib.hid (HZ7.out.fr hf (fun h => h))
                clear hf c0 c1 c2 c3 c4 c5 c6 c7 c8 c9 c10 c11 c12 z0 z1
                obtain ⟨c0, c1, c2, c3, c4, c5, c6, c7, c8, c9, c10, c11, c12⟩ := HX8.out.cells
                rw [HKD.out] at c3
                rw [HIN.out] at c6
                rw [HLP.out] at c12
                have z0 : w8.cell? ⟨g3, 0, none⟩ = some (.int .i64 0) := HZ8.out.cells.1
                have z1 : w8.cell? ⟨g3, 1, none⟩ = some (.string ⟨#[]⟩) := HZ8.out.cells.2
                cases vl with
                | false =>
                  go_wp2_with fail
                  go_meet
                  exact ⟨by rw [← HQ6.out]; simp, HX8.out, HZ8.out, HF8.out⟩
                | true =>
                  by_cases g3' : 16 < lp
                  · have t3 : decide ((16 : Int) < (lp : Int)) = true := decide_eq_true (by omega)
                    have t3' : decide (16 < lp) = true := decide_eq_true (by omega)
                    go_wp2_with fail
                    go_meet
                    exact ⟨by rw [← HQ6.out]; simp [t3'], HX8.out, HZ8.out, HF8.out⟩
                  · have t3 : decide ((16 : Int) < (lp : Int)) = false := decide_eq_false (by omega)
                    have t3' : decide (16 < lp) = false := decide_eq_false (by omega)
                    go_wp2_with fail
                    go_meet
                    exact ⟨by rw [← HQ6.out]; simp [*], HX8.out, HZ8.out, HF8.out⟩
      case rest =>
      clear c0 c1 c2 c3 c4 c5 c6 c7 c8 c9 c10 c11 c12 z0 z1
      obtain ⟨rfl, hx, hz, hf⟩ := hcut
      rename World => w8
      have HX8 := Lib.hid hx
      have HZ8 := Lib.hid hz
      have HF8 := Lib.hid hf
      clear hx hz hf
      obtain ⟨c0, c1, c2, c3, c4, c5, c6, c7, c8, c9, c10, c11, c12⟩ := HX8.out.cells
      rw [HKD.out] at c3
      rw [HIN.out] at c6
      rw [HLP.out] at c12
      have z0 : w8.cell? ⟨g3, 0, none⟩ = some (.int .i64 0) := HZ8.out.cells.1
      have z1 : w8.cell? ⟨g3, 1, none⟩ = some (.string ⟨#[]⟩) := HZ8.out.cells.2
      cases q6 with
      | true =>
        go_wp2_with fail
        go_ret
        exact ⟨by simp, HF8.out⟩
      | false =>
        go_wp2_with fail
        clear c0 c1 c2 c3 c4 c5 c6 c7 c8 c9 c10 c11 c12 z0 z1
        go_loopw [4] (fun i wr => ∃ k : Nat, k ≤ lp ∧ i = .int .i64 (k : Int) ∧ Hid (riseB zeroN (x.o.pr.take k) = true) ∧ Hid (RowO wr g x) ∧ Hid (RowN wr g3 zeroN) ∧ Hid (Fr (fun _ => False) w wr)) (fun i _ => lp - (intOf i).toNat)
        case atStart => exact ⟨0, Nat.zero_le _, rfl, (rfl : riseB zeroN (x.o.pr.take 0) = true), HX8, HZ8, HF8⟩
        case round =>
          obtain ⟨k, hk, rfl, HRS, HX9, HZ9, HF9⟩ := hrel
          rename World => w9
          by_cases hlt : k < lp
          · obtain ⟨y, hy⟩ : ∃ y, x.o.pr[k]? = some y := ⟨_, List.getElem?_eq_getElem (by have := HLP.out; omega)⟩
            obtain ⟨gb, ob, hA, _, _, _⟩ := HPR.out.1.2 k y hy
            have HE : Hid (∀ w', Fr (fun _ => False) w w' → w'.cell? ⟨gb, ob + k * 2, none⟩ = some (.int .i64 y.c) ∧ w'.cell? ⟨gb, ob + k * 2 + 1, none⟩ = some (.string (txt y.a))) := Lib.hid (fun w' hf => by
              obtain ⟨g', o', e, _, e0, e1⟩ := HPR.out.1.2 k y hy
              rw [hA] at e
              injection e with e
              injection e with e1' e2'
              subst e1' e2'
              exact ⟨hf.cell e0 (fun h => h), hf.cell e1 (fun h => h)⟩)
            obtain ⟨j, hj⟩ : ∃ j, j = k - 1 := ⟨_, rfl⟩
            obtain ⟨u, hu⟩ : ∃ u, x.o.pr[j]? = some u := ⟨_, List.getElem?_eq_getElem (by have := HLP.out; omega)⟩
            have HP : Hid (∀ w', Fr (fun _ => False) w w' → w'.cell? ⟨gb, ob + j * 2, none⟩ = some (.int .i64 u.c) ∧ w'.cell? ⟨gb, ob + j * 2 + 1, none⟩ = some (.string (txt u.a))) := Lib.hid (fun w' hf => by
              obtain ⟨g', o', e, _, e0, e1⟩ := HPR.out.1.2 j u hu
              rw [hA] at e
              injection e with e
              injection e with e1' e2'
              subst e1' e2'
              exact ⟨hf.cell e0 (fun h => h), hf.cell e1 (fun h => h)⟩)
            have hyl := HB6.out y (List.mem_of_getElem? hy)
            have hul := HB6.out u (List.mem_of_getElem? hu)
            have hid := fun w => rid_any y w (by omega)
            have hls := fun w => rless_any u y w (by omega) (by omega)
            have htk : x.o.pr.take (k + 1) = x.o.pr.take k ++ [y] := by rw [List.take_add_one, hy]; rfl
            have hrs : riseB zeroN (x.o.pr.take (k + 1)) = (idB y && (!decide (0 < k) || lessN u y)) := by
              rw [htk, rise_snoc, HRS.out, Bool.true_and]
              cases hid : idB y with
              | false => rfl
              | true =>
                rw [Bool.true_and, Bool.true_and]
                by_cases h0 : 0 < k
                · rw [decide_eq_true h0, Bool.not_true, Bool.false_or]
                  have e : k = j + 1 := by omega
                  have : lastN (x.o.pr.take k) = u := by
                    rw [e, List.take_add_one, hu]
                    unfold lastN
                    rw [List.getLast?_append]
                    rfl
                  rw [this]
                · obtain rfl : k = 0 := by omega
                  exact zero_less hid
            obtain ⟨i, hi⟩ : ∃ z, idB y = z := ⟨_, rfl⟩
            obtain ⟨s, hs⟩ : ∃ z, lessN u y = z := ⟨_, rfl⟩
            rw [hi, hs] at hrs
            simp only [hi] at hid
            simp only [hs] at hls
            unfold nmc at hid hls
            have hjl : j < lp := by omega
            have hjl' : (j : Int) < (lp : Int) := by omega
            have hlt' : (k : Int) < (lp : Int) := by omega
            have HID := Lib.hid hid
            have HLS := Lib.hid hls
            have HRS2 := Lib.hid hrs
            have HA := Lib.hid hA
            obtain ⟨v, hv⟩ : ∃ z, (i && (!decide (0 < k) || s)) = z := ⟨_, rfl⟩
            have HV := Lib.hid hv
            have hw : 0 < k → IntKind.i64.wrap ((k : Int) - 1) = (j : Int) := fun h => by rw [IntKind.wrap_i64]; omega
            have HW := Lib.hid hw
            clear hy hu hyl hul hid hls htk hrs hi hs hA hv hj hw
            obtain ⟨c0, c1, c2, c3, c4, c5, c6, c7, c8, c9, c10, c11, c12⟩ := HX9.out.cells
            rw [HLP.out, HA.out] at c12
            go_upto_region 11 with fail
            clear c0 c1 c2 c3 c4 c5 c6 c7 c8 c9 c10 c11 c12
            go_cut [118] (fun t wx => t = .bool (!v) ∧ RowO wx g x ∧ RowN wx g3 zeroN ∧ Fr (fun _ => False) w wx)
            case first =>
              cases i with
              | false =>
                refine wp_region_noPanic ?_
                refine wp_region_held_drew (S := fun w' => Fr (fun _ => False) w9 w') (by kernel_rfl) ?_ (fun hHeld => ?_)
                · exact (Fr.refl _ _).drew
                refine wpAnyH_take (i := 0) (v := ?vz20) rfl (by kernel_rfl) (by kernel_rfl) (by kernel_rfl) (fun _ _ _ h => h) (Or.inl ⟨by rfl, ?hyz20⟩) hHeld ?restz20
                case hyz20 => intro w hSw; (try dsimp only at hSw); go_simp; try (with_reducible rfl)
                (try simp only [Act.put, List.setIfInBounds_toArray, List.set_cons_zero, List.set_cons_succ, List.getElem_toArray, List.getElem_cons_zero])
                refine wpAnyH_take (i := 1) (v := ?vz21) rfl (by kernel_rfl) (by kernel_rfl) (by kernel_rfl) (fun _ _ _ h => h) (Or.inl ⟨by rfl, ?hyz21⟩) hHeld ?restz21
                case hyz21 => intro w hSw; (try dsimp only at hSw); obtain ⟨c0, c1, c2, c3, c4, c5, c6, c7, c8, c9, c10, c11, c12⟩ := (HX9.out.fr hSw (fun h => h)).cells; rw [HLP.out, HA.out] at c12; obtain ⟨e0, e1⟩ := HE.out w (HF9.out.trans hSw (fun _ _ h => h)); obtain ⟨f0, f1⟩ := HP.out w (HF9.out.trans hSw (fun _ _ h => h)); go_simp; try (with_reducible rfl)
                (try simp only [Act.put, List.setIfInBounds_toArray, List.set_cons_zero, List.set_cons_succ, List.getElem_toArray, List.getElem_cons_zero, List.getElem_cons_succ])
                refine wpAnyH_take (i := 2) (v := ?vz22) rfl (by kernel_rfl) (by kernel_rfl) (by kernel_rfl) (fun _ _ _ h => h) (Or.inl ⟨by rfl, ?hyz22⟩) hHeld ?restz22
                case hyz22 => intro w hSw; (try dsimp only at hSw); go_simp; try (with_reducible rfl)
                (try simp only [Act.put, List.setIfInBounds_toArray, List.set_cons_zero, List.set_cons_succ, List.getElem_toArray, List.getElem_cons_zero, List.getElem_cons_succ])
                refine wpAnyH_take (i := 3) (v := ?vz23) rfl (by kernel_rfl) (by kernel_rfl) (by kernel_rfl) (fun _ _ _ h => h) (Or.inl ⟨by rfl, ?hyz23⟩) hHeld ?restz23
                case hyz23 => intro w hSw; (try dsimp only at hSw); go_simp; try (with_reducible rfl)
                (try simp only [Act.put, List.setIfInBounds_toArray, List.set_cons_zero, List.set_cons_succ, List.getElem_toArray, List.getElem_cons_zero, List.getElem_cons_succ])
                refine wpAnyH_take (i := 4) (v := ?vz24) rfl (by kernel_rfl) (by kernel_rfl) (by kernel_rfl) (fun _ _ _ h => h) (Or.inl ⟨by rfl, ?hyz24⟩) hHeld ?restz24
                case hyz24 => intro w hSw; (try dsimp only at hSw); obtain ⟨c0, c1, c2, c3, c4, c5, c6, c7, c8, c9, c10, c11, c12⟩ := (HX9.out.fr hSw (fun h => h)).cells; rw [HLP.out, HA.out] at c12; obtain ⟨e0, e1⟩ := HE.out w (HF9.out.trans hSw (fun _ _ h => h)); obtain ⟨f0, f1⟩ := HP.out w (HF9.out.trans hSw (fun _ _ h => h)); go_simp; try (with_reducible rfl)
                (try simp only [Act.put, List.setIfInBounds_toArray, List.set_cons_zero, List.set_cons_succ, List.getElem_toArray, List.getElem_cons_zero, List.getElem_cons_succ])
                refine wpAnyH_ready (rs := [5]) (by kernel_rfl) (by simp) ?_
                refine AllReadyH.cons rfl (fun Kx hKx => ?_) AllReadyH.nil
                go_simp
                have hcon := HID.out (w9.drew)
                with_reducible refine hcon.mono ?_
                clear hcon
                rintro e' w10 ⟨rfl, hff⟩
                have HFw10 : Hid (Fr (fun _ => False) w9 w10) := Lib.hid ((Fr.refl _ _).drew.trans hff (fun _ _ h => h))
                have HX10 := Lib.hid (HX9.out.fr HFw10.out (fun h => h))
                have HZ10 := Lib.hid (HZ9.out.fr HFw10.out (fun h => h))
                have HF10 := Lib.hid (HF9.out.trans HFw10.out (fun _ _ h => h))
                refine hKx.out _ _ ?_ (fun hHeld => ?_)
                · exact HFw10.out
                clear hKx Kx hff
                (try simp only [Act.put, List.setIfInBounds_toArray, List.set_cons_zero, List.set_cons_succ, List.getElem_toArray, List.getElem_cons_zero, List.getElem_cons_succ])
                refine wpAnyH_more (fun w' => Fr (fun _ => False) w10 w') (fun _ h => HFw10.out.trans h (fun _ _ h => h)) ?_ (fun hHeld => ?_)
                · exact Fr.refl _ _
                refine wpAnyH_take (i := 6) (v := ?vz26) rfl (by kernel_rfl) (by kernel_rfl) (by kernel_rfl) (fun _ _ _ h => h) (Or.inl ⟨by rfl, ?hyz26⟩) hHeld ?restz26
                case hyz26 => intro w hSw; (try dsimp only at hSw); go_simp; try (with_reducible rfl)
                (try simp only [Act.put, List.setIfInBounds_toArray, List.set_cons_zero, List.set_cons_succ, List.getElem_toArray, List.getElem_cons_zero, List.getElem_cons_succ])
                refine wpAnyH_take (i := 7) (v := ?vz27) rfl (by kernel_rfl) (by kernel_rfl) (by kernel_rfl) (fun _ _ _ h => h) (Or.inl ⟨by rfl, ?hyz27⟩) hHeld ?restz27
                case hyz27 => intro w hSw; (try dsimp only at hSw); go_simp; try (with_reducible rfl)
                (try simp only [Act.put, List.setIfInBounds_toArray, List.set_cons_zero, List.set_cons_succ, List.getElem_toArray, List.getElem_cons_zero, List.getElem_cons_succ])
                refine wpAnyH_take (i := 8) (v := undef) rfl (by kernel_rfl) (by kernel_rfl) (by kernel_rfl) (fun _ _ _ h => h) (Or.inr ⟨by rfl, rfl⟩) hHeld ?_
                (try simp only [Act.put, List.setIfInBounds_toArray, List.set_cons_zero, List.set_cons_succ, List.getElem_toArray, List.getElem_cons_zero, List.getElem_cons_succ])
                refine wpAnyH_take (i := 9) (v := undef) rfl (by kernel_rfl) (by kernel_rfl) (by kernel_rfl) (fun _ _ _ h => h) (Or.inr ⟨by rfl, rfl⟩) hHeld ?_
                (try simp only [Act.put, List.setIfInBounds_toArray, List.set_cons_zero, List.set_cons_succ, List.getElem_toArray, List.getElem_cons_zero, List.getElem_cons_succ])
                refine wpAnyH_take (i := 10) (v := undef) rfl (by kernel_rfl) (by kernel_rfl) (by kernel_rfl) (fun _ _ _ h => h) (Or.inr ⟨by rfl, rfl⟩) hHeld ?_
                (try simp only [Act.put, List.setIfInBounds_toArray, List.set_cons_zero, List.set_cons_succ, List.getElem_toArray, List.getElem_cons_zero, List.getElem_cons_succ])
                refine wpAnyH_take (i := 11) (v := undef) rfl (by kernel_rfl) (by kernel_rfl) (by kernel_rfl) (fun _ _ _ h => h) (Or.inr ⟨by rfl, rfl⟩) hHeld ?_
                (try simp only [Act.put, List.setIfInBounds_toArray, List.set_cons_zero, List.set_cons_succ, List.getElem_toArray, List.getElem_cons_zero, List.getElem_cons_succ])
                refine wpAnyH_take (i := 12) (v := undef) rfl (by kernel_rfl) (by kernel_rfl) (by kernel_rfl) (fun _ _ _ h => h) (Or.inr ⟨by rfl, rfl⟩) hHeld ?_
                (try simp only [Act.put, List.setIfInBounds_toArray, List.set_cons_zero, List.set_cons_succ, List.getElem_toArray, List.getElem_cons_zero, List.getElem_cons_succ])
                refine wpAnyH_take (i := 13) (v := undef) rfl (by kernel_rfl) (by kernel_rfl) (by kernel_rfl) (fun _ _ _ h => h) (Or.inr ⟨by rfl, rfl⟩) hHeld ?_
                (try simp only [Act.put, List.setIfInBounds_toArray, List.set_cons_zero, List.set_cons_succ, List.getElem_toArray, List.getElem_cons_zero, List.getElem_cons_succ])
                refine wpAnyH_take (i := 14) (v := undef) rfl (by kernel_rfl) (by kernel_rfl) (by kernel_rfl) (fun _ _ _ h => h) (Or.inr ⟨by rfl, rfl⟩) hHeld ?_
                (try simp only [Act.put, List.setIfInBounds_toArray, List.set_cons_zero, List.set_cons_succ, List.getElem_toArray, List.getElem_cons_zero, List.getElem_cons_succ])
                refine wpAnyH_take (i := 15) (v := undef) rfl (by kernel_rfl) (by kernel_rfl) (by kernel_rfl) (fun _ _ _ h => h) (Or.inr ⟨by rfl, rfl⟩) hHeld ?_
                (try simp only [Act.put, List.setIfInBounds_toArray, List.set_cons_zero, List.set_cons_succ, List.getElem_toArray, List.getElem_cons_zero, List.getElem_cons_succ])
                refine wpAnyH_take (i := 16) (v := undef) rfl (by kernel_rfl) (by kernel_rfl) (by kernel_rfl) (fun _ _ _ h => h) (Or.inr ⟨by rfl, rfl⟩) hHeld ?_
                (try simp only [Act.put, List.setIfInBounds_toArray, List.set_cons_zero, List.set_cons_succ, List.getElem_toArray, List.getElem_cons_zero, List.getElem_cons_succ])
                refine wpAnyH_take (i := 17) (v := undef) rfl (by kernel_rfl) (by kernel_rfl) (by kernel_rfl) (fun _ _ _ h => h) (Or.inr ⟨by rfl, rfl⟩) hHeld ?_
                (try simp only [Act.put, List.setIfInBounds_toArray, List.set_cons_zero, List.set_cons_succ, List.getElem_toArray, List.getElem_cons_zero, List.getElem_cons_succ])
                refine wpAnyH_take (i := 18) (v := undef) rfl (by kernel_rfl) (by kernel_rfl) (by kernel_rfl) (fun _ _ _ h => h) (Or.inr ⟨by rfl, rfl⟩) hHeld ?_
                (try simp only [Act.put, List.setIfInBounds_toArray, List.set_cons_zero, List.set_cons_succ, List.getElem_toArray, List.getElem_cons_zero, List.getElem_cons_succ])
                refine wpAnyH_take (i := 19) (v := undef) rfl (by kernel_rfl) (by kernel_rfl) (by kernel_rfl) (fun _ _ _ h => h) (Or.inr ⟨by rfl, rfl⟩) hHeld ?_
                (try simp only [Act.put, List.setIfInBounds_toArray, List.set_cons_zero, List.set_cons_succ, List.getElem_toArray, List.getElem_cons_zero, List.getElem_cons_succ])
                refine wpAnyH_take (i := 20) (v := undef) rfl (by kernel_rfl) (by kernel_rfl) (by kernel_rfl) (fun _ _ _ h => h) (Or.inr ⟨by rfl, rfl⟩) hHeld ?_
                (try simp only [Act.put, List.setIfInBounds_toArray, List.set_cons_zero, List.set_cons_succ, List.getElem_toArray, List.getElem_cons_zero, List.getElem_cons_succ])
                refine wpAnyH_take (i := 21) (v := undef) rfl (by kernel_rfl) (by kernel_rfl) (by kernel_rfl) (fun _ _ _ h => h) (Or.inr ⟨by rfl, rfl⟩) hHeld ?_
                (try simp only [Act.put, List.setIfInBounds_toArray, List.set_cons_zero, List.set_cons_succ, List.getElem_toArray, List.getElem_cons_zero, List.getElem_cons_succ])
                refine wpAnyH_take (i := 22) (v := undef) rfl (by kernel_rfl) (by kernel_rfl) (by kernel_rfl) (fun _ _ _ h => h) (Or.inr ⟨by rfl, rfl⟩) hHeld ?_
                (try simp only [Act.put, List.setIfInBounds_toArray, List.set_cons_zero, List.set_cons_succ, List.getElem_toArray, List.getElem_cons_zero, List.getElem_cons_succ])
                refine wpAnyH_take (i := 23) (v := undef) rfl (by kernel_rfl) (by kernel_rfl) (by kernel_rfl) (fun _ _ _ h => h) (Or.inr ⟨by rfl, rfl⟩) hHeld ?_
                (try simp only [Act.put, List.setIfInBounds_toArray, List.set_cons_zero, List.set_cons_succ, List.getElem_toArray, List.getElem_cons_zero, List.getElem_cons_succ])
                refine wpAnyH_take (i := 24) (v := undef) rfl (by kernel_rfl) (by kernel_rfl) (by kernel_rfl) (fun _ _ _ h => h) (Or.inr ⟨by rfl, rfl⟩) hHeld ?_
                (try simp only [Act.put, List.setIfInBounds_toArray, List.set_cons_zero, List.set_cons_succ, List.getElem_toArray, List.getElem_cons_zero, List.getElem_cons_succ])
                refine wpAnyH_take (i := 25) (v := ?vz225) rfl (by kernel_rfl) (by kernel_rfl) (by kernel_rfl) (fun _ _ _ h => h) (Or.inl ⟨by rfl, ?hyz225⟩) hHeld ?restz225
                case hyz225 => intro w hSw; (try dsimp only at hSw); go_simp; try (with_reducible rfl)
                (try simp only [Act.put, List.setIfInBounds_toArray, List.set_cons_zero, List.set_cons_succ, List.getElem_toArray, List.getElem_cons_zero, List.getElem_cons_succ])
                refine wpAnyH_done (by kernel_rfl) ?_ _
                refine NoPanic.normal ?_
                go_wp2_with fail
                go_meet
                exact ⟨by rw [← HV.out]; rfl, HX10.out, HZ10.out, HF10.out⟩
              | true =>
                by_cases h0 : 0 < k
                · have t0 : decide ((0 : Int) < (k : Int)) = true := decide_eq_true (by omega)
                  have t0' : decide (0 < k) = true := decide_eq_true h0
                  have tw := HW.out h0
                  clear h0
                  refine wp_region_noPanic ?_
                  refine wp_region_held_drew (S := fun w' => Fr (fun _ => False) w9 w') (by kernel_rfl) ?_ (fun hHeld => ?_)
                  · exact (Fr.refl _ _).drew
                  refine wpAnyH_take (i := 0) (v := ?vz40) rfl (by kernel_rfl) (by kernel_rfl) (by kernel_rfl) (fun _ _ _ h => h) (Or.inl ⟨by rfl, ?hyz40⟩) hHeld ?restz40
                  case hyz40 => intro w hSw; (try dsimp only at hSw); go_simp; try (with_reducible rfl)
                  (try simp only [Act.put, List.setIfInBounds_toArray, List.set_cons_zero, List.set_cons_succ, List.getElem_toArray, List.getElem_cons_zero])
                  refine wpAnyH_take (i := 1) (v := ?vz41) rfl (by kernel_rfl) (by kernel_rfl) (by kernel_rfl) (fun _ _ _ h => h) (Or.inl ⟨by rfl, ?hyz41⟩) hHeld ?restz41
                  case hyz41 => intro w hSw; (try dsimp only at hSw); obtain ⟨c0, c1, c2, c3, c4, c5, c6, c7, c8, c9, c10, c11, c12⟩ := (HX9.out.fr hSw (fun h => h)).cells; rw [HLP.out, HA.out] at c12; obtain ⟨e0, e1⟩ := HE.out w (HF9.out.trans hSw (fun _ _ h => h)); obtain ⟨f0, f1⟩ := HP.out w (HF9.out.trans hSw (fun _ _ h => h)); go_simp; try (with_reducible rfl)
                  (try simp only [Act.put, List.setIfInBounds_toArray, List.set_cons_zero, List.set_cons_succ, List.getElem_toArray, List.getElem_cons_zero, List.getElem_cons_succ])
                  refine wpAnyH_take (i := 2) (v := ?vz42) rfl (by kernel_rfl) (by kernel_rfl) (by kernel_rfl) (fun _ _ _ h => h) (Or.inl ⟨by rfl, ?hyz42⟩) hHeld ?restz42
                  case hyz42 => intro w hSw; (try dsimp only at hSw); go_simp; try (with_reducible rfl)
                  (try simp only [Act.put, List.setIfInBounds_toArray, List.set_cons_zero, List.set_cons_succ, List.getElem_toArray, List.getElem_cons_zero, List.getElem_cons_succ])
                  refine wpAnyH_take (i := 3) (v := ?vz43) rfl (by kernel_rfl) (by kernel_rfl) (by kernel_rfl) (fun _ _ _ h => h) (Or.inl ⟨by rfl, ?hyz43⟩) hHeld ?restz43
                  case hyz43 => intro w hSw; (try dsimp only at hSw); go_simp; try (with_reducible rfl)
                  (try simp only [Act.put, List.setIfInBounds_toArray, List.set_cons_zero, List.set_cons_succ, List.getElem_toArray, List.getElem_cons_zero, List.getElem_cons_succ])
                  refine wpAnyH_take (i := 4) (v := ?vz44) rfl (by kernel_rfl) (by kernel_rfl) (by kernel_rfl) (fun _ _ _ h => h) (Or.inl ⟨by rfl, ?hyz44⟩) hHeld ?restz44
                  case hyz44 => intro w hSw; (try dsimp only at hSw); obtain ⟨c0, c1, c2, c3, c4, c5, c6, c7, c8, c9, c10, c11, c12⟩ := (HX9.out.fr hSw (fun h => h)).cells; rw [HLP.out, HA.out] at c12; obtain ⟨e0, e1⟩ := HE.out w (HF9.out.trans hSw (fun _ _ h => h)); obtain ⟨f0, f1⟩ := HP.out w (HF9.out.trans hSw (fun _ _ h => h)); go_simp; try (with_reducible rfl)
                  (try simp only [Act.put, List.setIfInBounds_toArray, List.set_cons_zero, List.set_cons_succ, List.getElem_toArray, List.getElem_cons_zero, List.getElem_cons_succ])
                  refine wpAnyH_ready (rs := [5]) (by kernel_rfl) (by simp) ?_
                  refine AllReadyH.cons rfl (fun Kx hKx => ?_) AllReadyH.nil
                  go_simp
                  have hcon := HID.out (w9.drew)
                  with_reducible refine hcon.mono ?_
                  clear hcon
                  rintro e' w10 ⟨rfl, hff⟩
                  have HFw10 : Hid (Fr (fun _ => False) w9 w10) := Lib.hid ((Fr.refl _ _).drew.trans hff (fun _ _ h => h))
                  have HX10 := Lib.hid (HX9.out.fr HFw10.out (fun h => h))
                  have HZ10 := Lib.hid (HZ9.out.fr HFw10.out (fun h => h))
                  have HF10 := Lib.hid (HF9.out.trans HFw10.out (fun _ _ h => h))
                  refine hKx.out _ _ ?_ (fun hHeld => ?_)
                  · exact HFw10.out
                  clear hKx Kx hff
                  (try simp only [Act.put, List.setIfInBounds_toArray, List.set_cons_zero, List.set_cons_succ, List.getElem_toArray, List.getElem_cons_zero, List.getElem_cons_succ])
                  refine wpAnyH_more (fun w' => Fr (fun _ => False) w10 w') (fun _ h => HFw10.out.trans h (fun _ _ h => h)) ?_ (fun hHeld => ?_)
                  · exact Fr.refl _ _
                  refine wpAnyH_take (i := 6) (v := ?vz46) rfl (by kernel_rfl) (by kernel_rfl) (by kernel_rfl) (fun _ _ _ h => h) (Or.inl ⟨by rfl, ?hyz46⟩) hHeld ?restz46
                  case hyz46 => intro w hSw; (try dsimp only at hSw); go_simp; try (with_reducible rfl)
                  (try simp only [Act.put, List.setIfInBounds_toArray, List.set_cons_zero, List.set_cons_succ, List.getElem_toArray, List.getElem_cons_zero, List.getElem_cons_succ])
                  refine wpAnyH_take (i := 7) (v := ?vz47) rfl (by kernel_rfl) (by kernel_rfl) (by kernel_rfl) (fun _ _ _ h => h) (Or.inl ⟨by rfl, ?hyz47⟩) hHeld ?restz47
                  case hyz47 => intro w hSw; (try dsimp only at hSw); go_simp; try (with_reducible rfl)
                  (try simp only [Act.put, List.setIfInBounds_toArray, List.set_cons_zero, List.set_cons_succ, List.getElem_toArray, List.getElem_cons_zero, List.getElem_cons_succ])
                  refine wpAnyH_take (i := 8) (v := ?vz48) rfl (by kernel_rfl) (by kernel_rfl) (by kernel_rfl) (fun _ _ _ h => h) (Or.inl ⟨by rfl, ?hyz48⟩) hHeld ?restz48
                  case hyz48 => intro w hSw; (try dsimp only at hSw); go_simp; try (with_reducible rfl)
                  (try simp only [Act.put, List.setIfInBounds_toArray, List.set_cons_zero, List.set_cons_succ, List.getElem_toArray, List.getElem_cons_zero, List.getElem_cons_succ])
                  refine wpAnyH_take (i := 9) (v := ?vz49) rfl (by kernel_rfl) (by kernel_rfl) (by kernel_rfl) (fun _ _ _ h => h) (Or.inl ⟨by rfl, ?hyz49⟩) hHeld ?restz49
                  case hyz49 => intro w hSw; (try dsimp only at hSw); go_simp; try (with_reducible rfl)
                  (try simp only [Act.put, List.setIfInBounds_toArray, List.set_cons_zero, List.set_cons_succ, List.getElem_toArray, List.getElem_cons_zero, List.getElem_cons_succ])
                  refine wpAnyH_take (i := 10) (v := ?vz410) rfl (by kernel_rfl) (by kernel_rfl) (by kernel_rfl) (fun _ _ _ h => h) (Or.inl ⟨by rfl, ?hyz410⟩) hHeld ?restz410
                  case hyz410 => intro w hSw; (try dsimp only at hSw); go_simp; try (with_reducible rfl)
                  (try simp only [Act.put, List.setIfInBounds_toArray, List.set_cons_zero, List.set_cons_succ, List.getElem_toArray, List.getElem_cons_zero, List.getElem_cons_succ])
                  refine wpAnyH_take (i := 11) (v := ?vz411) rfl (by kernel_rfl) (by kernel_rfl) (by kernel_rfl) (fun _ _ _ h => h) (Or.inl ⟨by rfl, ?hyz411⟩) hHeld ?restz411
                  case hyz411 => intro w hSw; (try dsimp only at hSw); go_simp; try (with_reducible rfl)
                  (try simp only [Act.put, List.setIfInBounds_toArray, List.set_cons_zero, List.set_cons_succ, List.getElem_toArray, List.getElem_cons_zero, List.getElem_cons_succ])
                  refine wpAnyH_take (i := 12) (v := ?vz412) rfl (by kernel_rfl) (by kernel_rfl) (by kernel_rfl) (fun _ _ _ h => h) (Or.inl ⟨by rfl, ?hyz412⟩) hHeld ?restz412
                  case hyz412 => intro w hSw; (try dsimp only at hSw); obtain ⟨c0, c1, c2, c3, c4, c5, c6, c7, c8, c9, c10, c11, c12⟩ := (HX10.out.fr hSw (fun h => h)).cells; rw [HLP.out, HA.out] at c12; obtain ⟨e0, e1⟩ := HE.out w (HF10.out.trans hSw (fun _ _ h => h)); obtain ⟨f0, f1⟩ := HP.out w (HF10.out.trans hSw (fun _ _ h => h)); go_simp; try (with_reducible rfl)
                  (try simp only [Act.put, List.setIfInBounds_toArray, List.set_cons_zero, List.set_cons_succ, List.getElem_toArray, List.getElem_cons_zero, List.getElem_cons_succ])
                  refine wpAnyH_take (i := 13) (v := ?vz413) rfl (by kernel_rfl) (by kernel_rfl) (by kernel_rfl) (fun _ _ _ h => h) (Or.inl ⟨by rfl, ?hyz413⟩) hHeld ?restz413
                  case hyz413 => intro w hSw; (try dsimp only at hSw); go_simp; try (with_reducible rfl)
                  (try simp only [Act.put, List.setIfInBounds_toArray, List.set_cons_zero, List.set_cons_succ, List.getElem_toArray, List.getElem_cons_zero, List.getElem_cons_succ])
                  refine wpAnyH_take (i := 14) (v := ?vz414) rfl (by kernel_rfl) (by kernel_rfl) (by kernel_rfl) (fun _ _ _ h => h) (Or.inl ⟨by rfl, ?hyz414⟩) hHeld ?restz414
                  case hyz414 => intro w hSw; (try dsimp only at hSw); go_simp; try (with_reducible rfl)
                  (try simp only [Act.put, List.setIfInBounds_toArray, List.set_cons_zero, List.set_cons_succ, List.getElem_toArray, List.getElem_cons_zero, List.getElem_cons_succ])
                  refine wpAnyH_take (i := 15) (v := ?vz415) rfl (by kernel_rfl) (by kernel_rfl) (by kernel_rfl) (fun _ _ _ h => h) (Or.inl ⟨by rfl, ?hyz415⟩) hHeld ?restz415
                  case hyz415 => intro w hSw; (try dsimp only at hSw); go_simp; try (with_reducible rfl)
                  (try simp only [Act.put, List.setIfInBounds_toArray, List.set_cons_zero, List.set_cons_succ, List.getElem_toArray, List.getElem_cons_zero, List.getElem_cons_succ])
                  refine wpAnyH_take (i := 16) (v := ?vz416) rfl (by kernel_rfl) (by kernel_rfl) (by kernel_rfl) (fun _ _ _ h => h) (Or.inl ⟨by rfl, ?hyz416⟩) hHeld ?restz416
                  case hyz416 => intro w hSw; (try dsimp only at hSw); obtain ⟨c0, c1, c2, c3, c4, c5, c6, c7, c8, c9, c10, c11, c12⟩ := (HX10.out.fr hSw (fun h => h)).cells; rw [HLP.out, HA.out] at c12; obtain ⟨e0, e1⟩ := HE.out w (HF10.out.trans hSw (fun _ _ h => h)); obtain ⟨f0, f1⟩ := HP.out w (HF10.out.trans hSw (fun _ _ h => h)); go_simp; try (with_reducible rfl)
                  (try simp only [Act.put, List.setIfInBounds_toArray, List.set_cons_zero, List.set_cons_succ, List.getElem_toArray, List.getElem_cons_zero, List.getElem_cons_succ])
                  refine wpAnyH_take (i := 17) (v := ?vz417) rfl (by kernel_rfl) (by kernel_rfl) (by kernel_rfl) (fun _ _ _ h => h) (Or.inl ⟨by rfl, ?hyz417⟩) hHeld ?restz417
                  case hyz417 => intro w hSw; (try dsimp only at hSw); go_simp; try (with_reducible rfl)
                  (try simp only [Act.put, List.setIfInBounds_toArray, List.set_cons_zero, List.set_cons_succ, List.getElem_toArray, List.getElem_cons_zero, List.getElem_cons_succ])
                  refine wpAnyH_take (i := 18) (v := ?vz418) rfl (by kernel_rfl) (by kernel_rfl) (by kernel_rfl) (fun _ _ _ h => h) (Or.inl ⟨by rfl, ?hyz418⟩) hHeld ?restz418
                  case hyz418 => intro w hSw; (try dsimp only at hSw); obtain ⟨c0, c1, c2, c3, c4, c5, c6, c7, c8, c9, c10, c11, c12⟩ := (HX10.out.fr hSw (fun h => h)).cells; rw [HLP.out, HA.out] at c12; obtain ⟨e0, e1⟩ := HE.out w (HF10.out.trans hSw (fun _ _ h => h)); obtain ⟨f0, f1⟩ := HP.out w (HF10.out.trans hSw (fun _ _ h => h)); go_simp; try (with_reducible rfl)
                  (try simp only [Act.put, List.setIfInBounds_toArray, List.set_cons_zero, List.set_cons_succ, List.getElem_toArray, List.getElem_cons_zero, List.getElem_cons_succ])
                  refine wpAnyH_take (i := 19) (v := ?vz419) rfl (by kernel_rfl) (by kernel_rfl) (by kernel_rfl) (fun _ _ _ h => h) (Or.inl ⟨by rfl, ?hyz419⟩) hHeld ?restz419
                  case hyz419 => intro w hSw; (try dsimp only at hSw); go_simp; try (with_reducible rfl)
                  (try simp only [Act.put, List.setIfInBounds_toArray, List.set_cons_zero, List.set_cons_succ, List.getElem_toArray, List.getElem_cons_zero, List.getElem_cons_succ])
                  refine wpAnyH_take (i := 20) (v := ?vz420) rfl (by kernel_rfl) (by kernel_rfl) (by kernel_rfl) (fun _ _ _ h => h) (Or.inl ⟨by rfl, ?hyz420⟩) hHeld ?restz420
                  case hyz420 => intro w hSw; (try dsimp only at hSw); go_simp; try (with_reducible rfl)
                  (try simp only [Act.put, List.setIfInBounds_toArray, List.set_cons_zero, List.set_cons_succ, List.getElem_toArray, List.getElem_cons_zero, List.getElem_cons_succ])
                  refine wpAnyH_take (i := 21) (v := ?vz421) rfl (by kernel_rfl) (by kernel_rfl) (by kernel_rfl) (fun _ _ _ h => h) (Or.inl ⟨by rfl, ?hyz421⟩) hHeld ?restz421
                  case hyz421 => intro w hSw; (try dsimp only at hSw); obtain ⟨c0, c1, c2, c3, c4, c5, c6, c7, c8, c9, c10, c11, c12⟩ := (HX10.out.fr hSw (fun h => h)).cells; rw [HLP.out, HA.out] at c12; obtain ⟨e0, e1⟩ := HE.out w (HF10.out.trans hSw (fun _ _ h => h)); obtain ⟨f0, f1⟩ := HP.out w (HF10.out.trans hSw (fun _ _ h => h)); go_simp; try (with_reducible rfl)
                  (try simp only [Act.put, List.setIfInBounds_toArray, List.set_cons_zero, List.set_cons_succ, List.getElem_toArray, List.getElem_cons_zero, List.getElem_cons_succ])
                  refine wpAnyH_ready (rs := [22]) (by kernel_rfl) (by simp) ?_
                  refine AllReadyH.cons rfl (fun Kx hKx => ?_) AllReadyH.nil
                  go_simp
                  have hcon := HLS.out (w10)
                  with_reducible refine hcon.mono ?_
                  clear hcon
                  rintro e' w11 ⟨rfl, hff⟩
                  have HFw11 : Hid (Fr (fun _ => False) w10 w11) := Lib.hid (hff)
                  have HX11 := Lib.hid (HX10.out.fr HFw11.out (fun h => h))
                  have HZ11 := Lib.hid (HZ10.out.fr HFw11.out (fun h => h))
                  have HF11 := Lib.hid (HF10.out.trans HFw11.out (fun _ _ h => h))
                  refine hKx.out _ _ ?_ (fun hHeld => ?_)
                  · exact HFw11.out
                  clear hKx Kx hff
                  (try simp only [Act.put, List.setIfInBounds_toArray, List.set_cons_zero, List.set_cons_succ, List.getElem_toArray, List.getElem_cons_zero, List.getElem_cons_succ])
                  refine wpAnyH_more (fun w' => Fr (fun _ => False) w11 w') (fun _ h => HFw11.out.trans h (fun _ _ h => h)) ?_ (fun hHeld => ?_)
                  · exact Fr.refl _ _
                  refine wpAnyH_take (i := 23) (v := ?vz423) rfl (by kernel_rfl) (by kernel_rfl) (by kernel_rfl) (fun _ _ _ h => h) (Or.inl ⟨by rfl, ?hyz423⟩) hHeld ?restz423
                  case hyz423 => intro w hSw; (try dsimp only at hSw); go_simp; try (with_reducible rfl)
                  (try simp only [Act.put, List.setIfInBounds_toArray, List.set_cons_zero, List.set_cons_succ, List.getElem_toArray, List.getElem_cons_zero, List.getElem_cons_succ])
                  refine wpAnyH_take (i := 24) (v := ?vz424) rfl (by kernel_rfl) (by kernel_rfl) (by kernel_rfl) (fun _ _ _ h => h) (Or.inl ⟨by rfl, ?hyz424⟩) hHeld ?restz424
                  case hyz424 => intro w hSw; (try dsimp only at hSw); go_simp; try (with_reducible rfl)
                  (try simp only [Act.put, List.setIfInBounds_toArray, List.set_cons_zero, List.set_cons_succ, List.getElem_toArray, List.getElem_cons_zero, List.getElem_cons_succ])
                  refine wpAnyH_take (i := 25) (v := ?vz425) rfl (by kernel_rfl) (by kernel_rfl) (by kernel_rfl) (fun _ _ _ h => h) (Or.inl ⟨by rfl, ?hyz425⟩) hHeld ?restz425
                  case hyz425 => intro w hSw; (try dsimp only at hSw); go_simp; try (with_reducible rfl)
                  (try simp only [Act.put, List.setIfInBounds_toArray, List.set_cons_zero, List.set_cons_succ, List.getElem_toArray, List.getElem_cons_zero, List.getElem_cons_succ])
                  refine wpAnyH_done (by kernel_rfl) ?_ _
                  refine NoPanic.normal ?_
                  go_wp2_with fail
                  go_meet
                  exact ⟨by rw [← HV.out, t0']; cases s <;> rfl, HX11.out, HZ11.out, HF11.out⟩
                · have t0 : decide ((0 : Int) < (k : Int)) = false := decide_eq_false (by omega)
                  have t0' : decide (0 < k) = false := decide_eq_false h0
                  clear h0
                  refine wp_region_noPanic ?_
                  refine wp_region_held_drew (S := fun w' => Fr (fun _ => False) w9 w') (by kernel_rfl) ?_ (fun hHeld => ?_)
                  · exact (Fr.refl _ _).drew
                  refine wpAnyH_take (i := 0) (v := ?vz30) rfl (by kernel_rfl) (by kernel_rfl) (by kernel_rfl) (fun _ _ _ h => h) (Or.inl ⟨by rfl, ?hyz30⟩) hHeld ?restz30
                  case hyz30 => intro w hSw; (try dsimp only at hSw); go_simp; try (with_reducible rfl)
                  (try simp only [Act.put, List.setIfInBounds_toArray, List.set_cons_zero, List.set_cons_succ, List.getElem_toArray, List.getElem_cons_zero])
                  refine wpAnyH_take (i := 1) (v := ?vz31) rfl (by kernel_rfl) (by kernel_rfl) (by kernel_rfl) (fun _ _ _ h => h) (Or.inl ⟨by rfl, ?hyz31⟩) hHeld ?restz31
                  case hyz31 => intro w hSw; (try dsimp only at hSw); obtain ⟨c0, c1, c2, c3, c4, c5, c6, c7, c8, c9, c10, c11, c12⟩ := (HX9.out.fr hSw (fun h => h)).cells; rw [HLP.out, HA.out] at c12; obtain ⟨e0, e1⟩ := HE.out w (HF9.out.trans hSw (fun _ _ h => h)); obtain ⟨f0, f1⟩ := HP.out w (HF9.out.trans hSw (fun _ _ h => h)); go_simp; try (with_reducible rfl)
                  (try simp only [Act.put, List.setIfInBounds_toArray, List.set_cons_zero, List.set_cons_succ, List.getElem_toArray, List.getElem_cons_zero, List.getElem_cons_succ])
                  refine wpAnyH_take (i := 2) (v := ?vz32) rfl (by kernel_rfl) (by kernel_rfl) (by kernel_rfl) (fun _ _ _ h => h) (Or.inl ⟨by rfl, ?hyz32⟩) hHeld ?restz32
                  case hyz32 => intro w hSw; (try dsimp only at hSw); go_simp; try (with_reducible rfl)
                  (try simp only [Act.put, List.setIfInBounds_toArray, List.set_cons_zero, List.set_cons_succ, List.getElem_toArray, List.getElem_cons_zero, List.getElem_cons_succ])
                  refine wpAnyH_take (i := 3) (v := ?vz33) rfl (by kernel_rfl) (by kernel_rfl) (by kernel_rfl) (fun _ _ _ h => h) (Or.inl ⟨by rfl, ?hyz33⟩) hHeld ?restz33
                  case hyz33 => intro w hSw; (try dsimp only at hSw); go_simp; try (with_reducible rfl)
                  (try simp only [Act.put, List.setIfInBounds_toArray, List.set_cons_zero, List.set_cons_succ, List.getElem_toArray, List.getElem_cons_zero, List.getElem_cons_succ])
                  refine wpAnyH_take (i := 4) (v := ?vz34) rfl (by kernel_rfl) (by kernel_rfl) (by kernel_rfl) (fun _ _ _ h => h) (Or.inl ⟨by rfl, ?hyz34⟩) hHeld ?restz34
                  case hyz34 => intro w hSw; (try dsimp only at hSw); obtain ⟨c0, c1, c2, c3, c4, c5, c6, c7, c8, c9, c10, c11, c12⟩ := (HX9.out.fr hSw (fun h => h)).cells; rw [HLP.out, HA.out] at c12; obtain ⟨e0, e1⟩ := HE.out w (HF9.out.trans hSw (fun _ _ h => h)); obtain ⟨f0, f1⟩ := HP.out w (HF9.out.trans hSw (fun _ _ h => h)); go_simp; try (with_reducible rfl)
                  (try simp only [Act.put, List.setIfInBounds_toArray, List.set_cons_zero, List.set_cons_succ, List.getElem_toArray, List.getElem_cons_zero, List.getElem_cons_succ])
                  refine wpAnyH_ready (rs := [5]) (by kernel_rfl) (by simp) ?_
                  refine AllReadyH.cons rfl (fun Kx hKx => ?_) AllReadyH.nil
                  go_simp
                  have hcon := HID.out (w9.drew)
                  with_reducible refine hcon.mono ?_
                  clear hcon
                  rintro e' w10 ⟨rfl, hff⟩
                  have HFw10 : Hid (Fr (fun _ => False) w9 w10) := Lib.hid ((Fr.refl _ _).drew.trans hff (fun _ _ h => h))
                  have HX10 := Lib.hid (HX9.out.fr HFw10.out (fun h => h))
                  have HZ10 := Lib.hid (HZ9.out.fr HFw10.out (fun h => h))
                  have HF10 := Lib.hid (HF9.out.trans HFw10.out (fun _ _ h => h))
                  refine hKx.out _ _ ?_ (fun hHeld => ?_)
                  · exact HFw10.out
                  clear hKx Kx hff
                  (try simp only [Act.put, List.setIfInBounds_toArray, List.set_cons_zero, List.set_cons_succ, List.getElem_toArray, List.getElem_cons_zero, List.getElem_cons_succ])
                  refine wpAnyH_more (fun w' => Fr (fun _ => False) w10 w') (fun _ h => HFw10.out.trans h (fun _ _ h => h)) ?_ (fun hHeld => ?_)
                  · exact Fr.refl _ _
                  refine wpAnyH_take (i := 6) (v := ?vz36) rfl (by kernel_rfl) (by kernel_rfl) (by kernel_rfl) (fun _ _ _ h => h) (Or.inl ⟨by rfl, ?hyz36⟩) hHeld ?restz36
                  case hyz36 => intro w hSw; (try dsimp only at hSw); go_simp; try (with_reducible rfl)
                  (try simp only [Act.put, List.setIfInBounds_toArray, List.set_cons_zero, List.set_cons_succ, List.getElem_toArray, List.getElem_cons_zero, List.getElem_cons_succ])
                  refine wpAnyH_take (i := 7) (v := ?vz37) rfl (by kernel_rfl) (by kernel_rfl) (by kernel_rfl) (fun _ _ _ h => h) (Or.inl ⟨by rfl, ?hyz37⟩) hHeld ?restz37
                  case hyz37 => intro w hSw; (try dsimp only at hSw); go_simp; try (with_reducible rfl)
                  (try simp only [Act.put, List.setIfInBounds_toArray, List.set_cons_zero, List.set_cons_succ, List.getElem_toArray, List.getElem_cons_zero, List.getElem_cons_succ])
                  refine wpAnyH_take (i := 8) (v := ?vz38) rfl (by kernel_rfl) (by kernel_rfl) (by kernel_rfl) (fun _ _ _ h => h) (Or.inl ⟨by rfl, ?hyz38⟩) hHeld ?restz38
                  case hyz38 => intro w hSw; (try dsimp only at hSw); go_simp; try (with_reducible rfl)
                  (try simp only [Act.put, List.setIfInBounds_toArray, List.set_cons_zero, List.set_cons_succ, List.getElem_toArray, List.getElem_cons_zero, List.getElem_cons_succ])
                  refine wpAnyH_take (i := 9) (v := ?vz39) rfl (by kernel_rfl) (by kernel_rfl) (by kernel_rfl) (fun _ _ _ h => h) (Or.inl ⟨by rfl, ?hyz39⟩) hHeld ?restz39
                  case hyz39 => intro w hSw; (try dsimp only at hSw); go_simp; try (with_reducible rfl)
                  (try simp only [Act.put, List.setIfInBounds_toArray, List.set_cons_zero, List.set_cons_succ, List.getElem_toArray, List.getElem_cons_zero, List.getElem_cons_succ])
                  refine wpAnyH_take (i := 10) (v := ?vz310) rfl (by kernel_rfl) (by kernel_rfl) (by kernel_rfl) (fun _ _ _ h => h) (Or.inl ⟨by rfl, ?hyz310⟩) hHeld ?restz310
                  case hyz310 => intro w hSw; (try dsimp only at hSw); go_simp; try (with_reducible rfl)
                  (try simp only [Act.put, List.setIfInBounds_toArray, List.set_cons_zero, List.set_cons_succ, List.getElem_toArray, List.getElem_cons_zero, List.getElem_cons_succ])
                  refine wpAnyH_take (i := 11) (v := undef) rfl (by kernel_rfl) (by kernel_rfl) (by kernel_rfl) (fun _ _ _ h => h) (Or.inr ⟨by rfl, rfl⟩) hHeld ?_
                  (try simp only [Act.put, List.setIfInBounds_toArray, List.set_cons_zero, List.set_cons_succ, List.getElem_toArray, List.getElem_cons_zero, List.getElem_cons_succ])
                  refine wpAnyH_take (i := 12) (v := undef) rfl (by kernel_rfl) (by kernel_rfl) (by kernel_rfl) (fun _ _ _ h => h) (Or.inr ⟨by rfl, rfl⟩) hHeld ?_
                  (try simp only [Act.put, List.setIfInBounds_toArray, List.set_cons_zero, List.set_cons_succ, List.getElem_toArray, List.getElem_cons_zero, List.getElem_cons_succ])
                  refine wpAnyH_take (i := 13) (v := undef) rfl (by kernel_rfl) (by kernel_rfl) (by kernel_rfl) (fun _ _ _ h => h) (Or.inr ⟨by rfl, rfl⟩) hHeld ?_
                  (try simp only [Act.put, List.setIfInBounds_toArray, List.set_cons_zero, List.set_cons_succ, List.getElem_toArray, List.getElem_cons_zero, List.getElem_cons_succ])
                  refine wpAnyH_take (i := 14) (v := undef) rfl (by kernel_rfl) (by kernel_rfl) (by kernel_rfl) (fun _ _ _ h => h) (Or.inr ⟨by rfl, rfl⟩) hHeld ?_
                  (try simp only [Act.put, List.setIfInBounds_toArray, List.set_cons_zero, List.set_cons_succ, List.getElem_toArray, List.getElem_cons_zero, List.getElem_cons_succ])
                  refine wpAnyH_take (i := 15) (v := undef) rfl (by kernel_rfl) (by kernel_rfl) (by kernel_rfl) (fun _ _ _ h => h) (Or.inr ⟨by rfl, rfl⟩) hHeld ?_
                  (try simp only [Act.put, List.setIfInBounds_toArray, List.set_cons_zero, List.set_cons_succ, List.getElem_toArray, List.getElem_cons_zero, List.getElem_cons_succ])
                  refine wpAnyH_take (i := 16) (v := undef) rfl (by kernel_rfl) (by kernel_rfl) (by kernel_rfl) (fun _ _ _ h => h) (Or.inr ⟨by rfl, rfl⟩) hHeld ?_
                  (try simp only [Act.put, List.setIfInBounds_toArray, List.set_cons_zero, List.set_cons_succ, List.getElem_toArray, List.getElem_cons_zero, List.getElem_cons_succ])
                  refine wpAnyH_take (i := 17) (v := undef) rfl (by kernel_rfl) (by kernel_rfl) (by kernel_rfl) (fun _ _ _ h => h) (Or.inr ⟨by rfl, rfl⟩) hHeld ?_
                  (try simp only [Act.put, List.setIfInBounds_toArray, List.set_cons_zero, List.set_cons_succ, List.getElem_toArray, List.getElem_cons_zero, List.getElem_cons_succ])
                  refine wpAnyH_take (i := 18) (v := undef) rfl (by kernel_rfl) (by kernel_rfl) (by kernel_rfl) (fun _ _ _ h => h) (Or.inr ⟨by rfl, rfl⟩) hHeld ?_
                  (try simp only [Act.put, List.setIfInBounds_toArray, List.set_cons_zero, List.set_cons_succ, List.getElem_toArray, List.getElem_cons_zero, List.getElem_cons_succ])
                  refine wpAnyH_take (i := 19) (v := undef) rfl (by kernel_rfl) (by kernel_rfl) (by kernel_rfl) (fun _ _ _ h => h) (Or.inr ⟨by rfl, rfl⟩) hHeld ?_
                  (try simp only [Act.put, List.setIfInBounds_toArray, List.set_cons_zero, List.set_cons_succ, List.getElem_toArray, List.getElem_cons_zero, List.getElem_cons_succ])
                  refine wpAnyH_take (i := 20) (v := undef) rfl (by kernel_rfl) (by kernel_rfl) (by kernel_rfl) (fun _ _ _ h => h) (Or.inr ⟨by rfl, rfl⟩) hHeld ?_
                  (try simp only [Act.put, List.setIfInBounds_toArray, List.set_cons_zero, List.set_cons_succ, List.getElem_toArray, List.getElem_cons_zero, List.getElem_cons_succ])
                  refine wpAnyH_take (i := 21) (v := undef) rfl (by kernel_rfl) (by kernel_rfl) (by kernel_rfl) (fun _ _ _ h => h) (Or.inr ⟨by rfl, rfl⟩) hHeld ?_
                  (try simp only [Act.put, List.setIfInBounds_toArray, List.set_cons_zero, List.set_cons_succ, List.getElem_toArray, List.getElem_cons_zero, List.getElem_cons_succ])
                  refine wpAnyH_take (i := 22) (v := undef) rfl (by kernel_rfl) (by kernel_rfl) (by kernel_rfl) (fun _ _ _ h => h) (Or.inr ⟨by rfl, rfl⟩) hHeld ?_
                  (try simp only [Act.put, List.setIfInBounds_toArray, List.set_cons_zero, List.set_cons_succ, List.getElem_toArray, List.getElem_cons_zero, List.getElem_cons_succ])
                  refine wpAnyH_take (i := 23) (v := undef) rfl (by kernel_rfl) (by kernel_rfl) (by kernel_rfl) (fun _ _ _ h => h) (Or.inr ⟨by rfl, rfl⟩) hHeld ?_
                  (try simp only [Act.put, List.setIfInBounds_toArray, List.set_cons_zero, List.set_cons_succ, List.getElem_toArray, List.getElem_cons_zero, List.getElem_cons_succ])
                  refine wpAnyH_take (i := 24) (v := ?vz324) rfl (by kernel_rfl) (by kernel_rfl) (by kernel_rfl) (fun _ _ _ h => h) (Or.inl ⟨by rfl, ?hyz324⟩) hHeld ?restz324
                  case hyz324 => intro w hSw; (try dsimp only at hSw); go_simp; try (with_reducible rfl)
                  (try simp only [Act.put, List.setIfInBounds_toArray, List.set_cons_zero, List.set_cons_succ, List.getElem_toArray, List.getElem_cons_zero, List.getElem_cons_succ])
                  refine wpAnyH_take (i := 25) (v := ?vz325) rfl (by kernel_rfl) (by kernel_rfl) (by kernel_rfl) (fun _ _ _ h => h) (Or.inl ⟨by rfl, ?hyz325⟩) hHeld ?restz325
                  case hyz325 => intro w hSw; (try dsimp only at hSw); go_simp; try (with_reducible rfl)
                  (try simp only [Act.put, List.setIfInBounds_toArray, List.set_cons_zero, List.set_cons_succ, List.getElem_toArray, List.getElem_cons_zero, List.getElem_cons_succ])
                  refine wpAnyH_done (by kernel_rfl) ?_ _
                  refine NoPanic.normal ?_
                  go_wp2_with fail
                  go_meet
                  exact ⟨by rw [← HV.out, t0']; rfl, HX10.out, HZ10.out, HF10.out⟩
            case rest =>
            obtain ⟨rfl, hx, hz, hf⟩ := hcut
            rename World => w12
            have HX12 := Lib.hid hx
            have HZ12 := Lib.hid hz
            have HF12 := Lib.hid hf
            clear hx hz hf
            have HRS3 : Hid (riseB zeroN (x.o.pr.take (k + 1)) = v) := Lib.hid (by rw [HRS2.out, HV.out])
            cases v with
            | false =>
              have HRF : Hid (r = false) := Lib.hid (by rw [← HR.out, ← List.take_append_drop (k + 1) x.o.pr, rise_more HRS3.out])
              go_wp2_with fail
              go_ret
              exact ⟨by rw [HRF.out]; rfl, HF12.out⟩
            | true =>
              go_wp2_with fail
              go_roundw
              case rel => exact ⟨k + 1, by omega, by go_num, HRS3, HX12, HZ12, HF12⟩
              case measure => simp [intOf]; omega
          · obtain rfl : k = lp := by omega
            have HRF : Hid (r = true) := Lib.hid (by
              rw [← HR.out]
              have h := HRS.out
              rw [List.take_of_length_le (by have := HLP.out; omega)] at h
              exact h)
            obtain ⟨c0, c1, c2, c3, c4, c5, c6, c7, c8, c9, c10, c11, c12⟩ := HX9.out.cells
            rw [HLP.out] at c12
            go_wp2_with fail
            go_ret
            exact ⟨by rw [HRF.out]; rfl, HF9.out⟩
end Go.Proofs.Ytohbcepbodcapaa
namespace Go.Proofs.Ytohbcepbodcapaa
open Go.RowKit Mem Go.Lib LebM UtfM VaM OpM
attribute [local go_sem ↓] Go.wp_at_zero Go.wp_at_succ
set_option linter.unusedVariables false

def fewB (L : List Om) : Bool := L.all fun x => fewO x.o
set_option maxRecDepth 100000 in
set_option maxHeartbeats 3200000 in
theorem rfew_any (A : Option Addr) (n c : Nat) (L : List Om) (m : Nat) (w : World) (hL : Ops w A n L) (hn : n ≤ 9223372036854775807) (hm : m ≤ 1000) (hok : ∀ x ∈ L, x.o.obj.a.length ≤ 9223372036854775807 ∧ x.o.elem.a.length ≤ 9223372036854775807 ∧ x.o.key.length ≤ 9223372036854775807 ∧ x.o.val.s.length ≤ 9223372036854775807 ∧ x.o.pr.length ≤ 9223372036854775807 ∧ ∀ y ∈ x.o.pr, y.a.length ≤ 9223372036854775807) :
    Calls Try.prog 5 #[.slice A n c, .int .i64 (m : Int)] w fun e w' => e = .returned (.bool (decide (n ≤ m) && fewB L)) ∧ w = w' := by
  have hln := hL.len
  by_cases hnm : m < n
  · have t1 : decide ((m : Int) < (n : Int)) = true := decide_eq_true (by omega)
    have t1' : decide (m < n) = true := decide_eq_true (by omega)
    rw [decide_eq_false (show ¬ n ≤ m by omega), Bool.false_and]
    clear hL hln hok
    go_enter Try.func5, Try.ntmps5
    go_wp2_with fail
    go_ret
    exact ⟨rfl, rfl⟩
  · have t1 : decide ((m : Int) < (n : Int)) = false := decide_eq_false (by omega)
    have t1' : decide (m < n) = false := decide_eq_false (by omega)
    rw [decide_eq_true (show n ≤ m by omega), Bool.true_and]
    obtain ⟨r, hr⟩ : ∃ r, fewB L = r := ⟨_, rfl⟩
    rw [hr]
    have HR := Lib.hid hr
    have HL := Lib.hid hL
    have HLN := Lib.hid hln
    have HOK := Lib.hid hok
    have hn1 : n ≤ 1000 := by omega
    have HN1 := Lib.hid hn1
    clear hL hln hok hr hn hnm
    go_enter Try.func5, Try.ntmps5
    go_wp2_with fail
    go_loop [5] (fun i => ∃ k : Nat, k ≤ n ∧ i = .int .i64 (k : Int) ∧ Hid (fewB (L.take k) = true)) (fun i => n - (intOf i).toNat)
    case atStart => exact ⟨0, Nat.zero_le _, rfl, (rfl : fewB (L.take 0) = true)⟩
    case round =>
      obtain ⟨k, hk, rfl, HA⟩ := hrel
      by_cases hlt : k < n
      · obtain ⟨x, hx⟩ : ∃ x, L[k]? = some x := ⟨_, List.getElem?_eq_getElem (by have := HLN.out; omega)⟩
        obtain ⟨b, o, rfl, hb, hat⟩ := HL.out.1.2 k x hx
        obtain ⟨k0, k1, k2, k3, k4, k5, k6, k7, k8, k9, k10, k11, k12⟩ := hat
        have hpr := HL.out.2 x (List.mem_of_getElem? hx)
        obtain ⟨b1, b2, b3, b4, b5, b6⟩ := HOK.out x (List.mem_of_getElem? hx)
        have hnext : fewB (L.take (k + 1)) = fewO x.o := by
          have h := HA.out
          unfold fewB at h ⊢
          rw [List.take_add_one, hx, List.all_append, h, Option.toList_some]
          simp
        have hbad : fewO x.o = false → false = r := fun h => by
          rw [← HR.out]
          rw [h] at hnext
          unfold fewB at hnext ⊢
          rw [← List.take_append_drop (k + 1) L, List.all_append, hnext, Bool.false_and]
        have HNX := Lib.hid hnext
        have hs1 := txt_sz x.o.key
        have hs2 := txt_sz x.o.val.s
        have hs3 := txt_sz x.o.obj.a
        have hs4 := txt_sz x.o.elem.a
        obtain ⟨l1, hl1⟩ : ∃ l, l = x.o.key.length := ⟨_, rfl⟩
        obtain ⟨l2, hl2⟩ : ∃ l, l = x.o.val.s.length := ⟨_, rfl⟩
        obtain ⟨l3, hl3⟩ : ∃ l, l = x.o.obj.a.length := ⟨_, rfl⟩
        obtain ⟨l4, hl4⟩ : ∃ l, l = x.o.elem.a.length := ⟨_, rfl⟩
        obtain ⟨l5, hl5⟩ : ∃ l, l = x.o.pr.length := ⟨_, rfl⟩
        rw [← hl1] at hs1 b3
        rw [← hl2] at hs2 b4
        rw [← hl3] at hs3 b1
        rw [← hl4] at hs4 b2
        rw [← hl5] at b5 k12
        have HX := Lib.hid hx
        have hfe : fewO x.o = (decide (l5 ≤ 40) && decide (l1 ≤ 5000) && decide (l2 ≤ 5000) && decide (l3 ≤ 100) && decide (l4 ≤ 100) && x.o.pr.all fun x => decide (x.a.length ≤ 100)) := by unfold fewO; rw [hl1, hl2, hl3, hl4, hl5]
        have HL5 := Lib.hid hl5
        have HPR := Lib.hid hpr
        have HB6 := Lib.hid b6
        rw [hfe] at hbad
        have HFE := Lib.hid hfe
        clear hx hnext hl1 hl2 hl3 hl4 hl5 hpr hfe b6
        by_cases g0 : 40 < l5
        · have s0 : decide ((40 : Int) < (l5 : Int)) = true := decide_eq_true (by omega)
          have s0' : decide (40 < l5) = true := decide_eq_true (by omega)
          have hrf : false = r := hbad (by rw [decide_eq_false (show ¬ l5 ≤ 40 by omega)]; simp)
          have HRF := Lib.hid hrf
          clear hrf hbad
          go_wp2_with fail
          go_ret
          exact ⟨by rw [← HRF.out]; rfl, rfl⟩
        · have s0 : decide ((40 : Int) < (l5 : Int)) = false := decide_eq_false (by omega)
          have s0' : decide (40 < l5) = false := decide_eq_false (by omega)
          by_cases g1 : 5000 < l1
          · have s1 : decide ((5000 : Int) < (l1 : Int)) = true := decide_eq_true (by omega)
            have s1' : decide (5000 < l1) = true := decide_eq_true (by omega)
            have hrf : false = r := hbad (by rw [decide_eq_false (show ¬ l1 ≤ 5000 by omega)]; simp)
            have HRF := Lib.hid hrf
            clear hrf hbad
            go_wp2_with fail
            go_ret
            exact ⟨by rw [← HRF.out]; rfl, rfl⟩
          · have s1 : decide ((5000 : Int) < (l1 : Int)) = false := decide_eq_false (by omega)
            have s1' : decide (5000 < l1) = false := decide_eq_false (by omega)
            by_cases g2 : 5000 < l2
            · have s2 : decide ((5000 : Int) < (l2 : Int)) = true := decide_eq_true (by omega)
              have s2' : decide (5000 < l2) = true := decide_eq_true (by omega)
              have hrf : false = r := hbad (by rw [decide_eq_false (show ¬ l2 ≤ 5000 by omega)]; simp)
              have HRF := Lib.hid hrf
              clear hrf hbad
              go_wp2_with fail
              go_ret
              exact ⟨by rw [← HRF.out]; rfl, rfl⟩
            · have s2 : decide ((5000 : Int) < (l2 : Int)) = false := decide_eq_false (by omega)
              have s2' : decide (5000 < l2) = false := decide_eq_false (by omega)
              by_cases g3 : 100 < l3
              · have s3 : decide ((100 : Int) < (l3 : Int)) = true := decide_eq_true (by omega)
                have s3' : decide (100 < l3) = true := decide_eq_true (by omega)
                have hrf : false = r := hbad (by rw [decide_eq_false (show ¬ l3 ≤ 100 by omega)]; simp)
                have HRF := Lib.hid hrf
                clear hrf hbad
                go_wp2_with fail
                go_ret
                exact ⟨by rw [← HRF.out]; rfl, rfl⟩
              · have s3 : decide ((100 : Int) < (l3 : Int)) = false := decide_eq_false (by omega)
                have s3' : decide (100 < l3) = false := decide_eq_false (by omega)
                by_cases g4 : 100 < l4
                · have s4 : decide ((100 : Int) < (l4 : Int)) = true := decide_eq_true (by omega)
                  have s4' : decide (100 < l4) = true := decide_eq_true (by omega)
                  have hrf : false = r := hbad (by rw [decide_eq_false (show ¬ l4 ≤ 100 by omega)]; simp)
                  have HRF := Lib.hid hrf
                  clear hrf hbad
                  go_wp2_with fail
                  go_ret
                  exact ⟨by rw [← HRF.out]; rfl, rfl⟩
                · have s4 : decide ((100 : Int) < (l4 : Int)) = false := decide_eq_false (by omega)
                  have s4' : decide (100 < l4) = false := decide_eq_false (by omega)
                  clear hbad
                  go_wp2_with fail
                  clear k0 k1 k2 k3 k4 k5 k6 k7 k8 k9 k10 k11
                  go_loop [6] (fun i => ∃ j : Nat, j ≤ l5 ∧ i = .int .i64 (j : Int) ∧ Hid ((x.o.pr.take j).all (fun x => decide (x.a.length ≤ 100)) = true)) (fun i => l5 - (intOf i).toNat)
                  case atStart => exact ⟨0, Nat.zero_le _, rfl, (rfl : (x.o.pr.take 0).all (fun x => decide (x.a.length ≤ 100)) = true)⟩
                  case round =>
                    obtain ⟨j, hj, rfl, HB⟩ := hrel
                    by_cases hlt2 : j < l5
                    · obtain ⟨y, hy⟩ : ∃ y, x.o.pr[j]? = some y := ⟨_, List.getElem?_eq_getElem (by have := HL5.out; omega)⟩
                      obtain ⟨g, q, hA, hg, n0, n1⟩ := HPR.out.1.2 j y hy
                      simp only [ncc, nac] at n0 n1
                      rw [hA] at k12
                      have hby := HB6.out y (List.mem_of_getElem? hy)
                      have hs := txt_sz y.a
                      obtain ⟨z, hz⟩ : ∃ z, z = y.a.length := ⟨_, rfl⟩
                      rw [← hz] at hs hby
                      have HZ := Lib.hid hz
                      have HY := Lib.hid hy
                      clear hy hA hz
                      by_cases h : 100 < z
                      · have t2 : decide ((100 : Int) < (z : Int)) = true := decide_eq_true (by omega)
                        have t2' : decide (100 < z) = true := decide_eq_true (by omega)
                        have hal : (x.o.pr.all fun x => decide (x.a.length ≤ 100)) = false := by
                          rw [List.all_eq_false]
                          exact ⟨y, List.mem_of_getElem? HY.out, by have := HZ.out; simp; omega⟩
                        have hrf : false = r := by
                          have h := HNX.out
                          rw [HFE.out, hal, Bool.and_false] at h
                          rw [← HR.out]
                          unfold fewB at h ⊢
                          rw [← List.take_append_drop (k + 1) L, List.all_append, h, Bool.false_and]
                        have HRF := Lib.hid hrf
                        clear hrf hal
                        go_wp2_with fail
                        go_ret
                        exact ⟨by rw [← HRF.out]; rfl, rfl⟩
                      · have t2 : decide ((100 : Int) < (z : Int)) = false := decide_eq_false (by omega)
                        have t2' : decide (100 < z) = false := decide_eq_false (by omega)
                        have HB2 : Hid ((x.o.pr.take (j + 1)).all (fun x => decide (x.a.length ≤ 100)) = true) := Lib.hid (by
                          have h := HB.out
                          rw [List.take_add_one, HY.out, List.all_append, h, Option.toList_some]
                          have := HZ.out
                          simp
                          omega)
                        go_wp2_with fail
                        go_round
                        case rel => exact ⟨j + 1, by omega, by go_num, HB2⟩
                        case measure => simp [intOf]; omega
                    · obtain rfl : j = l5 := by omega
                      have HA2 : Hid (fewB (L.take (k + 1)) = true) := Lib.hid (by
                        have h := HB.out
                        rw [List.take_of_length_le (by have := HL5.out; omega)] at h
                        rw [HNX.out, HFE.out, h]
                        simp
                        omega)
                      go_wp2_with fail
                      go_round
                      case rel => exact ⟨k + 1, by omega, by go_num, HA2⟩
                      case measure => simp [intOf]; omega
      · obtain rfl : k = n := by omega
        have hrf : true = r := by
          rw [← HR.out]
          have := HA.out
          rw [List.take_of_length_le (by have := HLN.out; omega)] at this
          exact this.symm
        have HRF := Lib.hid hrf
        clear hrf
        go_wp2_with fail
        go_ret
        exact ⟨by rw [← HRF.out]; rfl, rfl⟩
end Go.Proofs.Ytohbcepbodcapaa
