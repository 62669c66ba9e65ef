/-
  Layer 17, the law OpOrder (written by gen_order.py).
-/
import Derived.Test.YtmiofhoojahpjaaOpJ
import Derived.Test.YtmiofhoojahpjaaOpX
import Derived.Test.YtmiofhoojahpjaaReg
namespace Go.Proofs.Ytmiofhoojahpjaa
open Go.RowKit Mem Go.Lib LebM UtfM VaM OpM
attribute [local go_sem ↓] Go.wp_at_zero Go.wp_at_succ
set_option linter.unusedVariables false

theorem new_n (w : World) (x : Nm) : ∃ g w1, w.heap.size = g ∧ w.alloc (.cells #[.int .i64 x.c, .string (txt x.a)] 27) = w1 ∧ RowN w1 g x ∧ Fr (fun _ => False) w w1 := ⟨_, _, rfl, rfl, RowN.new w x, (Fr.refl _ _).alloc _⟩
set_option maxRecDepth 100000 in
set_option maxHeartbeats 6400000 in
theorem oporder_law (a b c : Nm) (w : World) (ha : a.a.length ≤ 9223372036854775807) (hb : b.a.length ≤ 9223372036854775807) (hc : c.a.length ≤ 9223372036854775807) :
    Calls Try.prog 5 #[nmc a, nmc b, nmc c] w fun e w' => e = .returned (.bool true) ∧ Fr (fun _ => False) w w' := by
  obtain ⟨g, w1, hg, hw1, hr1, hf1⟩ := new_n w a
  obtain ⟨g2, w2, hg2, hw2, hr2, hf2⟩ := new_n w1 b
  obtain ⟨g3, w3, hg3, hw3, hr3, hf3⟩ := new_n w2 c
  have HA3 := Lib.hid ((hr1.fr hf2 (fun h => h)).fr hf3 (fun h => h))
  have HB3 := Lib.hid (hr2.fr hf3 (fun h => h))
  have HC3 := Lib.hid hr3
  have HF3 := Lib.hid ((hf1.trans hf2 (fun _ _ h => h)).trans hf3 (fun _ _ h => h))
  have HAW := Lib.hid (fun w' => awake17_any w')
  have hab := fun w => cmp_any a b w
  have hba := fun w => cmp_any b a w
  have hbc := fun w => cmp_any b c w
  have hac := fun w => cmp_any a c w
  obtain ⟨p, hp⟩ : ∃ p, cmpN a b = p := ⟨_, rfl⟩
  obtain ⟨q, hq⟩ : ∃ p, cmpN b a = p := ⟨_, rfl⟩
  obtain ⟨p2, hp2⟩ : ∃ p, cmpN b c = p := ⟨_, rfl⟩
  obtain ⟨p3, hp3⟩ : ∃ p, cmpN a c = p := ⟨_, rfl⟩
  have hpq := cmp_anti a b
  have hpz := cmp_zero a b
  have hbd := cmp_bd b a
  have HTR : Hid (p ≤ 0 → p2 ≤ 0 → p3 ≤ 0) := Lib.hid (fun h1 h2 => by
    rw [← hp] at h1
    rw [← hp2] at h2
    rw [← hp3]
    exact cmp_trans h1 h2)
  obtain ⟨z, hz⟩ : ∃ z, eqN a b = z := ⟨_, rfl⟩
  obtain ⟨q1, q2⟩ := n_eql a b
  rw [hz] at q2 hpz
  rw [hp] at hpz hpq
  rw [hq] at hpq hbd
  have tn : IntKind.i64.wrap (-q) = p := by rw [IntKind.wrap_i64]; omega
  have tp : (p != p) = false := by simp
  have tz : (p == 0) = z := hpz
  have tzz : (z != z) = false := by simp
  simp only [hp] at hab
  simp only [hq] at hba
  simp only [hp2] at hbc
  simp only [hp3] at hac
  unfold nmc at hab hba hbc hac ⊢
  have HAB := Lib.hid hab
  have HBA := Lib.hid hba
  have HBC := Lib.hid hbc
  have HAC := Lib.hid hac
  have hsa := txt_sz a.a
  have hsb := txt_sz b.a
  have hsc := txt_sz c.a
  obtain ⟨la, hla⟩ : ∃ l, l = a.a.length := ⟨_, rfl⟩
  obtain ⟨lb, hlb⟩ : ∃ l, l = b.a.length := ⟨_, rfl⟩
  obtain ⟨lc, hlc⟩ : ∃ l, l = c.a.length := ⟨_, rfl⟩
  rw [← hla] at hsa ha
  rw [← hlb] at hsb hb
  rw [← hlc] at hsc hc
  clear hab hba hbc hac hp hq hp2 hp3 hpq hpz hbd hz hr1 hr2 hr3 hf1 hf2 hf3 hla hlb hlc
  go_enter Try.func5, Try.ntmps5
  go_wp2_with fail
  clear hw1 hw2 hw3 hg hg2 hg3
  refine (HAW.out _).mono ?_
  rintro e w4 ⟨rfl, hf⟩
  have HF4 := Lib.hid (HF3.out.trans hf (fun _ _ h => h))
  have HA4 := Lib.hid (HA3.out.fr hf (fun h => h))
  have HB4 := Lib.hid (HB3.out.fr hf (fun h => h))
  have HC4 := Lib.hid (HC3.out.fr hf (fun h => h))
  clear hf
  obtain ⟨a0, a1⟩ := HA4.out.cells
  obtain ⟨b0, b1⟩ := HB4.out.cells
  obtain ⟨c0, c1⟩ := HC4.out.cells
  by_cases h0 : 100 < la
  · have t0 : decide ((100 : Int) < (la : Int)) = true := decide_eq_true (by omega)
    have t0' : decide (100 < la) = true := decide_eq_true h0
    go_wp2_with fail
    refine (HAW.out _).mono ?_
    rintro e w8 ⟨rfl, hf⟩
    have HF8 := Lib.hid (HF4.out.trans hf (fun _ _ h => h))
    clear hf a0 a1 b0 b1 c0 c1
    go_wp2_with fail
    go_ret
    exact ⟨rfl, HF8.out⟩
  · have t0 : decide ((100 : Int) < (la : Int)) = false := decide_eq_false (by omega)
    have t0' : decide (100 < la) = false := decide_eq_false h0
    by_cases h1 : 100 < lb
    · have t1 : decide ((100 : Int) < (lb : Int)) = true := decide_eq_true (by omega)
      have t1' : decide (100 < lb) = true := decide_eq_true h1
      go_wp2_with fail
      refine (HAW.out _).mono ?_
      rintro e w8 ⟨rfl, hf⟩
      have HF8 := Lib.hid (HF4.out.trans hf (fun _ _ h => h))
      clear hf a0 a1 b0 b1 c0 c1
      go_wp2_with fail
      go_ret
      exact ⟨rfl, HF8.out⟩
    · have t1 : decide ((100 : Int) < (lb : Int)) = false := decide_eq_false (by omega)
      have t1' : decide (100 < lb) = false := decide_eq_false h1
      by_cases h2 : 100 < lc
      · have t2 : decide ((100 : Int) < (lc : Int)) = true := decide_eq_true (by omega)
        have t2' : decide (100 < lc) = true := decide_eq_true h2
        go_wp2_with fail
        refine (HAW.out _).mono ?_
        rintro e w8 ⟨rfl, hf⟩
        have HF8 := Lib.hid (HF4.out.trans hf (fun _ _ h => h))
        clear hf a0 a1 b0 b1 c0 c1
        go_wp2_with fail
        go_ret
        exact ⟨rfl, HF8.out⟩
      · have t2 : decide ((100 : Int) < (lc : Int)) = false := decide_eq_false (by omega)
        have t2' : decide (100 < lc) = false := decide_eq_false h2
        go_wp2_with fail
        clear a0 a1 b0 b1 c0 c1
        have HA := HA4
        have HB := HB4
        have HC := HC4
        go_upto_region 3 with fail
        go_cut [45] (fun v wx => v = .bool false ∧ RowN wx g a ∧ RowN wx g2 b ∧ RowN wx g3 c ∧ Fr (fun _ => False) w wx)
        case first =>
          have HGc : Hid (Fr (fun _ => False) w4 w4) := Lib.hid (Fr.refl _ _)
          refine wp_region_noPanic ?_
          refine wp_region_held_drew (S := fun w' => Fr (fun _ => False) w4 w') (by kernel_rfl) ?_ (fun hHeld => ?_)
          · exact (Fr.refl _ _).drew
          refine wpAnyH_take (i := 0) (v := ?vt1) rfl (by kernel_rfl) (by kernel_rfl) (by kernel_rfl) (fun _ _ _ h => h) (Or.inl ⟨by rfl, ?hyt1⟩) hHeld ?restt1
          case hyt1 => intro w hSw; (try dsimp only at hSw); obtain ⟨c0, c1⟩ := (HA.out.fr (HGc.out.trans hSw (fun _ _ h => h)) (fun h => h)).cells; go_simp; try (with_reducible rfl)
          (try simp only [Act.put, List.setIfInBounds_toArray, List.set_cons_zero, List.set_cons_succ, List.getElem_toArray, List.getElem_cons_zero])
          refine wpAnyH_take (i := 1) (v := ?vt2) rfl (by kernel_rfl) (by kernel_rfl) (by kernel_rfl) (fun _ _ _ h => h) (Or.inl ⟨by rfl, ?hyt2⟩) hHeld ?restt2
          case hyt2 => intro w hSw; (try dsimp only at hSw); obtain ⟨c0, c1⟩ := (HB.out.fr (HGc.out.trans hSw (fun _ _ h => h)) (fun h => h)).cells; go_simp; try (with_reducible rfl)
          (try simp only [Act.put, List.setIfInBounds_toArray, List.set_cons_zero, List.set_cons_succ, List.getElem_toArray, List.getElem_cons_zero, List.getElem_cons_succ])
          refine wpAnyH_take (i := 3) (v := ?vt3) rfl (by kernel_rfl) (by kernel_rfl) (by kernel_rfl) (fun _ _ _ h => h) (Or.inl ⟨by rfl, ?hyt3⟩) hHeld ?restt3
          case hyt3 => intro w hSw; (try dsimp only at hSw); obtain ⟨c0, c1⟩ := (HB.out.fr (HGc.out.trans hSw (fun _ _ h => h)) (fun h => h)).cells; go_simp; try (with_reducible rfl)
          (try simp only [Act.put, List.setIfInBounds_toArray, List.set_cons_zero, List.set_cons_succ, List.getElem_toArray, List.getElem_cons_zero, List.getElem_cons_succ])
          refine wpAnyH_take (i := 4) (v := ?vt4) rfl (by kernel_rfl) (by kernel_rfl) (by kernel_rfl) (fun _ _ _ h => h) (Or.inl ⟨by rfl, ?hyt4⟩) hHeld ?restt4
          case hyt4 => intro w hSw; (try dsimp only at hSw); obtain ⟨c0, c1⟩ := (HA.out.fr (HGc.out.trans hSw (fun _ _ h => h)) (fun h => h)).cells; go_simp; try (with_reducible rfl)
          (try simp only [Act.put, List.setIfInBounds_toArray, List.set_cons_zero, List.set_cons_succ, List.getElem_toArray, List.getElem_cons_zero, List.getElem_cons_succ])
          refine wpAnyH_ready (rs := [2]) (by kernel_rfl) (by simp) ?_
          refine AllReadyH.cons rfl (fun Kx hKx => ?_) AllReadyH.nil
          go_simp
          have hcon := HAB.out (w4.drew)
          with_reducible refine hcon.mono ?_
          clear hcon
          rintro e' v1 ⟨rfl, hff⟩
          have HFn : Hid (Fr (fun _ => False) w4 v1) := Lib.hid ((Fr.refl _ _).drew.trans hff (fun _ _ h => h))
          clear hff
          have HGc := Lib.hid (HGc.out.trans HFn.out (fun _ _ h => h))
          refine hKx.out _ _ ?_ (fun hHeld => ?_)
          · exact HFn.out
          clear hKx Kx
          (try simp only [Act.put, List.setIfInBounds_toArray, List.set_cons_zero, List.set_cons_succ, List.getElem_toArray, List.getElem_cons_zero, List.getElem_cons_succ])
          refine wpAnyH_more (fun w' => Fr (fun _ => False) v1 w') (fun _ h => HFn.out.trans h (fun _ _ h => h)) ?_ (fun hHeld => ?_)
          · exact Fr.refl _ _
          clear HFn
          refine wpAnyH_ready (rs := [5]) (by kernel_rfl) (by simp) ?_
          refine AllReadyH.cons rfl (fun Kx hKx => ?_) AllReadyH.nil
          go_simp
          have hcon := HBA.out (v1)
          with_reducible refine hcon.mono ?_
          clear hcon
          rintro e' v2 ⟨rfl, hff⟩
          have HFn : Hid (Fr (fun _ => False) v1 v2) := Lib.hid (hff)
          clear hff
          have HGc := Lib.hid (HGc.out.trans HFn.out (fun _ _ h => h))
          refine hKx.out _ _ ?_ (fun hHeld => ?_)
          · exact HFn.out
          clear hKx Kx
          (try simp only [Act.put, List.setIfInBounds_toArray, List.set_cons_zero, List.set_cons_succ, List.getElem_toArray, List.getElem_cons_zero, List.getElem_cons_succ])
          refine wpAnyH_more (fun w' => Fr (fun _ => False) v2 w') (fun _ h => HFn.out.trans h (fun _ _ h => h)) ?_ (fun hHeld => ?_)
          · exact Fr.refl _ _
          clear HFn
          refine wpAnyH_take (i := 6) (v := ?vt5) rfl (by kernel_rfl) (by kernel_rfl) (by kernel_rfl) (fun _ _ _ h => h) (Or.inl ⟨by rfl, ?hyt5⟩) hHeld ?restt5
          case hyt5 => intro w hSw; (try dsimp only at hSw); go_simp; try (with_reducible rfl)
          (try simp only [Act.put, List.setIfInBounds_toArray, List.set_cons_zero, List.set_cons_succ, List.getElem_toArray, List.getElem_cons_zero, List.getElem_cons_succ])
          refine wpAnyH_take (i := 7) (v := ?vt6) rfl (by kernel_rfl) (by kernel_rfl) (by kernel_rfl) (fun _ _ _ h => h) (Or.inl ⟨by rfl, ?hyt6⟩) hHeld ?restt6
          case hyt6 => intro w hSw; (try dsimp only at hSw); go_simp; try (with_reducible rfl)
          (try simp only [Act.put, List.setIfInBounds_toArray, List.set_cons_zero, List.set_cons_succ, List.getElem_toArray, List.getElem_cons_zero, List.getElem_cons_succ])
          refine wpAnyH_take (i := 8) (v := ?vt7) rfl (by kernel_rfl) (by kernel_rfl) (by kernel_rfl) (fun _ _ _ h => h) (Or.inl ⟨by rfl, ?hyt7⟩) hHeld ?restt7
          case hyt7 => intro w hSw; (try dsimp only at hSw); go_simp; try (with_reducible rfl)
          (try simp only [Act.put, List.setIfInBounds_toArray, List.set_cons_zero, List.set_cons_succ, List.getElem_toArray, List.getElem_cons_zero, List.getElem_cons_succ])
          refine wpAnyH_take (i := 9) (v := ?vt8) rfl (by kernel_rfl) (by kernel_rfl) (by kernel_rfl) (fun _ _ _ h => h) (Or.inl ⟨by rfl, ?hyt8⟩) hHeld ?restt8
          case hyt8 => intro w hSw; (try dsimp only at hSw); obtain ⟨c0, c1⟩ := (HA.out.fr (HGc.out.trans hSw (fun _ _ h => h)) (fun h => h)).cells; go_simp; try (with_reducible rfl)
          (try simp only [Act.put, List.setIfInBounds_toArray, List.set_cons_zero, List.set_cons_succ, List.getElem_toArray, List.getElem_cons_zero, List.getElem_cons_succ])
          refine wpAnyH_take (i := 10) (v := ?vt9) rfl (by kernel_rfl) (by kernel_rfl) (by kernel_rfl) (fun _ _ _ h => h) (Or.inl ⟨by rfl, ?hyt9⟩) hHeld ?restt9
          case hyt9 => intro w hSw; (try dsimp only at hSw); obtain ⟨c0, c1⟩ := (HB.out.fr (HGc.out.trans hSw (fun _ _ h => h)) (fun h => h)).cells; go_simp; try (with_reducible rfl)
          (try simp only [Act.put, List.setIfInBounds_toArray, List.set_cons_zero, List.set_cons_succ, List.getElem_toArray, List.getElem_cons_zero, List.getElem_cons_succ])
          refine wpAnyH_take (i := 13) (v := ?vt10) rfl (by kernel_rfl) (by kernel_rfl) (by kernel_rfl) (fun _ _ _ h => h) (Or.inl ⟨by rfl, ?hyt10⟩) hHeld ?restt10
          case hyt10 => intro w hSw; (try dsimp only at hSw); obtain ⟨c0, c1⟩ := (HA.out.fr (HGc.out.trans hSw (fun _ _ h => h)) (fun h => h)).cells; go_simp; try (with_reducible rfl)
          (try simp only [Act.put, List.setIfInBounds_toArray, List.set_cons_zero, List.set_cons_succ, List.getElem_toArray, List.getElem_cons_zero, List.getElem_cons_succ])
          refine wpAnyH_take (i := 14) (v := ?vt11) rfl (by kernel_rfl) (by kernel_rfl) (by kernel_rfl) (fun _ _ _ h => h) (Or.inl ⟨by rfl, ?hyt11⟩) hHeld ?restt11
          case hyt11 => intro w hSw; (try dsimp only at hSw); obtain ⟨c0, c1⟩ := (HB.out.fr (HGc.out.trans hSw (fun _ _ h => h)) (fun h => h)).cells; go_simp; try (with_reducible rfl)
          (try simp only [Act.put, List.setIfInBounds_toArray, List.set_cons_zero, List.set_cons_succ, List.getElem_toArray, List.getElem_cons_zero, List.getElem_cons_succ])
          refine wpAnyH_take (i := 15) (v := ?vt12) rfl (by kernel_rfl) (by kernel_rfl) (by kernel_rfl) (fun _ _ _ h => h) (Or.inl ⟨by rfl, ?hyt12⟩) hHeld ?restt12
          case hyt12 => intro w hSw; (try dsimp only at hSw); go_simp; try (with_reducible rfl)
          (try simp only [Act.put, List.setIfInBounds_toArray, List.set_cons_zero, List.set_cons_succ, List.getElem_toArray, List.getElem_cons_zero, List.getElem_cons_succ])
          refine wpAnyH_ready (rs := [11]) (by kernel_rfl) (by simp) ?_
          refine AllReadyH.cons rfl (fun Kx hKx => ?_) AllReadyH.nil
          go_simp
          have hcon := HAB.out (v2)
          with_reducible refine hcon.mono ?_
          clear hcon
          rintro e' v3 ⟨rfl, hff⟩
          have HFn : Hid (Fr (fun _ => False) v2 v3) := Lib.hid (hff)
          clear hff
          have HGc := Lib.hid (HGc.out.trans HFn.out (fun _ _ h => h))
          refine hKx.out _ _ ?_ (fun hHeld => ?_)
          · exact HFn.out
          clear hKx Kx
          (try simp only [Act.put, List.setIfInBounds_toArray, List.set_cons_zero, List.set_cons_succ, List.getElem_toArray, List.getElem_cons_zero, List.getElem_cons_succ])
          refine wpAnyH_more (fun w' => Fr (fun _ => False) v3 w') (fun _ h => HFn.out.trans h (fun _ _ h => h)) ?_ (fun hHeld => ?_)
          · exact Fr.refl _ _
          clear HFn
          refine wpAnyH_take (i := 12) (v := ?vt13) rfl (by kernel_rfl) (by kernel_rfl) (by kernel_rfl) (fun _ _ _ h => h) (Or.inl ⟨by rfl, ?hyt13⟩) hHeld ?restt13
          case hyt13 => intro w hSw; (try dsimp only at hSw); go_simp; try (with_reducible rfl)
          (try simp only [Act.put, List.setIfInBounds_toArray, List.set_cons_zero, List.set_cons_succ, List.getElem_toArray, List.getElem_cons_zero, List.getElem_cons_succ])
          refine wpAnyH_take (i := 16) (v := ?vt14) rfl (by kernel_rfl) (by kernel_rfl) (by kernel_rfl) (fun _ _ _ h => h) (Or.inl ⟨by rfl, ?hyt14⟩) hHeld ?restt14
          case hyt14 => intro w hSw; (try dsimp only at hSw); go_simp; try (with_reducible rfl)
          (try simp only [Act.put, List.setIfInBounds_toArray, List.set_cons_zero, List.set_cons_succ, List.getElem_toArray, List.getElem_cons_zero, List.getElem_cons_succ])
          refine wpAnyH_take (i := 17) (v := ?vt15) rfl (by kernel_rfl) (by kernel_rfl) (by kernel_rfl) (fun _ _ _ h => h) (Or.inl ⟨by rfl, ?hyt15⟩) hHeld ?restt15
          case hyt15 => intro w hSw; (try dsimp only at hSw); go_simp; try (with_reducible rfl)
          (try simp only [Act.put, List.setIfInBounds_toArray, List.set_cons_zero, List.set_cons_succ, List.getElem_toArray, List.getElem_cons_zero, List.getElem_cons_succ])
          refine wpAnyH_done (by kernel_rfl) ?_ _
          refine NoPanic.normal ?_
          go_wp2_with fail
          go_meet
          exact ⟨rfl, HA4.out.fr HGc.out (fun h => h), HB4.out.fr HGc.out (fun h => h), HC4.out.fr HGc.out (fun h => h), HF4.out.trans HGc.out (fun _ _ h => h)⟩
        case rest =>
        obtain ⟨rfl, ha5, hb5, hc5, hf5⟩ := hcut
        rename World => w5
        have HA5 := Lib.hid ha5
        have HB5 := Lib.hid hb5
        have HC5 := Lib.hid hc5
        have HF5 := Lib.hid hf5
        clear ha5 hb5 hc5 hf5 q1 q2 tn tp tz
        obtain ⟨a0, a1⟩ := HA5.out.cells
        obtain ⟨b0, b1⟩ := HB5.out.cells
        obtain ⟨c0, c1⟩ := HC5.out.cells
        by_cases h6 : 0 < p
        · have s6 : decide ((0 : Int) < p) = true := decide_eq_true h6
          go_wp2_with fail
          refine (HAB.out _).mono ?_
          rintro e w6 ⟨rfl, hf⟩
          have HF6 := Lib.hid (HF5.out.trans hf (fun _ _ h => h))
          have HA6 := Lib.hid (HA5.out.fr hf (fun h => h))
          have HB6 := Lib.hid (HB5.out.fr hf (fun h => h))
          have HC6 := Lib.hid (HC5.out.fr hf (fun h => h))
          clear hf a0 a1 b0 b1 c0 c1
          obtain ⟨a0, a1⟩ := HA6.out.cells
          obtain ⟨b0, b1⟩ := HB6.out.cells
          obtain ⟨c0, c1⟩ := HC6.out.cells
          go_wp2_with fail
          go_ret
          exact ⟨rfl, HF6.out⟩
        · have s6 : decide ((0 : Int) < p) = false := decide_eq_false h6
          go_wp2_with fail
          refine (HAB.out _).mono ?_
          rintro e w6 ⟨rfl, hf⟩
          have HF6 := Lib.hid (HF5.out.trans hf (fun _ _ h => h))
          have HA6 := Lib.hid (HA5.out.fr hf (fun h => h))
          have HB6 := Lib.hid (HB5.out.fr hf (fun h => h))
          have HC6 := Lib.hid (HC5.out.fr hf (fun h => h))
          clear hf a0 a1 b0 b1 c0 c1
          obtain ⟨a0, a1⟩ := HA6.out.cells
          obtain ⟨b0, b1⟩ := HB6.out.cells
          obtain ⟨c0, c1⟩ := HC6.out.cells
          by_cases h7 : 0 < p2
          · have s7 : decide ((0 : Int) < p2) = true := decide_eq_true h7
            go_wp2_with fail
            refine (HBC.out _).mono ?_
            rintro e w7 ⟨rfl, hf⟩
            have HF7 := Lib.hid (HF6.out.trans hf (fun _ _ h => h))
            have HA7 := Lib.hid (HA6.out.fr hf (fun h => h))
            have HB7 := Lib.hid (HB6.out.fr hf (fun h => h))
            have HC7 := Lib.hid (HC6.out.fr hf (fun h => h))
            clear hf a0 a1 b0 b1 c0 c1
            obtain ⟨a0, a1⟩ := HA7.out.cells
            obtain ⟨b0, b1⟩ := HB7.out.cells
            obtain ⟨c0, c1⟩ := HC7.out.cells
            go_wp2_with fail
            go_ret
            exact ⟨rfl, HF7.out⟩
          · have s7 : decide ((0 : Int) < p2) = false := decide_eq_false h7
            have s8 : decide (p3 ≤ (0 : Int)) = true := decide_eq_true (HTR.out (by omega) (by omega))
            go_wp2_with fail
            refine (HBC.out _).mono ?_
            rintro e w7 ⟨rfl, hf⟩
            have HF7 := Lib.hid (HF6.out.trans hf (fun _ _ h => h))
            have HA7 := Lib.hid (HA6.out.fr hf (fun h => h))
            have HB7 := Lib.hid (HB6.out.fr hf (fun h => h))
            have HC7 := Lib.hid (HC6.out.fr hf (fun h => h))
            clear hf a0 a1 b0 b1 c0 c1
            obtain ⟨a0, a1⟩ := HA7.out.cells
            obtain ⟨b0, b1⟩ := HB7.out.cells
            obtain ⟨c0, c1⟩ := HC7.out.cells
            go_wp2_with fail
            refine (HAC.out _).mono ?_
            rintro e w8 ⟨rfl, hf⟩
            have HF8 := Lib.hid (HF7.out.trans hf (fun _ _ h => h))
            have HA8 := Lib.hid (HA7.out.fr hf (fun h => h))
            have HB8 := Lib.hid (HB7.out.fr hf (fun h => h))
            have HC8 := Lib.hid (HC7.out.fr hf (fun h => h))
            clear hf a0 a1 b0 b1 c0 c1
            obtain ⟨a0, a1⟩ := HA8.out.cells
            obtain ⟨b0, b1⟩ := HB8.out.cells
            obtain ⟨c0, c1⟩ := HC8.out.cells
            go_wp2_with fail
            go_ret
            exact ⟨rfl, HF8.out⟩
end Go.Proofs.Ytmiofhoojahpjaa
