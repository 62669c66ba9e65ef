/-
  Layer 17, the program: like, Copy (written by gen_copy.py).
-/
import Derived.Test.YtmiofhoojahpjaaOpG
import Derived.Test.YtmiofhoojahpjaaReg
namespace Go.Proofs.Ytmiofhoojahpjaa
open Go.RowKit Mem Go.Lib LebM UtfM VaM OpM
attribute [local go_sem ↓] Go.wp_at_zero Go.wp_at_succ
set_option linter.unusedVariables false

set_option maxRecDepth 100000 in
set_option maxHeartbeats 6400000 in
theorem likeO_any (x : Om) (w : World) (hs : x.short) (hpr : Prd w x) : Calls Try.prog 30 #[opc x] w fun e w' => ∃ A' c', e = .returned (opc ⟨x.o, A', c'⟩) ∧ OwnN w' w.heap.size A' c' x.o.pr ∧ Fr (fun _ => False) w w' := by
  obtain ⟨g, w1, hg, hw1, hr1, hf1⟩ := new_ols w x
  obtain ⟨g2, w2, hg2, hw2, hr2, hf2⟩ := new_zero w1
  obtain ⟨b1, b2, b3, b4, b5, b6⟩ := hs
  have HGG : Hid (g ≠ g2 ∧ w.heap.size ≤ g2 ∧ w.heap.size ≤ g) := Lib.hid (by have := hr1.lt; have := hf1.size; omega)
  have HX2 := Lib.hid (hr1.fr hf2 (fun h => h))
  have HZ2 := Lib.hid hr2
  have HF2 := Lib.hid (hf1.trans hf2 (fun _ _ h => h))
  have hl1 := fun w => like_any x.o.obj w (by omega)
  have hl2 := fun w => like_any x.o.elem w (by omega)
  have hl3 := fun w => clone_any x.o.key w (by omega)
  have hl4 := fun w => clone_any x.o.val.s w (by omega)
  unfold nmc at hl1 hl2
  have HL1 := Lib.hid hl1
  have HL2 := Lib.hid hl2
  have HL3 := Lib.hid hl3
  have HL4 := Lib.hid hl4
  have HPR := Lib.hid hpr
  have HB6 := Lib.hid b6
  obtain ⟨lp, hlp⟩ : ∃ l, x.o.pr.length = l := ⟨_, rfl⟩
  have HLP := Lib.hid hlp
  rw [hlp] at b5
  unfold opc
  clear hr1 hr2 hf1 hf2 hl1 hl2 hl3 hl4 b1 b2 b3 b4 b6 hpr hlp
  go_enter Try.func30, Try.ntmps30
  go_upto_region 1 with fail
  clear hw1 hw2 hg hg2
  refine wp_region_held_drew (S := fun w' => Fr (fun _ => False) w2 w') (by kernel_rfl) ?_ (fun hHeld => ?_)
  · exact (Fr.refl _ _).drew
  refine wpAnyH_take (i := 0) (v := ?vy10) rfl (by kernel_rfl) (by kernel_rfl) (by kernel_rfl) (fun _ _ _ h => h) (Or.inl ⟨by rfl, ?hyy10⟩) hHeld ?resty10
  case hyy10 => intro w hSw; (try dsimp only at hSw); go_simp; try (with_reducible rfl)
  (try simp only [Act.put, List.setIfInBounds_toArray, List.set_cons_zero, List.set_cons_succ, List.getElem_toArray, List.getElem_cons_zero])
  refine wpAnyH_take (i := 1) (v := ?vy11) rfl (by kernel_rfl) (by kernel_rfl) (by kernel_rfl) (fun _ _ _ h => h) (Or.inl ⟨by rfl, ?hyy11⟩) hHeld ?resty11
  case hyy11 => intro w hSw; (try dsimp only at hSw); obtain ⟨c0, c1, c2, c3, c4, c5, c6, c7, c8, c9, c10, c11, c12⟩ := (HX2.out.fr hSw (fun h => h)).cells; go_simp; try (with_reducible rfl)
  (try simp only [Act.put, List.setIfInBounds_toArray, List.set_cons_zero, List.set_cons_succ, List.getElem_toArray, List.getElem_cons_zero, List.getElem_cons_succ])
  refine wpAnyH_take (i := 3) (v := ?vy13) rfl (by kernel_rfl) (by kernel_rfl) (by kernel_rfl) (fun _ _ _ h => h) (Or.inl ⟨by rfl, ?hyy13⟩) hHeld ?resty13
  case hyy13 => intro w hSw; (try dsimp only at hSw); go_simp; try (with_reducible rfl)
  (try simp only [Act.put, List.setIfInBounds_toArray, List.set_cons_zero, List.set_cons_succ, List.getElem_toArray, List.getElem_cons_zero, List.getElem_cons_succ])
  refine wpAnyH_take (i := 4) (v := ?vy14) rfl (by kernel_rfl) (by kernel_rfl) (by kernel_rfl) (fun _ _ _ h => h) (Or.inl ⟨by rfl, ?hyy14⟩) hHeld ?resty14
  case hyy14 => intro w hSw; (try dsimp only at hSw); obtain ⟨c0, c1, c2, c3, c4, c5, c6, c7, c8, c9, c10, c11, c12⟩ := (HX2.out.fr hSw (fun h => h)).cells; go_simp; try (with_reducible rfl)
  (try simp only [Act.put, List.setIfInBounds_toArray, List.set_cons_zero, List.set_cons_succ, List.getElem_toArray, List.getElem_cons_zero, List.getElem_cons_succ])
  refine wpAnyH_ready (rs := [2]) (by kernel_rfl) (by simp) ?_
  refine AllReadyH.cons rfl (fun Kx hKx => ?_) AllReadyH.nil
  go_simp
  have hcon := HL1.out (w2.drew)
  with_reducible refine hcon.mono ?_
  clear hcon
  rintro e' w3 ⟨rfl, hff⟩
  have HFw3 : Hid (Fr (fun _ => False) w2 w3) := Lib.hid ((Fr.refl _ _).drew.trans hff (fun _ _ h => h))
  have HX3 := Lib.hid (HX2.out.fr HFw3.out (fun h => h))
  have HZ3 := Lib.hid (HZ2.out.fr HFw3.out (fun h => h))
  have HF3 := Lib.hid (HF2.out.trans HFw3.out (fun _ _ h => h))
  refine hKx.out _ _ ?_ (fun hHeld => ?_)
  · exact HFw3.out
  clear hKx Kx hff
  (try simp only [Act.put, List.setIfInBounds_toArray, List.set_cons_zero, List.set_cons_succ, List.getElem_toArray, List.getElem_cons_zero, List.getElem_cons_succ])
  refine wpAnyH_more (fun w' => Fr (fun _ => False) w3 w') (fun _ h => HFw3.out.trans h (fun _ _ h => h)) ?_ (fun hHeld => ?_)
  · exact Fr.refl _ _
  refine wpAnyH_take (i := 6) (v := ?vy16) rfl (by kernel_rfl) (by kernel_rfl) (by kernel_rfl) (fun _ _ _ h => h) (Or.inl ⟨by rfl, ?hyy16⟩) hHeld ?resty16
  case hyy16 => intro w hSw; (try dsimp only at hSw); go_simp; try (with_reducible rfl)
  (try simp only [Act.put, List.setIfInBounds_toArray, List.set_cons_zero, List.set_cons_succ, List.getElem_toArray, List.getElem_cons_zero, List.getElem_cons_succ])
  refine wpAnyH_ready (rs := [5]) (by kernel_rfl) (by simp) ?_
  refine AllReadyH.cons rfl (fun Kx hKx => ?_) AllReadyH.nil
  go_simp
  have hcon := HL2.out (w3)
  with_reducible refine hcon.mono ?_
  clear hcon
  rintro e' w4 ⟨rfl, hff⟩
  have HFw4 : Hid (Fr (fun _ => False) w3 w4) := Lib.hid (hff)
  have HX4 := Lib.hid (HX3.out.fr HFw4.out (fun h => h))
  have HZ4 := Lib.hid (HZ3.out.fr HFw4.out (fun h => h))
  have HF4 := Lib.hid (HF3.out.trans HFw4.out (fun _ _ h => h))
  refine hKx.out _ _ ?_ (fun hHeld => ?_)
  · exact HFw4.out
  clear hKx Kx hff
  (try simp only [Act.put, List.setIfInBounds_toArray, List.set_cons_zero, List.set_cons_succ, List.getElem_toArray, List.getElem_cons_zero, List.getElem_cons_succ])
  refine wpAnyH_more (fun w' => Fr (fun _ => False) w4 w') (fun _ h => HFw4.out.trans h (fun _ _ h => h)) ?_ (fun hHeld => ?_)
  · exact Fr.refl _ _
  refine wpAnyH_ready (rs := [7]) (by kernel_rfl) (by simp) ?_
  refine AllReadyH.cons rfl (fun Kx hKx => ?_) AllReadyH.nil
  obtain ⟨c0, c1, c2, c3, c4, c5, c6, c7, c8, c9, c10, c11, c12⟩ := HX4.out.cells
  have fz0 : w4.frozen? ⟨g, 0, none⟩ = false := Row.free HX4.out 0
  have sm0 : w4.setCell ⟨g, 0, none⟩ (.int .i64 x.o.obj.c) = w4 := set_same HX4.out rfl
  have fz1 : w4.frozen? ⟨g, 1, none⟩ = false := Row.free HX4.out 1
  have sm1 : w4.setCell ⟨g, 1, none⟩ (.string (txt x.o.obj.a)) = w4 := set_same HX4.out rfl
  go_simp
  refine hKx.out _ _ ?_ (fun hHeld => ?_)
  · exact Fr.refl _ _
  clear hKx Kx
  (try simp only [Act.put, List.setIfInBounds_toArray, List.set_cons_zero, List.set_cons_succ, List.getElem_toArray, List.getElem_cons_zero, List.getElem_cons_succ])
  refine wpAnyH_take (i := 8) (v := ?vy18) rfl (by kernel_rfl) (by kernel_rfl) (by kernel_rfl) (fun _ _ _ h => h) (Or.inl ⟨by rfl, ?hyy18⟩) hHeld ?resty18
  case hyy18 => intro w hSw; (try dsimp only at hSw); go_simp; try (with_reducible rfl)
  (try simp only [Act.put, List.setIfInBounds_toArray, List.set_cons_zero, List.set_cons_succ, List.getElem_toArray, List.getElem_cons_zero, List.getElem_cons_succ])
  refine wpAnyH_ready (rs := [9]) (by kernel_rfl) (by simp) ?_
  refine AllReadyH.cons rfl (fun Kx hKx => ?_) AllReadyH.nil
  have fz4 : w4.frozen? ⟨g, 4, none⟩ = false := Row.free HX4.out 4
  have sm4 : w4.setCell ⟨g, 4, none⟩ (.int .i64 x.o.elem.c) = w4 := set_same HX4.out rfl
  have fz5 : w4.frozen? ⟨g, 5, none⟩ = false := Row.free HX4.out 5
  have sm5 : w4.setCell ⟨g, 5, none⟩ (.string (txt x.o.elem.a)) = w4 := set_same HX4.out rfl
  go_simp
  refine hKx.out _ _ ?_ (fun hHeld => ?_)
  · exact Fr.refl _ _
  clear hKx Kx
  (try simp only [Act.put, List.setIfInBounds_toArray, List.set_cons_zero, List.set_cons_succ, List.getElem_toArray, List.getElem_cons_zero, List.getElem_cons_succ])
  refine wpAnyH_done (by kernel_rfl) ?_ _
  go_upto_region 2 with fail
  clear c0 c1 c2 c3 c4 c5 c6 c7 c8 c9 c10 c11 c12 fz0 fz1 fz4 fz5 sm0 sm1 sm4 sm5
  refine wp_region_held_drew (S := fun w' => Fr (fun _ => False) w4 w') (by kernel_rfl) ?_ (fun hHeld => ?_)
  · exact (Fr.refl _ _).drew
  refine wpAnyH_take (i := 0) (v := ?vy20) rfl (by kernel_rfl) (by kernel_rfl) (by kernel_rfl) (fun _ _ _ h => h) (Or.inl ⟨by rfl, ?hyy20⟩) hHeld ?resty20
  case hyy20 => intro w hSw; (try dsimp only at hSw); go_simp; try (with_reducible rfl)
  (try simp only [Act.put, List.setIfInBounds_toArray, List.set_cons_zero, List.set_cons_succ, List.getElem_toArray, List.getElem_cons_zero])
  refine wpAnyH_take (i := 1) (v := ?vy21) rfl (by kernel_rfl) (by kernel_rfl) (by kernel_rfl) (fun _ _ _ h => h) (Or.inl ⟨by rfl, ?hyy21⟩) hHeld ?resty21
  case hyy21 => intro w hSw; (try dsimp only at hSw); obtain ⟨c0, c1, c2, c3, c4, c5, c6, c7, c8, c9, c10, c11, c12⟩ := (HX4.out.fr hSw (fun h => h)).cells; go_simp; try (with_reducible rfl)
  (try simp only [Act.put, List.setIfInBounds_toArray, List.set_cons_zero, List.set_cons_succ, List.getElem_toArray, List.getElem_cons_zero, List.getElem_cons_succ])
  refine wpAnyH_take (i := 3) (v := ?vy23) rfl (by kernel_rfl) (by kernel_rfl) (by kernel_rfl) (fun _ _ _ h => h) (Or.inl ⟨by rfl, ?hyy23⟩) hHeld ?resty23
  case hyy23 => intro w hSw; (try dsimp only at hSw); go_simp; try (with_reducible rfl)
  (try simp only [Act.put, List.setIfInBounds_toArray, List.set_cons_zero, List.set_cons_succ, List.getElem_toArray, List.getElem_cons_zero, List.getElem_cons_succ])
  refine wpAnyH_take (i := 4) (v := ?vy24) rfl (by kernel_rfl) (by kernel_rfl) (by kernel_rfl) (fun _ _ _ h => h) (Or.inl ⟨by rfl, ?hyy24⟩) hHeld ?resty24
  case hyy24 => intro w hSw; (try dsimp only at hSw); go_simp; try (with_reducible rfl)
  (try simp only [Act.put, List.setIfInBounds_toArray, List.set_cons_zero, List.set_cons_succ, List.getElem_toArray, List.getElem_cons_zero, List.getElem_cons_succ])
  refine wpAnyH_take (i := 5) (v := ?vy25) rfl (by kernel_rfl) (by kernel_rfl) (by kernel_rfl) (fun _ _ _ h => h) (Or.inl ⟨by rfl, ?hyy25⟩) hHeld ?resty25
  case hyy25 => intro w hSw; (try dsimp only at hSw); obtain ⟨c0, c1, c2, c3, c4, c5, c6, c7, c8, c9, c10, c11, c12⟩ := (HX4.out.fr hSw (fun h => h)).cells; go_simp; try (with_reducible rfl)
  (try simp only [Act.put, List.setIfInBounds_toArray, List.set_cons_zero, List.set_cons_succ, List.getElem_toArray, List.getElem_cons_zero, List.getElem_cons_succ])
  refine wpAnyH_ready (rs := [2]) (by kernel_rfl) (by simp) ?_
  refine AllReadyH.cons rfl (fun Kx hKx => ?_) AllReadyH.nil
  go_simp
  have hcon := HL3.out (w4.drew)
  with_reducible refine hcon.mono ?_
  clear hcon
  rintro e' w5 ⟨rfl, hff⟩
  have HFw5 : Hid (Fr (fun _ => False) w4 w5) := Lib.hid ((Fr.refl _ _).drew.trans hff (fun _ _ h => h))
  have HX5 := Lib.hid (HX4.out.fr HFw5.out (fun h => h))
  have HZ5 := Lib.hid (HZ4.out.fr HFw5.out (fun h => h))
  have HF5 := Lib.hid (HF4.out.trans HFw5.out (fun _ _ h => h))
  refine hKx.out _ _ ?_ (fun hHeld => ?_)
  · exact HFw5.out
  clear hKx Kx hff
  (try simp only [Act.put, List.setIfInBounds_toArray, List.set_cons_zero, List.set_cons_succ, List.getElem_toArray, List.getElem_cons_zero, List.getElem_cons_succ])
  refine wpAnyH_more (fun w' => Fr (fun _ => False) w5 w') (fun _ h => HFw5.out.trans h (fun _ _ h => h)) ?_ (fun hHeld => ?_)
  · exact Fr.refl _ _
  refine wpAnyH_take (i := 7) (v := ?vy27) rfl (by kernel_rfl) (by kernel_rfl) (by kernel_rfl) (fun _ _ _ h => h) (Or.inl ⟨by rfl, ?hyy27⟩) hHeld ?resty27
  case hyy27 => intro w hSw; (try dsimp only at hSw); go_simp; try (with_reducible rfl)
  (try simp only [Act.put, List.setIfInBounds_toArray, List.set_cons_zero, List.set_cons_succ, List.getElem_toArray, List.getElem_cons_zero, List.getElem_cons_succ])
  refine wpAnyH_ready (rs := [6]) (by kernel_rfl) (by simp) ?_
  refine AllReadyH.cons rfl (fun Kx hKx => ?_) AllReadyH.nil
  go_simp
  have hcon := HL4.out (w5)
  with_reducible refine hcon.mono ?_
  clear hcon
  rintro e' w6 ⟨rfl, hff⟩
  have HFw6 : Hid (Fr (fun _ => False) w5 w6) := Lib.hid (hff)
  have HX6 := Lib.hid (HX5.out.fr HFw6.out (fun h => h))
  have HZ6 := Lib.hid (HZ5.out.fr HFw6.out (fun h => h))
  have HF6 := Lib.hid (HF5.out.trans HFw6.out (fun _ _ h => h))
  refine hKx.out _ _ ?_ (fun hHeld => ?_)
  · exact HFw6.out
  clear hKx Kx hff
  (try simp only [Act.put, List.setIfInBounds_toArray, List.set_cons_zero, List.set_cons_succ, List.getElem_toArray, List.getElem_cons_zero, List.getElem_cons_succ])
  refine wpAnyH_more (fun w' => Fr (fun _ => False) w6 w') (fun _ h => HFw6.out.trans h (fun _ _ h => h)) ?_ (fun hHeld => ?_)
  · exact Fr.refl _ _
  refine wpAnyH_ready (rs := [8]) (by kernel_rfl) (by simp) ?_
  refine AllReadyH.cons rfl (fun Kx hKx => ?_) AllReadyH.nil
  obtain ⟨c0, c1, c2, c3, c4, c5, c6, c7, c8, c9, c10, c11, c12⟩ := HX6.out.cells
  have fz2 : w6.frozen? ⟨g, 2, none⟩ = false := Row.free HX6.out 2
  have sm2 : w6.setCell ⟨g, 2, none⟩ (.string (txt x.o.key)) = w6 := set_same HX6.out rfl
  go_simp
  refine hKx.out _ _ ?_ (fun hHeld => ?_)
  · exact Fr.refl _ _
  clear hKx Kx
  (try simp only [Act.put, List.setIfInBounds_toArray, List.set_cons_zero, List.set_cons_succ, List.getElem_toArray, List.getElem_cons_zero, List.getElem_cons_succ])
  refine wpAnyH_take (i := 9) (v := ?vy29) rfl (by kernel_rfl) (by kernel_rfl) (by kernel_rfl) (fun _ _ _ h => h) (Or.inl ⟨by rfl, ?hyy29⟩) hHeld ?resty29
  case hyy29 => intro w hSw; (try dsimp only at hSw); go_simp; try (with_reducible rfl)
  (try simp only [Act.put, List.setIfInBounds_toArray, List.set_cons_zero, List.set_cons_succ, List.getElem_toArray, List.getElem_cons_zero, List.getElem_cons_succ])
  refine wpAnyH_take (i := 10) (v := ?vy210) rfl (by kernel_rfl) (by kernel_rfl) (by kernel_rfl) (fun _ _ _ h => h) (Or.inl ⟨by rfl, ?hyy210⟩) hHeld ?resty210
  case hyy210 => intro w hSw; (try dsimp only at hSw); go_simp; try (with_reducible rfl)
  (try simp only [Act.put, List.setIfInBounds_toArray, List.set_cons_zero, List.set_cons_succ, List.getElem_toArray, List.getElem_cons_zero, List.getElem_cons_succ])
  refine wpAnyH_ready (rs := [11]) (by kernel_rfl) (by simp) ?_
  refine AllReadyH.cons rfl (fun Kx hKx => ?_) AllReadyH.nil
  have fz11 : w6.frozen? ⟨g, 11, none⟩ = false := Row.free HX6.out 11
  have sm11 : w6.setCell ⟨g, 11, none⟩ (.string (txt x.o.val.s)) = w6 := set_same HX6.out rfl
  go_simp
  refine hKx.out _ _ ?_ (fun hHeld => ?_)
  · exact Fr.refl _ _
  clear hKx Kx
  (try simp only [Act.put, List.setIfInBounds_toArray, List.set_cons_zero, List.set_cons_succ, List.getElem_toArray, List.getElem_cons_zero, List.getElem_cons_succ])
  refine wpAnyH_done (by kernel_rfl) ?_ _
  clear c0 c1 c2 c3 c4 c5 c6 c7 c8 c9 c10 c11 c12 fz2 fz11 sm2 sm11
  obtain ⟨c0, c1, c2, c3, c4, c5, c6, c7, c8, c9, c10, c11, c12⟩ := HX6.out.cells
  obtain ⟨A0, hA0⟩ : ∃ A0, x.A = A0 := ⟨_, rfl⟩
  rw [HLP.out, hA0] at c12
  have HA0 := Lib.hid hA0
  clear hA0
  go_wp2_with fail
  clear c0 c1 c2 c3 c4 c5 c6 c7 c8 c9 c10 c11 c12
  go_loopw [3, 27] (fun v i wq => ∃ j : Nat, j ≤ lp ∧ i = .int .i64 (j : Int) ∧ ∃ A1 c1 NK, v = .slice A1 NK.length c1 ∧ Hid (x.o.pr.take j = NK) ∧ Hid (OwnN wq w.heap.size A1 c1 NK) ∧ Hid (RowO wq g x) ∧ Hid (RowO wq g2 zeroM) ∧ Hid (Fr (fun _ => False) w wq)) (fun _ i _ => lp - (intOf i).toNat)
  case atStart => exact ⟨0, Nat.zero_le _, rfl, none, 0, [], rfl, (rfl : x.o.pr.take 0 = []), OwnP.nil _ _ _, HX6, HZ6, HF6⟩
  case round =>
    obtain ⟨j, hj, rfl, A3, c3, NK, rfl, HNK, HOK3, HXQ, HZQ, HFQ⟩ := hrel
    rename World => wq
    by_cases hlt2 : j < lp
    · obtain ⟨y, hy⟩ : ∃ y, x.o.pr[j]? = some y := ⟨_, List.getElem?_eq_getElem (by have := HLP.out; omega)⟩
      obtain ⟨gy, oy, hay, hby, n0, n1⟩ := (HPR.out.fr0 HFQ.out).1.2 j y hy
      simp only [ncc, nac] at n0 n1
      have hyl := HB6.out y (List.mem_of_getElem? hy)
      obtain ⟨NQ, hNQ⟩ : ∃ l, NK ++ [y] = l := ⟨_, rfl⟩
      have hstep : x.o.pr.take (j + 1) = NQ := by
        rw [List.take_add_one, hy, HNK.out, ← hNQ]
        rfl
      have hql : NQ.length ≤ 1000000000 := by
        rw [← hstep, List.length_take]
        omega
      have hqj : NK.length = j := by rw [← HNK.out, List.length_take]; have := HLP.out; omega
      obtain ⟨p2, hp2⟩ : ∃ p, wq.heap.size = p := ⟨_, rfl⟩
      obtain ⟨v1, hv1⟩ : ∃ v, wq.alloc (.cells #[.int .i64 0, .string ⟨#[]⟩] 27) = v := ⟨_, rfl⟩
      have hg1 : Fr (fun _ => False) wq v1 := by rw [← hv1]; exact (Fr.refl _ _).alloc _
      have hz1 : RowN v1 p2 zeroN := by rw [← hv1, ← hp2]; exact RowN.new wq zeroN
      have hlk := fun w => like_any y w hyl
      unfold nmc at hlk
      have hay2 := HA0.out.symm.trans hay
      subst hay2
      have HLK := Lib.hid hlk
      have HST := Lib.hid hstep
      have HQL := Lib.hid hql
      have HNQ := Lib.hid hNQ
      have HV1 := Lib.hid hz1
      have HG1 := Lib.hid hg1
      have HP2 := Lib.hid hp2
      clear hy hby hyl hstep hg1 hz1 hlk hay hql hqj hNQ
      go_wp2_with (refine store_st nSz rfl (.tmp 5) (.tmp 30) rfl p2 (by rfl) (nls y) (by rfl) _ _ HV1.out rfl rfl (n_one _) ?_)
      intro v2 hr2 hf2
      have hy2 : RowN v2 p2 y := hr2
      obtain ⟨d0, d1⟩ := hy2.cells
      have HG2 : Hid (Fr (fun _ => False) wq v2) := Lib.hid (HG1.out.trans hf2 (fun b hb h => by have := HP2.out; omega))
      clear hr2 hf2 hy2 hv1 hp2 n0 n1
      go_wp2_with fail
      refine (HLK.out _).mono ?_
      rintro e v4 ⟨rfl, hf⟩
      have HG4 := Lib.hid (HG2.out.trans hf (fun _ _ h => h))
      obtain ⟨q, hq⟩ : ∃ q, v4.heap.size = q := ⟨_, rfl⟩
      obtain ⟨v5, hv5⟩ : ∃ v, v4.alloc (.cells #[.int .i64 y.c, .string (txt y.a)] 27) = v := ⟨_, rfl⟩
      have hg5 : Fr (fun _ => False) v4 v5 := by rw [← hv5]; exact (Fr.refl _ _).alloc _
      have hr5 : Row v5 q 27 ([y].flatMap nls) := by rw [← hv5, ← hq]; exact Row.new v4 _ _
      have HR5 : Hid (Nms v5 (some ⟨q, 0, none⟩) 1 [y]) := Lib.hid (Nms.row hr5)
      have HG5 := Lib.hid (HG4.out.trans hg5 (fun _ _ h => h))
      have HO5 := Lib.hid (HOK3.out.fr HG5.out)
      have HX5 := Lib.hid (HXQ.out.fr HG5.out (fun h => h))
      have HZ5 := Lib.hid (HZQ.out.fr HG5.out (fun h => h))
      have HB5 : Hid (w.heap.size ≤ v5.heap.size) := Lib.hid (by have := HFQ.out.size; have := HG5.out.size; omega)
      clear hf d0 d1 hg5 hr5
      go_wp2_with (at_builtin; refine wpList_appNm _ rfl _ _ rfl w.heap.size _ _ NK rfl HO5.out _ _ _ [y] rfl HR5.out NQ HNQ.out.symm HQL.out HB5.out ?_)
      intro A6 c6 v6 ho6 hf6 _
      have HO6 := Lib.hid ho6
      have HG6 : Hid (Fr (fun k => (Value.slice A3 NK.length c3).ownBlock = some k) wq v6) := Lib.hid ((HG5.out.mono (fun _ _ h => h.elim)).trans hf6 (fun _ _ h => h))
      have HX6' : Hid (RowO v6 g x) := Lib.hid (HX5.out.fr hf6 (fun h => own_ne HO5.out HX5.out (by decide) h))
      have HZ6' : Hid (RowO v6 g2 zeroM) := Lib.hid (HZ5.out.fr hf6 (fun h => own_ne HO5.out HZ5.out (by decide) h))
      have HF6' : Hid (Fr (fun _ => False) w v6) := Lib.hid (HFQ.out.trans HG6.out (fun b hb h => by
        have := (HOK3.out.lt b h).1
        omega))
      clear ho6 hf6 hv5 hq
      go_wp2_with fail
      exact ⟨⟨j + 1, by omega, by go_num, A6, c6, NQ, rfl, HST, HO6, HX6', HZ6', HF6'⟩, by simp [intOf]; omega⟩
    · obtain rfl : j = lp := by omega
      have hnk : NK = x.o.pr := by rw [← HNK.out, List.take_of_length_le (by have := HLP.out; omega)]
      subst hnk
      obtain ⟨c0, c1, c2, c3', c4, c5, c6, c7, c8, c9, c10, c11, c12⟩ := HXQ.out.cells
      rw [HLP.out] at c12
      have fz : wq.frozen? ⟨g, 12, none⟩ = false := Row.free HXQ.out 12
      obtain ⟨v1, hv1⟩ : ∃ v, wq.setCell ⟨g, 12, none⟩ (.slice A3 x.o.pr.length c3) = v := ⟨_, rfl⟩
      have hs := Row.set HXQ.out 12 (.slice A3 x.o.pr.length c3)
      rw [hv1] at hs
      have hx1 : RowO v1 g ⟨x.o, A3, c3⟩ := hs
      have hf1 : Fr (fun b => b = g) wq v1 := by rw [← hv1]; exact Fr.set1 _ _ _ _
      have HX1 := Lib.hid hx1
      have HZ1 := Lib.hid (HZQ.out.fr hf1 (fun h => HGG.out.1 h.symm))
      have HO1 : Hid (OwnN v1 w.heap.size A3 c3 x.o.pr) := Lib.hid (hf1.own HOK3.out (fun k hk h => own_ne HOK3.out HXQ.out (by decide) (by rw [hk, h])))
      have HF1 := Lib.hid (HFQ.out.trans hf1 (fun b hb h => by have := HGG.out.2.2; omega))
      clear hs hx1 hf1 c0 c1 c2 c3' c4 c5 c6 c7 c8 c9 c10 c11
      go_upto_region 10 with fail
      clear hv1 fz c12
      obtain ⟨c0, c1, c2, c3', c4, c5, c6, c7, c8, c9, c10, c11, c12⟩ := HX1.out.cells
      simp only at c0 c1 c2 c3' c4 c5 c6 c7 c8 c9 c10 c11 c12
      go_wp2_with (refine store_st oSz rfl (.tmp 2) (.tmp 39) rfl g2 (by rfl) (ols ⟨x.o, A3, c3⟩) (by rfl) _ _ HZ1.out rfl rfl (o_one _) ?_)
      intro v2 hr2 hf2
      have hx2 : RowO v2 g2 ⟨x.o, A3, c3⟩ := hr2
      have HO2 : Hid (OwnN v2 w.heap.size A3 c3 x.o.pr) := Lib.hid (hf2.own HO1.out (fun k hk h => own_ne HO1.out HZ1.out (by decide) (by rw [hk, h])))
      have HF2' := Lib.hid (HF1.out.trans hf2 (fun b hb h => by have := HGG.out.2.1; omega))
      clear hf2 hr2 c0 c1 c2 c3' c4 c5 c6 c7 c8 c9 c10 c11 c12
      obtain ⟨d0, d1, d2, d3, d4, d5, d6, d7, d8, d9, d10, d11, d12⟩ := hx2.cells
      simp only at d0 d1 d2 d3 d4 d5 d6 d7 d8 d9 d10 d11 d12
      clear hx2
      go_wp2_with fail
      exact bodyPost_ret (v := opc ⟨x.o, A3, c3⟩) (by simp [results, opc, d0, d1, d2, d3, d4, d5, d6, d7, d8, d9, d10, d11, d12, Try.results30, go_sem]) rfl ⟨A3, c3, rfl, HO2.out, HF2'.out⟩

set_option maxRecDepth 100000 in
set_option maxHeartbeats 6400000 in
theorem copy_any (A : Option Addr) (n c : Nat) (L : List Om) (w : World) (hL : Ops w A n L) (hn : n ≤ 1000000) (hok : ∀ x ∈ L, x.short) :
    Calls Try.prog 24 #[.slice A n c] w fun e w' => ∃ A' c' M, e = .returned (.slice A' M.length c') ∧ M.map Om.o = L.map Om.o ∧ OwnO w' w.heap.size A' c' M ∧ (∀ x ∈ M, OwnN w' w.heap.size x.A x.c x.o.pr) ∧ Fr (fun _ => False) w w' := by
  have hln := hL.len
  have HL := Lib.hid hL
  have HLN := Lib.hid hln
  have HOK := Lib.hid hok
  clear hL hln hok
  go_enter Try.func24, Try.ntmps24
  go_wp2_with fail
  go_loopw [3, 8] (fun v i wr => ∃ k : Nat, k ≤ n ∧ i = .int .i64 (k : Int) ∧ ∃ A1 c1 M, v = .slice A1 M.length c1 ∧ Hid (M.map Om.o = (L.take k).map Om.o) ∧ Hid (OwnO wr w.heap.size A1 c1 M) ∧ Hid (∀ x ∈ M, OwnN wr w.heap.size x.A x.c x.o.pr) ∧ Hid (Fr (fun _ => False) w wr)) (fun _ i _ => n - (intOf i).toNat)
  case atStart => exact ⟨0, Nat.zero_le _, rfl, none, 0, [], rfl, (rfl : ([] : List Om).map Om.o = (L.take 0).map Om.o), OwnO.nil _ _, Lib.hid (fun x hx => by cases hx), Fr.refl _ _⟩
  case round =>
    obtain ⟨k, hk, rfl, A1, c1, M, rfl, HM, HO, HP0, HF⟩ := hrel
    rename World => wr
    by_cases hlt : k < n
    · obtain ⟨x, hx⟩ : ∃ x, L[k]? = some x := ⟨_, List.getElem?_eq_getElem (by have := HLN.out; omega)⟩
      have hLr := HL.out.fr HF.out
      obtain ⟨b, o, rfl, hb, hat⟩ := hLr.1.2 k x hx
      obtain ⟨k0, k1, k2, k3, k4, k5, k6, k7, k8, k9, k10, k11, k12⟩ := hat
      have hpr := hLr.2 x (List.mem_of_getElem? hx)
      have hxs := HOK.out x (List.mem_of_getElem? hx)
      have hml : M.length = k := by
        have := congrArg List.length HM.out
        rw [List.length_map, List.length_map, List.length_take] at this
        have := HLN.out
        omega
      obtain ⟨p, w1, hp, hw1, hr1, hf1⟩ := new_zero wr
      have hro := fun w' (hf : Fr (fun _ => False) wr w') => likeO_any x w' hxs (hpr.fr0 hf)
      simp only [opc] at hro
      have HRO := Lib.hid hro
      have HX := Lib.hid hx
      have HML := Lib.hid hml
      have HW1 := Lib.hid hr1
      have HP := Lib.hid hp
      have HF1 := Lib.hid hf1
      clear hx hro hr1 hf1 hxs hpr hLr hml
      go_wp2_with (refine store_st oSz rfl (.tmp 5) (.tmp 11) rfl p (by rfl) (ols x) (by rfl) _ _ HW1.out rfl rfl (o_one _) ?_)
      intro w2 hr2 hf2
      have hv2 : RowO w2 p x := hr2
      clear k0 k1 k2 k3 k4 k5 k6 k7 k8 k9 k10 k11 k12
      obtain ⟨d0, d1, d2, d3, d4, d5, d6, d7, d8, d9, d10, d11, d12⟩ := hv2.cells
      have HX2 : Hid (Fr (fun _ => False) wr w2) := Lib.hid (HF1.out.trans hf2 (fun b hb h => by have := HP.out; omega))
      clear hr2 hf2 hv2 hw1 hp
      go_wp2_with fail
      refine (HRO.out w2 HX2.out).mono ?_
      intro e w3 h3
      obtain ⟨A', c', rfl, hon, hf3⟩ := h3
      have HX3 := Lib.hid (HX2.out.trans hf3 (fun _ _ h => h))
      have HON := Lib.hid (hon.base (show w.heap.size ≤ w2.heap.size by have := HF.out.size; have := HX2.out.size; omega))
      clear hf3 hon d0 d1 d2 d3 d4 d5 d6 d7 d8 d9 d10 d11 d12
      obtain ⟨q, w4, hq, hw4, hr4, hf4⟩ := new_ols w3 ⟨x.o, A', c'⟩
      simp only at hw4
      have hcs : ∀ j u, (ols ⟨x.o, A', c'⟩)[j]? = some u → w4.cell? ((⟨q, 0, none⟩ : Addr).add j) = some u := fun j u hu => by
        rw [mid_add, Nat.zero_add]
        exact Row.cell hr4 hu
      have HX4 := Lib.hid (HX3.out.trans hf4 (fun _ _ h => h))
      have HON4 := Lib.hid (HON.out.fr hf4)
      have HO4 := Lib.hid (HO.out.fr HX4.out)
      have HCS := Lib.hid hcs
      have HB4 : Hid (w.heap.size ≤ w4.heap.size) := Lib.hid (by have := HF.out.size; have := HX4.out.size; omega)
      obtain ⟨N, hN⟩ : ∃ N, N = M.length + 1 := ⟨_, rfl⟩
      have hNk : N ≤ 1000000 := by have := HML.out; omega
      have HN := Lib.hid hN
      clear hcs hr4 hf4 hN
      go_wp2_with (at_builtin; refine wpList_appS opTS _ rfl _ _ rfl w.heap.size _ M.length (M.flatMap ols) rfl HO4.out ⟨q, 0, none⟩ 1 (ols ⟨x.o, A', c'⟩) rfl rfl HCS.out (fun u hu => ocell_one [(⟨x.o, A', c'⟩ : Om)] u (by simpa using hu)) N HN.out (by unfold maxLen; omega) (by omega) HB4.out ?_)
      intro A5 c5 w5 ho5 _ hf5
      have HM5 : Hid ((M ++ [(⟨x.o, A', c'⟩ : Om)]).map Om.o = (L.take (k + 1)).map Om.o) := Lib.hid (by
        rw [List.take_add_one, HX.out, List.map_append, List.map_append, HM.out]
        rfl)
      obtain ⟨Q, hQ⟩ : ∃ Q, M ++ [(⟨x.o, A', c'⟩ : Om)] = Q := ⟨_, rfl⟩
      rw [hQ] at HM5
      have hQl : N = Q.length := by rw [HN.out, ← hQ]; simp
      have HO5 : Hid (OwnO w5 w.heap.size A5 c5 Q) := Lib.hid (by
        unfold OwnO
        rw [← hQl, ← hQ, List.flatMap_append, List.flatMap_singleton]
        exact ho5)
      have hown : ∀ k, (Value.slice A1 M.length c1).ownBlock = some k → ∀ {A : Option Addr} {c : Nat} {l : List Nm}, OwnN w4 w.heap.size A c l → (Value.slice A l.length c).ownBlock ≠ some k := fun k hk {A c l} h2 => own_two HO4.out h2 (by decide) hk
      have HP5 : Hid (∀ y ∈ Q, OwnN w5 w.heap.size y.A y.c y.o.pr) := Lib.hid (fun y hy => by
        rw [← hQ] at hy
        rcases List.mem_append.1 hy with hy | hy
        · have h := (HP0.out y hy).fr HX4.out
          exact hf5.own h (fun k hk hS => hown k hS h hk)
        · rw [List.mem_singleton.1 hy]
          exact hf5.own HON4.out (fun k hk hS => hown k hS HON4.out hk))
      have HF5 : Hid (Fr (fun _ => False) w w5) := Lib.hid ((HF.out.trans HX4.out (fun _ _ h => h)).trans hf5 (fun b hb h => by
        have := (HO4.out.lt b h).1
        omega))
      subst hQl
      clear ho5 hf5 hown hQ hw4 hq
      go_wp2_with fail
      exact ⟨⟨k + 1, by omega, by go_num, A5, c5, Q, rfl, HM5, HO5, HP5, HF5⟩, by simp [intOf]; omega⟩
    · obtain rfl : k = n := by omega
      have HME : Hid (M.map Om.o = L.map Om.o) := Lib.hid (by
        rw [HM.out, List.take_of_length_le (by have := HLN.out; omega)])
      go_wp2_with fail
      go_ret
      exact ⟨A1, c1, M, rfl, HME.out, HO.out, HP0.out, HF.out⟩
end Go.Proofs.Ytmiofhoojahpjaa
