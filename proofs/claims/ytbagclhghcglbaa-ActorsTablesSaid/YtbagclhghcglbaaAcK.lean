/-
  Layer 18, the law ActorsTables (written by gen_laws18.py).
-/
import Derived.Test.YtbagclhghcglbaaAcJ
import Derived.Test.YtbagclhghcglbaaAcD
import Derived.Test.YtbagclhghcglbaaAcE
import Derived.Test.YtbagclhghcglbaaZm12
namespace Go.Proofs.Ytbagclhghcglbaa
open Go.RowKit Mem Go.Lib LebM UtfM VaM OpM AcM
attribute [local go_sem ↓] Go.wp_at_zero Go.wp_at_succ
set_option linter.unusedVariables false

set_option maxRecDepth 100000 in
set_option maxHeartbeats 6400000 in
theorem actables_law (a : Tx) (A : Option Addr) (n c : Nat) (L : List Om) (z : Tx) (w : World) (hL : Ops w A n L) (hn : n ≤ 9223372036854775807) (hlen : ∀ x ∈ L, x.lens) (ha : a.length ≤ 9223372036854775807) (hz : z.length ≤ 9223372036854775807) :
    Calls Try.prog 3 #[.string (txt a), .slice A n c, .string (txt z)] w fun e w' => e = .returned (.bool true) ∧ Fr (fun _ => False) w w' := by
  have HAW := Lib.hid (fun w' => awake18_any w')
  have HL := Lib.hid hL
  have hsza := txt_sz a
  obtain ⟨ma, hma⟩ : ∃ m, m = a.length := ⟨_, rfl⟩
  rw [← hma] at hsza
  have HLa : Hid (a.length = ma) := Lib.hid hma.symm
  clear hma
  have hszz := txt_sz z
  obtain ⟨mz, hmz⟩ : ∃ m, m = z.length := ⟨_, rfl⟩
  rw [← hmz] at hszz
  have HLz : Hid (z.length = mz) := Lib.hid hmz.symm
  clear hmz
  have hfw := fun w' (hf : Fr (fun _ => False) w w') => rfew_any A n c L 40 w' (hL.fr hf) hn (by omega) hlen
  obtain ⟨b, hb⟩ : ∃ b, (decide (n ≤ 40) && fewB L) = b := ⟨_, rfl⟩
  simp only [hb] at hfw
  have hfw2 : ∀ w' (hf : Fr (fun _ => False) w w'), Calls Try.prog 9 #[.slice A n c, .int .i64 40] w' fun e w'' => e = .returned (.bool b) ∧ w' = w'' := hfw
  have HFW := Lib.hid hfw2
  clear hfw hfw2
  clear hL hn hlen
  by_cases hq0 : 1000 < ma
  · have tq0 : decide ((1000 : Int) < (ma : Int)) = true := decide_eq_true (by omega)
    have tq0' : decide (1000 < ma) = true := decide_eq_true hq0
    clear hq0
    go_enter Try.func3, Try.ntmps3
    go_wp2_with fail
    refine (HAW.out _).mono ?_
    rintro e w1 ⟨rfl, hf⟩
    have HF1 := Lib.hid hf
    clear hf
    go_wp2_with fail
    refine (HAW.out _).mono ?_
    rintro e w3 ⟨rfl, hf⟩
    have HF3 := Lib.hid (HF1.out.trans hf (fun _ _ h => h))
    clear hf
    go_wp2_with fail
    go_ret
    exact ⟨rfl, HF3.out⟩
  · have tq0 : decide ((1000 : Int) < (ma : Int)) = false := decide_eq_false (by omega)
    have tq0' : decide (1000 < ma) = false := decide_eq_false hq0
    by_cases hq1 : 1000 < mz
    · have tq1 : decide ((1000 : Int) < (mz : Int)) = true := decide_eq_true (by omega)
      have tq1' : decide (1000 < mz) = true := decide_eq_true hq1
      clear hq1
      go_enter Try.func3, Try.ntmps3
      go_wp2_with fail
      refine (HAW.out _).mono ?_
      rintro e w1 ⟨rfl, hf⟩
      have HF1 := Lib.hid hf
      clear hf
      go_wp2_with fail
      refine (HAW.out _).mono ?_
      rintro e w3 ⟨rfl, hf⟩
      have HF3 := Lib.hid (HF1.out.trans hf (fun _ _ h => h))
      clear hf
      go_wp2_with fail
      go_ret
      exact ⟨rfl, HF3.out⟩
    · have tq1 : decide ((1000 : Int) < (mz : Int)) = false := decide_eq_false (by omega)
      have tq1' : decide (1000 < mz) = false := decide_eq_false hq1
      cases b with
      | false =>
        clear hb
        go_enter Try.func3, Try.ntmps3
        go_wp2_with fail
        refine (HAW.out _).mono ?_
        rintro e w1 ⟨rfl, hf⟩
        have HF1 := Lib.hid hf
        clear hf
        go_wp2_with fail
        refine (HFW.out _ HF1.out).mono ?_
        rintro e w2 ⟨rfl, rfl⟩
        go_wp2_with fail
        refine (HAW.out _).mono ?_
        rintro e w3 ⟨rfl, hf⟩
        have HF3 := Lib.hid (HF1.out.trans hf (fun _ _ h => h))
        clear hf
        go_wp2_with fail
        go_ret
        exact ⟨rfl, HF3.out⟩
      | true =>
        rw [Bool.and_eq_true, decide_eq_true_eq] at hb
        have hn40 := hb.1
        have HSH := Lib.hid (few_short hb.2)
        clear hb
        have hok : ∀ x ∈ L, x.short ∧ x.o.pr.length ≤ 1000 := fun x hx => ⟨(HSH.out x hx).1, by have := (HSH.out x hx).2; omega⟩
        have hnl : (namesM L).length ≤ 40080 := by
          have h1 := namesM_len (L := L) (fun x hx => (hok x hx).2)
          have h2 := HL.out.len
          omega
        have htl : (tabA a (namesM L)).length ≤ 40081 := by
          have := others_len a (namesM L)
          unfold tabA
          rw [List.length_cons]
          omega
        have hns := names_short (fun x hx => (hok x hx).1)
        have htx : ∀ x ∈ tabA a (namesM L), x.length ≤ 1000000 := fun x hx => by
          rcases List.mem_cons.1 hx with rfl | hx
          · have := HLa.out; omega
          · obtain ⟨_, y, hy, rfl⟩ := (others_mem a _ x).1 hx
            exact hns y hy
        have HTB := Lib.hid (fun w' (hf : Fr (fun _ => False) w w') => acTable_any a A n c L w' (HL.out.fr hf) (by omega) (by have := HLa.out; omega) hok)
        have HRT := Lib.hid (fun w' (hf : Fr (fun _ => False) w w') => racTable_any a A n c L w' (HL.out.fr hf) (by omega) (by have := HLa.out; omega) hok)
        obtain ⟨T, hT⟩ : ∃ T, tabA a (namesM L) = T := ⟨_, rfl⟩
        obtain ⟨nt, hnt⟩ : ∃ k, T.length = k := ⟨_, rfl⟩
        rw [hT] at htl htx
        rw [hnt] at htl
        have HTT := Lib.hid hT
        have HTN := Lib.hid hnt
        have HTX := Lib.hid htx
        clear hok hnl hns htx hT hnt
        go_enter Try.func3, Try.ntmps3
        go_wp2_with fail
        refine (HAW.out _).mono ?_
        rintro e w1 ⟨rfl, hf⟩
        have HF1 := Lib.hid hf
        clear hf
        go_wp2_with fail
        refine (HFW.out _ HF1.out).mono ?_
        rintro e w2 ⟨rfl, rfl⟩
        go_wp2_with fail
        refine (HTB.out _ HF1.out).mono ?_
        rintro e w3 ⟨A3, c3, rfl, ho3, hf3⟩
        rw [HTT.out] at ho3
        rw [HTT.out, HTN.out]
        have HF3 := Lib.hid (HF1.out.trans hf3 (fun _ _ h => h))
        have HO3 := Lib.hid ho3
        clear ho3 hf3
        go_wp2_with fail
        refine (HRT.out _ HF3.out).mono ?_
        rintro e w4 ⟨A4, c4, rfl, ho4, hf4⟩
        rw [HTT.out] at ho4
        rw [HTT.out, HTN.out]
        have HF4 := Lib.hid (HF3.out.trans hf4 (fun _ _ h => h))
        have HRA : Hid (Rd w4 A3 nt (T.map tc)) := Lib.hid (by have h := (HO3.out.fr hf4).rd; rwa [HTN.out] at h)
        have HRB : Hid (Rd w4 A4 nt (T.map tc)) := Lib.hid (by have h := ho4.rd; rwa [HTN.out] at h)
        have HCP : Hid (nt ≤ c3) := Lib.hid (by have h := HO3.out.cap.1; rwa [HTN.out] at h)
        clear ho4 hf4
        obtain ⟨ix, hix⟩ : ∃ i, idxA z T = i := ⟨_, rfl⟩
        have HIX := Lib.hid hix
        clear hix
        have teq : (ix == ix) = true := by simp
        have hsame : ∀ w', Fr (fun _ => False) w4 w' → Calls Try.prog 12 #[.slice A3 nt c3, .slice A4 nt c4] w' fun e w'' => e = .returned (.bool true) ∧ Fr (fun _ => False) w' w'' := fun w' hf => by
          have h := racSame_any A3 nt c3 T A4 nt c4 T w' (HRA.out.fr hf (fun _ _ => id)) (HRB.out.fr hf (fun _ _ => id)) (by omega) (by omega)
          rwa [decide_eq_true rfl] at h
        have hi1 : ∀ w', Fr (fun _ => False) w4 w' → Calls Try.prog 13 #[.slice A3 nt c3, .string (txt z)] w' fun e w'' => e = .returned (.int .i64 ix) ∧ Fr (fun _ => False) w' w'' := fun w' hf => by
          have h := acIndex_any A3 nt c3 T z w' (HRA.out.fr hf (fun _ _ => id)) (by omega)
          rw [HIX.out] at h
          exact h.mono (fun e w'' h => ⟨h.1, h.2 ▸ Fr.refl _ _⟩)
        have hi2 : ∀ w', Fr (fun _ => False) w4 w' → Calls Try.prog 14 #[.slice A4 nt c4, .string (txt z)] w' fun e w'' => e = .returned (.int .i64 ix) ∧ Fr (fun _ => False) w' w'' := fun w' hf => by
          have h := racIndex_any A4 nt c4 T z w' (HRB.out.fr hf (fun _ _ => id)) (by omega)
          rw [HIX.out] at h
          exact h.mono (fun e w'' h => ⟨h.1, h.2 ▸ Fr.refl _ _⟩)
        obtain ⟨Y, hY⟩ : ∃ Y, putA T = Y := ⟨_, rfl⟩
        have hp1 : ∀ w', Fr (fun _ => False) w4 w' → Calls Try.prog 15 #[.slice A3 nt c3] w' fun e w'' => Gives w' Y e w'' := fun w' hf => by
          have h := acPut_any A3 nt c3 T w' (HRA.out.fr hf (fun _ _ => id)) HCP.out (by omega) HTX.out
          rwa [hY] at h
        have hp2 : ∀ w', Fr (fun _ => False) w4 w' → Calls Try.prog 16 #[.slice A4 nt c4] w' fun e w'' => Gives w' Y e w'' := fun w' hf => by
          have h := racPut_any A4 nt c4 T w' (HRB.out.fr hf (fun _ _ => id)) (by omega) HTX.out
          rwa [hY] at h
        have hp0 : ∀ w', Calls Try.prog 15 #[.slice none 0 0] w' fun e w'' => Gives w' [0] e w'' := fun w' => by
          have h := acPut_any none 0 0 [] w' (Rd.nil _ _) (by omega) (by omega) (fun x hx => by cases hx)
          rwa [show putA [] = [0] by simp [putA, u_small]] at h
        have HSA := Lib.hid hsame
        have HI1 := Lib.hid hi1
        have HI2 := Lib.hid hi2
        have HP1 := Lib.hid hp1
        have HP2 := Lib.hid hp2
        have HP0 := Lib.hid hp0
        have tty : ((txt Y).toList == (txt Y).toList) = true := by simp
        clear hsame hi1 hi2 hp1 hp2 hp0 hY
        go_upto_region 5 with fail
        refine wp_region_held_drew (S := fun w' => Fr (fun _ => False) w4 w') (by kernel_rfl) ?_ (fun hHeld => ?_)
        · exact (Fr.refl _ _).drew
        refine wpAnyH_take (i := 0) (v := ?vz10) rfl (by kernel_rfl) (by kernel_rfl) (by kernel_rfl) (fun _ _ _ h => h) (Or.inl ⟨by rfl, ?hyz10⟩) hHeld ?restz10
        case hyz10 => intro w hSw; (try dsimp only at hSw); go_simp; try (with_reducible rfl)
        (try simp only [Act.put, List.setIfInBounds_toArray, List.set_cons_zero, List.set_cons_succ, List.getElem_toArray, List.getElem_cons_zero])
        refine wpAnyH_take (i := 1) (v := ?vz11) rfl (by kernel_rfl) (by kernel_rfl) (by kernel_rfl) (fun _ _ _ h => h) (Or.inl ⟨by rfl, ?hyz11⟩) hHeld ?restz11
        case hyz11 => intro w hSw; (try dsimp only at hSw); go_simp; try (with_reducible rfl)
        (try simp only [Act.put, List.setIfInBounds_toArray, List.set_cons_zero, List.set_cons_succ, List.getElem_toArray, List.getElem_cons_zero, List.getElem_cons_succ])
        refine wpAnyH_ready (rs := [2]) (by kernel_rfl) (by simp) ?_
        refine AllReadyH.cons rfl (fun Kx hKx => ?_) AllReadyH.nil
        go_simp
        have hcon := HSA.out w4.drew (Fr.refl _ _).drew
        with_reducible refine hcon.mono ?_
        clear hcon
        rintro e' w5 ⟨rfl, hff⟩
        have HFw5 : Hid (Fr (fun _ => False) w4 w5) := Lib.hid ((Fr.refl _ _).drew.trans hff (fun _ _ h => h))
        have HX5 := HFw5
        refine hKx.out _ _ ?_ (fun hHeld => ?_)
        · exact HFw5.out
        clear hKx Kx hff
        (try simp only [Act.put, List.setIfInBounds_toArray, List.set_cons_zero, List.set_cons_succ, List.getElem_toArray, List.getElem_cons_zero, List.getElem_cons_succ])
        refine wpAnyH_more (fun w' => Fr (fun _ => False) w5 w') (fun _ h => HFw5.out.trans h (fun _ _ h => h)) ?_ (fun hHeld => ?_)
        · exact Fr.refl _ _
        refine wpAnyH_take (i := 3) (v := ?vz13) rfl (by kernel_rfl) (by kernel_rfl) (by kernel_rfl) (fun _ _ _ h => h) (Or.inl ⟨by rfl, ?hyz13⟩) hHeld ?restz13
        case hyz13 => intro w hSw; (try dsimp only at hSw); go_simp; try (with_reducible rfl)
        (try simp only [Act.put, List.setIfInBounds_toArray, List.set_cons_zero, List.set_cons_succ, List.getElem_toArray, List.getElem_cons_zero, List.getElem_cons_succ])
        refine wpAnyH_take (i := 4) (v := ?vz14) rfl (by kernel_rfl) (by kernel_rfl) (by kernel_rfl) (fun _ _ _ h => h) (Or.inl ⟨by rfl, ?hyz14⟩) hHeld ?restz14
        case hyz14 => intro w hSw; (try dsimp only at hSw); go_simp; try (with_reducible rfl)
        (try simp only [Act.put, List.setIfInBounds_toArray, List.set_cons_zero, List.set_cons_succ, List.getElem_toArray, List.getElem_cons_zero, List.getElem_cons_succ])
        refine wpAnyH_take (i := 5) (v := ?vz15) rfl (by kernel_rfl) (by kernel_rfl) (by kernel_rfl) (fun _ _ _ h => h) (Or.inl ⟨by rfl, ?hyz15⟩) hHeld ?restz15
        case hyz15 => intro w hSw; (try dsimp only at hSw); go_simp; try (with_reducible rfl)
        (try simp only [Act.put, List.setIfInBounds_toArray, List.set_cons_zero, List.set_cons_succ, List.getElem_toArray, List.getElem_cons_zero, List.getElem_cons_succ])
        refine wpAnyH_take (i := 7) (v := ?vz17) rfl (by kernel_rfl) (by kernel_rfl) (by kernel_rfl) (fun _ _ _ h => h) (Or.inl ⟨by rfl, ?hyz17⟩) hHeld ?restz17
        case hyz17 => intro w hSw; (try dsimp only at hSw); go_simp; try (with_reducible rfl)
        (try simp only [Act.put, List.setIfInBounds_toArray, List.set_cons_zero, List.set_cons_succ, List.getElem_toArray, List.getElem_cons_zero, List.getElem_cons_succ])
        refine wpAnyH_take (i := 8) (v := ?vz18) rfl (by kernel_rfl) (by kernel_rfl) (by kernel_rfl) (fun _ _ _ h => h) (Or.inl ⟨by rfl, ?hyz18⟩) hHeld ?restz18
        case hyz18 => intro w hSw; (try dsimp only at hSw); go_simp; try (with_reducible rfl)
        (try simp only [Act.put, List.setIfInBounds_toArray, List.set_cons_zero, List.set_cons_succ, List.getElem_toArray, List.getElem_cons_zero, List.getElem_cons_succ])
        refine wpAnyH_ready (rs := [6]) (by kernel_rfl) (by simp) ?_
        refine AllReadyH.cons rfl (fun Kx hKx => ?_) AllReadyH.nil
        go_simp
        have hcon := HI1.out w5 HX5.out
        with_reducible refine hcon.mono ?_
        clear hcon
        rintro e' w6 ⟨rfl, hff⟩
        have HFw6 : Hid (Fr (fun _ => False) w5 w6) := Lib.hid (hff)
        have HX6 := Lib.hid (HX5.out.trans HFw6.out (fun _ _ h => h))
        refine hKx.out _ _ ?_ (fun hHeld => ?_)
        · exact HFw6.out
        clear hKx Kx hff
        (try simp only [Act.put, List.setIfInBounds_toArray, List.set_cons_zero, List.set_cons_succ, List.getElem_toArray, List.getElem_cons_zero, List.getElem_cons_succ])
        refine wpAnyH_more (fun w' => Fr (fun _ => False) w6 w') (fun _ h => HFw6.out.trans h (fun _ _ h => h)) ?_ (fun hHeld => ?_)
        · exact Fr.refl _ _
        refine wpAnyH_ready (rs := [9]) (by kernel_rfl) (by simp) ?_
        refine AllReadyH.cons rfl (fun Kx hKx => ?_) AllReadyH.nil
        go_simp
        have hcon := HI2.out w6 HX6.out
        with_reducible refine hcon.mono ?_
        clear hcon
        rintro e' w7 ⟨rfl, hff⟩
        have HFw7 : Hid (Fr (fun _ => False) w6 w7) := Lib.hid (hff)
        have HX7 := Lib.hid (HX6.out.trans HFw7.out (fun _ _ h => h))
        refine hKx.out _ _ ?_ (fun hHeld => ?_)
        · exact HFw7.out
        clear hKx Kx hff
        (try simp only [Act.put, List.setIfInBounds_toArray, List.set_cons_zero, List.set_cons_succ, List.getElem_toArray, List.getElem_cons_zero, List.getElem_cons_succ])
        refine wpAnyH_more (fun w' => Fr (fun _ => False) w7 w') (fun _ h => HFw7.out.trans h (fun _ _ h => h)) ?_ (fun hHeld => ?_)
        · exact Fr.refl _ _
        refine wpAnyH_take (i := 10) (v := ?vz110) rfl (by kernel_rfl) (by kernel_rfl) (by kernel_rfl) (fun _ _ _ h => h) (Or.inl ⟨by rfl, ?hyz110⟩) hHeld ?restz110
        case hyz110 => intro w hSw; (try dsimp only at hSw); go_simp; try (with_reducible rfl)
        (try simp only [Act.put, List.setIfInBounds_toArray, List.set_cons_zero, List.set_cons_succ, List.getElem_toArray, List.getElem_cons_zero, List.getElem_cons_succ])
        refine wpAnyH_take (i := 11) (v := ?vz111) rfl (by kernel_rfl) (by kernel_rfl) (by kernel_rfl) (fun _ _ _ h => h) (Or.inl ⟨by rfl, ?hyz111⟩) hHeld ?restz111
        case hyz111 => intro w hSw; (try dsimp only at hSw); go_simp; try (with_reducible rfl)
        (try simp only [Act.put, List.setIfInBounds_toArray, List.set_cons_zero, List.set_cons_succ, List.getElem_toArray, List.getElem_cons_zero, List.getElem_cons_succ])
        refine wpAnyH_take (i := 12) (v := ?vz112) rfl (by kernel_rfl) (by kernel_rfl) (by kernel_rfl) (fun _ _ _ h => h) (Or.inl ⟨by rfl, ?hyz112⟩) hHeld ?restz112
        case hyz112 => intro w hSw; (try dsimp only at hSw); go_simp; try (with_reducible rfl)
        (try simp only [Act.put, List.setIfInBounds_toArray, List.set_cons_zero, List.set_cons_succ, List.getElem_toArray, List.getElem_cons_zero, List.getElem_cons_succ])
        refine wpAnyH_take (i := 13) (v := ?vz113) rfl (by kernel_rfl) (by kernel_rfl) (by kernel_rfl) (fun _ _ _ h => h) (Or.inl ⟨by rfl, ?hyz113⟩) hHeld ?restz113
        case hyz113 => intro w hSw; (try dsimp only at hSw); go_simp; try (with_reducible rfl)
        (try simp only [Act.put, List.setIfInBounds_toArray, List.set_cons_zero, List.set_cons_succ, List.getElem_toArray, List.getElem_cons_zero, List.getElem_cons_succ])
        refine wpAnyH_take (i := 16) (v := ?vz116) rfl (by kernel_rfl) (by kernel_rfl) (by kernel_rfl) (fun _ _ _ h => h) (Or.inl ⟨by rfl, ?hyz116⟩) hHeld ?restz116
        case hyz116 => intro w hSw; (try dsimp only at hSw); go_simp; try (with_reducible rfl)
        (try simp only [Act.put, List.setIfInBounds_toArray, List.set_cons_zero, List.set_cons_succ, List.getElem_toArray, List.getElem_cons_zero, List.getElem_cons_succ])
        refine wpAnyH_ready (rs := [14]) (by kernel_rfl) (by simp) ?_
        refine AllReadyH.cons rfl (fun Kx hKx => ?_) AllReadyH.nil
        go_simp
        have hcon := HP1.out w7 HX7.out
        with_reducible refine hcon.mono ?_
        clear hcon
        rintro e' w8 ⟨A8, c8, rfl, ho8, hff⟩
        have HFw8 : Hid (Fr (fun _ => False) w7 w8) := Lib.hid (hff)
        have HX8 := Lib.hid (HX7.out.trans HFw8.out (fun _ _ h => h))
        have HY8 := Lib.hid ho8
        clear ho8
        refine hKx.out _ _ ?_ (fun hHeld => ?_)
        · exact HFw8.out
        clear hKx Kx hff
        (try simp only [Act.put, List.setIfInBounds_toArray, List.set_cons_zero, List.set_cons_succ, List.getElem_toArray, List.getElem_cons_zero, List.getElem_cons_succ])
        refine wpAnyH_more (fun w' => Fr (fun _ => False) w8 w') (fun _ h => HFw8.out.trans h (fun _ _ h => h)) ?_ (fun hHeld => ?_)
        · exact Fr.refl _ _
        refine wpAnyH_take (i := 15) (v := ?vz115) rfl (by kernel_rfl) (by kernel_rfl) (by kernel_rfl) (fun _ _ _ h => h) (Or.inl ⟨by rfl, ?hyz115⟩) hHeld ?restz115
        case hyz115 => intro w hSw; (try dsimp only at hSw); have hcv := (HY8.out.fr hSw).str; go_simp; try (with_reducible rfl)
        (try simp only [Act.put, List.setIfInBounds_toArray, List.set_cons_zero, List.set_cons_succ, List.getElem_toArray, List.getElem_cons_zero, List.getElem_cons_succ])
        refine wpAnyH_ready (rs := [17]) (by kernel_rfl) (by simp) ?_
        refine AllReadyH.cons rfl (fun Kx hKx => ?_) AllReadyH.nil
        go_simp
        have hcon := HP2.out w8 HX8.out
        with_reducible refine hcon.mono ?_
        clear hcon
        rintro e' w9 ⟨A9, c9, rfl, ho9, hff⟩
        have HFw9 : Hid (Fr (fun _ => False) w8 w9) := Lib.hid (hff)
        have HX9 := Lib.hid (HX8.out.trans HFw9.out (fun _ _ h => h))
        have HY9 := Lib.hid ho9
        clear ho9
        refine hKx.out _ _ ?_ (fun hHeld => ?_)
        · exact HFw9.out
        clear hKx Kx hff
        (try simp only [Act.put, List.setIfInBounds_toArray, List.set_cons_zero, List.set_cons_succ, List.getElem_toArray, List.getElem_cons_zero, List.getElem_cons_succ])
        refine wpAnyH_more (fun w' => Fr (fun _ => False) w9 w') (fun _ h => HFw9.out.trans h (fun _ _ h => h)) ?_ (fun hHeld => ?_)
        · exact Fr.refl _ _
        refine wpAnyH_take (i := 18) (v := ?vz118) rfl (by kernel_rfl) (by kernel_rfl) (by kernel_rfl) (fun _ _ _ h => h) (Or.inl ⟨by rfl, ?hyz118⟩) hHeld ?restz118
        case hyz118 => intro w hSw; (try dsimp only at hSw); have hcv := (HY9.out.fr hSw).str; go_simp; try (with_reducible rfl)
        (try simp only [Act.put, List.setIfInBounds_toArray, List.set_cons_zero, List.set_cons_succ, List.getElem_toArray, List.getElem_cons_zero, List.getElem_cons_succ])
        refine wpAnyH_take (i := 19) (v := ?vz119) rfl (by kernel_rfl) (by kernel_rfl) (by kernel_rfl) (fun _ _ _ h => h) (Or.inl ⟨by rfl, ?hyz119⟩) hHeld ?restz119
        case hyz119 => intro w hSw; (try dsimp only at hSw); go_simp; try (with_reducible rfl)
        (try simp only [Act.put, List.setIfInBounds_toArray, List.set_cons_zero, List.set_cons_succ, List.getElem_toArray, List.getElem_cons_zero, List.getElem_cons_succ])
        refine wpAnyH_take (i := 20) (v := ?vz120) rfl (by kernel_rfl) (by kernel_rfl) (by kernel_rfl) (fun _ _ _ h => h) (Or.inl ⟨by rfl, ?hyz120⟩) hHeld ?restz120
        case hyz120 => intro w hSw; (try dsimp only at hSw); go_simp; try (with_reducible rfl)
        (try simp only [Act.put, List.setIfInBounds_toArray, List.set_cons_zero, List.set_cons_succ, List.getElem_toArray, List.getElem_cons_zero, List.getElem_cons_succ])
        refine wpAnyH_take (i := 21) (v := ?vz121) rfl (by kernel_rfl) (by kernel_rfl) (by kernel_rfl) (fun _ _ _ h => h) (Or.inl ⟨by rfl, ?hyz121⟩) hHeld ?restz121
        case hyz121 => intro w hSw; (try dsimp only at hSw); go_simp; try (with_reducible rfl)
        (try simp only [Act.put, List.setIfInBounds_toArray, List.set_cons_zero, List.set_cons_succ, List.getElem_toArray, List.getElem_cons_zero, List.getElem_cons_succ])
        refine wpAnyH_ready (rs := [22]) (by kernel_rfl) (by simp) ?_
        refine AllReadyH.cons rfl (fun Kx hKx => ?_) AllReadyH.nil
        go_simp
        have hcon := HP0.out w9
        with_reducible refine hcon.mono ?_
        clear hcon
        rintro e' w10 ⟨A10, c10, rfl, ho10, hff⟩
        have HFw10 : Hid (Fr (fun _ => False) w9 w10) := Lib.hid (hff)
        have HX10 := Lib.hid (HX9.out.trans HFw10.out (fun _ _ h => h))
        have HY10 : Hid (∀ w', Fr (fun _ => False) w10 w' → (convert 30 9 (.slice A10 1 c10)).run Try.prog w' = .ok (.string ⟨#[0]⟩) w') := Lib.hid (fun w' h => (ho10.fr h).str)
        clear ho10
        refine hKx.out _ _ ?_ (fun hHeld => ?_)
        · exact HFw10.out
        clear hKx Kx hff
        (try simp only [Act.put, List.setIfInBounds_toArray, List.set_cons_zero, List.set_cons_succ, List.getElem_toArray, List.getElem_cons_zero, List.getElem_cons_succ])
        refine wpAnyH_more (fun w' => Fr (fun _ => False) w10 w') (fun _ h => HFw10.out.trans h (fun _ _ h => h)) ?_ (fun hHeld => ?_)
        · exact Fr.refl _ _
        refine wpAnyH_take (i := 23) (v := ?vz123) rfl (by kernel_rfl) (by kernel_rfl) (by kernel_rfl) (fun _ _ _ h => h) (Or.inl ⟨by rfl, ?hyz123⟩) hHeld ?restz123
        case hyz123 => intro w hSw; (try dsimp only at hSw); have hcv := HY10.out _ hSw; go_simp; try (with_reducible rfl)
        (try simp only [Act.put, List.setIfInBounds_toArray, List.set_cons_zero, List.set_cons_succ, List.getElem_toArray, List.getElem_cons_zero, List.getElem_cons_succ])
        refine wpAnyH_take (i := 24) (v := ?vz124) rfl (by kernel_rfl) (by kernel_rfl) (by kernel_rfl) (fun _ _ _ h => h) (Or.inl ⟨by rfl, ?hyz124⟩) hHeld ?restz124
        case hyz124 => intro w hSw; (try dsimp only at hSw); go_simp; try (with_reducible rfl)
        (try simp only [Act.put, List.setIfInBounds_toArray, List.set_cons_zero, List.set_cons_succ, List.getElem_toArray, List.getElem_cons_zero, List.getElem_cons_succ])
        refine wpAnyH_take (i := 25) (v := ?vz125) rfl (by kernel_rfl) (by kernel_rfl) (by kernel_rfl) (fun _ _ _ h => h) (Or.inl ⟨by rfl, ?hyz125⟩) hHeld ?restz125
        case hyz125 => intro w hSw; (try dsimp only at hSw); go_simp; try (with_reducible rfl)
        (try simp only [Act.put, List.setIfInBounds_toArray, List.set_cons_zero, List.set_cons_succ, List.getElem_toArray, List.getElem_cons_zero, List.getElem_cons_succ])
        refine wpAnyH_take (i := 26) (v := ?vz126) rfl (by kernel_rfl) (by kernel_rfl) (by kernel_rfl) (fun _ _ _ h => h) (Or.inl ⟨by rfl, ?hyz126⟩) hHeld ?restz126
        case hyz126 => intro w hSw; (try dsimp only at hSw); go_simp; try (with_reducible rfl)
        (try simp only [Act.put, List.setIfInBounds_toArray, List.set_cons_zero, List.set_cons_succ, List.getElem_toArray, List.getElem_cons_zero, List.getElem_cons_succ])
        refine wpAnyH_done (by kernel_rfl) ?_ _
        have HFE := Lib.hid (HF4.out.trans HX10.out (fun _ _ h => h))
        go_wp2_with fail
        go_ret
        exact ⟨rfl, HFE.out⟩
end Go.Proofs.Ytbagclhghcglbaa
