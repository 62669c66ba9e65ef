/-
  Layer 17, the law OpIds, where the number is 0 (written by gen_ids.py).
-/
import Derived.Test.YtmiofhoojahpjaaOpJ
import Derived.Test.YtmiofhoojahpjaaOpR
import Derived.Test.YtmiofhoojahpjaaOpX
import Derived.Test.YtmiofhoojahpjaaReg
namespace Go.Proofs.Ytmiofhoojahpjaa
open Go.RowKit Mem Go.Lib LebM UtfM VaM OpM
attribute [local go_sem ↓] Go.wp_at_zero Go.wp_at_succ
set_option linter.unusedVariables false

set_option maxRecDepth 100000 in
set_option maxHeartbeats 12800000 in
theorem opids_big (a b : Nm) (s : List UInt8) (w : World) (ha : a.a.length ≤ 9223372036854775807) (hb : b.a.length ≤ 9223372036854775807) (hs : s.length ≤ 9223372036854775807) (hbig : ¬ (a.a.length ≤ 100 ∧ b.a.length ≤ 100 ∧ s.length ≤ 100)) :
    Calls Try.prog 4 #[nmc a, nmc b, .string (txt s)] w fun e w' => e = .returned (.bool true) ∧ Fr (fun _ => False) w w' := by
  obtain ⟨g, w1, hg, hw1, hr1, hf1⟩ := new_n w a
  obtain ⟨g2, w2, hg2, hw2, hr2, hf2⟩ := new_n w1 b
  have HA3 := Lib.hid (hr1.fr hf2 (fun h => h))
  have HB3 := Lib.hid hr2
  have HF3 := Lib.hid (hf1.trans hf2 (fun _ _ h => h))
  have HAW := Lib.hid (fun w' => awake17_any w')
  have hsa := txt_sz a.a
  have hsb := txt_sz b.a
  have hss := txt_sz s
  obtain ⟨la, hla⟩ : ∃ l, l = a.a.length := ⟨_, rfl⟩
  obtain ⟨lb, hlb⟩ : ∃ l, l = b.a.length := ⟨_, rfl⟩
  obtain ⟨lc, hlc⟩ : ∃ l, l = s.length := ⟨_, rfl⟩
  rw [← hla] at hsa ha
  rw [← hlb] at hsb hb
  rw [← hlc] at hss hs
  rw [← hla, ← hlb, ← hlc] at hbig
  unfold nmc
  clear hr1 hr2 hf1 hf2 hla hlb hlc
  go_enter Try.func4, Try.ntmps4
  go_wp2_with fail
  clear hw1 hw2 hg hg2
  refine (HAW.out _).mono ?_
  rintro e w4 ⟨rfl, hf⟩
  have HF4 := Lib.hid (HF3.out.trans hf (fun _ _ h => h))
  have HA4 := Lib.hid (HA3.out.fr hf (fun h => h))
  have HB4 := Lib.hid (HB3.out.fr hf (fun h => h))
  clear hf
  obtain ⟨a0, a1⟩ := HA4.out.cells
  obtain ⟨b0, b1⟩ := HB4.out.cells
  by_cases h0 : 100 < la
  · have t0 : decide ((100 : Int) < (la : Int)) = true := decide_eq_true (by omega)
    have t0' : decide (100 < la) = true := decide_eq_true h0
    clear hbig
    go_wp2_with fail
    refine (HAW.out _).mono ?_
    rintro e w8 ⟨rfl, hf⟩
    have HF8 := Lib.hid (HF4.out.trans hf (fun _ _ h => h))
    clear hf a0 a1 b0 b1
    go_wp2_with fail
    go_ret
    exact ⟨rfl, HF8.out⟩
  · have t0 : decide ((100 : Int) < (la : Int)) = false := decide_eq_false (by omega)
    have t0' : decide (100 < la) = false := decide_eq_false h0
    by_cases h1 : 100 < lb
    · have t1 : decide ((100 : Int) < (lb : Int)) = true := decide_eq_true (by omega)
      have t1' : decide (100 < lb) = true := decide_eq_true h1
      clear hbig
      go_wp2_with fail
      refine (HAW.out _).mono ?_
      rintro e w8 ⟨rfl, hf⟩
      have HF8 := Lib.hid (HF4.out.trans hf (fun _ _ h => h))
      clear hf a0 a1 b0 b1
      go_wp2_with fail
      go_ret
      exact ⟨rfl, HF8.out⟩
    · have t1 : decide ((100 : Int) < (lb : Int)) = false := decide_eq_false (by omega)
      have t1' : decide (100 < lb) = false := decide_eq_false h1
      by_cases h2 : 100 < lc
      · have t2 : decide ((100 : Int) < (lc : Int)) = true := decide_eq_true (by omega)
        have t2' : decide (100 < lc) = true := decide_eq_true h2
        clear hbig
        go_wp2_with fail
        refine (HAW.out _).mono ?_
        rintro e w8 ⟨rfl, hf⟩
        have HF8 := Lib.hid (HF4.out.trans hf (fun _ _ h => h))
        clear hf a0 a1 b0 b1
        go_wp2_with fail
        go_ret
        exact ⟨rfl, HF8.out⟩
      · have t2 : decide ((100 : Int) < (lc : Int)) = false := decide_eq_false (by omega)
        have t2' : decide (100 < lc) = false := decide_eq_false h2
        exact absurd hbig (by omega)
set_option maxRecDepth 100000 in
set_option maxHeartbeats 12800000 in
theorem opids_t0 (a b : Nm) (s : List UInt8) (w : World) (ha : a.a.length ≤ 9223372036854775807) (hb : b.a.length ≤ 9223372036854775807) (hs : s.length ≤ 9223372036854775807) (hsm : a.a.length ≤ 100 ∧ b.a.length ≤ 100 ∧ s.length ≤ 100) (hc0 : decide (a.c = 0) = true) (has : actorB s = false) :
    Calls Try.prog 4 #[nmc a, nmc b, .string (txt s)] w fun e w' => e = .returned (.bool true) ∧ Fr (fun _ => False) w w' := by
  obtain ⟨g, w1, hg, hw1, hr1, hf1⟩ := new_n w a
  obtain ⟨g2, w2, hg2, hw2, hr2, hf2⟩ := new_n w1 b
  have HA3 := Lib.hid (hr1.fr hf2 (fun h => h))
  have HB3 := Lib.hid hr2
  have HF3 := Lib.hid (hf1.trans hf2 (fun _ _ h => h))
  have HAW := Lib.hid (fun w' => awake17_any w')
  have hsa := txt_sz a.a
  have hsb := txt_sz b.a
  have hss := txt_sz s
  obtain ⟨la, hla⟩ : ∃ l, l = a.a.length := ⟨_, rfl⟩
  obtain ⟨lb, hlb⟩ : ∃ l, l = b.a.length := ⟨_, rfl⟩
  obtain ⟨lc, hlc⟩ : ∃ l, l = s.length := ⟨_, rfl⟩
  rw [← hla] at hsa ha
  rw [← hlb] at hsb hb
  rw [← hlc] at hss hs
  obtain ⟨n1, n2, n3⟩ := hsm
  have hid := fun w => id_any a w (by omega)
  have hrid := fun w => rid_any a w (by omega)
  have hz := fun w => zero_any a w
  have hcm := fun w => cmp_any a b w
  have hls := fun w => rless_any a b w (by omega) (by omega)
  have hls2 := fun w => rless_any b a w (by omega) (by omega)
  have hrs : ∀ w : World, Calls Try.prog 19 #[.string (txt s)] w fun e w' => e = .returned (.bool (actorB s)) ∧ Fr (fun _ => False) w w' := fun w => (ractor_any s w (by omega)).mono fun e w' h => ⟨h.1, h.2 ▸ Fr.refl _ _⟩
  have hra : ∀ w : World, Calls Try.prog 19 #[.string (txt a.a)] w fun e w' => e = .returned (.bool (actorB a.a)) ∧ Fr (fun _ => False) w w' := fun w => (ractor_any a.a w (by omega)).mono fun e w' h => ⟨h.1, h.2 ▸ Fr.refl _ _⟩
  have hrb : ∀ w : World, Calls Try.prog 19 #[.string (txt b.a)] w fun e w' => e = .returned (.bool (actorB b.a)) ∧ Fr (fun _ => False) w w' := fun w => (ractor_any b.a w (by omega)).mono fun e w' h => ⟨h.1, h.2 ▸ Fr.refl _ _⟩
  have hac0 : ∀ w : World, Calls Try.prog 18 #[.slice none 0 0] w fun e w' => e = .returned (.bool true) ∧ Fr (fun _ => False) w w' := fun w => (actor_any none 0 0 [] w (Rd.nil _ _) (by omega) (by simp)).mono fun e w' h => ⟨h.1, h.2 ▸ Fr.refl _ _⟩
  have hac1 : ∀ (w : World) (q : Nat), Row w q 9 ([s].map strc) → Calls Try.prog 18 #[.slice (some ⟨q, 0, none⟩) 1 1] w fun e w' => e = .returned (.bool (actorB s)) ∧ Fr (fun _ => False) w w' := fun w q hq => (actor_any (some ⟨q, 0, none⟩) 1 1 [s] w (Row.rd hq 0 1 (Nat.le_refl _)) (by omega) (by simp; omega)).mono fun e w' h => ⟨by rw [h.1]; simp [actorsB], h.2 ▸ Fr.refl _ _⟩
  have hac3 : ∀ (w : World) (q : Nat), Row w q 9 ([s, a.a, b.a].map strc) → Calls Try.prog 18 #[.slice (some ⟨q, 0, none⟩) 3 3] w fun e w' => e = .returned (.bool (actorB s && (actorB a.a && actorB b.a))) ∧ Fr (fun _ => False) w w' := fun w q hq => (actor_any (some ⟨q, 0, none⟩) 3 3 [s, a.a, b.a] w (Row.rd hq 0 3 (Nat.le_refl _)) (by omega) (by simp; omega)).mono fun e w' h => ⟨by rw [h.1]; simp [actorsB], h.2 ▸ Fr.refl _ _⟩
  have hways := cmp_ways a b
  obtain ⟨lab, hlab⟩ : ∃ z, lessN a b = z := ⟨_, rfl⟩
  obtain ⟨lba, hlba⟩ : ∃ z, lessN b a = z := ⟨_, rfl⟩
  obtain ⟨p, hp⟩ : ∃ z, cmpN a b = z := ⟨_, rfl⟩
  obtain ⟨i, hi⟩ : ∃ z, idB a = z := ⟨_, rfl⟩
  obtain ⟨z, hze⟩ : ∃ z, zeroB a = z := ⟨_, rfl⟩
  obtain ⟨e, hee⟩ : ∃ z, decide (a.a = []) = z := ⟨_, rfl⟩
  obtain ⟨ab, hab⟩ : ∃ z, actorB b.a = z := ⟨_, rfl⟩
  obtain ⟨aa, haa⟩ : ∃ z, actorB a.a = z := ⟨_, rfl⟩
  rw [hlab, hlba, hp] at hways
  have hzz : z = (decide (a.c = 0) && e) := by rw [← hze, ← hee]; rfl
  rw [hc0] at hzz
  have te := txt_e a.a
  rw [hee] at te
  have te2 : (txt a.a).toList.isEmpty = e := by
    rw [show (txt a.a).toList = a.a from ByteArray.toList_mk _, ← hee]
    cases a.a <;> simp
  have tc0 : (a.c == 0) = true := hc0
  obtain ⟨p0, hp0⟩ : ∃ p0 : Int, (if lab = true then -1 else 0) = p0 := ⟨_, rfl⟩
  have HP : Hid ((lba = true → p = 1) ∧ (lba = false → p = p0)) := Lib.hid (by
    rw [← hp0]
    rcases hways with ⟨h1, _, h2, h3⟩ | ⟨h1, _, h2, h3⟩ | ⟨h1, _, h2, h3⟩ <;> rw [h1, h2, h3] <;> simp)
  have HP0 : Hid ((lab = true → p0 = -1) ∧ (lab = false → p0 = 0)) := Lib.hid (by rw [← hp0]; cases lab <;> simp)
  simp only [hlab] at hls
  simp only [hlba] at hls2
  simp only [hp] at hcm
  simp only [hi] at hid hrid
  simp only [hze] at hz
  simp only [has] at hrs hac1
  simp only [haa] at hra
  simp only [hab] at hrb
  simp only [has, haa, hab, Bool.false_and] at hac3
  unfold nmc at hid hrid hz hcm hls hls2
  have HID := Lib.hid hid
  have HRID := Lib.hid hrid
  have HZ := Lib.hid hz
  have HCM := Lib.hid hcm
  have HLS := Lib.hid hls
  have HLS2 := Lib.hid hls2
  have HRS := Lib.hid hrs
  have HRA := Lib.hid hra
  have HRB := Lib.hid hrb
  have HAC0 := Lib.hid hac0
  have HAC1 := Lib.hid hac1
  have HAC3 := Lib.hid hac3
  have ti : (i == i) = true := by simp
  have tp : (p == p) = true := by simp
  have tab : (ab == ab) = true := by simp
  have tz : (z == e) = true := by rw [hzz]; simp
  have g0 : decide ((100 : Int) < (la : Int)) = false := decide_eq_false (by omega)
  have g0' : decide (100 < la) = false := decide_eq_false (by omega)
  have g1 : decide ((100 : Int) < (lb : Int)) = false := decide_eq_false (by omega)
  have g1' : decide (100 < lb) = false := decide_eq_false (by omega)
  have g2' : decide ((100 : Int) < (lc : Int)) = false := decide_eq_false (by omega)
  have g2'' : decide (100 < lc) = false := decide_eq_false (by omega)
  clear hp0 hid hrid hz hcm hls hls2 hrs hra hrb hac0 hac1 hac3 hways hlab hlba hp hi hze hee hab hzz hc0 has haa n1 n2 n3
  unfold nmc
  clear hr1 hr2 hf1 hf2 hla hlb hlc
  go_enter Try.func4, Try.ntmps4
  go_wp2_with fail
  clear hw1 hw2 hg hg2
  refine (HAW.out _).mono ?_
  rintro e w4 ⟨rfl, hf⟩
  have HF4 := Lib.hid (HF3.out.trans hf (fun _ _ h => h))
  have HA4 := Lib.hid (HA3.out.fr hf (fun h => h))
  have HB4 := Lib.hid (HB3.out.fr hf (fun h => h))
  clear hf
  obtain ⟨a0, a1⟩ := HA4.out.cells
  obtain ⟨b0, b1⟩ := HB4.out.cells
  go_wp2_with fail
  refine (HLS.out _).mono ?_
  rintro e w5 ⟨rfl, hf⟩
  have HF5 := Lib.hid (HF4.out.trans hf (fun _ _ h => h))
  have HA5 := Lib.hid (HA4.out.fr hf (fun h => h))
  have HB5 := Lib.hid (HB4.out.fr hf (fun h => h))
  clear hf a0 a1 b0 b1
  go_upto_if 30 with fail
  go_cut [7] (fun v wx => v = .int .i64 p0 ∧ RowN wx g a ∧ RowN wx g2 b ∧ Fr (fun _ => False) w wx)
  case first =>
    cases lab with
    | true =>
      go_wp2_with fail
      go_meet
      exact ⟨congrArg (Value.int .i64) (by have h := HP0.out.1; simp at h; omega), HA5.out, HB5.out, HF5.out⟩
    | false =>
      go_wp2_with fail
      go_meet
      exact ⟨congrArg (Value.int .i64) (by have h := HP0.out.2; simp at h; omega), HA5.out, HB5.out, HF5.out⟩
  case rest =>
  obtain ⟨rfl, ha6, hb6, hf6⟩ := hcut
  rename World => w6
  have HA6 := Lib.hid ha6
  have HB6 := Lib.hid hb6
  have HF6 := Lib.hid hf6
  clear ha6 hb6 hf6
  obtain ⟨a0, a1⟩ := HA6.out.cells
  obtain ⟨b0, b1⟩ := HB6.out.cells
  go_wp2_with fail
  refine (HLS2.out _).mono ?_
  rintro e w7 ⟨rfl, hf⟩
  have HF7 := Lib.hid (HF6.out.trans hf (fun _ _ h => h))
  have HA7 := Lib.hid (HA6.out.fr hf (fun h => h))
  have HB7 := Lib.hid (HB6.out.fr hf (fun h => h))
  clear hf a0 a1 b0 b1
  go_upto_if 33 with fail
  go_cut [7] (fun v wx => v = .int .i64 p ∧ RowN wx g a ∧ RowN wx g2 b ∧ Fr (fun _ => False) w wx)
  case first =>
    cases lba with
    | true =>
      go_wp2_with fail
      go_meet
      exact ⟨congrArg (Value.int .i64) (by have h := HP.out.1; simp at h; omega), HA7.out, HB7.out, HF7.out⟩
    | false =>
      go_wp2_with fail
      go_meet
      exact ⟨congrArg (Value.int .i64) (by have h := HP.out.2; simp at h; omega), HA7.out, HB7.out, HF7.out⟩
  case rest =>
  obtain ⟨rfl, ha9, hb9, hf9⟩ := hcut
  rename World => w9
  have HA9 := Lib.hid ha9
  have HB9 := Lib.hid hb9
  have HF9 := Lib.hid hf9
  clear ha9 hb9 hf9
  have HA := HA9
  have HB := HB9
  go_upto_region 8 with fail
  have HGc : Hid (Fr (fun _ => False) w9 w9) := Lib.hid (Fr.refl _ _)
  refine wp_region_held_drew (S := fun w' => Fr (fun _ => False) w9 w') (by kernel_rfl) ?_ (fun hHeld => ?_)
  · exact (Fr.refl _ _).drew
  refine wpAnyH_take (i := 0) (v := ?vt16) rfl (by kernel_rfl) (by kernel_rfl) (by kernel_rfl) (fun _ _ _ h => h) (Or.inl ⟨by rfl, ?hyt16⟩) hHeld ?restt16
  case hyt16 => intro w hSw; (try dsimp only at hSw); obtain ⟨c0, c1⟩ := (HA.out.fr (HGc.out.trans hSw (fun _ _ h => h)) (fun h => h)).cells; go_simp; try (with_reducible rfl)
  (try simp only [Act.put, List.setIfInBounds_toArray, List.set_cons_zero, List.set_cons_succ, List.getElem_toArray, List.getElem_cons_zero])
  refine wpAnyH_take (i := 2) (v := ?vt17) rfl (by kernel_rfl) (by kernel_rfl) (by kernel_rfl) (fun _ _ _ h => h) (Or.inl ⟨by rfl, ?hyt17⟩) hHeld ?restt17
  case hyt17 => intro w hSw; (try dsimp only at hSw); obtain ⟨c0, c1⟩ := (HA.out.fr (HGc.out.trans hSw (fun _ _ h => h)) (fun h => h)).cells; go_simp; try (with_reducible rfl)
  (try simp only [Act.put, List.setIfInBounds_toArray, List.set_cons_zero, List.set_cons_succ, List.getElem_toArray, List.getElem_cons_zero, List.getElem_cons_succ])
  refine wpAnyH_ready (rs := [1]) (by kernel_rfl) (by simp) ?_
  refine AllReadyH.cons rfl (fun Kx hKx => ?_) AllReadyH.nil
  go_simp
  have hcon := HID.out (w9.drew)
  with_reducible refine hcon.mono ?_
  clear hcon
  rintro e' v1 ⟨rfl, hff⟩
  have HFn : Hid (Fr (fun _ => False) w9 v1) := Lib.hid ((Fr.refl _ _).drew.trans hff (fun _ _ h => h))
  clear hff
  have HGc := Lib.hid (HGc.out.trans HFn.out (fun _ _ h => h))
  refine hKx.out _ _ ?_ (fun hHeld => ?_)
  · exact HFn.out
  clear hKx Kx
  (try simp only [Act.put, List.setIfInBounds_toArray, List.set_cons_zero, List.set_cons_succ, List.getElem_toArray, List.getElem_cons_zero, List.getElem_cons_succ])
  refine wpAnyH_more (fun w' => Fr (fun _ => False) v1 w') (fun _ h => HFn.out.trans h (fun _ _ h => h)) ?_ (fun hHeld => ?_)
  · exact Fr.refl _ _
  clear HFn
  refine wpAnyH_ready (rs := [3]) (by kernel_rfl) (by simp) ?_
  refine AllReadyH.cons rfl (fun Kx hKx => ?_) AllReadyH.nil
  go_simp
  have hcon := HRID.out (v1)
  with_reducible refine hcon.mono ?_
  clear hcon
  rintro e' v2 ⟨rfl, hff⟩
  have HFn : Hid (Fr (fun _ => False) v1 v2) := Lib.hid (hff)
  clear hff
  have HGc := Lib.hid (HGc.out.trans HFn.out (fun _ _ h => h))
  refine hKx.out _ _ ?_ (fun hHeld => ?_)
  · exact HFn.out
  clear hKx Kx
  (try simp only [Act.put, List.setIfInBounds_toArray, List.set_cons_zero, List.set_cons_succ, List.getElem_toArray, List.getElem_cons_zero, List.getElem_cons_succ])
  refine wpAnyH_more (fun w' => Fr (fun _ => False) v2 w') (fun _ h => HFn.out.trans h (fun _ _ h => h)) ?_ (fun hHeld => ?_)
  · exact Fr.refl _ _
  clear HFn
  refine wpAnyH_take (i := 4) (v := ?vt18) rfl (by kernel_rfl) (by kernel_rfl) (by kernel_rfl) (fun _ _ _ h => h) (Or.inl ⟨by rfl, ?hyt18⟩) hHeld ?restt18
  case hyt18 => intro w hSw; (try dsimp only at hSw); go_simp; try (with_reducible rfl)
  (try simp only [Act.put, List.setIfInBounds_toArray, List.set_cons_zero, List.set_cons_succ, List.getElem_toArray, List.getElem_cons_zero, List.getElem_cons_succ])
  refine wpAnyH_take (i := 5) (v := ?vt19) rfl (by kernel_rfl) (by kernel_rfl) (by kernel_rfl) (fun _ _ _ h => h) (Or.inl ⟨by rfl, ?hyt19⟩) hHeld ?restt19
  case hyt19 => intro w hSw; (try dsimp only at hSw); go_simp; try (with_reducible rfl)
  (try simp only [Act.put, List.setIfInBounds_toArray, List.set_cons_zero, List.set_cons_succ, List.getElem_toArray, List.getElem_cons_zero, List.getElem_cons_succ])
  refine wpAnyH_take (i := 6) (v := ?vt20) rfl (by kernel_rfl) (by kernel_rfl) (by kernel_rfl) (fun _ _ _ h => h) (Or.inl ⟨by rfl, ?hyt20⟩) hHeld ?restt20
  case hyt20 => intro w hSw; (try dsimp only at hSw); obtain ⟨c0, c1⟩ := (HA.out.fr (HGc.out.trans hSw (fun _ _ h => h)) (fun h => h)).cells; go_simp; try (with_reducible rfl)
  (try simp only [Act.put, List.setIfInBounds_toArray, List.set_cons_zero, List.set_cons_succ, List.getElem_toArray, List.getElem_cons_zero, List.getElem_cons_succ])
  refine wpAnyH_take (i := 8) (v := ?vt21) rfl (by kernel_rfl) (by kernel_rfl) (by kernel_rfl) (fun _ _ _ h => h) (Or.inl ⟨by rfl, ?hyt21⟩) hHeld ?restt21
  case hyt21 => intro w hSw; (try dsimp only at hSw); go_simp; try (with_reducible rfl)
  (try simp only [Act.put, List.setIfInBounds_toArray, List.set_cons_zero, List.set_cons_succ, List.getElem_toArray, List.getElem_cons_zero, List.getElem_cons_succ])
  refine wpAnyH_take (i := 9) (v := ?vt22) rfl (by kernel_rfl) (by kernel_rfl) (by kernel_rfl) (fun _ _ _ h => h) (Or.inl ⟨by rfl, ?hyt22⟩) hHeld ?restt22
  case hyt22 => intro w hSw; (try dsimp only at hSw); obtain ⟨c0, c1⟩ := (HA.out.fr (HGc.out.trans hSw (fun _ _ h => h)) (fun h => h)).cells; go_simp; try (with_reducible rfl)
  (try simp only [Act.put, List.setIfInBounds_toArray, List.set_cons_zero, List.set_cons_succ, List.getElem_toArray, List.getElem_cons_zero, List.getElem_cons_succ])
  refine wpAnyH_take (i := 10) (v := ?vt23) rfl (by kernel_rfl) (by kernel_rfl) (by kernel_rfl) (fun _ _ _ h => h) (Or.inl ⟨by rfl, ?hyt23⟩) hHeld ?restt23
  case hyt23 => intro w hSw; (try dsimp only at hSw); go_simp; try (with_reducible rfl)
  (try simp only [Act.put, List.setIfInBounds_toArray, List.set_cons_zero, List.set_cons_succ, List.getElem_toArray, List.getElem_cons_zero, List.getElem_cons_succ])
  refine wpAnyH_ready (rs := [7]) (by kernel_rfl) (by simp) ?_
  refine AllReadyH.cons rfl (fun Kx hKx => ?_) AllReadyH.nil
  go_simp
  have hcon := HZ.out (v2)
  with_reducible refine hcon.mono ?_
  clear hcon
  rintro e' v3 ⟨rfl, hff⟩
  have HFn : Hid (Fr (fun _ => False) v2 v3) := Lib.hid (hff)
  clear hff
  have HGc := Lib.hid (HGc.out.trans HFn.out (fun _ _ h => h))
  refine hKx.out _ _ ?_ (fun hHeld => ?_)
  · exact HFn.out
  clear hKx Kx
  (try simp only [Act.put, List.setIfInBounds_toArray, List.set_cons_zero, List.set_cons_succ, List.getElem_toArray, List.getElem_cons_zero, List.getElem_cons_succ])
  refine wpAnyH_more (fun w' => Fr (fun _ => False) v3 w') (fun _ h => HFn.out.trans h (fun _ _ h => h)) ?_ (fun hHeld => ?_)
  · exact Fr.refl _ _
  clear HFn
  refine wpAnyH_take (i := 11) (v := ?vt24) rfl (by kernel_rfl) (by kernel_rfl) (by kernel_rfl) (fun _ _ _ h => h) (Or.inl ⟨by rfl, ?hyt24⟩) hHeld ?restt24
  case hyt24 => intro w hSw; (try dsimp only at hSw); go_simp; try (with_reducible rfl)
  (try simp only [Act.put, List.setIfInBounds_toArray, List.set_cons_zero, List.set_cons_succ, List.getElem_toArray, List.getElem_cons_zero, List.getElem_cons_succ])
  refine wpAnyH_take (i := 12) (v := ?vt25) rfl (by kernel_rfl) (by kernel_rfl) (by kernel_rfl) (fun _ _ _ h => h) (Or.inl ⟨by rfl, ?hyt25⟩) hHeld ?restt25
  case hyt25 => intro w hSw; (try dsimp only at hSw); go_simp; try (with_reducible rfl)
  (try simp only [Act.put, List.setIfInBounds_toArray, List.set_cons_zero, List.set_cons_succ, List.getElem_toArray, List.getElem_cons_zero, List.getElem_cons_succ])
  refine wpAnyH_take (i := 13) (v := ?vt26) rfl (by kernel_rfl) (by kernel_rfl) (by kernel_rfl) (fun _ _ _ h => h) (Or.inl ⟨by rfl, ?hyt26⟩) hHeld ?restt26
  case hyt26 => intro w hSw; (try dsimp only at hSw); obtain ⟨c0, c1⟩ := (HA.out.fr (HGc.out.trans hSw (fun _ _ h => h)) (fun h => h)).cells; go_simp; try (with_reducible rfl)
  (try simp only [Act.put, List.setIfInBounds_toArray, List.set_cons_zero, List.set_cons_succ, List.getElem_toArray, List.getElem_cons_zero, List.getElem_cons_succ])
  refine wpAnyH_take (i := 14) (v := ?vt27) rfl (by kernel_rfl) (by kernel_rfl) (by kernel_rfl) (fun _ _ _ h => h) (Or.inl ⟨by rfl, ?hyt27⟩) hHeld ?restt27
  case hyt27 => intro w hSw; (try dsimp only at hSw); go_simp; try (with_reducible rfl)
  (try simp only [Act.put, List.setIfInBounds_toArray, List.set_cons_zero, List.set_cons_succ, List.getElem_toArray, List.getElem_cons_zero, List.getElem_cons_succ])
  refine wpAnyH_take (i := 15) (v := ?vt28) rfl (by kernel_rfl) (by kernel_rfl) (by kernel_rfl) (fun _ _ _ h => h) (Or.inl ⟨by rfl, ?hyt28⟩) hHeld ?restt28
  case hyt28 => intro w hSw; (try dsimp only at hSw); go_simp; try (with_reducible rfl)
  (try simp only [Act.put, List.setIfInBounds_toArray, List.set_cons_zero, List.set_cons_succ, List.getElem_toArray, List.getElem_cons_zero, List.getElem_cons_succ])
  refine wpAnyH_take (i := 16) (v := ?vt29) rfl (by kernel_rfl) (by kernel_rfl) (by kernel_rfl) (fun _ _ _ h => h) (Or.inl ⟨by rfl, ?hyt29⟩) hHeld ?restt29
  case hyt29 => intro w hSw; (try dsimp only at hSw); go_simp; try (with_reducible rfl)
  (try simp only [Act.put, List.setIfInBounds_toArray, List.set_cons_zero, List.set_cons_succ, List.getElem_toArray, List.getElem_cons_zero, List.getElem_cons_succ])
  refine wpAnyH_take (i := 17) (v := ?vt30) rfl (by kernel_rfl) (by kernel_rfl) (by kernel_rfl) (fun _ _ _ h => h) (Or.inl ⟨by rfl, ?hyt30⟩) hHeld ?restt30
  case hyt30 => intro w hSw; (try dsimp only at hSw); go_simp; try (with_reducible rfl)
  (try simp only [Act.put, List.setIfInBounds_toArray, List.set_cons_zero, List.set_cons_succ, List.getElem_toArray, List.getElem_cons_zero, List.getElem_cons_succ])
  refine wpAnyH_take (i := 18) (v := ?vt31) rfl (by kernel_rfl) (by kernel_rfl) (by kernel_rfl) (fun _ _ _ h => h) (Or.inl ⟨by rfl, ?hyt31⟩) hHeld ?restt31
  case hyt31 => intro w hSw; (try dsimp only at hSw); go_simp; try (with_reducible rfl)
  (try simp only [Act.put, List.setIfInBounds_toArray, List.set_cons_zero, List.set_cons_succ, List.getElem_toArray, List.getElem_cons_zero, List.getElem_cons_succ])
  refine wpAnyH_take (i := 19) (v := ?vt32) rfl (by kernel_rfl) (by kernel_rfl) (by kernel_rfl) (fun _ _ _ h => h) (Or.inl ⟨by rfl, ?hyt32⟩) hHeld ?restt32
  case hyt32 => intro w hSw; (try dsimp only at hSw); obtain ⟨c0, c1⟩ := (HA.out.fr (HGc.out.trans hSw (fun _ _ h => h)) (fun h => h)).cells; go_simp; try (with_reducible rfl)
  (try simp only [Act.put, List.setIfInBounds_toArray, List.set_cons_zero, List.set_cons_succ, List.getElem_toArray, List.getElem_cons_zero, List.getElem_cons_succ])
  refine wpAnyH_take (i := 20) (v := ?vt33) rfl (by kernel_rfl) (by kernel_rfl) (by kernel_rfl) (fun _ _ _ h => h) (Or.inl ⟨by rfl, ?hyt33⟩) hHeld ?restt33
  case hyt33 => intro w hSw; (try dsimp only at hSw); obtain ⟨c0, c1⟩ := (HB.out.fr (HGc.out.trans hSw (fun _ _ h => h)) (fun h => h)).cells; go_simp; try (with_reducible rfl)
  (try simp only [Act.put, List.setIfInBounds_toArray, List.set_cons_zero, List.set_cons_succ, List.getElem_toArray, List.getElem_cons_zero, List.getElem_cons_succ])
  refine wpAnyH_take (i := 22) (v := ?vt34) rfl (by kernel_rfl) (by kernel_rfl) (by kernel_rfl) (fun _ _ _ h => h) (Or.inl ⟨by rfl, ?hyt34⟩) hHeld ?restt34
  case hyt34 => intro w hSw; (try dsimp only at hSw); go_simp; try (with_reducible rfl)
  (try simp only [Act.put, List.setIfInBounds_toArray, List.set_cons_zero, List.set_cons_succ, List.getElem_toArray, List.getElem_cons_zero, List.getElem_cons_succ])
  refine wpAnyH_ready (rs := [21]) (by kernel_rfl) (by simp) ?_
  refine AllReadyH.cons rfl (fun Kx hKx => ?_) AllReadyH.nil
  go_simp
  have hcon := HCM.out (v3)
  with_reducible refine hcon.mono ?_
  clear hcon
  rintro e' v4 ⟨rfl, hff⟩
  have HFn : Hid (Fr (fun _ => False) v3 v4) := Lib.hid (hff)
  clear hff
  have HGc := Lib.hid (HGc.out.trans HFn.out (fun _ _ h => h))
  refine hKx.out _ _ ?_ (fun hHeld => ?_)
  · exact HFn.out
  clear hKx Kx
  (try simp only [Act.put, List.setIfInBounds_toArray, List.set_cons_zero, List.set_cons_succ, List.getElem_toArray, List.getElem_cons_zero, List.getElem_cons_succ])
  refine wpAnyH_more (fun w' => Fr (fun _ => False) v4 w') (fun _ h => HFn.out.trans h (fun _ _ h => h)) ?_ (fun hHeld => ?_)
  · exact Fr.refl _ _
  clear HFn
  refine wpAnyH_take (i := 23) (v := ?vt35) rfl (by kernel_rfl) (by kernel_rfl) (by kernel_rfl) (fun _ _ _ h => h) (Or.inl ⟨by rfl, ?hyt35⟩) hHeld ?restt35
  case hyt35 => intro w hSw; (try dsimp only at hSw); go_simp; try (with_reducible rfl)
  (try simp only [Act.put, List.setIfInBounds_toArray, List.set_cons_zero, List.set_cons_succ, List.getElem_toArray, List.getElem_cons_zero, List.getElem_cons_succ])
  refine wpAnyH_take (i := 24) (v := ?vt36) rfl (by kernel_rfl) (by kernel_rfl) (by kernel_rfl) (fun _ _ _ h => h) (Or.inl ⟨by rfl, ?hyt36⟩) hHeld ?restt36
  case hyt36 => intro w hSw; (try dsimp only at hSw); go_simp; try (with_reducible rfl)
  (try simp only [Act.put, List.setIfInBounds_toArray, List.set_cons_zero, List.set_cons_succ, List.getElem_toArray, List.getElem_cons_zero, List.getElem_cons_succ])
  refine wpAnyH_take (i := 25) (v := ?vt37) rfl (by kernel_rfl) (by kernel_rfl) (by kernel_rfl) (fun _ _ _ h => h) (Or.inl ⟨by rfl, ?hyt37⟩) hHeld ?restt37
  case hyt37 => intro w hSw; (try dsimp only at hSw); go_simp; try (with_reducible rfl)
  (try simp only [Act.put, List.setIfInBounds_toArray, List.set_cons_zero, List.set_cons_succ, List.getElem_toArray, List.getElem_cons_zero, List.getElem_cons_succ])
  refine wpAnyH_take (i := 26) (v := ?vt38) rfl (by kernel_rfl) (by kernel_rfl) (by kernel_rfl) (fun _ _ _ h => h) (Or.inl ⟨by rfl, ?hyt38⟩) hHeld ?restt38
  case hyt38 => intro w hSw; (try dsimp only at hSw); go_simp; try (with_reducible rfl)
  (try simp only [Act.put, List.setIfInBounds_toArray, List.set_cons_zero, List.set_cons_succ, List.getElem_toArray, List.getElem_cons_zero, List.getElem_cons_succ])
  refine wpAnyH_take (i := 29) (v := ?vt39) rfl (by kernel_rfl) (by kernel_rfl) (by kernel_rfl) (fun _ _ _ h => h) (Or.inl ⟨by rfl, ?hyt39⟩) hHeld ?restt39
  case hyt39 => intro w hSw; (try dsimp only at hSw); go_simp; try (with_reducible rfl)
  (try simp only [Act.put, List.setIfInBounds_toArray, List.set_cons_zero, List.set_cons_succ, List.getElem_toArray, List.getElem_cons_zero, List.getElem_cons_succ])
  refine wpAnyH_ready (rs := [27]) (by kernel_rfl) (by simp) ?_
  refine AllReadyH.cons rfl (fun Kx hKx => ?_) AllReadyH.nil
  go_simp
  obtain ⟨v5, hwm⟩ : ∃ v, (v4.alloc (.cells #[.string (txt s)] 9)) = v := ⟨_, rfl⟩
  rw [hwm]
  obtain ⟨q27, hqm⟩ : ∃ q, v4.heap.size = q := ⟨_, rfl⟩
  try rw [hqm]
  have HFn : Hid (Fr (fun _ => False) v4 v5) := Lib.hid (by rw [← hwm]; exact ((Fr.refl _ _).alloc _))
  have hbm : Row v5 q27 9 ([s].map strc) := by rw [← hwm, ← hqm]; exact Row.new v4 _ _
  have HB27 := Lib.hid hbm
  clear hwm hqm hbm
  have HGc := Lib.hid (HGc.out.trans HFn.out (fun _ _ h => h))
  refine hKx.out _ _ ?_ (fun hHeld => ?_)
  · exact HFn.out
  clear hKx Kx
  (try simp only [Act.put, List.setIfInBounds_toArray, List.set_cons_zero, List.set_cons_succ, List.getElem_toArray, List.getElem_cons_zero, List.getElem_cons_succ])
  refine wpAnyH_more (fun w' => Fr (fun _ => False) v5 w') (fun _ h => HFn.out.trans h (fun _ _ h => h)) ?_ (fun hHeld => ?_)
  · exact Fr.refl _ _
  clear HFn
  refine wpAnyH_ready (rs := [28]) (by kernel_rfl) (by simp) ?_
  refine AllReadyH.cons rfl (fun Kx hKx => ?_) AllReadyH.nil
  go_simp
  have hcon := HAC1.out (v5) q27 HB27.out
  with_reducible refine hcon.mono ?_
  clear hcon
  rintro e' v6 ⟨rfl, hff⟩
  have HFn : Hid (Fr (fun _ => False) v5 v6) := Lib.hid (hff)
  clear hff
  have HB27 := Lib.hid (HB27.out.fr HFn.out (fun h => h))
  have HGc := Lib.hid (HGc.out.trans HFn.out (fun _ _ h => h))
  refine hKx.out _ _ ?_ (fun hHeld => ?_)
  · exact HFn.out
  clear hKx Kx
  (try simp only [Act.put, List.setIfInBounds_toArray, List.set_cons_zero, List.set_cons_succ, List.getElem_toArray, List.getElem_cons_zero, List.getElem_cons_succ])
  refine wpAnyH_more (fun w' => Fr (fun _ => False) v6 w') (fun _ h => HFn.out.trans h (fun _ _ h => h)) ?_ (fun hHeld => ?_)
  · exact Fr.refl _ _
  clear HFn
  refine wpAnyH_ready (rs := [30]) (by kernel_rfl) (by simp) ?_
  refine AllReadyH.cons rfl (fun Kx hKx => ?_) AllReadyH.nil
  go_simp
  have hcon := HRS.out (v6)
  with_reducible refine hcon.mono ?_
  clear hcon
  rintro e' v7 ⟨rfl, hff⟩
  have HFn : Hid (Fr (fun _ => False) v6 v7) := Lib.hid (hff)
  clear hff
  have HB27 := Lib.hid (HB27.out.fr HFn.out (fun h => h))
  have HGc := Lib.hid (HGc.out.trans HFn.out (fun _ _ h => h))
  refine hKx.out _ _ ?_ (fun hHeld => ?_)
  · exact HFn.out
  clear hKx Kx
  (try simp only [Act.put, List.setIfInBounds_toArray, List.set_cons_zero, List.set_cons_succ, List.getElem_toArray, List.getElem_cons_zero, List.getElem_cons_succ])
  refine wpAnyH_more (fun w' => Fr (fun _ => False) v7 w') (fun _ h => HFn.out.trans h (fun _ _ h => h)) ?_ (fun hHeld => ?_)
  · exact Fr.refl _ _
  clear HFn
  refine wpAnyH_take (i := 31) (v := ?vt40) rfl (by kernel_rfl) (by kernel_rfl) (by kernel_rfl) (fun _ _ _ h => h) (Or.inl ⟨by rfl, ?hyt40⟩) hHeld ?restt40
  case hyt40 => intro w hSw; (try dsimp only at hSw); go_simp; try (with_reducible rfl)
  (try simp only [Act.put, List.setIfInBounds_toArray, List.set_cons_zero, List.set_cons_succ, List.getElem_toArray, List.getElem_cons_zero, List.getElem_cons_succ])
  refine wpAnyH_take (i := 32) (v := ?vt41) rfl (by kernel_rfl) (by kernel_rfl) (by kernel_rfl) (fun _ _ _ h => h) (Or.inl ⟨by rfl, ?hyt41⟩) hHeld ?restt41
  case hyt41 => intro w hSw; (try dsimp only at hSw); go_simp; try (with_reducible rfl)
  (try simp only [Act.put, List.setIfInBounds_toArray, List.set_cons_zero, List.set_cons_succ, List.getElem_toArray, List.getElem_cons_zero, List.getElem_cons_succ])
  refine wpAnyH_take (i := 33) (v := ?vt42) rfl (by kernel_rfl) (by kernel_rfl) (by kernel_rfl) (fun _ _ _ h => h) (Or.inl ⟨by rfl, ?hyt42⟩) hHeld ?restt42
  case hyt42 => intro w hSw; (try dsimp only at hSw); go_simp; try (with_reducible rfl)
  (try simp only [Act.put, List.setIfInBounds_toArray, List.set_cons_zero, List.set_cons_succ, List.getElem_toArray, List.getElem_cons_zero, List.getElem_cons_succ])
  refine wpAnyH_take (i := 34) (v := ?vt43) rfl (by kernel_rfl) (by kernel_rfl) (by kernel_rfl) (fun _ _ _ h => h) (Or.inl ⟨by rfl, ?hyt43⟩) hHeld ?restt43
  case hyt43 => intro w hSw; (try dsimp only at hSw); go_simp; try (with_reducible rfl)
  (try simp only [Act.put, List.setIfInBounds_toArray, List.set_cons_zero, List.set_cons_succ, List.getElem_toArray, List.getElem_cons_zero, List.getElem_cons_succ])
  refine wpAnyH_take (i := 35) (v := ?vt44) rfl (by kernel_rfl) (by kernel_rfl) (by kernel_rfl) (fun _ _ _ h => h) (Or.inl ⟨by rfl, ?hyt44⟩) hHeld ?restt44
  case hyt44 => intro w hSw; (try dsimp only at hSw); go_simp; try (with_reducible rfl)
  (try simp only [Act.put, List.setIfInBounds_toArray, List.set_cons_zero, List.set_cons_succ, List.getElem_toArray, List.getElem_cons_zero, List.getElem_cons_succ])
  refine wpAnyH_take (i := 36) (v := ?vt45) rfl (by kernel_rfl) (by kernel_rfl) (by kernel_rfl) (fun _ _ _ h => h) (Or.inl ⟨by rfl, ?hyt45⟩) hHeld ?restt45
  case hyt45 => intro w hSw; (try dsimp only at hSw); obtain ⟨c0, c1⟩ := (HA.out.fr (HGc.out.trans hSw (fun _ _ h => h)) (fun h => h)).cells; go_simp; try (with_reducible rfl)
  (try simp only [Act.put, List.setIfInBounds_toArray, List.set_cons_zero, List.set_cons_succ, List.getElem_toArray, List.getElem_cons_zero, List.getElem_cons_succ])
  refine wpAnyH_take (i := 37) (v := ?vt46) rfl (by kernel_rfl) (by kernel_rfl) (by kernel_rfl) (fun _ _ _ h => h) (Or.inl ⟨by rfl, ?hyt46⟩) hHeld ?restt46
  case hyt46 => intro w hSw; (try dsimp only at hSw); go_simp; try (with_reducible rfl)
  (try simp only [Act.put, List.setIfInBounds_toArray, List.set_cons_zero, List.set_cons_succ, List.getElem_toArray, List.getElem_cons_zero, List.getElem_cons_succ])
  refine wpAnyH_take (i := 38) (v := ?vt47) rfl (by kernel_rfl) (by kernel_rfl) (by kernel_rfl) (fun _ _ _ h => h) (Or.inl ⟨by rfl, ?hyt47⟩) hHeld ?restt47
  case hyt47 => intro w hSw; (try dsimp only at hSw); obtain ⟨c0, c1⟩ := (HB.out.fr (HGc.out.trans hSw (fun _ _ h => h)) (fun h => h)).cells; go_simp; try (with_reducible rfl)
  (try simp only [Act.put, List.setIfInBounds_toArray, List.set_cons_zero, List.set_cons_succ, List.getElem_toArray, List.getElem_cons_zero, List.getElem_cons_succ])
  refine wpAnyH_take (i := 41) (v := ?vt48) rfl (by kernel_rfl) (by kernel_rfl) (by kernel_rfl) (fun _ _ _ h => h) (Or.inl ⟨by rfl, ?hyt48⟩) hHeld ?restt48
  case hyt48 => intro w hSw; (try dsimp only at hSw); go_simp; try (with_reducible rfl)
  (try simp only [Act.put, List.setIfInBounds_toArray, List.set_cons_zero, List.set_cons_succ, List.getElem_toArray, List.getElem_cons_zero, List.getElem_cons_succ])
  refine wpAnyH_ready (rs := [39]) (by kernel_rfl) (by simp) ?_
  refine AllReadyH.cons rfl (fun Kx hKx => ?_) AllReadyH.nil
  go_simp
  obtain ⟨v8, hwm⟩ : ∃ v, (v7.alloc (.cells #[.string (txt s), .string (txt a.a), .string (txt b.a)] 9)) = v := ⟨_, rfl⟩
  rw [hwm]
  obtain ⟨q39, hqm⟩ : ∃ q, v7.heap.size = q := ⟨_, rfl⟩
  try rw [hqm]
  have HFn : Hid (Fr (fun _ => False) v7 v8) := Lib.hid (by rw [← hwm]; exact ((Fr.refl _ _).alloc _))
  have hbm : Row v8 q39 9 ([s, a.a, b.a].map strc) := by rw [← hwm, ← hqm]; exact Row.new v7 _ _
  have HB39 := Lib.hid hbm
  clear hwm hqm hbm
  have HB27 := Lib.hid (HB27.out.fr HFn.out (fun h => h))
  have HGc := Lib.hid (HGc.out.trans HFn.out (fun _ _ h => h))
  refine hKx.out _ _ ?_ (fun hHeld => ?_)
  · exact HFn.out
  clear hKx Kx
  (try simp only [Act.put, List.setIfInBounds_toArray, List.set_cons_zero, List.set_cons_succ, List.getElem_toArray, List.getElem_cons_zero, List.getElem_cons_succ])
  refine wpAnyH_more (fun w' => Fr (fun _ => False) v8 w') (fun _ h => HFn.out.trans h (fun _ _ h => h)) ?_ (fun hHeld => ?_)
  · exact Fr.refl _ _
  clear HFn
  refine wpAnyH_ready (rs := [40]) (by kernel_rfl) (by simp) ?_
  refine AllReadyH.cons rfl (fun Kx hKx => ?_) AllReadyH.nil
  go_simp
  have hcon := HAC3.out (v8) q39 HB39.out
  with_reducible refine hcon.mono ?_
  clear hcon
  rintro e' v9 ⟨rfl, hff⟩
  have HFn : Hid (Fr (fun _ => False) v8 v9) := Lib.hid (hff)
  clear hff
  have HB27 := Lib.hid (HB27.out.fr HFn.out (fun h => h))
  have HB39 := Lib.hid (HB39.out.fr HFn.out (fun h => h))
  have HGc := Lib.hid (HGc.out.trans HFn.out (fun _ _ h => h))
  refine hKx.out _ _ ?_ (fun hHeld => ?_)
  · exact HFn.out
  clear hKx Kx
  (try simp only [Act.put, List.setIfInBounds_toArray, List.set_cons_zero, List.set_cons_succ, List.getElem_toArray, List.getElem_cons_zero, List.getElem_cons_succ])
  refine wpAnyH_more (fun w' => Fr (fun _ => False) v9 w') (fun _ h => HFn.out.trans h (fun _ _ h => h)) ?_ (fun hHeld => ?_)
  · exact Fr.refl _ _
  clear HFn
  refine wpAnyH_ready (rs := [42]) (by kernel_rfl) (by simp) ?_
  refine AllReadyH.cons rfl (fun Kx hKx => ?_) AllReadyH.nil
  go_simp
  have hcon := HRS.out (v9)
  with_reducible refine hcon.mono ?_
  clear hcon
  rintro e' v10 ⟨rfl, hff⟩
  have HFn : Hid (Fr (fun _ => False) v9 v10) := Lib.hid (hff)
  clear hff
  have HB27 := Lib.hid (HB27.out.fr HFn.out (fun h => h))
  have HB39 := Lib.hid (HB39.out.fr HFn.out (fun h => h))
  have HGc := Lib.hid (HGc.out.trans HFn.out (fun _ _ h => h))
  refine hKx.out _ _ ?_ (fun hHeld => ?_)
  · exact HFn.out
  clear hKx Kx
  (try simp only [Act.put, List.setIfInBounds_toArray, List.set_cons_zero, List.set_cons_succ, List.getElem_toArray, List.getElem_cons_zero, List.getElem_cons_succ])
  refine wpAnyH_more (fun w' => Fr (fun _ => False) v10 w') (fun _ h => HFn.out.trans h (fun _ _ h => h)) ?_ (fun hHeld => ?_)
  · exact Fr.refl _ _
  clear HFn
  refine wpAnyH_take (i := 43) (v := ?vt49) rfl (by kernel_rfl) (by kernel_rfl) (by kernel_rfl) (fun _ _ _ h => h) (Or.inl ⟨by rfl, ?hyt49⟩) hHeld ?restt49
  case hyt49 => intro w hSw; (try dsimp only at hSw); go_simp; try (with_reducible rfl)
  (try simp only [Act.put, List.setIfInBounds_toArray, List.set_cons_zero, List.set_cons_succ, List.getElem_toArray, List.getElem_cons_zero, List.getElem_cons_succ])
  refine wpAnyH_take (i := 44) (v := undef) rfl (by kernel_rfl) (by kernel_rfl) (by kernel_rfl) (fun _ _ _ h => h) (Or.inr ⟨by rfl, rfl⟩) hHeld ?_
  (try simp only [Act.put, List.setIfInBounds_toArray, List.set_cons_zero, List.set_cons_succ, List.getElem_toArray, List.getElem_cons_zero, List.getElem_cons_succ])
  refine wpAnyH_take (i := 45) (v := undef) rfl (by kernel_rfl) (by kernel_rfl) (by kernel_rfl) (fun _ _ _ h => h) (Or.inr ⟨by rfl, rfl⟩) hHeld ?_
  (try simp only [Act.put, List.setIfInBounds_toArray, List.set_cons_zero, List.set_cons_succ, List.getElem_toArray, List.getElem_cons_zero, List.getElem_cons_succ])
  refine wpAnyH_take (i := 46) (v := undef) rfl (by kernel_rfl) (by kernel_rfl) (by kernel_rfl) (fun _ _ _ h => h) (Or.inr ⟨by rfl, rfl⟩) hHeld ?_
  (try simp only [Act.put, List.setIfInBounds_toArray, List.set_cons_zero, List.set_cons_succ, List.getElem_toArray, List.getElem_cons_zero, List.getElem_cons_succ])
  refine wpAnyH_take (i := 47) (v := ?vt53) rfl (by kernel_rfl) (by kernel_rfl) (by kernel_rfl) (fun _ _ _ h => h) (Or.inl ⟨by rfl, ?hyt53⟩) hHeld ?restt53
  case hyt53 => intro w hSw; (try dsimp only at hSw); go_simp; try (with_reducible rfl)
  (try simp only [Act.put, List.setIfInBounds_toArray, List.set_cons_zero, List.set_cons_succ, List.getElem_toArray, List.getElem_cons_zero, List.getElem_cons_succ])
  refine wpAnyH_take (i := 48) (v := ?vt54) rfl (by kernel_rfl) (by kernel_rfl) (by kernel_rfl) (fun _ _ _ h => h) (Or.inl ⟨by rfl, ?hyt54⟩) hHeld ?restt54
  case hyt54 => intro w hSw; (try dsimp only at hSw); go_simp; try (with_reducible rfl)
  (try simp only [Act.put, List.setIfInBounds_toArray, List.set_cons_zero, List.set_cons_succ, List.getElem_toArray, List.getElem_cons_zero, List.getElem_cons_succ])
  refine wpAnyH_take (i := 49) (v := undef) rfl (by kernel_rfl) (by kernel_rfl) (by kernel_rfl) (fun _ _ _ h => h) (Or.inr ⟨by rfl, rfl⟩) hHeld ?_
  (try simp only [Act.put, List.setIfInBounds_toArray, List.set_cons_zero, List.set_cons_succ, List.getElem_toArray, List.getElem_cons_zero, List.getElem_cons_succ])
  refine wpAnyH_take (i := 50) (v := undef) rfl (by kernel_rfl) (by kernel_rfl) (by kernel_rfl) (fun _ _ _ h => h) (Or.inr ⟨by rfl, rfl⟩) hHeld ?_
  (try simp only [Act.put, List.setIfInBounds_toArray, List.set_cons_zero, List.set_cons_succ, List.getElem_toArray, List.getElem_cons_zero, List.getElem_cons_succ])
  refine wpAnyH_take (i := 51) (v := undef) rfl (by kernel_rfl) (by kernel_rfl) (by kernel_rfl) (fun _ _ _ h => h) (Or.inr ⟨by rfl, rfl⟩) hHeld ?_
  (try simp only [Act.put, List.setIfInBounds_toArray, List.set_cons_zero, List.set_cons_succ, List.getElem_toArray, List.getElem_cons_zero, List.getElem_cons_succ])
  refine wpAnyH_take (i := 52) (v := ?vt58) rfl (by kernel_rfl) (by kernel_rfl) (by kernel_rfl) (fun _ _ _ h => h) (Or.inl ⟨by rfl, ?hyt58⟩) hHeld ?restt58
  case hyt58 => intro w hSw; (try dsimp only at hSw); go_simp; try (with_reducible rfl)
  (try simp only [Act.put, List.setIfInBounds_toArray, List.set_cons_zero, List.set_cons_succ, List.getElem_toArray, List.getElem_cons_zero, List.getElem_cons_succ])
  refine wpAnyH_take (i := 53) (v := ?vt59) rfl (by kernel_rfl) (by kernel_rfl) (by kernel_rfl) (fun _ _ _ h => h) (Or.inl ⟨by rfl, ?hyt59⟩) hHeld ?restt59
  case hyt59 => intro w hSw; (try dsimp only at hSw); go_simp; try (with_reducible rfl)
  (try simp only [Act.put, List.setIfInBounds_toArray, List.set_cons_zero, List.set_cons_succ, List.getElem_toArray, List.getElem_cons_zero, List.getElem_cons_succ])
  refine wpAnyH_take (i := 54) (v := ?vt60) rfl (by kernel_rfl) (by kernel_rfl) (by kernel_rfl) (fun _ _ _ h => h) (Or.inl ⟨by rfl, ?hyt60⟩) hHeld ?restt60
  case hyt60 => intro w hSw; (try dsimp only at hSw); go_simp; try (with_reducible rfl)
  (try simp only [Act.put, List.setIfInBounds_toArray, List.set_cons_zero, List.set_cons_succ, List.getElem_toArray, List.getElem_cons_zero, List.getElem_cons_succ])
  refine wpAnyH_take (i := 55) (v := ?vt61) rfl (by kernel_rfl) (by kernel_rfl) (by kernel_rfl) (fun _ _ _ h => h) (Or.inl ⟨by rfl, ?hyt61⟩) hHeld ?restt61
  case hyt61 => intro w hSw; (try dsimp only at hSw); go_simp; try (with_reducible rfl)
  (try simp only [Act.put, List.setIfInBounds_toArray, List.set_cons_zero, List.set_cons_succ, List.getElem_toArray, List.getElem_cons_zero, List.getElem_cons_succ])
  refine wpAnyH_ready (rs := [56]) (by kernel_rfl) (by simp) ?_
  refine AllReadyH.cons rfl (fun Kx hKx => ?_) AllReadyH.nil
  go_simp
  have hcon := HAC0.out (v10)
  with_reducible refine hcon.mono ?_
  clear hcon
  rintro e' v11 ⟨rfl, hff⟩
  have HFn : Hid (Fr (fun _ => False) v10 v11) := Lib.hid (hff)
  clear hff
  have HB27 := Lib.hid (HB27.out.fr HFn.out (fun h => h))
  have HB39 := Lib.hid (HB39.out.fr HFn.out (fun h => h))
  have HGc := Lib.hid (HGc.out.trans HFn.out (fun _ _ h => h))
  refine hKx.out _ _ ?_ (fun hHeld => ?_)
  · exact HFn.out
  clear hKx Kx
  (try simp only [Act.put, List.setIfInBounds_toArray, List.set_cons_zero, List.set_cons_succ, List.getElem_toArray, List.getElem_cons_zero, List.getElem_cons_succ])
  refine wpAnyH_more (fun w' => Fr (fun _ => False) v11 w') (fun _ h => HFn.out.trans h (fun _ _ h => h)) ?_ (fun hHeld => ?_)
  · exact Fr.refl _ _
  clear HFn
  refine wpAnyH_take (i := 57) (v := ?vt62) rfl (by kernel_rfl) (by kernel_rfl) (by kernel_rfl) (fun _ _ _ h => h) (Or.inl ⟨by rfl, ?hyt62⟩) hHeld ?restt62
  case hyt62 => intro w hSw; (try dsimp only at hSw); go_simp; try (with_reducible rfl)
  (try simp only [Act.put, List.setIfInBounds_toArray, List.set_cons_zero, List.set_cons_succ, List.getElem_toArray, List.getElem_cons_zero, List.getElem_cons_succ])
  refine wpAnyH_take (i := 58) (v := ?vt63) rfl (by kernel_rfl) (by kernel_rfl) (by kernel_rfl) (fun _ _ _ h => h) (Or.inl ⟨by rfl, ?hyt63⟩) hHeld ?restt63
  case hyt63 => intro w hSw; (try dsimp only at hSw); go_simp; try (with_reducible rfl)
  (try simp only [Act.put, List.setIfInBounds_toArray, List.set_cons_zero, List.set_cons_succ, List.getElem_toArray, List.getElem_cons_zero, List.getElem_cons_succ])
  refine wpAnyH_done (by kernel_rfl) ?_ _
  go_wp2_with fail
  go_ret
  exact ⟨rfl, HF9.out.trans HGc.out (fun _ _ h => h)⟩
set_option maxRecDepth 100000 in
set_option maxHeartbeats 12800000 in
theorem opids_t1 (a b : Nm) (s : List UInt8) (w : World) (ha : a.a.length ≤ 9223372036854775807) (hb : b.a.length ≤ 9223372036854775807) (hs : s.length ≤ 9223372036854775807) (hsm : a.a.length ≤ 100 ∧ b.a.length ≤ 100 ∧ s.length ≤ 100) (hc0 : decide (a.c = 0) = true) (has : actorB s = true) (haa : actorB a.a = false) :
    Calls Try.prog 4 #[nmc a, nmc b, .string (txt s)] w fun e w' => e = .returned (.bool true) ∧ Fr (fun _ => False) w w' := by
  obtain ⟨g, w1, hg, hw1, hr1, hf1⟩ := new_n w a
  obtain ⟨g2, w2, hg2, hw2, hr2, hf2⟩ := new_n w1 b
  have HA3 := Lib.hid (hr1.fr hf2 (fun h => h))
  have HB3 := Lib.hid hr2
  have HF3 := Lib.hid (hf1.trans hf2 (fun _ _ h => h))
  have HAW := Lib.hid (fun w' => awake17_any w')
  have hsa := txt_sz a.a
  have hsb := txt_sz b.a
  have hss := txt_sz s
  obtain ⟨la, hla⟩ : ∃ l, l = a.a.length := ⟨_, rfl⟩
  obtain ⟨lb, hlb⟩ : ∃ l, l = b.a.length := ⟨_, rfl⟩
  obtain ⟨lc, hlc⟩ : ∃ l, l = s.length := ⟨_, rfl⟩
  rw [← hla] at hsa ha
  rw [← hlb] at hsb hb
  rw [← hlc] at hss hs
  obtain ⟨n1, n2, n3⟩ := hsm
  have hid := fun w => id_any a w (by omega)
  have hrid := fun w => rid_any a w (by omega)
  have hz := fun w => zero_any a w
  have hcm := fun w => cmp_any a b w
  have hls := fun w => rless_any a b w (by omega) (by omega)
  have hls2 := fun w => rless_any b a w (by omega) (by omega)
  have hrs : ∀ w : World, Calls Try.prog 19 #[.string (txt s)] w fun e w' => e = .returned (.bool (actorB s)) ∧ Fr (fun _ => False) w w' := fun w => (ractor_any s w (by omega)).mono fun e w' h => ⟨h.1, h.2 ▸ Fr.refl _ _⟩
  have hra : ∀ w : World, Calls Try.prog 19 #[.string (txt a.a)] w fun e w' => e = .returned (.bool (actorB a.a)) ∧ Fr (fun _ => False) w w' := fun w => (ractor_any a.a w (by omega)).mono fun e w' h => ⟨h.1, h.2 ▸ Fr.refl _ _⟩
  have hrb : ∀ w : World, Calls Try.prog 19 #[.string (txt b.a)] w fun e w' => e = .returned (.bool (actorB b.a)) ∧ Fr (fun _ => False) w w' := fun w => (ractor_any b.a w (by omega)).mono fun e w' h => ⟨h.1, h.2 ▸ Fr.refl _ _⟩
  have hac0 : ∀ w : World, Calls Try.prog 18 #[.slice none 0 0] w fun e w' => e = .returned (.bool true) ∧ Fr (fun _ => False) w w' := fun w => (actor_any none 0 0 [] w (Rd.nil _ _) (by omega) (by simp)).mono fun e w' h => ⟨h.1, h.2 ▸ Fr.refl _ _⟩
  have hac1 : ∀ (w : World) (q : Nat), Row w q 9 ([s].map strc) → Calls Try.prog 18 #[.slice (some ⟨q, 0, none⟩) 1 1] w fun e w' => e = .returned (.bool (actorB s)) ∧ Fr (fun _ => False) w w' := fun w q hq => (actor_any (some ⟨q, 0, none⟩) 1 1 [s] w (Row.rd hq 0 1 (Nat.le_refl _)) (by omega) (by simp; omega)).mono fun e w' h => ⟨by rw [h.1]; simp [actorsB], h.2 ▸ Fr.refl _ _⟩
  have hac3 : ∀ (w : World) (q : Nat), Row w q 9 ([s, a.a, b.a].map strc) → Calls Try.prog 18 #[.slice (some ⟨q, 0, none⟩) 3 3] w fun e w' => e = .returned (.bool (actorB s && (actorB a.a && actorB b.a))) ∧ Fr (fun _ => False) w w' := fun w q hq => (actor_any (some ⟨q, 0, none⟩) 3 3 [s, a.a, b.a] w (Row.rd hq 0 3 (Nat.le_refl _)) (by omega) (by simp; omega)).mono fun e w' h => ⟨by rw [h.1]; simp [actorsB], h.2 ▸ Fr.refl _ _⟩
  have hways := cmp_ways a b
  obtain ⟨lab, hlab⟩ : ∃ z, lessN a b = z := ⟨_, rfl⟩
  obtain ⟨lba, hlba⟩ : ∃ z, lessN b a = z := ⟨_, rfl⟩
  obtain ⟨p, hp⟩ : ∃ z, cmpN a b = z := ⟨_, rfl⟩
  obtain ⟨i, hi⟩ : ∃ z, idB a = z := ⟨_, rfl⟩
  obtain ⟨z, hze⟩ : ∃ z, zeroB a = z := ⟨_, rfl⟩
  obtain ⟨e, hee⟩ : ∃ z, decide (a.a = []) = z := ⟨_, rfl⟩
  obtain ⟨ab, hab⟩ : ∃ z, actorB b.a = z := ⟨_, rfl⟩
  rw [hlab, hlba, hp] at hways
  have hzz : z = (decide (a.c = 0) && e) := by rw [← hze, ← hee]; rfl
  rw [hc0] at hzz
  have te := txt_e a.a
  rw [hee] at te
  have te2 : (txt a.a).toList.isEmpty = e := by
    rw [show (txt a.a).toList = a.a from ByteArray.toList_mk _, ← hee]
    cases a.a <;> simp
  have tc0 : (a.c == 0) = true := hc0
  obtain ⟨p0, hp0⟩ : ∃ p0 : Int, (if lab = true then -1 else 0) = p0 := ⟨_, rfl⟩
  have HP : Hid ((lba = true → p = 1) ∧ (lba = false → p = p0)) := Lib.hid (by
    rw [← hp0]
    rcases hways with ⟨h1, _, h2, h3⟩ | ⟨h1, _, h2, h3⟩ | ⟨h1, _, h2, h3⟩ <;> rw [h1, h2, h3] <;> simp)
  have HP0 : Hid ((lab = true → p0 = -1) ∧ (lab = false → p0 = 0)) := Lib.hid (by rw [← hp0]; cases lab <;> simp)
  simp only [hlab] at hls
  simp only [hlba] at hls2
  simp only [hp] at hcm
  simp only [hi] at hid hrid
  simp only [hze] at hz
  simp only [has] at hrs hac1
  simp only [haa] at hra
  simp only [hab] at hrb
  simp only [has, haa, hab, Bool.true_and, Bool.false_and] at hac3
  unfold nmc at hid hrid hz hcm hls hls2
  have HID := Lib.hid hid
  have HRID := Lib.hid hrid
  have HZ := Lib.hid hz
  have HCM := Lib.hid hcm
  have HLS := Lib.hid hls
  have HLS2 := Lib.hid hls2
  have HRS := Lib.hid hrs
  have HRA := Lib.hid hra
  have HRB := Lib.hid hrb
  have HAC0 := Lib.hid hac0
  have HAC1 := Lib.hid hac1
  have HAC3 := Lib.hid hac3
  have ti : (i == i) = true := by simp
  have tp : (p == p) = true := by simp
  have tab : (ab == ab) = true := by simp
  have tz : (z == e) = true := by rw [hzz]; simp
  have g0 : decide ((100 : Int) < (la : Int)) = false := decide_eq_false (by omega)
  have g0' : decide (100 < la) = false := decide_eq_false (by omega)
  have g1 : decide ((100 : Int) < (lb : Int)) = false := decide_eq_false (by omega)
  have g1' : decide (100 < lb) = false := decide_eq_false (by omega)
  have g2' : decide ((100 : Int) < (lc : Int)) = false := decide_eq_false (by omega)
  have g2'' : decide (100 < lc) = false := decide_eq_false (by omega)
  clear hp0 hid hrid hz hcm hls hls2 hrs hra hrb hac0 hac1 hac3 hways hlab hlba hp hi hze hee hab hzz hc0 has haa n1 n2 n3
  unfold nmc
  clear hr1 hr2 hf1 hf2 hla hlb hlc
  go_enter Try.func4, Try.ntmps4
  go_wp2_with fail
  clear hw1 hw2 hg hg2
  refine (HAW.out _).mono ?_
  rintro e w4 ⟨rfl, hf⟩
  have HF4 := Lib.hid (HF3.out.trans hf (fun _ _ h => h))
  have HA4 := Lib.hid (HA3.out.fr hf (fun h => h))
  have HB4 := Lib.hid (HB3.out.fr hf (fun h => h))
  clear hf
  obtain ⟨a0, a1⟩ := HA4.out.cells
  obtain ⟨b0, b1⟩ := HB4.out.cells
  go_wp2_with fail
  refine (HLS.out _).mono ?_
  rintro e w5 ⟨rfl, hf⟩
  have HF5 := Lib.hid (HF4.out.trans hf (fun _ _ h => h))
  have HA5 := Lib.hid (HA4.out.fr hf (fun h => h))
  have HB5 := Lib.hid (HB4.out.fr hf (fun h => h))
  clear hf a0 a1 b0 b1
  go_upto_if 30 with fail
  go_cut [7] (fun v wx => v = .int .i64 p0 ∧ RowN wx g a ∧ RowN wx g2 b ∧ Fr (fun _ => False) w wx)
  case first =>
    cases lab with
    | true =>
      go_wp2_with fail
      go_meet
      exact ⟨congrArg (Value.int .i64) (by have h := HP0.out.1; simp at h; omega), HA5.out, HB5.out, HF5.out⟩
    | false =>
      go_wp2_with fail
      go_meet
      exact ⟨congrArg (Value.int .i64) (by have h := HP0.out.2; simp at h; omega), HA5.out, HB5.out, HF5.out⟩
  case rest =>
  obtain ⟨rfl, ha6, hb6, hf6⟩ := hcut
  rename World => w6
  have HA6 := Lib.hid ha6
  have HB6 := Lib.hid hb6
  have HF6 := Lib.hid hf6
  clear ha6 hb6 hf6
  obtain ⟨a0, a1⟩ := HA6.out.cells
  obtain ⟨b0, b1⟩ := HB6.out.cells
  go_wp2_with fail
  refine (HLS2.out _).mono ?_
  rintro e w7 ⟨rfl, hf⟩
  have HF7 := Lib.hid (HF6.out.trans hf (fun _ _ h => h))
  have HA7 := Lib.hid (HA6.out.fr hf (fun h => h))
  have HB7 := Lib.hid (HB6.out.fr hf (fun h => h))
  clear hf a0 a1 b0 b1
  go_upto_if 33 with fail
  go_cut [7] (fun v wx => v = .int .i64 p ∧ RowN wx g a ∧ RowN wx g2 b ∧ Fr (fun _ => False) w wx)
  case first =>
    cases lba with
    | true =>
      go_wp2_with fail
      go_meet
      exact ⟨congrArg (Value.int .i64) (by have h := HP.out.1; simp at h; omega), HA7.out, HB7.out, HF7.out⟩
    | false =>
      go_wp2_with fail
      go_meet
      exact ⟨congrArg (Value.int .i64) (by have h := HP.out.2; simp at h; omega), HA7.out, HB7.out, HF7.out⟩
  case rest =>
  obtain ⟨rfl, ha9, hb9, hf9⟩ := hcut
  rename World => w9
  have HA9 := Lib.hid ha9
  have HB9 := Lib.hid hb9
  have HF9 := Lib.hid hf9
  clear ha9 hb9 hf9
  have HA := HA9
  have HB := HB9
  go_upto_region 8 with fail
  have HGc : Hid (Fr (fun _ => False) w9 w9) := Lib.hid (Fr.refl _ _)
  refine wp_region_held_drew (S := fun w' => Fr (fun _ => False) w9 w') (by kernel_rfl) ?_ (fun hHeld => ?_)
  · exact (Fr.refl _ _).drew
  refine wpAnyH_take (i := 0) (v := ?vt64) rfl (by kernel_rfl) (by kernel_rfl) (by kernel_rfl) (fun _ _ _ h => h) (Or.inl ⟨by rfl, ?hyt64⟩) hHeld ?restt64
  case hyt64 => intro w hSw; (try dsimp only at hSw); obtain ⟨c0, c1⟩ := (HA.out.fr (HGc.out.trans hSw (fun _ _ h => h)) (fun h => h)).cells; go_simp; try (with_reducible rfl)
  (try simp only [Act.put, List.setIfInBounds_toArray, List.set_cons_zero, List.set_cons_succ, List.getElem_toArray, List.getElem_cons_zero])
  refine wpAnyH_take (i := 2) (v := ?vt65) rfl (by kernel_rfl) (by kernel_rfl) (by kernel_rfl) (fun _ _ _ h => h) (Or.inl ⟨by rfl, ?hyt65⟩) hHeld ?restt65
  case hyt65 => intro w hSw; (try dsimp only at hSw); obtain ⟨c0, c1⟩ := (HA.out.fr (HGc.out.trans hSw (fun _ _ h => h)) (fun h => h)).cells; go_simp; try (with_reducible rfl)
  (try simp only [Act.put, List.setIfInBounds_toArray, List.set_cons_zero, List.set_cons_succ, List.getElem_toArray, List.getElem_cons_zero, List.getElem_cons_succ])
  refine wpAnyH_ready (rs := [1]) (by kernel_rfl) (by simp) ?_
  refine AllReadyH.cons rfl (fun Kx hKx => ?_) AllReadyH.nil
  go_simp
  have hcon := HID.out (w9.drew)
  with_reducible refine hcon.mono ?_
  clear hcon
  rintro e' v1 ⟨rfl, hff⟩
  have HFn : Hid (Fr (fun _ => False) w9 v1) := Lib.hid ((Fr.refl _ _).drew.trans hff (fun _ _ h => h))
  clear hff
  have HGc := Lib.hid (HGc.out.trans HFn.out (fun _ _ h => h))
  refine hKx.out _ _ ?_ (fun hHeld => ?_)
  · exact HFn.out
  clear hKx Kx
  (try simp only [Act.put, List.setIfInBounds_toArray, List.set_cons_zero, List.set_cons_succ, List.getElem_toArray, List.getElem_cons_zero, List.getElem_cons_succ])
  refine wpAnyH_more (fun w' => Fr (fun _ => False) v1 w') (fun _ h => HFn.out.trans h (fun _ _ h => h)) ?_ (fun hHeld => ?_)
  · exact Fr.refl _ _
  clear HFn
  refine wpAnyH_ready (rs := [3]) (by kernel_rfl) (by simp) ?_
  refine AllReadyH.cons rfl (fun Kx hKx => ?_) AllReadyH.nil
  go_simp
  have hcon := HRID.out (v1)
  with_reducible refine hcon.mono ?_
  clear hcon
  rintro e' v2 ⟨rfl, hff⟩
  have HFn : Hid (Fr (fun _ => False) v1 v2) := Lib.hid (hff)
  clear hff
  have HGc := Lib.hid (HGc.out.trans HFn.out (fun _ _ h => h))
  refine hKx.out _ _ ?_ (fun hHeld => ?_)
  · exact HFn.out
  clear hKx Kx
  (try simp only [Act.put, List.setIfInBounds_toArray, List.set_cons_zero, List.set_cons_succ, List.getElem_toArray, List.getElem_cons_zero, List.getElem_cons_succ])
  refine wpAnyH_more (fun w' => Fr (fun _ => False) v2 w') (fun _ h => HFn.out.trans h (fun _ _ h => h)) ?_ (fun hHeld => ?_)
  · exact Fr.refl _ _
  clear HFn
  refine wpAnyH_take (i := 4) (v := ?vt66) rfl (by kernel_rfl) (by kernel_rfl) (by kernel_rfl) (fun _ _ _ h => h) (Or.inl ⟨by rfl, ?hyt66⟩) hHeld ?restt66
  case hyt66 => intro w hSw; (try dsimp only at hSw); go_simp; try (with_reducible rfl)
  (try simp only [Act.put, List.setIfInBounds_toArray, List.set_cons_zero, List.set_cons_succ, List.getElem_toArray, List.getElem_cons_zero, List.getElem_cons_succ])
  refine wpAnyH_take (i := 5) (v := ?vt67) rfl (by kernel_rfl) (by kernel_rfl) (by kernel_rfl) (fun _ _ _ h => h) (Or.inl ⟨by rfl, ?hyt67⟩) hHeld ?restt67
  case hyt67 => intro w hSw; (try dsimp only at hSw); go_simp; try (with_reducible rfl)
  (try simp only [Act.put, List.setIfInBounds_toArray, List.set_cons_zero, List.set_cons_succ, List.getElem_toArray, List.getElem_cons_zero, List.getElem_cons_succ])
  refine wpAnyH_take (i := 6) (v := ?vt68) rfl (by kernel_rfl) (by kernel_rfl) (by kernel_rfl) (fun _ _ _ h => h) (Or.inl ⟨by rfl, ?hyt68⟩) hHeld ?restt68
  case hyt68 => intro w hSw; (try dsimp only at hSw); obtain ⟨c0, c1⟩ := (HA.out.fr (HGc.out.trans hSw (fun _ _ h => h)) (fun h => h)).cells; go_simp; try (with_reducible rfl)
  (try simp only [Act.put, List.setIfInBounds_toArray, List.set_cons_zero, List.set_cons_succ, List.getElem_toArray, List.getElem_cons_zero, List.getElem_cons_succ])
  refine wpAnyH_take (i := 8) (v := ?vt69) rfl (by kernel_rfl) (by kernel_rfl) (by kernel_rfl) (fun _ _ _ h => h) (Or.inl ⟨by rfl, ?hyt69⟩) hHeld ?restt69
  case hyt69 => intro w hSw; (try dsimp only at hSw); go_simp; try (with_reducible rfl)
  (try simp only [Act.put, List.setIfInBounds_toArray, List.set_cons_zero, List.set_cons_succ, List.getElem_toArray, List.getElem_cons_zero, List.getElem_cons_succ])
  refine wpAnyH_take (i := 9) (v := ?vt70) rfl (by kernel_rfl) (by kernel_rfl) (by kernel_rfl) (fun _ _ _ h => h) (Or.inl ⟨by rfl, ?hyt70⟩) hHeld ?restt70
  case hyt70 => intro w hSw; (try dsimp only at hSw); obtain ⟨c0, c1⟩ := (HA.out.fr (HGc.out.trans hSw (fun _ _ h => h)) (fun h => h)).cells; go_simp; try (with_reducible rfl)
  (try simp only [Act.put, List.setIfInBounds_toArray, List.set_cons_zero, List.set_cons_succ, List.getElem_toArray, List.getElem_cons_zero, List.getElem_cons_succ])
  refine wpAnyH_take (i := 10) (v := ?vt71) rfl (by kernel_rfl) (by kernel_rfl) (by kernel_rfl) (fun _ _ _ h => h) (Or.inl ⟨by rfl, ?hyt71⟩) hHeld ?restt71
  case hyt71 => intro w hSw; (try dsimp only at hSw); go_simp; try (with_reducible rfl)
  (try simp only [Act.put, List.setIfInBounds_toArray, List.set_cons_zero, List.set_cons_succ, List.getElem_toArray, List.getElem_cons_zero, List.getElem_cons_succ])
  refine wpAnyH_ready (rs := [7]) (by kernel_rfl) (by simp) ?_
  refine AllReadyH.cons rfl (fun Kx hKx => ?_) AllReadyH.nil
  go_simp
  have hcon := HZ.out (v2)
  with_reducible refine hcon.mono ?_
  clear hcon
  rintro e' v3 ⟨rfl, hff⟩
  have HFn : Hid (Fr (fun _ => False) v2 v3) := Lib.hid (hff)
  clear hff
  have HGc := Lib.hid (HGc.out.trans HFn.out (fun _ _ h => h))
  refine hKx.out _ _ ?_ (fun hHeld => ?_)
  · exact HFn.out
  clear hKx Kx
  (try simp only [Act.put, List.setIfInBounds_toArray, List.set_cons_zero, List.set_cons_succ, List.getElem_toArray, List.getElem_cons_zero, List.getElem_cons_succ])
  refine wpAnyH_more (fun w' => Fr (fun _ => False) v3 w') (fun _ h => HFn.out.trans h (fun _ _ h => h)) ?_ (fun hHeld => ?_)
  · exact Fr.refl _ _
  clear HFn
  refine wpAnyH_take (i := 11) (v := ?vt72) rfl (by kernel_rfl) (by kernel_rfl) (by kernel_rfl) (fun _ _ _ h => h) (Or.inl ⟨by rfl, ?hyt72⟩) hHeld ?restt72
  case hyt72 => intro w hSw; (try dsimp only at hSw); go_simp; try (with_reducible rfl)
  (try simp only [Act.put, List.setIfInBounds_toArray, List.set_cons_zero, List.set_cons_succ, List.getElem_toArray, List.getElem_cons_zero, List.getElem_cons_succ])
  refine wpAnyH_take (i := 12) (v := ?vt73) rfl (by kernel_rfl) (by kernel_rfl) (by kernel_rfl) (fun _ _ _ h => h) (Or.inl ⟨by rfl, ?hyt73⟩) hHeld ?restt73
  case hyt73 => intro w hSw; (try dsimp only at hSw); go_simp; try (with_reducible rfl)
  (try simp only [Act.put, List.setIfInBounds_toArray, List.set_cons_zero, List.set_cons_succ, List.getElem_toArray, List.getElem_cons_zero, List.getElem_cons_succ])
  refine wpAnyH_take (i := 13) (v := ?vt74) rfl (by kernel_rfl) (by kernel_rfl) (by kernel_rfl) (fun _ _ _ h => h) (Or.inl ⟨by rfl, ?hyt74⟩) hHeld ?restt74
  case hyt74 => intro w hSw; (try dsimp only at hSw); obtain ⟨c0, c1⟩ := (HA.out.fr (HGc.out.trans hSw (fun _ _ h => h)) (fun h => h)).cells; go_simp; try (with_reducible rfl)
  (try simp only [Act.put, List.setIfInBounds_toArray, List.set_cons_zero, List.set_cons_succ, List.getElem_toArray, List.getElem_cons_zero, List.getElem_cons_succ])
  refine wpAnyH_take (i := 14) (v := ?vt75) rfl (by kernel_rfl) (by kernel_rfl) (by kernel_rfl) (fun _ _ _ h => h) (Or.inl ⟨by rfl, ?hyt75⟩) hHeld ?restt75
  case hyt75 => intro w hSw; (try dsimp only at hSw); go_simp; try (with_reducible rfl)
  (try simp only [Act.put, List.setIfInBounds_toArray, List.set_cons_zero, List.set_cons_succ, List.getElem_toArray, List.getElem_cons_zero, List.getElem_cons_succ])
  refine wpAnyH_take (i := 15) (v := ?vt76) rfl (by kernel_rfl) (by kernel_rfl) (by kernel_rfl) (fun _ _ _ h => h) (Or.inl ⟨by rfl, ?hyt76⟩) hHeld ?restt76
  case hyt76 => intro w hSw; (try dsimp only at hSw); go_simp; try (with_reducible rfl)
  (try simp only [Act.put, List.setIfInBounds_toArray, List.set_cons_zero, List.set_cons_succ, List.getElem_toArray, List.getElem_cons_zero, List.getElem_cons_succ])
  refine wpAnyH_take (i := 16) (v := ?vt77) rfl (by kernel_rfl) (by kernel_rfl) (by kernel_rfl) (fun _ _ _ h => h) (Or.inl ⟨by rfl, ?hyt77⟩) hHeld ?restt77
  case hyt77 => intro w hSw; (try dsimp only at hSw); go_simp; try (with_reducible rfl)
  (try simp only [Act.put, List.setIfInBounds_toArray, List.set_cons_zero, List.set_cons_succ, List.getElem_toArray, List.getElem_cons_zero, List.getElem_cons_succ])
  refine wpAnyH_take (i := 17) (v := ?vt78) rfl (by kernel_rfl) (by kernel_rfl) (by kernel_rfl) (fun _ _ _ h => h) (Or.inl ⟨by rfl, ?hyt78⟩) hHeld ?restt78
  case hyt78 => intro w hSw; (try dsimp only at hSw); go_simp; try (with_reducible rfl)
  (try simp only [Act.put, List.setIfInBounds_toArray, List.set_cons_zero, List.set_cons_succ, List.getElem_toArray, List.getElem_cons_zero, List.getElem_cons_succ])
  refine wpAnyH_take (i := 18) (v := ?vt79) rfl (by kernel_rfl) (by kernel_rfl) (by kernel_rfl) (fun _ _ _ h => h) (Or.inl ⟨by rfl, ?hyt79⟩) hHeld ?restt79
  case hyt79 => intro w hSw; (try dsimp only at hSw); go_simp; try (with_reducible rfl)
  (try simp only [Act.put, List.setIfInBounds_toArray, List.set_cons_zero, List.set_cons_succ, List.getElem_toArray, List.getElem_cons_zero, List.getElem_cons_succ])
  refine wpAnyH_take (i := 19) (v := ?vt80) rfl (by kernel_rfl) (by kernel_rfl) (by kernel_rfl) (fun _ _ _ h => h) (Or.inl ⟨by rfl, ?hyt80⟩) hHeld ?restt80
  case hyt80 => intro w hSw; (try dsimp only at hSw); obtain ⟨c0, c1⟩ := (HA.out.fr (HGc.out.trans hSw (fun _ _ h => h)) (fun h => h)).cells; go_simp; try (with_reducible rfl)
  (try simp only [Act.put, List.setIfInBounds_toArray, List.set_cons_zero, List.set_cons_succ, List.getElem_toArray, List.getElem_cons_zero, List.getElem_cons_succ])
  refine wpAnyH_take (i := 20) (v := ?vt81) rfl (by kernel_rfl) (by kernel_rfl) (by kernel_rfl) (fun _ _ _ h => h) (Or.inl ⟨by rfl, ?hyt81⟩) hHeld ?restt81
  case hyt81 => intro w hSw; (try dsimp only at hSw); obtain ⟨c0, c1⟩ := (HB.out.fr (HGc.out.trans hSw (fun _ _ h => h)) (fun h => h)).cells; go_simp; try (with_reducible rfl)
  (try simp only [Act.put, List.setIfInBounds_toArray, List.set_cons_zero, List.set_cons_succ, List.getElem_toArray, List.getElem_cons_zero, List.getElem_cons_succ])
  refine wpAnyH_take (i := 22) (v := ?vt82) rfl (by kernel_rfl) (by kernel_rfl) (by kernel_rfl) (fun _ _ _ h => h) (Or.inl ⟨by rfl, ?hyt82⟩) hHeld ?restt82
  case hyt82 => intro w hSw; (try dsimp only at hSw); go_simp; try (with_reducible rfl)
  (try simp only [Act.put, List.setIfInBounds_toArray, List.set_cons_zero, List.set_cons_succ, List.getElem_toArray, List.getElem_cons_zero, List.getElem_cons_succ])
  refine wpAnyH_ready (rs := [21]) (by kernel_rfl) (by simp) ?_
  refine AllReadyH.cons rfl (fun Kx hKx => ?_) AllReadyH.nil
  go_simp
  have hcon := HCM.out (v3)
  with_reducible refine hcon.mono ?_
  clear hcon
  rintro e' v4 ⟨rfl, hff⟩
  have HFn : Hid (Fr (fun _ => False) v3 v4) := Lib.hid (hff)
  clear hff
  have HGc := Lib.hid (HGc.out.trans HFn.out (fun _ _ h => h))
  refine hKx.out _ _ ?_ (fun hHeld => ?_)
  · exact HFn.out
  clear hKx Kx
  (try simp only [Act.put, List.setIfInBounds_toArray, List.set_cons_zero, List.set_cons_succ, List.getElem_toArray, List.getElem_cons_zero, List.getElem_cons_succ])
  refine wpAnyH_more (fun w' => Fr (fun _ => False) v4 w') (fun _ h => HFn.out.trans h (fun _ _ h => h)) ?_ (fun hHeld => ?_)
  · exact Fr.refl _ _
  clear HFn
  refine wpAnyH_take (i := 23) (v := ?vt83) rfl (by kernel_rfl) (by kernel_rfl) (by kernel_rfl) (fun _ _ _ h => h) (Or.inl ⟨by rfl, ?hyt83⟩) hHeld ?restt83
  case hyt83 => intro w hSw; (try dsimp only at hSw); go_simp; try (with_reducible rfl)
  (try simp only [Act.put, List.setIfInBounds_toArray, List.set_cons_zero, List.set_cons_succ, List.getElem_toArray, List.getElem_cons_zero, List.getElem_cons_succ])
  refine wpAnyH_take (i := 24) (v := ?vt84) rfl (by kernel_rfl) (by kernel_rfl) (by kernel_rfl) (fun _ _ _ h => h) (Or.inl ⟨by rfl, ?hyt84⟩) hHeld ?restt84
  case hyt84 => intro w hSw; (try dsimp only at hSw); go_simp; try (with_reducible rfl)
  (try simp only [Act.put, List.setIfInBounds_toArray, List.set_cons_zero, List.set_cons_succ, List.getElem_toArray, List.getElem_cons_zero, List.getElem_cons_succ])
  refine wpAnyH_take (i := 25) (v := ?vt85) rfl (by kernel_rfl) (by kernel_rfl) (by kernel_rfl) (fun _ _ _ h => h) (Or.inl ⟨by rfl, ?hyt85⟩) hHeld ?restt85
  case hyt85 => intro w hSw; (try dsimp only at hSw); go_simp; try (with_reducible rfl)
  (try simp only [Act.put, List.setIfInBounds_toArray, List.set_cons_zero, List.set_cons_succ, List.getElem_toArray, List.getElem_cons_zero, List.getElem_cons_succ])
  refine wpAnyH_take (i := 26) (v := ?vt86) rfl (by kernel_rfl) (by kernel_rfl) (by kernel_rfl) (fun _ _ _ h => h) (Or.inl ⟨by rfl, ?hyt86⟩) hHeld ?restt86
  case hyt86 => intro w hSw; (try dsimp only at hSw); go_simp; try (with_reducible rfl)
  (try simp only [Act.put, List.setIfInBounds_toArray, List.set_cons_zero, List.set_cons_succ, List.getElem_toArray, List.getElem_cons_zero, List.getElem_cons_succ])
  refine wpAnyH_take (i := 29) (v := ?vt87) rfl (by kernel_rfl) (by kernel_rfl) (by kernel_rfl) (fun _ _ _ h => h) (Or.inl ⟨by rfl, ?hyt87⟩) hHeld ?restt87
  case hyt87 => intro w hSw; (try dsimp only at hSw); go_simp; try (with_reducible rfl)
  (try simp only [Act.put, List.setIfInBounds_toArray, List.set_cons_zero, List.set_cons_succ, List.getElem_toArray, List.getElem_cons_zero, List.getElem_cons_succ])
  refine wpAnyH_ready (rs := [27]) (by kernel_rfl) (by simp) ?_
  refine AllReadyH.cons rfl (fun Kx hKx => ?_) AllReadyH.nil
  go_simp
  obtain ⟨v5, hwm⟩ : ∃ v, (v4.alloc (.cells #[.string (txt s)] 9)) = v := ⟨_, rfl⟩
  rw [hwm]
  obtain ⟨q27, hqm⟩ : ∃ q, v4.heap.size = q := ⟨_, rfl⟩
  try rw [hqm]
  have HFn : Hid (Fr (fun _ => False) v4 v5) := Lib.hid (by rw [← hwm]; exact ((Fr.refl _ _).alloc _))
  have hbm : Row v5 q27 9 ([s].map strc) := by rw [← hwm, ← hqm]; exact Row.new v4 _ _
  have HB27 := Lib.hid hbm
  clear hwm hqm hbm
  have HGc := Lib.hid (HGc.out.trans HFn.out (fun _ _ h => h))
  refine hKx.out _ _ ?_ (fun hHeld => ?_)
  · exact HFn.out
  clear hKx Kx
  (try simp only [Act.put, List.setIfInBounds_toArray, List.set_cons_zero, List.set_cons_succ, List.getElem_toArray, List.getElem_cons_zero, List.getElem_cons_succ])
  refine wpAnyH_more (fun w' => Fr (fun _ => False) v5 w') (fun _ h => HFn.out.trans h (fun _ _ h => h)) ?_ (fun hHeld => ?_)
  · exact Fr.refl _ _
  clear HFn
  refine wpAnyH_ready (rs := [28]) (by kernel_rfl) (by simp) ?_
  refine AllReadyH.cons rfl (fun Kx hKx => ?_) AllReadyH.nil
  go_simp
  have hcon := HAC1.out (v5) q27 HB27.out
  with_reducible refine hcon.mono ?_
  clear hcon
  rintro e' v6 ⟨rfl, hff⟩
  have HFn : Hid (Fr (fun _ => False) v5 v6) := Lib.hid (hff)
  clear hff
  have HB27 := Lib.hid (HB27.out.fr HFn.out (fun h => h))
  have HGc := Lib.hid (HGc.out.trans HFn.out (fun _ _ h => h))
  refine hKx.out _ _ ?_ (fun hHeld => ?_)
  · exact HFn.out
  clear hKx Kx
  (try simp only [Act.put, List.setIfInBounds_toArray, List.set_cons_zero, List.set_cons_succ, List.getElem_toArray, List.getElem_cons_zero, List.getElem_cons_succ])
  refine wpAnyH_more (fun w' => Fr (fun _ => False) v6 w') (fun _ h => HFn.out.trans h (fun _ _ h => h)) ?_ (fun hHeld => ?_)
  · exact Fr.refl _ _
  clear HFn
  refine wpAnyH_ready (rs := [30]) (by kernel_rfl) (by simp) ?_
  refine AllReadyH.cons rfl (fun Kx hKx => ?_) AllReadyH.nil
  go_simp
  have hcon := HRS.out (v6)
  with_reducible refine hcon.mono ?_
  clear hcon
  rintro e' v7 ⟨rfl, hff⟩
  have HFn : Hid (Fr (fun _ => False) v6 v7) := Lib.hid (hff)
  clear hff
  have HB27 := Lib.hid (HB27.out.fr HFn.out (fun h => h))
  have HGc := Lib.hid (HGc.out.trans HFn.out (fun _ _ h => h))
  refine hKx.out _ _ ?_ (fun hHeld => ?_)
  · exact HFn.out
  clear hKx Kx
  (try simp only [Act.put, List.setIfInBounds_toArray, List.set_cons_zero, List.set_cons_succ, List.getElem_toArray, List.getElem_cons_zero, List.getElem_cons_succ])
  refine wpAnyH_more (fun w' => Fr (fun _ => False) v7 w') (fun _ h => HFn.out.trans h (fun _ _ h => h)) ?_ (fun hHeld => ?_)
  · exact Fr.refl _ _
  clear HFn
  refine wpAnyH_take (i := 31) (v := ?vt88) rfl (by kernel_rfl) (by kernel_rfl) (by kernel_rfl) (fun _ _ _ h => h) (Or.inl ⟨by rfl, ?hyt88⟩) hHeld ?restt88
  case hyt88 => intro w hSw; (try dsimp only at hSw); go_simp; try (with_reducible rfl)
  (try simp only [Act.put, List.setIfInBounds_toArray, List.set_cons_zero, List.set_cons_succ, List.getElem_toArray, List.getElem_cons_zero, List.getElem_cons_succ])
  refine wpAnyH_take (i := 32) (v := ?vt89) rfl (by kernel_rfl) (by kernel_rfl) (by kernel_rfl) (fun _ _ _ h => h) (Or.inl ⟨by rfl, ?hyt89⟩) hHeld ?restt89
  case hyt89 => intro w hSw; (try dsimp only at hSw); go_simp; try (with_reducible rfl)
  (try simp only [Act.put, List.setIfInBounds_toArray, List.set_cons_zero, List.set_cons_succ, List.getElem_toArray, List.getElem_cons_zero, List.getElem_cons_succ])
  refine wpAnyH_take (i := 33) (v := ?vt90) rfl (by kernel_rfl) (by kernel_rfl) (by kernel_rfl) (fun _ _ _ h => h) (Or.inl ⟨by rfl, ?hyt90⟩) hHeld ?restt90
  case hyt90 => intro w hSw; (try dsimp only at hSw); go_simp; try (with_reducible rfl)
  (try simp only [Act.put, List.setIfInBounds_toArray, List.set_cons_zero, List.set_cons_succ, List.getElem_toArray, List.getElem_cons_zero, List.getElem_cons_succ])
  refine wpAnyH_take (i := 34) (v := ?vt91) rfl (by kernel_rfl) (by kernel_rfl) (by kernel_rfl) (fun _ _ _ h => h) (Or.inl ⟨by rfl, ?hyt91⟩) hHeld ?restt91
  case hyt91 => intro w hSw; (try dsimp only at hSw); go_simp; try (with_reducible rfl)
  (try simp only [Act.put, List.setIfInBounds_toArray, List.set_cons_zero, List.set_cons_succ, List.getElem_toArray, List.getElem_cons_zero, List.getElem_cons_succ])
  refine wpAnyH_take (i := 35) (v := ?vt92) rfl (by kernel_rfl) (by kernel_rfl) (by kernel_rfl) (fun _ _ _ h => h) (Or.inl ⟨by rfl, ?hyt92⟩) hHeld ?restt92
  case hyt92 => intro w hSw; (try dsimp only at hSw); go_simp; try (with_reducible rfl)
  (try simp only [Act.put, List.setIfInBounds_toArray, List.set_cons_zero, List.set_cons_succ, List.getElem_toArray, List.getElem_cons_zero, List.getElem_cons_succ])
  refine wpAnyH_take (i := 36) (v := ?vt93) rfl (by kernel_rfl) (by kernel_rfl) (by kernel_rfl) (fun _ _ _ h => h) (Or.inl ⟨by rfl, ?hyt93⟩) hHeld ?restt93
  case hyt93 => intro w hSw; (try dsimp only at hSw); obtain ⟨c0, c1⟩ := (HA.out.fr (HGc.out.trans hSw (fun _ _ h => h)) (fun h => h)).cells; go_simp; try (with_reducible rfl)
  (try simp only [Act.put, List.setIfInBounds_toArray, List.set_cons_zero, List.set_cons_succ, List.getElem_toArray, List.getElem_cons_zero, List.getElem_cons_succ])
  refine wpAnyH_take (i := 37) (v := ?vt94) rfl (by kernel_rfl) (by kernel_rfl) (by kernel_rfl) (fun _ _ _ h => h) (Or.inl ⟨by rfl, ?hyt94⟩) hHeld ?restt94
  case hyt94 => intro w hSw; (try dsimp only at hSw); go_simp; try (with_reducible rfl)
  (try simp only [Act.put, List.setIfInBounds_toArray, List.set_cons_zero, List.set_cons_succ, List.getElem_toArray, List.getElem_cons_zero, List.getElem_cons_succ])
  refine wpAnyH_take (i := 38) (v := ?vt95) rfl (by kernel_rfl) (by kernel_rfl) (by kernel_rfl) (fun _ _ _ h => h) (Or.inl ⟨by rfl, ?hyt95⟩) hHeld ?restt95
  case hyt95 => intro w hSw; (try dsimp only at hSw); obtain ⟨c0, c1⟩ := (HB.out.fr (HGc.out.trans hSw (fun _ _ h => h)) (fun h => h)).cells; go_simp; try (with_reducible rfl)
  (try simp only [Act.put, List.setIfInBounds_toArray, List.set_cons_zero, List.set_cons_succ, List.getElem_toArray, List.getElem_cons_zero, List.getElem_cons_succ])
  refine wpAnyH_take (i := 41) (v := ?vt96) rfl (by kernel_rfl) (by kernel_rfl) (by kernel_rfl) (fun _ _ _ h => h) (Or.inl ⟨by rfl, ?hyt96⟩) hHeld ?restt96
  case hyt96 => intro w hSw; (try dsimp only at hSw); go_simp; try (with_reducible rfl)
  (try simp only [Act.put, List.setIfInBounds_toArray, List.set_cons_zero, List.set_cons_succ, List.getElem_toArray, List.getElem_cons_zero, List.getElem_cons_succ])
  refine wpAnyH_ready (rs := [39]) (by kernel_rfl) (by simp) ?_
  refine AllReadyH.cons rfl (fun Kx hKx => ?_) AllReadyH.nil
  go_simp
  obtain ⟨v8, hwm⟩ : ∃ v, (v7.alloc (.cells #[.string (txt s), .string (txt a.a), .string (txt b.a)] 9)) = v := ⟨_, rfl⟩
  rw [hwm]
  obtain ⟨q39, hqm⟩ : ∃ q, v7.heap.size = q := ⟨_, rfl⟩
  try rw [hqm]
  have HFn : Hid (Fr (fun _ => False) v7 v8) := Lib.hid (by rw [← hwm]; exact ((Fr.refl _ _).alloc _))
  have hbm : Row v8 q39 9 ([s, a.a, b.a].map strc) := by rw [← hwm, ← hqm]; exact Row.new v7 _ _
  have HB39 := Lib.hid hbm
  clear hwm hqm hbm
  have HB27 := Lib.hid (HB27.out.fr HFn.out (fun h => h))
  have HGc := Lib.hid (HGc.out.trans HFn.out (fun _ _ h => h))
  refine hKx.out _ _ ?_ (fun hHeld => ?_)
  · exact HFn.out
  clear hKx Kx
  (try simp only [Act.put, List.setIfInBounds_toArray, List.set_cons_zero, List.set_cons_succ, List.getElem_toArray, List.getElem_cons_zero, List.getElem_cons_succ])
  refine wpAnyH_more (fun w' => Fr (fun _ => False) v8 w') (fun _ h => HFn.out.trans h (fun _ _ h => h)) ?_ (fun hHeld => ?_)
  · exact Fr.refl _ _
  clear HFn
  refine wpAnyH_ready (rs := [40]) (by kernel_rfl) (by simp) ?_
  refine AllReadyH.cons rfl (fun Kx hKx => ?_) AllReadyH.nil
  go_simp
  have hcon := HAC3.out (v8) q39 HB39.out
  with_reducible refine hcon.mono ?_
  clear hcon
  rintro e' v9 ⟨rfl, hff⟩
  have HFn : Hid (Fr (fun _ => False) v8 v9) := Lib.hid (hff)
  clear hff
  have HB27 := Lib.hid (HB27.out.fr HFn.out (fun h => h))
  have HB39 := Lib.hid (HB39.out.fr HFn.out (fun h => h))
  have HGc := Lib.hid (HGc.out.trans HFn.out (fun _ _ h => h))
  refine hKx.out _ _ ?_ (fun hHeld => ?_)
  · exact HFn.out
  clear hKx Kx
  (try simp only [Act.put, List.setIfInBounds_toArray, List.set_cons_zero, List.set_cons_succ, List.getElem_toArray, List.getElem_cons_zero, List.getElem_cons_succ])
  refine wpAnyH_more (fun w' => Fr (fun _ => False) v9 w') (fun _ h => HFn.out.trans h (fun _ _ h => h)) ?_ (fun hHeld => ?_)
  · exact Fr.refl _ _
  clear HFn
  refine wpAnyH_ready (rs := [42]) (by kernel_rfl) (by simp) ?_
  refine AllReadyH.cons rfl (fun Kx hKx => ?_) AllReadyH.nil
  go_simp
  have hcon := HRS.out (v9)
  with_reducible refine hcon.mono ?_
  clear hcon
  rintro e' v10 ⟨rfl, hff⟩
  have HFn : Hid (Fr (fun _ => False) v9 v10) := Lib.hid (hff)
  clear hff
  have HB27 := Lib.hid (HB27.out.fr HFn.out (fun h => h))
  have HB39 := Lib.hid (HB39.out.fr HFn.out (fun h => h))
  have HGc := Lib.hid (HGc.out.trans HFn.out (fun _ _ h => h))
  refine hKx.out _ _ ?_ (fun hHeld => ?_)
  · exact HFn.out
  clear hKx Kx
  (try simp only [Act.put, List.setIfInBounds_toArray, List.set_cons_zero, List.set_cons_succ, List.getElem_toArray, List.getElem_cons_zero, List.getElem_cons_succ])
  refine wpAnyH_more (fun w' => Fr (fun _ => False) v10 w') (fun _ h => HFn.out.trans h (fun _ _ h => h)) ?_ (fun hHeld => ?_)
  · exact Fr.refl _ _
  clear HFn
  refine wpAnyH_take (i := 43) (v := ?vt97) rfl (by kernel_rfl) (by kernel_rfl) (by kernel_rfl) (fun _ _ _ h => h) (Or.inl ⟨by rfl, ?hyt97⟩) hHeld ?restt97
  case hyt97 => intro w hSw; (try dsimp only at hSw); go_simp; try (with_reducible rfl)
  (try simp only [Act.put, List.setIfInBounds_toArray, List.set_cons_zero, List.set_cons_succ, List.getElem_toArray, List.getElem_cons_zero, List.getElem_cons_succ])
  refine wpAnyH_take (i := 44) (v := ?vt98) rfl (by kernel_rfl) (by kernel_rfl) (by kernel_rfl) (fun _ _ _ h => h) (Or.inl ⟨by rfl, ?hyt98⟩) hHeld ?restt98
  case hyt98 => intro w hSw; (try dsimp only at hSw); go_simp; try (with_reducible rfl)
  (try simp only [Act.put, List.setIfInBounds_toArray, List.set_cons_zero, List.set_cons_succ, List.getElem_toArray, List.getElem_cons_zero, List.getElem_cons_succ])
  refine wpAnyH_take (i := 45) (v := ?vt99) rfl (by kernel_rfl) (by kernel_rfl) (by kernel_rfl) (fun _ _ _ h => h) (Or.inl ⟨by rfl, ?hyt99⟩) hHeld ?restt99
  case hyt99 => intro w hSw; (try dsimp only at hSw); obtain ⟨c0, c1⟩ := (HA.out.fr (HGc.out.trans hSw (fun _ _ h => h)) (fun h => h)).cells; go_simp; try (with_reducible rfl)
  (try simp only [Act.put, List.setIfInBounds_toArray, List.set_cons_zero, List.set_cons_succ, List.getElem_toArray, List.getElem_cons_zero, List.getElem_cons_succ])
  refine wpAnyH_ready (rs := [46]) (by kernel_rfl) (by simp) ?_
  refine AllReadyH.cons rfl (fun Kx hKx => ?_) AllReadyH.nil
  go_simp
  have hcon := HRA.out (v10)
  with_reducible refine hcon.mono ?_
  clear hcon
  rintro e' v11 ⟨rfl, hff⟩
  have HFn : Hid (Fr (fun _ => False) v10 v11) := Lib.hid (hff)
  clear hff
  have HB27 := Lib.hid (HB27.out.fr HFn.out (fun h => h))
  have HB39 := Lib.hid (HB39.out.fr HFn.out (fun h => h))
  have HGc := Lib.hid (HGc.out.trans HFn.out (fun _ _ h => h))
  refine hKx.out _ _ ?_ (fun hHeld => ?_)
  · exact HFn.out
  clear hKx Kx
  (try simp only [Act.put, List.setIfInBounds_toArray, List.set_cons_zero, List.set_cons_succ, List.getElem_toArray, List.getElem_cons_zero, List.getElem_cons_succ])
  refine wpAnyH_more (fun w' => Fr (fun _ => False) v11 w') (fun _ h => HFn.out.trans h (fun _ _ h => h)) ?_ (fun hHeld => ?_)
  · exact Fr.refl _ _
  clear HFn
  refine wpAnyH_take (i := 47) (v := ?vt100) rfl (by kernel_rfl) (by kernel_rfl) (by kernel_rfl) (fun _ _ _ h => h) (Or.inl ⟨by rfl, ?hyt100⟩) hHeld ?restt100
  case hyt100 => intro w hSw; (try dsimp only at hSw); go_simp; try (with_reducible rfl)
  (try simp only [Act.put, List.setIfInBounds_toArray, List.set_cons_zero, List.set_cons_succ, List.getElem_toArray, List.getElem_cons_zero, List.getElem_cons_succ])
  refine wpAnyH_take (i := 48) (v := ?vt101) rfl (by kernel_rfl) (by kernel_rfl) (by kernel_rfl) (fun _ _ _ h => h) (Or.inl ⟨by rfl, ?hyt101⟩) hHeld ?restt101
  case hyt101 => intro w hSw; (try dsimp only at hSw); go_simp; try (with_reducible rfl)
  (try simp only [Act.put, List.setIfInBounds_toArray, List.set_cons_zero, List.set_cons_succ, List.getElem_toArray, List.getElem_cons_zero, List.getElem_cons_succ])
  refine wpAnyH_take (i := 49) (v := undef) rfl (by kernel_rfl) (by kernel_rfl) (by kernel_rfl) (fun _ _ _ h => h) (Or.inr ⟨by rfl, rfl⟩) hHeld ?_
  (try simp only [Act.put, List.setIfInBounds_toArray, List.set_cons_zero, List.set_cons_succ, List.getElem_toArray, List.getElem_cons_zero, List.getElem_cons_succ])
  refine wpAnyH_take (i := 50) (v := undef) rfl (by kernel_rfl) (by kernel_rfl) (by kernel_rfl) (fun _ _ _ h => h) (Or.inr ⟨by rfl, rfl⟩) hHeld ?_
  (try simp only [Act.put, List.setIfInBounds_toArray, List.set_cons_zero, List.set_cons_succ, List.getElem_toArray, List.getElem_cons_zero, List.getElem_cons_succ])
  refine wpAnyH_take (i := 51) (v := undef) rfl (by kernel_rfl) (by kernel_rfl) (by kernel_rfl) (fun _ _ _ h => h) (Or.inr ⟨by rfl, rfl⟩) hHeld ?_
  (try simp only [Act.put, List.setIfInBounds_toArray, List.set_cons_zero, List.set_cons_succ, List.getElem_toArray, List.getElem_cons_zero, List.getElem_cons_succ])
  refine wpAnyH_take (i := 52) (v := ?vt105) rfl (by kernel_rfl) (by kernel_rfl) (by kernel_rfl) (fun _ _ _ h => h) (Or.inl ⟨by rfl, ?hyt105⟩) hHeld ?restt105
  case hyt105 => intro w hSw; (try dsimp only at hSw); go_simp; try (with_reducible rfl)
  (try simp only [Act.put, List.setIfInBounds_toArray, List.set_cons_zero, List.set_cons_succ, List.getElem_toArray, List.getElem_cons_zero, List.getElem_cons_succ])
  refine wpAnyH_take (i := 53) (v := ?vt106) rfl (by kernel_rfl) (by kernel_rfl) (by kernel_rfl) (fun _ _ _ h => h) (Or.inl ⟨by rfl, ?hyt106⟩) hHeld ?restt106
  case hyt106 => intro w hSw; (try dsimp only at hSw); go_simp; try (with_reducible rfl)
  (try simp only [Act.put, List.setIfInBounds_toArray, List.set_cons_zero, List.set_cons_succ, List.getElem_toArray, List.getElem_cons_zero, List.getElem_cons_succ])
  refine wpAnyH_take (i := 54) (v := ?vt107) rfl (by kernel_rfl) (by kernel_rfl) (by kernel_rfl) (fun _ _ _ h => h) (Or.inl ⟨by rfl, ?hyt107⟩) hHeld ?restt107
  case hyt107 => intro w hSw; (try dsimp only at hSw); go_simp; try (with_reducible rfl)
  (try simp only [Act.put, List.setIfInBounds_toArray, List.set_cons_zero, List.set_cons_succ, List.getElem_toArray, List.getElem_cons_zero, List.getElem_cons_succ])
  refine wpAnyH_take (i := 55) (v := ?vt108) rfl (by kernel_rfl) (by kernel_rfl) (by kernel_rfl) (fun _ _ _ h => h) (Or.inl ⟨by rfl, ?hyt108⟩) hHeld ?restt108
  case hyt108 => intro w hSw; (try dsimp only at hSw); go_simp; try (with_reducible rfl)
  (try simp only [Act.put, List.setIfInBounds_toArray, List.set_cons_zero, List.set_cons_succ, List.getElem_toArray, List.getElem_cons_zero, List.getElem_cons_succ])
  refine wpAnyH_ready (rs := [56]) (by kernel_rfl) (by simp) ?_
  refine AllReadyH.cons rfl (fun Kx hKx => ?_) AllReadyH.nil
  go_simp
  have hcon := HAC0.out (v11)
  with_reducible refine hcon.mono ?_
  clear hcon
  rintro e' v12 ⟨rfl, hff⟩
  have HFn : Hid (Fr (fun _ => False) v11 v12) := Lib.hid (hff)
  clear hff
  have HB27 := Lib.hid (HB27.out.fr HFn.out (fun h => h))
  have HB39 := Lib.hid (HB39.out.fr HFn.out (fun h => h))
  have HGc := Lib.hid (HGc.out.trans HFn.out (fun _ _ h => h))
  refine hKx.out _ _ ?_ (fun hHeld => ?_)
  · exact HFn.out
  clear hKx Kx
  (try simp only [Act.put, List.setIfInBounds_toArray, List.set_cons_zero, List.set_cons_succ, List.getElem_toArray, List.getElem_cons_zero, List.getElem_cons_succ])
  refine wpAnyH_more (fun w' => Fr (fun _ => False) v12 w') (fun _ h => HFn.out.trans h (fun _ _ h => h)) ?_ (fun hHeld => ?_)
  · exact Fr.refl _ _
  clear HFn
  refine wpAnyH_take (i := 57) (v := ?vt109) rfl (by kernel_rfl) (by kernel_rfl) (by kernel_rfl) (fun _ _ _ h => h) (Or.inl ⟨by rfl, ?hyt109⟩) hHeld ?restt109
  case hyt109 => intro w hSw; (try dsimp only at hSw); go_simp; try (with_reducible rfl)
  (try simp only [Act.put, List.setIfInBounds_toArray, List.set_cons_zero, List.set_cons_succ, List.getElem_toArray, List.getElem_cons_zero, List.getElem_cons_succ])
  refine wpAnyH_take (i := 58) (v := ?vt110) rfl (by kernel_rfl) (by kernel_rfl) (by kernel_rfl) (fun _ _ _ h => h) (Or.inl ⟨by rfl, ?hyt110⟩) hHeld ?restt110
  case hyt110 => intro w hSw; (try dsimp only at hSw); go_simp; try (with_reducible rfl)
  (try simp only [Act.put, List.setIfInBounds_toArray, List.set_cons_zero, List.set_cons_succ, List.getElem_toArray, List.getElem_cons_zero, List.getElem_cons_succ])
  refine wpAnyH_done (by kernel_rfl) ?_ _
  go_wp2_with fail
  go_ret
  exact ⟨rfl, HF9.out.trans HGc.out (fun _ _ h => h)⟩
set_option maxRecDepth 100000 in
set_option maxHeartbeats 12800000 in
theorem opids_t2 (a b : Nm) (s : List UInt8) (w : World) (ha : a.a.length ≤ 9223372036854775807) (hb : b.a.length ≤ 9223372036854775807) (hs : s.length ≤ 9223372036854775807) (hsm : a.a.length ≤ 100 ∧ b.a.length ≤ 100 ∧ s.length ≤ 100) (hc0 : decide (a.c = 0) = true) (has : actorB s = true) (haa : actorB a.a = true) :
    Calls Try.prog 4 #[nmc a, nmc b, .string (txt s)] w fun e w' => e = .returned (.bool true) ∧ Fr (fun _ => False) w w' := by
  obtain ⟨g, w1, hg, hw1, hr1, hf1⟩ := new_n w a
  obtain ⟨g2, w2, hg2, hw2, hr2, hf2⟩ := new_n w1 b
  have HA3 := Lib.hid (hr1.fr hf2 (fun h => h))
  have HB3 := Lib.hid hr2
  have HF3 := Lib.hid (hf1.trans hf2 (fun _ _ h => h))
  have HAW := Lib.hid (fun w' => awake17_any w')
  have hsa := txt_sz a.a
  have hsb := txt_sz b.a
  have hss := txt_sz s
  obtain ⟨la, hla⟩ : ∃ l, l = a.a.length := ⟨_, rfl⟩
  obtain ⟨lb, hlb⟩ : ∃ l, l = b.a.length := ⟨_, rfl⟩
  obtain ⟨lc, hlc⟩ : ∃ l, l = s.length := ⟨_, rfl⟩
  rw [← hla] at hsa ha
  rw [← hlb] at hsb hb
  rw [← hlc] at hss hs
  obtain ⟨n1, n2, n3⟩ := hsm
  have hid := fun w => id_any a w (by omega)
  have hrid := fun w => rid_any a w (by omega)
  have hz := fun w => zero_any a w
  have hcm := fun w => cmp_any a b w
  have hls := fun w => rless_any a b w (by omega) (by omega)
  have hls2 := fun w => rless_any b a w (by omega) (by omega)
  have hrs : ∀ w : World, Calls Try.prog 19 #[.string (txt s)] w fun e w' => e = .returned (.bool (actorB s)) ∧ Fr (fun _ => False) w w' := fun w => (ractor_any s w (by omega)).mono fun e w' h => ⟨h.1, h.2 ▸ Fr.refl _ _⟩
  have hra : ∀ w : World, Calls Try.prog 19 #[.string (txt a.a)] w fun e w' => e = .returned (.bool (actorB a.a)) ∧ Fr (fun _ => False) w w' := fun w => (ractor_any a.a w (by omega)).mono fun e w' h => ⟨h.1, h.2 ▸ Fr.refl _ _⟩
  have hrb : ∀ w : World, Calls Try.prog 19 #[.string (txt b.a)] w fun e w' => e = .returned (.bool (actorB b.a)) ∧ Fr (fun _ => False) w w' := fun w => (ractor_any b.a w (by omega)).mono fun e w' h => ⟨h.1, h.2 ▸ Fr.refl _ _⟩
  have hac0 : ∀ w : World, Calls Try.prog 18 #[.slice none 0 0] w fun e w' => e = .returned (.bool true) ∧ Fr (fun _ => False) w w' := fun w => (actor_any none 0 0 [] w (Rd.nil _ _) (by omega) (by simp)).mono fun e w' h => ⟨h.1, h.2 ▸ Fr.refl _ _⟩
  have hac1 : ∀ (w : World) (q : Nat), Row w q 9 ([s].map strc) → Calls Try.prog 18 #[.slice (some ⟨q, 0, none⟩) 1 1] w fun e w' => e = .returned (.bool (actorB s)) ∧ Fr (fun _ => False) w w' := fun w q hq => (actor_any (some ⟨q, 0, none⟩) 1 1 [s] w (Row.rd hq 0 1 (Nat.le_refl _)) (by omega) (by simp; omega)).mono fun e w' h => ⟨by rw [h.1]; simp [actorsB], h.2 ▸ Fr.refl _ _⟩
  have hac3 : ∀ (w : World) (q : Nat), Row w q 9 ([s, a.a, b.a].map strc) → Calls Try.prog 18 #[.slice (some ⟨q, 0, none⟩) 3 3] w fun e w' => e = .returned (.bool (actorB s && (actorB a.a && actorB b.a))) ∧ Fr (fun _ => False) w w' := fun w q hq => (actor_any (some ⟨q, 0, none⟩) 3 3 [s, a.a, b.a] w (Row.rd hq 0 3 (Nat.le_refl _)) (by omega) (by simp; omega)).mono fun e w' h => ⟨by rw [h.1]; simp [actorsB], h.2 ▸ Fr.refl _ _⟩
  have hways := cmp_ways a b
  obtain ⟨lab, hlab⟩ : ∃ z, lessN a b = z := ⟨_, rfl⟩
  obtain ⟨lba, hlba⟩ : ∃ z, lessN b a = z := ⟨_, rfl⟩
  obtain ⟨p, hp⟩ : ∃ z, cmpN a b = z := ⟨_, rfl⟩
  obtain ⟨i, hi⟩ : ∃ z, idB a = z := ⟨_, rfl⟩
  obtain ⟨z, hze⟩ : ∃ z, zeroB a = z := ⟨_, rfl⟩
  obtain ⟨e, hee⟩ : ∃ z, decide (a.a = []) = z := ⟨_, rfl⟩
  obtain ⟨ab, hab⟩ : ∃ z, actorB b.a = z := ⟨_, rfl⟩
  rw [hlab, hlba, hp] at hways
  have hzz : z = (decide (a.c = 0) && e) := by rw [← hze, ← hee]; rfl
  rw [hc0] at hzz
  have te := txt_e a.a
  rw [hee] at te
  have te2 : (txt a.a).toList.isEmpty = e := by
    rw [show (txt a.a).toList = a.a from ByteArray.toList_mk _, ← hee]
    cases a.a <;> simp
  have tc0 : (a.c == 0) = true := hc0
  obtain ⟨p0, hp0⟩ : ∃ p0 : Int, (if lab = true then -1 else 0) = p0 := ⟨_, rfl⟩
  have HP : Hid ((lba = true → p = 1) ∧ (lba = false → p = p0)) := Lib.hid (by
    rw [← hp0]
    rcases hways with ⟨h1, _, h2, h3⟩ | ⟨h1, _, h2, h3⟩ | ⟨h1, _, h2, h3⟩ <;> rw [h1, h2, h3] <;> simp)
  have HP0 : Hid ((lab = true → p0 = -1) ∧ (lab = false → p0 = 0)) := Lib.hid (by rw [← hp0]; cases lab <;> simp)
  simp only [hlab] at hls
  simp only [hlba] at hls2
  simp only [hp] at hcm
  simp only [hi] at hid hrid
  simp only [hze] at hz
  simp only [has] at hrs hac1
  simp only [haa] at hra
  simp only [hab] at hrb
  simp only [has, haa, hab, Bool.true_and] at hac3
  unfold nmc at hid hrid hz hcm hls hls2
  have HID := Lib.hid hid
  have HRID := Lib.hid hrid
  have HZ := Lib.hid hz
  have HCM := Lib.hid hcm
  have HLS := Lib.hid hls
  have HLS2 := Lib.hid hls2
  have HRS := Lib.hid hrs
  have HRA := Lib.hid hra
  have HRB := Lib.hid hrb
  have HAC0 := Lib.hid hac0
  have HAC1 := Lib.hid hac1
  have HAC3 := Lib.hid hac3
  have ti : (i == i) = true := by simp
  have tp : (p == p) = true := by simp
  have tab : (ab == ab) = true := by simp
  have tz : (z == e) = true := by rw [hzz]; simp
  have g0 : decide ((100 : Int) < (la : Int)) = false := decide_eq_false (by omega)
  have g0' : decide (100 < la) = false := decide_eq_false (by omega)
  have g1 : decide ((100 : Int) < (lb : Int)) = false := decide_eq_false (by omega)
  have g1' : decide (100 < lb) = false := decide_eq_false (by omega)
  have g2' : decide ((100 : Int) < (lc : Int)) = false := decide_eq_false (by omega)
  have g2'' : decide (100 < lc) = false := decide_eq_false (by omega)
  clear hp0 hid hrid hz hcm hls hls2 hrs hra hrb hac0 hac1 hac3 hways hlab hlba hp hi hze hee hab hzz hc0 has haa n1 n2 n3
  unfold nmc
  clear hr1 hr2 hf1 hf2 hla hlb hlc
  go_enter Try.func4, Try.ntmps4
  go_wp2_with fail
  clear hw1 hw2 hg hg2
  refine (HAW.out _).mono ?_
  rintro e w4 ⟨rfl, hf⟩
  have HF4 := Lib.hid (HF3.out.trans hf (fun _ _ h => h))
  have HA4 := Lib.hid (HA3.out.fr hf (fun h => h))
  have HB4 := Lib.hid (HB3.out.fr hf (fun h => h))
  clear hf
  obtain ⟨a0, a1⟩ := HA4.out.cells
  obtain ⟨b0, b1⟩ := HB4.out.cells
  go_wp2_with fail
  refine (HLS.out _).mono ?_
  rintro e w5 ⟨rfl, hf⟩
  have HF5 := Lib.hid (HF4.out.trans hf (fun _ _ h => h))
  have HA5 := Lib.hid (HA4.out.fr hf (fun h => h))
  have HB5 := Lib.hid (HB4.out.fr hf (fun h => h))
  clear hf a0 a1 b0 b1
  go_upto_if 30 with fail
  go_cut [7] (fun v wx => v = .int .i64 p0 ∧ RowN wx g a ∧ RowN wx g2 b ∧ Fr (fun _ => False) w wx)
  case first =>
    cases lab with
    | true =>
      go_wp2_with fail
      go_meet
      exact ⟨congrArg (Value.int .i64) (by have h := HP0.out.1; simp at h; omega), HA5.out, HB5.out, HF5.out⟩
    | false =>
      go_wp2_with fail
      go_meet
      exact ⟨congrArg (Value.int .i64) (by have h := HP0.out.2; simp at h; omega), HA5.out, HB5.out, HF5.out⟩
  case rest =>
  obtain ⟨rfl, ha6, hb6, hf6⟩ := hcut
  rename World => w6
  have HA6 := Lib.hid ha6
  have HB6 := Lib.hid hb6
  have HF6 := Lib.hid hf6
  clear ha6 hb6 hf6
  obtain ⟨a0, a1⟩ := HA6.out.cells
  obtain ⟨b0, b1⟩ := HB6.out.cells
  go_wp2_with fail
  refine (HLS2.out _).mono ?_
  rintro e w7 ⟨rfl, hf⟩
  have HF7 := Lib.hid (HF6.out.trans hf (fun _ _ h => h))
  have HA7 := Lib.hid (HA6.out.fr hf (fun h => h))
  have HB7 := Lib.hid (HB6.out.fr hf (fun h => h))
  clear hf a0 a1 b0 b1
  go_upto_if 33 with fail
  go_cut [7] (fun v wx => v = .int .i64 p ∧ RowN wx g a ∧ RowN wx g2 b ∧ Fr (fun _ => False) w wx)
  case first =>
    cases lba with
    | true =>
      go_wp2_with fail
      go_meet
      exact ⟨congrArg (Value.int .i64) (by have h := HP.out.1; simp at h; omega), HA7.out, HB7.out, HF7.out⟩
    | false =>
      go_wp2_with fail
      go_meet
      exact ⟨congrArg (Value.int .i64) (by have h := HP.out.2; simp at h; omega), HA7.out, HB7.out, HF7.out⟩
  case rest =>
  obtain ⟨rfl, ha9, hb9, hf9⟩ := hcut
  rename World => w9
  have HA9 := Lib.hid ha9
  have HB9 := Lib.hid hb9
  have HF9 := Lib.hid hf9
  clear ha9 hb9 hf9
  have HA := HA9
  have HB := HB9
  go_upto_region 8 with fail
  have HGc : Hid (Fr (fun _ => False) w9 w9) := Lib.hid (Fr.refl _ _)
  refine wp_region_held_drew (S := fun w' => Fr (fun _ => False) w9 w') (by kernel_rfl) ?_ (fun hHeld => ?_)
  · exact (Fr.refl _ _).drew
  refine wpAnyH_take (i := 0) (v := ?vt111) rfl (by kernel_rfl) (by kernel_rfl) (by kernel_rfl) (fun _ _ _ h => h) (Or.inl ⟨by rfl, ?hyt111⟩) hHeld ?restt111
  case hyt111 => intro w hSw; (try dsimp only at hSw); obtain ⟨c0, c1⟩ := (HA.out.fr (HGc.out.trans hSw (fun _ _ h => h)) (fun h => h)).cells; go_simp; try (with_reducible rfl)
  (try simp only [Act.put, List.setIfInBounds_toArray, List.set_cons_zero, List.set_cons_succ, List.getElem_toArray, List.getElem_cons_zero])
  refine wpAnyH_take (i := 2) (v := ?vt112) rfl (by kernel_rfl) (by kernel_rfl) (by kernel_rfl) (fun _ _ _ h => h) (Or.inl ⟨by rfl, ?hyt112⟩) hHeld ?restt112
  case hyt112 => intro w hSw; (try dsimp only at hSw); obtain ⟨c0, c1⟩ := (HA.out.fr (HGc.out.trans hSw (fun _ _ h => h)) (fun h => h)).cells; go_simp; try (with_reducible rfl)
  (try simp only [Act.put, List.setIfInBounds_toArray, List.set_cons_zero, List.set_cons_succ, List.getElem_toArray, List.getElem_cons_zero, List.getElem_cons_succ])
  refine wpAnyH_ready (rs := [1]) (by kernel_rfl) (by simp) ?_
  refine AllReadyH.cons rfl (fun Kx hKx => ?_) AllReadyH.nil
  go_simp
  have hcon := HID.out (w9.drew)
  with_reducible refine hcon.mono ?_
  clear hcon
  rintro e' v1 ⟨rfl, hff⟩
  have HFn : Hid (Fr (fun _ => False) w9 v1) := Lib.hid ((Fr.refl _ _).drew.trans hff (fun _ _ h => h))
  clear hff
  have HGc := Lib.hid (HGc.out.trans HFn.out (fun _ _ h => h))
  refine hKx.out _ _ ?_ (fun hHeld => ?_)
  · exact HFn.out
  clear hKx Kx
  (try simp only [Act.put, List.setIfInBounds_toArray, List.set_cons_zero, List.set_cons_succ, List.getElem_toArray, List.getElem_cons_zero, List.getElem_cons_succ])
  refine wpAnyH_more (fun w' => Fr (fun _ => False) v1 w') (fun _ h => HFn.out.trans h (fun _ _ h => h)) ?_ (fun hHeld => ?_)
  · exact Fr.refl _ _
  clear HFn
  refine wpAnyH_ready (rs := [3]) (by kernel_rfl) (by simp) ?_
  refine AllReadyH.cons rfl (fun Kx hKx => ?_) AllReadyH.nil
  go_simp
  have hcon := HRID.out (v1)
  with_reducible refine hcon.mono ?_
  clear hcon
  rintro e' v2 ⟨rfl, hff⟩
  have HFn : Hid (Fr (fun _ => False) v1 v2) := Lib.hid (hff)
  clear hff
  have HGc := Lib.hid (HGc.out.trans HFn.out (fun _ _ h => h))
  refine hKx.out _ _ ?_ (fun hHeld => ?_)
  · exact HFn.out
  clear hKx Kx
  (try simp only [Act.put, List.setIfInBounds_toArray, List.set_cons_zero, List.set_cons_succ, List.getElem_toArray, List.getElem_cons_zero, List.getElem_cons_succ])
  refine wpAnyH_more (fun w' => Fr (fun _ => False) v2 w') (fun _ h => HFn.out.trans h (fun _ _ h => h)) ?_ (fun hHeld => ?_)
  · exact Fr.refl _ _
  clear HFn
  refine wpAnyH_take (i := 4) (v := ?vt113) rfl (by kernel_rfl) (by kernel_rfl) (by kernel_rfl) (fun _ _ _ h => h) (Or.inl ⟨by rfl, ?hyt113⟩) hHeld ?restt113
  case hyt113 => intro w hSw; (try dsimp only at hSw); go_simp; try (with_reducible rfl)
  (try simp only [Act.put, List.setIfInBounds_toArray, List.set_cons_zero, List.set_cons_succ, List.getElem_toArray, List.getElem_cons_zero, List.getElem_cons_succ])
  refine wpAnyH_take (i := 5) (v := ?vt114) rfl (by kernel_rfl) (by kernel_rfl) (by kernel_rfl) (fun _ _ _ h => h) (Or.inl ⟨by rfl, ?hyt114⟩) hHeld ?restt114
  case hyt114 => intro w hSw; (try dsimp only at hSw); go_simp; try (with_reducible rfl)
  (try simp only [Act.put, List.setIfInBounds_toArray, List.set_cons_zero, List.set_cons_succ, List.getElem_toArray, List.getElem_cons_zero, List.getElem_cons_succ])
  refine wpAnyH_take (i := 6) (v := ?vt115) rfl (by kernel_rfl) (by kernel_rfl) (by kernel_rfl) (fun _ _ _ h => h) (Or.inl ⟨by rfl, ?hyt115⟩) hHeld ?restt115
  case hyt115 => intro w hSw; (try dsimp only at hSw); obtain ⟨c0, c1⟩ := (HA.out.fr (HGc.out.trans hSw (fun _ _ h => h)) (fun h => h)).cells; go_simp; try (with_reducible rfl)
  (try simp only [Act.put, List.setIfInBounds_toArray, List.set_cons_zero, List.set_cons_succ, List.getElem_toArray, List.getElem_cons_zero, List.getElem_cons_succ])
  refine wpAnyH_take (i := 8) (v := ?vt116) rfl (by kernel_rfl) (by kernel_rfl) (by kernel_rfl) (fun _ _ _ h => h) (Or.inl ⟨by rfl, ?hyt116⟩) hHeld ?restt116
  case hyt116 => intro w hSw; (try dsimp only at hSw); go_simp; try (with_reducible rfl)
  (try simp only [Act.put, List.setIfInBounds_toArray, List.set_cons_zero, List.set_cons_succ, List.getElem_toArray, List.getElem_cons_zero, List.getElem_cons_succ])
  refine wpAnyH_take (i := 9) (v := ?vt117) rfl (by kernel_rfl) (by kernel_rfl) (by kernel_rfl) (fun _ _ _ h => h) (Or.inl ⟨by rfl, ?hyt117⟩) hHeld ?restt117
  case hyt117 => intro w hSw; (try dsimp only at hSw); obtain ⟨c0, c1⟩ := (HA.out.fr (HGc.out.trans hSw (fun _ _ h => h)) (fun h => h)).cells; go_simp; try (with_reducible rfl)
  (try simp only [Act.put, List.setIfInBounds_toArray, List.set_cons_zero, List.set_cons_succ, List.getElem_toArray, List.getElem_cons_zero, List.getElem_cons_succ])
  refine wpAnyH_take (i := 10) (v := ?vt118) rfl (by kernel_rfl) (by kernel_rfl) (by kernel_rfl) (fun _ _ _ h => h) (Or.inl ⟨by rfl, ?hyt118⟩) hHeld ?restt118
  case hyt118 => intro w hSw; (try dsimp only at hSw); go_simp; try (with_reducible rfl)
  (try simp only [Act.put, List.setIfInBounds_toArray, List.set_cons_zero, List.set_cons_succ, List.getElem_toArray, List.getElem_cons_zero, List.getElem_cons_succ])
  refine wpAnyH_ready (rs := [7]) (by kernel_rfl) (by simp) ?_
  refine AllReadyH.cons rfl (fun Kx hKx => ?_) AllReadyH.nil
  go_simp
  have hcon := HZ.out (v2)
  with_reducible refine hcon.mono ?_
  clear hcon
  rintro e' v3 ⟨rfl, hff⟩
  have HFn : Hid (Fr (fun _ => False) v2 v3) := Lib.hid (hff)
  clear hff
  have HGc := Lib.hid (HGc.out.trans HFn.out (fun _ _ h => h))
  refine hKx.out _ _ ?_ (fun hHeld => ?_)
  · exact HFn.out
  clear hKx Kx
  (try simp only [Act.put, List.setIfInBounds_toArray, List.set_cons_zero, List.set_cons_succ, List.getElem_toArray, List.getElem_cons_zero, List.getElem_cons_succ])
  refine wpAnyH_more (fun w' => Fr (fun _ => False) v3 w') (fun _ h => HFn.out.trans h (fun _ _ h => h)) ?_ (fun hHeld => ?_)
  · exact Fr.refl _ _
  clear HFn
  refine wpAnyH_take (i := 11) (v := ?vt119) rfl (by kernel_rfl) (by kernel_rfl) (by kernel_rfl) (fun _ _ _ h => h) (Or.inl ⟨by rfl, ?hyt119⟩) hHeld ?restt119
  case hyt119 => intro w hSw; (try dsimp only at hSw); go_simp; try (with_reducible rfl)
  (try simp only [Act.put, List.setIfInBounds_toArray, List.set_cons_zero, List.set_cons_succ, List.getElem_toArray, List.getElem_cons_zero, List.getElem_cons_succ])
  refine wpAnyH_take (i := 12) (v := ?vt120) rfl (by kernel_rfl) (by kernel_rfl) (by kernel_rfl) (fun _ _ _ h => h) (Or.inl ⟨by rfl, ?hyt120⟩) hHeld ?restt120
  case hyt120 => intro w hSw; (try dsimp only at hSw); go_simp; try (with_reducible rfl)
  (try simp only [Act.put, List.setIfInBounds_toArray, List.set_cons_zero, List.set_cons_succ, List.getElem_toArray, List.getElem_cons_zero, List.getElem_cons_succ])
  refine wpAnyH_take (i := 13) (v := ?vt121) rfl (by kernel_rfl) (by kernel_rfl) (by kernel_rfl) (fun _ _ _ h => h) (Or.inl ⟨by rfl, ?hyt121⟩) hHeld ?restt121
  case hyt121 => intro w hSw; (try dsimp only at hSw); obtain ⟨c0, c1⟩ := (HA.out.fr (HGc.out.trans hSw (fun _ _ h => h)) (fun h => h)).cells; go_simp; try (with_reducible rfl)
  (try simp only [Act.put, List.setIfInBounds_toArray, List.set_cons_zero, List.set_cons_succ, List.getElem_toArray, List.getElem_cons_zero, List.getElem_cons_succ])
  refine wpAnyH_take (i := 14) (v := ?vt122) rfl (by kernel_rfl) (by kernel_rfl) (by kernel_rfl) (fun _ _ _ h => h) (Or.inl ⟨by rfl, ?hyt122⟩) hHeld ?restt122
  case hyt122 => intro w hSw; (try dsimp only at hSw); go_simp; try (with_reducible rfl)
  (try simp only [Act.put, List.setIfInBounds_toArray, List.set_cons_zero, List.set_cons_succ, List.getElem_toArray, List.getElem_cons_zero, List.getElem_cons_succ])
  refine wpAnyH_take (i := 15) (v := ?vt123) rfl (by kernel_rfl) (by kernel_rfl) (by kernel_rfl) (fun _ _ _ h => h) (Or.inl ⟨by rfl, ?hyt123⟩) hHeld ?restt123
  case hyt123 => intro w hSw; (try dsimp only at hSw); go_simp; try (with_reducible rfl)
  (try simp only [Act.put, List.setIfInBounds_toArray, List.set_cons_zero, List.set_cons_succ, List.getElem_toArray, List.getElem_cons_zero, List.getElem_cons_succ])
  refine wpAnyH_take (i := 16) (v := ?vt124) rfl (by kernel_rfl) (by kernel_rfl) (by kernel_rfl) (fun _ _ _ h => h) (Or.inl ⟨by rfl, ?hyt124⟩) hHeld ?restt124
  case hyt124 => intro w hSw; (try dsimp only at hSw); go_simp; try (with_reducible rfl)
  (try simp only [Act.put, List.setIfInBounds_toArray, List.set_cons_zero, List.set_cons_succ, List.getElem_toArray, List.getElem_cons_zero, List.getElem_cons_succ])
  refine wpAnyH_take (i := 17) (v := ?vt125) rfl (by kernel_rfl) (by kernel_rfl) (by kernel_rfl) (fun _ _ _ h => h) (Or.inl ⟨by rfl, ?hyt125⟩) hHeld ?restt125
  case hyt125 => intro w hSw; (try dsimp only at hSw); go_simp; try (with_reducible rfl)
  (try simp only [Act.put, List.setIfInBounds_toArray, List.set_cons_zero, List.set_cons_succ, List.getElem_toArray, List.getElem_cons_zero, List.getElem_cons_succ])
  refine wpAnyH_take (i := 18) (v := ?vt126) rfl (by kernel_rfl) (by kernel_rfl) (by kernel_rfl) (fun _ _ _ h => h) (Or.inl ⟨by rfl, ?hyt126⟩) hHeld ?restt126
  case hyt126 => intro w hSw; (try dsimp only at hSw); go_simp; try (with_reducible rfl)
  (try simp only [Act.put, List.setIfInBounds_toArray, List.set_cons_zero, List.set_cons_succ, List.getElem_toArray, List.getElem_cons_zero, List.getElem_cons_succ])
  refine wpAnyH_take (i := 19) (v := ?vt127) rfl (by kernel_rfl) (by kernel_rfl) (by kernel_rfl) (fun _ _ _ h => h) (Or.inl ⟨by rfl, ?hyt127⟩) hHeld ?restt127
  case hyt127 => intro w hSw; (try dsimp only at hSw); obtain ⟨c0, c1⟩ := (HA.out.fr (HGc.out.trans hSw (fun _ _ h => h)) (fun h => h)).cells; go_simp; try (with_reducible rfl)
  (try simp only [Act.put, List.setIfInBounds_toArray, List.set_cons_zero, List.set_cons_succ, List.getElem_toArray, List.getElem_cons_zero, List.getElem_cons_succ])
  refine wpAnyH_take (i := 20) (v := ?vt128) rfl (by kernel_rfl) (by kernel_rfl) (by kernel_rfl) (fun _ _ _ h => h) (Or.inl ⟨by rfl, ?hyt128⟩) hHeld ?restt128
  case hyt128 => intro w hSw; (try dsimp only at hSw); obtain ⟨c0, c1⟩ := (HB.out.fr (HGc.out.trans hSw (fun _ _ h => h)) (fun h => h)).cells; go_simp; try (with_reducible rfl)
  (try simp only [Act.put, List.setIfInBounds_toArray, List.set_cons_zero, List.set_cons_succ, List.getElem_toArray, List.getElem_cons_zero, List.getElem_cons_succ])
  refine wpAnyH_take (i := 22) (v := ?vt129) rfl (by kernel_rfl) (by kernel_rfl) (by kernel_rfl) (fun _ _ _ h => h) (Or.inl ⟨by rfl, ?hyt129⟩) hHeld ?restt129
  case hyt129 => intro w hSw; (try dsimp only at hSw); go_simp; try (with_reducible rfl)
  (try simp only [Act.put, List.setIfInBounds_toArray, List.set_cons_zero, List.set_cons_succ, List.getElem_toArray, List.getElem_cons_zero, List.getElem_cons_succ])
  refine wpAnyH_ready (rs := [21]) (by kernel_rfl) (by simp) ?_
  refine AllReadyH.cons rfl (fun Kx hKx => ?_) AllReadyH.nil
  go_simp
  have hcon := HCM.out (v3)
  with_reducible refine hcon.mono ?_
  clear hcon
  rintro e' v4 ⟨rfl, hff⟩
  have HFn : Hid (Fr (fun _ => False) v3 v4) := Lib.hid (hff)
  clear hff
  have HGc := Lib.hid (HGc.out.trans HFn.out (fun _ _ h => h))
  refine hKx.out _ _ ?_ (fun hHeld => ?_)
  · exact HFn.out
  clear hKx Kx
  (try simp only [Act.put, List.setIfInBounds_toArray, List.set_cons_zero, List.set_cons_succ, List.getElem_toArray, List.getElem_cons_zero, List.getElem_cons_succ])
  refine wpAnyH_more (fun w' => Fr (fun _ => False) v4 w') (fun _ h => HFn.out.trans h (fun _ _ h => h)) ?_ (fun hHeld => ?_)
  · exact Fr.refl _ _
  clear HFn
  refine wpAnyH_take (i := 23) (v := ?vt130) rfl (by kernel_rfl) (by kernel_rfl) (by kernel_rfl) (fun _ _ _ h => h) (Or.inl ⟨by rfl, ?hyt130⟩) hHeld ?restt130
  case hyt130 => intro w hSw; (try dsimp only at hSw); go_simp; try (with_reducible rfl)
  (try simp only [Act.put, List.setIfInBounds_toArray, List.set_cons_zero, List.set_cons_succ, List.getElem_toArray, List.getElem_cons_zero, List.getElem_cons_succ])
  refine wpAnyH_take (i := 24) (v := ?vt131) rfl (by kernel_rfl) (by kernel_rfl) (by kernel_rfl) (fun _ _ _ h => h) (Or.inl ⟨by rfl, ?hyt131⟩) hHeld ?restt131
  case hyt131 => intro w hSw; (try dsimp only at hSw); go_simp; try (with_reducible rfl)
  (try simp only [Act.put, List.setIfInBounds_toArray, List.set_cons_zero, List.set_cons_succ, List.getElem_toArray, List.getElem_cons_zero, List.getElem_cons_succ])
  refine wpAnyH_take (i := 25) (v := ?vt132) rfl (by kernel_rfl) (by kernel_rfl) (by kernel_rfl) (fun _ _ _ h => h) (Or.inl ⟨by rfl, ?hyt132⟩) hHeld ?restt132
  case hyt132 => intro w hSw; (try dsimp only at hSw); go_simp; try (with_reducible rfl)
  (try simp only [Act.put, List.setIfInBounds_toArray, List.set_cons_zero, List.set_cons_succ, List.getElem_toArray, List.getElem_cons_zero, List.getElem_cons_succ])
  refine wpAnyH_take (i := 26) (v := ?vt133) rfl (by kernel_rfl) (by kernel_rfl) (by kernel_rfl) (fun _ _ _ h => h) (Or.inl ⟨by rfl, ?hyt133⟩) hHeld ?restt133
  case hyt133 => intro w hSw; (try dsimp only at hSw); go_simp; try (with_reducible rfl)
  (try simp only [Act.put, List.setIfInBounds_toArray, List.set_cons_zero, List.set_cons_succ, List.getElem_toArray, List.getElem_cons_zero, List.getElem_cons_succ])
  refine wpAnyH_take (i := 29) (v := ?vt134) rfl (by kernel_rfl) (by kernel_rfl) (by kernel_rfl) (fun _ _ _ h => h) (Or.inl ⟨by rfl, ?hyt134⟩) hHeld ?restt134
  case hyt134 => intro w hSw; (try dsimp only at hSw); go_simp; try (with_reducible rfl)
  (try simp only [Act.put, List.setIfInBounds_toArray, List.set_cons_zero, List.set_cons_succ, List.getElem_toArray, List.getElem_cons_zero, List.getElem_cons_succ])
  refine wpAnyH_ready (rs := [27]) (by kernel_rfl) (by simp) ?_
  refine AllReadyH.cons rfl (fun Kx hKx => ?_) AllReadyH.nil
  go_simp
  obtain ⟨v5, hwm⟩ : ∃ v, (v4.alloc (.cells #[.string (txt s)] 9)) = v := ⟨_, rfl⟩
  rw [hwm]
  obtain ⟨q27, hqm⟩ : ∃ q, v4.heap.size = q := ⟨_, rfl⟩
  try rw [hqm]
  have HFn : Hid (Fr (fun _ => False) v4 v5) := Lib.hid (by rw [← hwm]; exact ((Fr.refl _ _).alloc _))
  have hbm : Row v5 q27 9 ([s].map strc) := by rw [← hwm, ← hqm]; exact Row.new v4 _ _
  have HB27 := Lib.hid hbm
  clear hwm hqm hbm
  have HGc := Lib.hid (HGc.out.trans HFn.out (fun _ _ h => h))
  refine hKx.out _ _ ?_ (fun hHeld => ?_)
  · exact HFn.out
  clear hKx Kx
  (try simp only [Act.put, List.setIfInBounds_toArray, List.set_cons_zero, List.set_cons_succ, List.getElem_toArray, List.getElem_cons_zero, List.getElem_cons_succ])
  refine wpAnyH_more (fun w' => Fr (fun _ => False) v5 w') (fun _ h => HFn.out.trans h (fun _ _ h => h)) ?_ (fun hHeld => ?_)
  · exact Fr.refl _ _
  clear HFn
  refine wpAnyH_ready (rs := [28]) (by kernel_rfl) (by simp) ?_
  refine AllReadyH.cons rfl (fun Kx hKx => ?_) AllReadyH.nil
  go_simp
  have hcon := HAC1.out (v5) q27 HB27.out
  with_reducible refine hcon.mono ?_
  clear hcon
  rintro e' v6 ⟨rfl, hff⟩
  have HFn : Hid (Fr (fun _ => False) v5 v6) := Lib.hid (hff)
  clear hff
  have HB27 := Lib.hid (HB27.out.fr HFn.out (fun h => h))
  have HGc := Lib.hid (HGc.out.trans HFn.out (fun _ _ h => h))
  refine hKx.out _ _ ?_ (fun hHeld => ?_)
  · exact HFn.out
  clear hKx Kx
  (try simp only [Act.put, List.setIfInBounds_toArray, List.set_cons_zero, List.set_cons_succ, List.getElem_toArray, List.getElem_cons_zero, List.getElem_cons_succ])
  refine wpAnyH_more (fun w' => Fr (fun _ => False) v6 w') (fun _ h => HFn.out.trans h (fun _ _ h => h)) ?_ (fun hHeld => ?_)
  · exact Fr.refl _ _
  clear HFn
  refine wpAnyH_ready (rs := [30]) (by kernel_rfl) (by simp) ?_
  refine AllReadyH.cons rfl (fun Kx hKx => ?_) AllReadyH.nil
  go_simp
  have hcon := HRS.out (v6)
  with_reducible refine hcon.mono ?_
  clear hcon
  rintro e' v7 ⟨rfl, hff⟩
  have HFn : Hid (Fr (fun _ => False) v6 v7) := Lib.hid (hff)
  clear hff
  have HB27 := Lib.hid (HB27.out.fr HFn.out (fun h => h))
  have HGc := Lib.hid (HGc.out.trans HFn.out (fun _ _ h => h))
  refine hKx.out _ _ ?_ (fun hHeld => ?_)
  · exact HFn.out
  clear hKx Kx
  (try simp only [Act.put, List.setIfInBounds_toArray, List.set_cons_zero, List.set_cons_succ, List.getElem_toArray, List.getElem_cons_zero, List.getElem_cons_succ])
  refine wpAnyH_more (fun w' => Fr (fun _ => False) v7 w') (fun _ h => HFn.out.trans h (fun _ _ h => h)) ?_ (fun hHeld => ?_)
  · exact Fr.refl _ _
  clear HFn
  refine wpAnyH_take (i := 31) (v := ?vt135) rfl (by kernel_rfl) (by kernel_rfl) (by kernel_rfl) (fun _ _ _ h => h) (Or.inl ⟨by rfl, ?hyt135⟩) hHeld ?restt135
  case hyt135 => intro w hSw; (try dsimp only at hSw); go_simp; try (with_reducible rfl)
  (try simp only [Act.put, List.setIfInBounds_toArray, List.set_cons_zero, List.set_cons_succ, List.getElem_toArray, List.getElem_cons_zero, List.getElem_cons_succ])
  refine wpAnyH_take (i := 32) (v := ?vt136) rfl (by kernel_rfl) (by kernel_rfl) (by kernel_rfl) (fun _ _ _ h => h) (Or.inl ⟨by rfl, ?hyt136⟩) hHeld ?restt136
  case hyt136 => intro w hSw; (try dsimp only at hSw); go_simp; try (with_reducible rfl)
  (try simp only [Act.put, List.setIfInBounds_toArray, List.set_cons_zero, List.set_cons_succ, List.getElem_toArray, List.getElem_cons_zero, List.getElem_cons_succ])
  refine wpAnyH_take (i := 33) (v := ?vt137) rfl (by kernel_rfl) (by kernel_rfl) (by kernel_rfl) (fun _ _ _ h => h) (Or.inl ⟨by rfl, ?hyt137⟩) hHeld ?restt137
  case hyt137 => intro w hSw; (try dsimp only at hSw); go_simp; try (with_reducible rfl)
  (try simp only [Act.put, List.setIfInBounds_toArray, List.set_cons_zero, List.set_cons_succ, List.getElem_toArray, List.getElem_cons_zero, List.getElem_cons_succ])
  refine wpAnyH_take (i := 34) (v := ?vt138) rfl (by kernel_rfl) (by kernel_rfl) (by kernel_rfl) (fun _ _ _ h => h) (Or.inl ⟨by rfl, ?hyt138⟩) hHeld ?restt138
  case hyt138 => intro w hSw; (try dsimp only at hSw); go_simp; try (with_reducible rfl)
  (try simp only [Act.put, List.setIfInBounds_toArray, List.set_cons_zero, List.set_cons_succ, List.getElem_toArray, List.getElem_cons_zero, List.getElem_cons_succ])
  refine wpAnyH_take (i := 35) (v := ?vt139) rfl (by kernel_rfl) (by kernel_rfl) (by kernel_rfl) (fun _ _ _ h => h) (Or.inl ⟨by rfl, ?hyt139⟩) hHeld ?restt139
  case hyt139 => intro w hSw; (try dsimp only at hSw); go_simp; try (with_reducible rfl)
  (try simp only [Act.put, List.setIfInBounds_toArray, List.set_cons_zero, List.set_cons_succ, List.getElem_toArray, List.getElem_cons_zero, List.getElem_cons_succ])
  refine wpAnyH_take (i := 36) (v := ?vt140) rfl (by kernel_rfl) (by kernel_rfl) (by kernel_rfl) (fun _ _ _ h => h) (Or.inl ⟨by rfl, ?hyt140⟩) hHeld ?restt140
  case hyt140 => intro w hSw; (try dsimp only at hSw); obtain ⟨c0, c1⟩ := (HA.out.fr (HGc.out.trans hSw (fun _ _ h => h)) (fun h => h)).cells; go_simp; try (with_reducible rfl)
  (try simp only [Act.put, List.setIfInBounds_toArray, List.set_cons_zero, List.set_cons_succ, List.getElem_toArray, List.getElem_cons_zero, List.getElem_cons_succ])
  refine wpAnyH_take (i := 37) (v := ?vt141) rfl (by kernel_rfl) (by kernel_rfl) (by kernel_rfl) (fun _ _ _ h => h) (Or.inl ⟨by rfl, ?hyt141⟩) hHeld ?restt141
  case hyt141 => intro w hSw; (try dsimp only at hSw); go_simp; try (with_reducible rfl)
  (try simp only [Act.put, List.setIfInBounds_toArray, List.set_cons_zero, List.set_cons_succ, List.getElem_toArray, List.getElem_cons_zero, List.getElem_cons_succ])
  refine wpAnyH_take (i := 38) (v := ?vt142) rfl (by kernel_rfl) (by kernel_rfl) (by kernel_rfl) (fun _ _ _ h => h) (Or.inl ⟨by rfl, ?hyt142⟩) hHeld ?restt142
  case hyt142 => intro w hSw; (try dsimp only at hSw); obtain ⟨c0, c1⟩ := (HB.out.fr (HGc.out.trans hSw (fun _ _ h => h)) (fun h => h)).cells; go_simp; try (with_reducible rfl)
  (try simp only [Act.put, List.setIfInBounds_toArray, List.set_cons_zero, List.set_cons_succ, List.getElem_toArray, List.getElem_cons_zero, List.getElem_cons_succ])
  refine wpAnyH_take (i := 41) (v := ?vt143) rfl (by kernel_rfl) (by kernel_rfl) (by kernel_rfl) (fun _ _ _ h => h) (Or.inl ⟨by rfl, ?hyt143⟩) hHeld ?restt143
  case hyt143 => intro w hSw; (try dsimp only at hSw); go_simp; try (with_reducible rfl)
  (try simp only [Act.put, List.setIfInBounds_toArray, List.set_cons_zero, List.set_cons_succ, List.getElem_toArray, List.getElem_cons_zero, List.getElem_cons_succ])
  refine wpAnyH_ready (rs := [39]) (by kernel_rfl) (by simp) ?_
  refine AllReadyH.cons rfl (fun Kx hKx => ?_) AllReadyH.nil
  go_simp
  obtain ⟨v8, hwm⟩ : ∃ v, (v7.alloc (.cells #[.string (txt s), .string (txt a.a), .string (txt b.a)] 9)) = v := ⟨_, rfl⟩
  rw [hwm]
  obtain ⟨q39, hqm⟩ : ∃ q, v7.heap.size = q := ⟨_, rfl⟩
  try rw [hqm]
  have HFn : Hid (Fr (fun _ => False) v7 v8) := Lib.hid (by rw [← hwm]; exact ((Fr.refl _ _).alloc _))
  have hbm : Row v8 q39 9 ([s, a.a, b.a].map strc) := by rw [← hwm, ← hqm]; exact Row.new v7 _ _
  have HB39 := Lib.hid hbm
  clear hwm hqm hbm
  have HB27 := Lib.hid (HB27.out.fr HFn.out (fun h => h))
  have HGc := Lib.hid (HGc.out.trans HFn.out (fun _ _ h => h))
  refine hKx.out _ _ ?_ (fun hHeld => ?_)
  · exact HFn.out
  clear hKx Kx
  (try simp only [Act.put, List.setIfInBounds_toArray, List.set_cons_zero, List.set_cons_succ, List.getElem_toArray, List.getElem_cons_zero, List.getElem_cons_succ])
  refine wpAnyH_more (fun w' => Fr (fun _ => False) v8 w') (fun _ h => HFn.out.trans h (fun _ _ h => h)) ?_ (fun hHeld => ?_)
  · exact Fr.refl _ _
  clear HFn
  refine wpAnyH_ready (rs := [40]) (by kernel_rfl) (by simp) ?_
  refine AllReadyH.cons rfl (fun Kx hKx => ?_) AllReadyH.nil
  go_simp
  have hcon := HAC3.out (v8) q39 HB39.out
  with_reducible refine hcon.mono ?_
  clear hcon
  rintro e' v9 ⟨rfl, hff⟩
  have HFn : Hid (Fr (fun _ => False) v8 v9) := Lib.hid (hff)
  clear hff
  have HB27 := Lib.hid (HB27.out.fr HFn.out (fun h => h))
  have HB39 := Lib.hid (HB39.out.fr HFn.out (fun h => h))
  have HGc := Lib.hid (HGc.out.trans HFn.out (fun _ _ h => h))
  refine hKx.out _ _ ?_ (fun hHeld => ?_)
  · exact HFn.out
  clear hKx Kx
  (try simp only [Act.put, List.setIfInBounds_toArray, List.set_cons_zero, List.set_cons_succ, List.getElem_toArray, List.getElem_cons_zero, List.getElem_cons_succ])
  refine wpAnyH_more (fun w' => Fr (fun _ => False) v9 w') (fun _ h => HFn.out.trans h (fun _ _ h => h)) ?_ (fun hHeld => ?_)
  · exact Fr.refl _ _
  clear HFn
  refine wpAnyH_ready (rs := [42]) (by kernel_rfl) (by simp) ?_
  refine AllReadyH.cons rfl (fun Kx hKx => ?_) AllReadyH.nil
  go_simp
  have hcon := HRS.out (v9)
  with_reducible refine hcon.mono ?_
  clear hcon
  rintro e' v10 ⟨rfl, hff⟩
  have HFn : Hid (Fr (fun _ => False) v9 v10) := Lib.hid (hff)
  clear hff
  have HB27 := Lib.hid (HB27.out.fr HFn.out (fun h => h))
  have HB39 := Lib.hid (HB39.out.fr HFn.out (fun h => h))
  have HGc := Lib.hid (HGc.out.trans HFn.out (fun _ _ h => h))
  refine hKx.out _ _ ?_ (fun hHeld => ?_)
  · exact HFn.out
  clear hKx Kx
  (try simp only [Act.put, List.setIfInBounds_toArray, List.set_cons_zero, List.set_cons_succ, List.getElem_toArray, List.getElem_cons_zero, List.getElem_cons_succ])
  refine wpAnyH_more (fun w' => Fr (fun _ => False) v10 w') (fun _ h => HFn.out.trans h (fun _ _ h => h)) ?_ (fun hHeld => ?_)
  · exact Fr.refl _ _
  clear HFn
  refine wpAnyH_take (i := 43) (v := ?vt144) rfl (by kernel_rfl) (by kernel_rfl) (by kernel_rfl) (fun _ _ _ h => h) (Or.inl ⟨by rfl, ?hyt144⟩) hHeld ?restt144
  case hyt144 => intro w hSw; (try dsimp only at hSw); go_simp; try (with_reducible rfl)
  (try simp only [Act.put, List.setIfInBounds_toArray, List.set_cons_zero, List.set_cons_succ, List.getElem_toArray, List.getElem_cons_zero, List.getElem_cons_succ])
  refine wpAnyH_take (i := 44) (v := ?vt145) rfl (by kernel_rfl) (by kernel_rfl) (by kernel_rfl) (fun _ _ _ h => h) (Or.inl ⟨by rfl, ?hyt145⟩) hHeld ?restt145
  case hyt145 => intro w hSw; (try dsimp only at hSw); go_simp; try (with_reducible rfl)
  (try simp only [Act.put, List.setIfInBounds_toArray, List.set_cons_zero, List.set_cons_succ, List.getElem_toArray, List.getElem_cons_zero, List.getElem_cons_succ])
  refine wpAnyH_take (i := 45) (v := ?vt146) rfl (by kernel_rfl) (by kernel_rfl) (by kernel_rfl) (fun _ _ _ h => h) (Or.inl ⟨by rfl, ?hyt146⟩) hHeld ?restt146
  case hyt146 => intro w hSw; (try dsimp only at hSw); obtain ⟨c0, c1⟩ := (HA.out.fr (HGc.out.trans hSw (fun _ _ h => h)) (fun h => h)).cells; go_simp; try (with_reducible rfl)
  (try simp only [Act.put, List.setIfInBounds_toArray, List.set_cons_zero, List.set_cons_succ, List.getElem_toArray, List.getElem_cons_zero, List.getElem_cons_succ])
  refine wpAnyH_ready (rs := [46]) (by kernel_rfl) (by simp) ?_
  refine AllReadyH.cons rfl (fun Kx hKx => ?_) AllReadyH.nil
  go_simp
  have hcon := HRA.out (v10)
  with_reducible refine hcon.mono ?_
  clear hcon
  rintro e' v11 ⟨rfl, hff⟩
  have HFn : Hid (Fr (fun _ => False) v10 v11) := Lib.hid (hff)
  clear hff
  have HB27 := Lib.hid (HB27.out.fr HFn.out (fun h => h))
  have HB39 := Lib.hid (HB39.out.fr HFn.out (fun h => h))
  have HGc := Lib.hid (HGc.out.trans HFn.out (fun _ _ h => h))
  refine hKx.out _ _ ?_ (fun hHeld => ?_)
  · exact HFn.out
  clear hKx Kx
  (try simp only [Act.put, List.setIfInBounds_toArray, List.set_cons_zero, List.set_cons_succ, List.getElem_toArray, List.getElem_cons_zero, List.getElem_cons_succ])
  refine wpAnyH_more (fun w' => Fr (fun _ => False) v11 w') (fun _ h => HFn.out.trans h (fun _ _ h => h)) ?_ (fun hHeld => ?_)
  · exact Fr.refl _ _
  clear HFn
  refine wpAnyH_take (i := 47) (v := ?vt147) rfl (by kernel_rfl) (by kernel_rfl) (by kernel_rfl) (fun _ _ _ h => h) (Or.inl ⟨by rfl, ?hyt147⟩) hHeld ?restt147
  case hyt147 => intro w hSw; (try dsimp only at hSw); go_simp; try (with_reducible rfl)
  (try simp only [Act.put, List.setIfInBounds_toArray, List.set_cons_zero, List.set_cons_succ, List.getElem_toArray, List.getElem_cons_zero, List.getElem_cons_succ])
  refine wpAnyH_take (i := 48) (v := ?vt148) rfl (by kernel_rfl) (by kernel_rfl) (by kernel_rfl) (fun _ _ _ h => h) (Or.inl ⟨by rfl, ?hyt148⟩) hHeld ?restt148
  case hyt148 => intro w hSw; (try dsimp only at hSw); go_simp; try (with_reducible rfl)
  (try simp only [Act.put, List.setIfInBounds_toArray, List.set_cons_zero, List.set_cons_succ, List.getElem_toArray, List.getElem_cons_zero, List.getElem_cons_succ])
  refine wpAnyH_take (i := 49) (v := ?vt149) rfl (by kernel_rfl) (by kernel_rfl) (by kernel_rfl) (fun _ _ _ h => h) (Or.inl ⟨by rfl, ?hyt149⟩) hHeld ?restt149
  case hyt149 => intro w hSw; (try dsimp only at hSw); go_simp; try (with_reducible rfl)
  (try simp only [Act.put, List.setIfInBounds_toArray, List.set_cons_zero, List.set_cons_succ, List.getElem_toArray, List.getElem_cons_zero, List.getElem_cons_succ])
  refine wpAnyH_take (i := 50) (v := ?vt150) rfl (by kernel_rfl) (by kernel_rfl) (by kernel_rfl) (fun _ _ _ h => h) (Or.inl ⟨by rfl, ?hyt150⟩) hHeld ?restt150
  case hyt150 => intro w hSw; (try dsimp only at hSw); obtain ⟨c0, c1⟩ := (HB.out.fr (HGc.out.trans hSw (fun _ _ h => h)) (fun h => h)).cells; go_simp; try (with_reducible rfl)
  (try simp only [Act.put, List.setIfInBounds_toArray, List.set_cons_zero, List.set_cons_succ, List.getElem_toArray, List.getElem_cons_zero, List.getElem_cons_succ])
  refine wpAnyH_ready (rs := [51]) (by kernel_rfl) (by simp) ?_
  refine AllReadyH.cons rfl (fun Kx hKx => ?_) AllReadyH.nil
  go_simp
  have hcon := HRB.out (v11)
  with_reducible refine hcon.mono ?_
  clear hcon
  rintro e' v12 ⟨rfl, hff⟩
  have HFn : Hid (Fr (fun _ => False) v11 v12) := Lib.hid (hff)
  clear hff
  have HB27 := Lib.hid (HB27.out.fr HFn.out (fun h => h))
  have HB39 := Lib.hid (HB39.out.fr HFn.out (fun h => h))
  have HGc := Lib.hid (HGc.out.trans HFn.out (fun _ _ h => h))
  refine hKx.out _ _ ?_ (fun hHeld => ?_)
  · exact HFn.out
  clear hKx Kx
  (try simp only [Act.put, List.setIfInBounds_toArray, List.set_cons_zero, List.set_cons_succ, List.getElem_toArray, List.getElem_cons_zero, List.getElem_cons_succ])
  refine wpAnyH_more (fun w' => Fr (fun _ => False) v12 w') (fun _ h => HFn.out.trans h (fun _ _ h => h)) ?_ (fun hHeld => ?_)
  · exact Fr.refl _ _
  clear HFn
  refine wpAnyH_take (i := 52) (v := ?vt151) rfl (by kernel_rfl) (by kernel_rfl) (by kernel_rfl) (fun _ _ _ h => h) (Or.inl ⟨by rfl, ?hyt151⟩) hHeld ?restt151
  case hyt151 => intro w hSw; (try dsimp only at hSw); go_simp; try (with_reducible rfl)
  (try simp only [Act.put, List.setIfInBounds_toArray, List.set_cons_zero, List.set_cons_succ, List.getElem_toArray, List.getElem_cons_zero, List.getElem_cons_succ])
  refine wpAnyH_take (i := 53) (v := ?vt152) rfl (by kernel_rfl) (by kernel_rfl) (by kernel_rfl) (fun _ _ _ h => h) (Or.inl ⟨by rfl, ?hyt152⟩) hHeld ?restt152
  case hyt152 => intro w hSw; (try dsimp only at hSw); go_simp; try (with_reducible rfl)
  (try simp only [Act.put, List.setIfInBounds_toArray, List.set_cons_zero, List.set_cons_succ, List.getElem_toArray, List.getElem_cons_zero, List.getElem_cons_succ])
  refine wpAnyH_take (i := 54) (v := ?vt153) rfl (by kernel_rfl) (by kernel_rfl) (by kernel_rfl) (fun _ _ _ h => h) (Or.inl ⟨by rfl, ?hyt153⟩) hHeld ?restt153
  case hyt153 => intro w hSw; (try dsimp only at hSw); go_simp; try (with_reducible rfl)
  (try simp only [Act.put, List.setIfInBounds_toArray, List.set_cons_zero, List.set_cons_succ, List.getElem_toArray, List.getElem_cons_zero, List.getElem_cons_succ])
  refine wpAnyH_take (i := 55) (v := ?vt154) rfl (by kernel_rfl) (by kernel_rfl) (by kernel_rfl) (fun _ _ _ h => h) (Or.inl ⟨by rfl, ?hyt154⟩) hHeld ?restt154
  case hyt154 => intro w hSw; (try dsimp only at hSw); go_simp; try (with_reducible rfl)
  (try simp only [Act.put, List.setIfInBounds_toArray, List.set_cons_zero, List.set_cons_succ, List.getElem_toArray, List.getElem_cons_zero, List.getElem_cons_succ])
  refine wpAnyH_ready (rs := [56]) (by kernel_rfl) (by simp) ?_
  refine AllReadyH.cons rfl (fun Kx hKx => ?_) AllReadyH.nil
  go_simp
  have hcon := HAC0.out (v12)
  with_reducible refine hcon.mono ?_
  clear hcon
  rintro e' v13 ⟨rfl, hff⟩
  have HFn : Hid (Fr (fun _ => False) v12 v13) := Lib.hid (hff)
  clear hff
  have HB27 := Lib.hid (HB27.out.fr HFn.out (fun h => h))
  have HB39 := Lib.hid (HB39.out.fr HFn.out (fun h => h))
  have HGc := Lib.hid (HGc.out.trans HFn.out (fun _ _ h => h))
  refine hKx.out _ _ ?_ (fun hHeld => ?_)
  · exact HFn.out
  clear hKx Kx
  (try simp only [Act.put, List.setIfInBounds_toArray, List.set_cons_zero, List.set_cons_succ, List.getElem_toArray, List.getElem_cons_zero, List.getElem_cons_succ])
  refine wpAnyH_more (fun w' => Fr (fun _ => False) v13 w') (fun _ h => HFn.out.trans h (fun _ _ h => h)) ?_ (fun hHeld => ?_)
  · exact Fr.refl _ _
  clear HFn
  refine wpAnyH_take (i := 57) (v := ?vt155) rfl (by kernel_rfl) (by kernel_rfl) (by kernel_rfl) (fun _ _ _ h => h) (Or.inl ⟨by rfl, ?hyt155⟩) hHeld ?restt155
  case hyt155 => intro w hSw; (try dsimp only at hSw); go_simp; try (with_reducible rfl)
  (try simp only [Act.put, List.setIfInBounds_toArray, List.set_cons_zero, List.set_cons_succ, List.getElem_toArray, List.getElem_cons_zero, List.getElem_cons_succ])
  refine wpAnyH_take (i := 58) (v := ?vt156) rfl (by kernel_rfl) (by kernel_rfl) (by kernel_rfl) (fun _ _ _ h => h) (Or.inl ⟨by rfl, ?hyt156⟩) hHeld ?restt156
  case hyt156 => intro w hSw; (try dsimp only at hSw); go_simp; try (with_reducible rfl)
  (try simp only [Act.put, List.setIfInBounds_toArray, List.set_cons_zero, List.set_cons_succ, List.getElem_toArray, List.getElem_cons_zero, List.getElem_cons_succ])
  refine wpAnyH_done (by kernel_rfl) ?_ _
  go_wp2_with fail
  go_ret
  exact ⟨rfl, HF9.out.trans HGc.out (fun _ _ h => h)⟩
end Go.Proofs.Ytmiofhoojahpjaa
