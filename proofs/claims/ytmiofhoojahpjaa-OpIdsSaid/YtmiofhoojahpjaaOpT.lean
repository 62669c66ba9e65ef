/-
  Layer 17, the law OpIds, where the number is not 0 (written by gen_ids.py).
-/
import Derived.Test.YtmiofhoojahpjaaOpJ
import Derived.Test.YtmiofhoojahpjaaOpR
import Derived.Test.YtmiofhoojahpjaaOpX
import Derived.Test.YtmiofhoojahpjaaReg
namespace Go.Proofs.Ytmiofhoojahpjaa
open Go.RowKit Mem Go.Lib LebM UtfM VaM OpM
attribute [local go_sem ↓] Go.wp_at_zero Go.wp_at_succ
set_option linter.unusedVariables false

set_option maxRecDepth 100000 in
set_option maxHeartbeats 12800000 in
theorem opids_f0 (a b : Nm) (s : List UInt8) (w : World) (ha : a.a.length ≤ 9223372036854775807) (hb : b.a.length ≤ 9223372036854775807) (hs : s.length ≤ 9223372036854775807) (hsm : a.a.length ≤ 100 ∧ b.a.length ≤ 100 ∧ s.length ≤ 100) (hc0 : decide (a.c = 0) = false) (has : actorB s = false) :
    Calls Try.prog 4 #[nmc a, nmc b, .string (txt s)] w fun e w' => e = .returned (.bool true) ∧ Fr (fun _ => False) w w' := by
  obtain ⟨g, w1, hg, hw1, hr1, hf1⟩ := new_n w a
  obtain ⟨g2, w2, hg2, hw2, hr2, hf2⟩ := new_n w1 b
  have HA3 := Lib.hid (hr1.fr hf2 (fun h => h))
  have HB3 := Lib.hid hr2
  have HF3 := Lib.hid (hf1.trans hf2 (fun _ _ h => h))
  have HAW := Lib.hid (fun w' => awake17_any w')
  have hsa := txt_sz a.a
  have hsb := txt_sz b.a
  have hss := txt_sz s
  obtain ⟨la, hla⟩ : ∃ l, l = a.a.length := ⟨_, rfl⟩
  obtain ⟨lb, hlb⟩ : ∃ l, l = b.a.length := ⟨_, rfl⟩
  obtain ⟨lc, hlc⟩ : ∃ l, l = s.length := ⟨_, rfl⟩
  rw [← hla] at hsa ha
  rw [← hlb] at hsb hb
  rw [← hlc] at hss hs
  obtain ⟨n1, n2, n3⟩ := hsm
  have hid := fun w => id_any a w (by omega)
  have hrid := fun w => rid_any a w (by omega)
  have hz := fun w => zero_any a w
  have hcm := fun w => cmp_any a b w
  have hls := fun w => rless_any a b w (by omega) (by omega)
  have hls2 := fun w => rless_any b a w (by omega) (by omega)
  have hrs : ∀ w : World, Calls Try.prog 19 #[.string (txt s)] w fun e w' => e = .returned (.bool (actorB s)) ∧ Fr (fun _ => False) w w' := fun w => (ractor_any s w (by omega)).mono fun e w' h => ⟨h.1, h.2 ▸ Fr.refl _ _⟩
  have hra : ∀ w : World, Calls Try.prog 19 #[.string (txt a.a)] w fun e w' => e = .returned (.bool (actorB a.a)) ∧ Fr (fun _ => False) w w' := fun w => (ractor_any a.a w (by omega)).mono fun e w' h => ⟨h.1, h.2 ▸ Fr.refl _ _⟩
  have hrb : ∀ w : World, Calls Try.prog 19 #[.string (txt b.a)] w fun e w' => e = .returned (.bool (actorB b.a)) ∧ Fr (fun _ => False) w w' := fun w => (ractor_any b.a w (by omega)).mono fun e w' h => ⟨h.1, h.2 ▸ Fr.refl _ _⟩
  have hac0 : ∀ w : World, Calls Try.prog 18 #[.slice none 0 0] w fun e w' => e = .returned (.bool true) ∧ Fr (fun _ => False) w w' := fun w => (actor_any none 0 0 [] w (Rd.nil _ _) (by omega) (by simp)).mono fun e w' h => ⟨h.1, h.2 ▸ Fr.refl _ _⟩
  have hac1 : ∀ (w : World) (q : Nat), Row w q 9 ([s].map strc) → Calls Try.prog 18 #[.slice (some ⟨q, 0, none⟩) 1 1] w fun e w' => e = .returned (.bool (actorB s)) ∧ Fr (fun _ => False) w w' := fun w q hq => (actor_any (some ⟨q, 0, none⟩) 1 1 [s] w (Row.rd hq 0 1 (Nat.le_refl _)) (by omega) (by simp; omega)).mono fun e w' h => ⟨by rw [h.1]; simp [actorsB], h.2 ▸ Fr.refl _ _⟩
  have hac3 : ∀ (w : World) (q : Nat), Row w q 9 ([s, a.a, b.a].map strc) → Calls Try.prog 18 #[.slice (some ⟨q, 0, none⟩) 3 3] w fun e w' => e = .returned (.bool (actorB s && (actorB a.a && actorB b.a))) ∧ Fr (fun _ => False) w w' := fun w q hq => (actor_any (some ⟨q, 0, none⟩) 3 3 [s, a.a, b.a] w (Row.rd hq 0 3 (Nat.le_refl _)) (by omega) (by simp; omega)).mono fun e w' h => ⟨by rw [h.1]; simp [actorsB], h.2 ▸ Fr.refl _ _⟩
  have hways := cmp_ways a b
  obtain ⟨lab, hlab⟩ : ∃ z, lessN a b = z := ⟨_, rfl⟩
  obtain ⟨lba, hlba⟩ : ∃ z, lessN b a = z := ⟨_, rfl⟩
  obtain ⟨p, hp⟩ : ∃ z, cmpN a b = z := ⟨_, rfl⟩
  obtain ⟨i, hi⟩ : ∃ z, idB a = z := ⟨_, rfl⟩
  obtain ⟨z, hze⟩ : ∃ z, zeroB a = z := ⟨_, rfl⟩
  obtain ⟨e, hee⟩ : ∃ z, decide (a.a = []) = z := ⟨_, rfl⟩
  obtain ⟨ab, hab⟩ : ∃ z, actorB b.a = z := ⟨_, rfl⟩
  obtain ⟨aa, haa⟩ : ∃ z, actorB a.a = z := ⟨_, rfl⟩
  rw [hlab, hlba, hp] at hways
  have hzz : z = (decide (a.c = 0) && e) := by rw [← hze, ← hee]; rfl
  rw [hc0] at hzz
  have te := txt_e a.a
  rw [hee] at te
  have te2 : (txt a.a).toList.isEmpty = e := by
    rw [show (txt a.a).toList = a.a from ByteArray.toList_mk _, ← hee]
    cases a.a <;> simp
  have tc0 : (a.c == 0) = false := hc0
  obtain ⟨p0, hp0⟩ : ∃ p0 : Int, (if lab = true then -1 else 0) = p0 := ⟨_, rfl⟩
  have HP : Hid ((lba = true → p = 1) ∧ (lba = false → p = p0)) := Lib.hid (by
    rw [← hp0]
    rcases hways with ⟨h1, _, h2, h3⟩ | ⟨h1, _, h2, h3⟩ | ⟨h1, _, h2, h3⟩ <;> rw [h1, h2, h3] <;> simp)
  have HP0 : Hid ((lab = true → p0 = -1) ∧ (lab = false → p0 = 0)) := Lib.hid (by rw [← hp0]; cases lab <;> simp)
  simp only [hlab] at hls
  simp only [hlba] at hls2
  simp only [hp] at hcm
  simp only [hi] at hid hrid
  simp only [hze] at hz
  simp only [has] at hrs hac1
  simp only [haa] at hra
  simp only [hab] at hrb
  simp only [has, haa, hab, Bool.false_and] at hac3
  unfold nmc at hid hrid hz hcm hls hls2
  have HID := Lib.hid hid
  have HRID := Lib.hid hrid
  have HZ := Lib.hid hz
  have HCM := Lib.hid hcm
  have HLS := Lib.hid hls
  have HLS2 := Lib.hid hls2
  have HRS := Lib.hid hrs
  have HRA := Lib.hid hra
  have HRB := Lib.hid hrb
  have HAC0 := Lib.hid hac0
  have HAC1 := Lib.hid hac1
  have HAC3 := Lib.hid hac3
  have ti : (i == i) = true := by simp
  have tp : (p == p) = true := by simp
  have tab : (ab == ab) = true := by simp
  have tz : (z == false) = true := by rw [hzz]; simp
  have g0 : decide ((100 : Int) < (la : Int)) = false := decide_eq_false (by omega)
  have g0' : decide (100 < la) = false := decide_eq_false (by omega)
  have g1 : decide ((100 : Int) < (lb : Int)) = false := decide_eq_false (by omega)
  have g1' : decide (100 < lb) = false := decide_eq_false (by omega)
  have g2' : decide ((100 : Int) < (lc : Int)) = false := decide_eq_false (by omega)
  have g2'' : decide (100 < lc) = false := decide_eq_false (by omega)
  clear hp0 hid hrid hz hcm hls hls2 hrs hra hrb hac0 hac1 hac3 hways hlab hlba hp hi hze hee hab hzz hc0 has haa n1 n2 n3
  unfold nmc
  clear hr1 hr2 hf1 hf2 hla hlb hlc
  go_enter Try.func4, Try.ntmps4
  go_wp2_with fail
  clear hw1 hw2 hg hg2
  refine (HAW.out _).mono ?_
  rintro e w4 ⟨rfl, hf⟩
  have HF4 := Lib.hid (HF3.out.trans hf (fun _ _ h => h))
  have HA4 := Lib.hid (HA3.out.fr hf (fun h => h))
  have HB4 := Lib.hid (HB3.out.fr hf (fun h => h))
  clear hf
  obtain ⟨a0, a1⟩ := HA4.out.cells
  obtain ⟨b0, b1⟩ := HB4.out.cells
  go_wp2_with fail
  refine (HLS.out _).mono ?_
  rintro e w5 ⟨rfl, hf⟩
  have HF5 := Lib.hid (HF4.out.trans hf (fun _ _ h => h))
  have HA5 := Lib.hid (HA4.out.fr hf (fun h => h))
  have HB5 := Lib.hid (HB4.out.fr hf (fun h => h))
  clear hf a0 a1 b0 b1
  go_upto_if 30 with fail
  go_cut [7] (fun v wx => v = .int .i64 p0 ∧ RowN wx g a ∧ RowN wx g2 b ∧ Fr (fun _ => False) w wx)
  case first =>
    cases lab with
    | true =>
      go_wp2_with fail
      go_meet
      exact ⟨congrArg (Value.int .i64) (by have h := HP0.out.1; simp at h; omega), HA5.out, HB5.out, HF5.out⟩
    | false =>
      go_wp2_with fail
      go_meet
      exact ⟨congrArg (Value.int .i64) (by have h := HP0.out.2; simp at h; omega), HA5.out, HB5.out, HF5.out⟩
  case rest =>
  obtain ⟨rfl, ha6, hb6, hf6⟩ := hcut
  rename World => w6
  have HA6 := Lib.hid ha6
  have HB6 := Lib.hid hb6
  have HF6 := Lib.hid hf6
  clear ha6 hb6 hf6
  obtain ⟨a0, a1⟩ := HA6.out.cells
  obtain ⟨b0, b1⟩ := HB6.out.cells
  go_wp2_with fail
  refine (HLS2.out _).mono ?_
  rintro e w7 ⟨rfl, hf⟩
  have HF7 := Lib.hid (HF6.out.trans hf (fun _ _ h => h))
  have HA7 := Lib.hid (HA6.out.fr hf (fun h => h))
  have HB7 := Lib.hid (HB6.out.fr hf (fun h => h))
  clear hf a0 a1 b0 b1
  go_upto_if 33 with fail
  go_cut [7] (fun v wx => v = .int .i64 p ∧ RowN wx g a ∧ RowN wx g2 b ∧ Fr (fun _ => False) w wx)
  case first =>
    cases lba with
    | true =>
      go_wp2_with fail
      go_meet
      exact ⟨congrArg (Value.int .i64) (by have h := HP.out.1; simp at h; omega), HA7.out, HB7.out, HF7.out⟩
    | false =>
      go_wp2_with fail
      go_meet
      exact ⟨congrArg (Value.int .i64) (by have h := HP.out.2; simp at h; omega), HA7.out, HB7.out, HF7.out⟩
  case rest =>
  obtain ⟨rfl, ha9, hb9, hf9⟩ := hcut
  rename World => w9
  have HA9 := Lib.hid ha9
  have HB9 := Lib.hid hb9
  have HF9 := Lib.hid hf9
  clear ha9 hb9 hf9
  have HA := HA9
  have HB := HB9
  go_upto_region 8 with fail
  have HGc : Hid (Fr (fun _ => False) w9 w9) := Lib.hid (Fr.refl _ _)
  refine wp_region_held_drew (S := fun w' => Fr (fun _ => False) w9 w') (by kernel_rfl) ?_ (fun hHeld => ?_)
  · exact (Fr.refl _ _).drew
  refine wpAnyH_take (i := 0) (v := ?vt157) rfl (by kernel_rfl) (by kernel_rfl) (by kernel_rfl) (fun _ _ _ h => h) (Or.inl ⟨by rfl, ?hyt157⟩) hHeld ?restt157
  case hyt157 => intro w hSw; (try dsimp only at hSw); obtain ⟨c0, c1⟩ := (HA.out.fr (HGc.out.trans hSw (fun _ _ h => h)) (fun h => h)).cells; go_simp; try (with_reducible rfl)
  (try simp only [Act.put, List.setIfInBounds_toArray, List.set_cons_zero, List.set_cons_succ, List.getElem_toArray, List.getElem_cons_zero])
  refine wpAnyH_take (i := 2) (v := ?vt158) rfl (by kernel_rfl) (by kernel_rfl) (by kernel_rfl) (fun _ _ _ h => h) (Or.inl ⟨by rfl, ?hyt158⟩) hHeld ?restt158
  case hyt158 => intro w hSw; (try dsimp only at hSw); obtain ⟨c0, c1⟩ := (HA.out.fr (HGc.out.trans hSw (fun _ _ h => h)) (fun h => h)).cells; go_simp; try (with_reducible rfl)
  (try simp only [Act.put, List.setIfInBounds_toArray, List.set_cons_zero, List.set_cons_succ, List.getElem_toArray, List.getElem_cons_zero, List.getElem_cons_succ])
  refine wpAnyH_ready (rs := [1]) (by kernel_rfl) (by simp) ?_
  refine AllReadyH.cons rfl (fun Kx hKx => ?_) AllReadyH.nil
  go_simp
  have hcon := HID.out (w9.drew)
  with_reducible refine hcon.mono ?_
  clear hcon
  rintro e' v1 ⟨rfl, hff⟩
  have HFn : Hid (Fr (fun _ => False) w9 v1) := Lib.hid ((Fr.refl _ _).drew.trans hff (fun _ _ h => h))
  clear hff
  have HGc := Lib.hid (HGc.out.trans HFn.out (fun _ _ h => h))
  refine hKx.out _ _ ?_ (fun hHeld => ?_)
  · exact HFn.out
  clear hKx Kx
  (try simp only [Act.put, List.setIfInBounds_toArray, List.set_cons_zero, List.set_cons_succ, List.getElem_toArray, List.getElem_cons_zero, List.getElem_cons_succ])
  refine wpAnyH_more (fun w' => Fr (fun _ => False) v1 w') (fun _ h => HFn.out.trans h (fun _ _ h => h)) ?_ (fun hHeld => ?_)
  · exact Fr.refl _ _
  clear HFn
  refine wpAnyH_ready (rs := [3]) (by kernel_rfl) (by simp) ?_
  refine AllReadyH.cons rfl (fun Kx hKx => ?_) AllReadyH.nil
  go_simp
  have hcon := HRID.out (v1)
  with_reducible refine hcon.mono ?_
  clear hcon
  rintro e' v2 ⟨rfl, hff⟩
  have HFn : Hid (Fr (fun _ => False) v1 v2) := Lib.hid (hff)
  clear hff
  have HGc := Lib.hid (HGc.out.trans HFn.out (fun _ _ h => h))
  refine hKx.out _ _ ?_ (fun hHeld => ?_)
  · exact HFn.out
  clear hKx Kx
  (try simp only [Act.put, List.setIfInBounds_toArray, List.set_cons_zero, List.set_cons_succ, List.getElem_toArray, List.getElem_cons_zero, List.getElem_cons_succ])
  refine wpAnyH_more (fun w' => Fr (fun _ => False) v2 w') (fun _ h => HFn.out.trans h (fun _ _ h => h)) ?_ (fun hHeld => ?_)
  · exact Fr.refl _ _
  clear HFn
  refine wpAnyH_take (i := 4) (v := ?vt159) rfl (by kernel_rfl) (by kernel_rfl) (by kernel_rfl) (fun _ _ _ h => h) (Or.inl ⟨by rfl, ?hyt159⟩) hHeld ?restt159
  case hyt159 => intro w hSw; (try dsimp only at hSw); go_simp; try (with_reducible rfl)
  (try simp only [Act.put, List.setIfInBounds_toArray, List.set_cons_zero, List.set_cons_succ, List.getElem_toArray, List.getElem_cons_zero, List.getElem_cons_succ])
  refine wpAnyH_take (i := 5) (v := ?vt160) rfl (by kernel_rfl) (by kernel_rfl) (by kernel_rfl) (fun _ _ _ h => h) (Or.inl ⟨by rfl, ?hyt160⟩) hHeld ?restt160
  case hyt160 => intro w hSw; (try dsimp only at hSw); go_simp; try (with_reducible rfl)
  (try simp only [Act.put, List.setIfInBounds_toArray, List.set_cons_zero, List.set_cons_succ, List.getElem_toArray, List.getElem_cons_zero, List.getElem_cons_succ])
  refine wpAnyH_take (i := 6) (v := ?vt161) rfl (by kernel_rfl) (by kernel_rfl) (by kernel_rfl) (fun _ _ _ h => h) (Or.inl ⟨by rfl, ?hyt161⟩) hHeld ?restt161
  case hyt161 => intro w hSw; (try dsimp only at hSw); obtain ⟨c0, c1⟩ := (HA.out.fr (HGc.out.trans hSw (fun _ _ h => h)) (fun h => h)).cells; go_simp; try (with_reducible rfl)
  (try simp only [Act.put, List.setIfInBounds_toArray, List.set_cons_zero, List.set_cons_succ, List.getElem_toArray, List.getElem_cons_zero, List.getElem_cons_succ])
  refine wpAnyH_take (i := 8) (v := ?vt162) rfl (by kernel_rfl) (by kernel_rfl) (by kernel_rfl) (fun _ _ _ h => h) (Or.inl ⟨by rfl, ?hyt162⟩) hHeld ?restt162
  case hyt162 => intro w hSw; (try dsimp only at hSw); go_simp; try (with_reducible rfl)
  (try simp only [Act.put, List.setIfInBounds_toArray, List.set_cons_zero, List.set_cons_succ, List.getElem_toArray, List.getElem_cons_zero, List.getElem_cons_succ])
  refine wpAnyH_take (i := 9) (v := ?vt163) rfl (by kernel_rfl) (by kernel_rfl) (by kernel_rfl) (fun _ _ _ h => h) (Or.inl ⟨by rfl, ?hyt163⟩) hHeld ?restt163
  case hyt163 => intro w hSw; (try dsimp only at hSw); obtain ⟨c0, c1⟩ := (HA.out.fr (HGc.out.trans hSw (fun _ _ h => h)) (fun h => h)).cells; go_simp; try (with_reducible rfl)
  (try simp only [Act.put, List.setIfInBounds_toArray, List.set_cons_zero, List.set_cons_succ, List.getElem_toArray, List.getElem_cons_zero, List.getElem_cons_succ])
  refine wpAnyH_take (i := 10) (v := ?vt164) rfl (by kernel_rfl) (by kernel_rfl) (by kernel_rfl) (fun _ _ _ h => h) (Or.inl ⟨by rfl, ?hyt164⟩) hHeld ?restt164
  case hyt164 => intro w hSw; (try dsimp only at hSw); go_simp; try (with_reducible rfl)
  (try simp only [Act.put, List.setIfInBounds_toArray, List.set_cons_zero, List.set_cons_succ, List.getElem_toArray, List.getElem_cons_zero, List.getElem_cons_succ])
  refine wpAnyH_ready (rs := [7]) (by kernel_rfl) (by simp) ?_
  refine AllReadyH.cons rfl (fun Kx hKx => ?_) AllReadyH.nil
  go_simp
  have hcon := HZ.out (v2)
  with_reducible refine hcon.mono ?_
  clear hcon
  rintro e' v3 ⟨rfl, hff⟩
  have HFn : Hid (Fr (fun _ => False) v2 v3) := Lib.hid (hff)
  clear hff
  have HGc := Lib.hid (HGc.out.trans HFn.out (fun _ _ h => h))
  refine hKx.out _ _ ?_ (fun hHeld => ?_)
  · exact HFn.out
  clear hKx Kx
  (try simp only [Act.put, List.setIfInBounds_toArray, List.set_cons_zero, List.set_cons_succ, List.getElem_toArray, List.getElem_cons_zero, List.getElem_cons_succ])
  refine wpAnyH_more (fun w' => Fr (fun _ => False) v3 w') (fun _ h => HFn.out.trans h (fun _ _ h => h)) ?_ (fun hHeld => ?_)
  · exact Fr.refl _ _
  clear HFn
  refine wpAnyH_take (i := 11) (v := ?vt165) rfl (by kernel_rfl) (by kernel_rfl) (by kernel_rfl) (fun _ _ _ h => h) (Or.inl ⟨by rfl, ?hyt165⟩) hHeld ?restt165
  case hyt165 => intro w hSw; (try dsimp only at hSw); go_simp; try (with_reducible rfl)
  (try simp only [Act.put, List.setIfInBounds_toArray, List.set_cons_zero, List.set_cons_succ, List.getElem_toArray, List.getElem_cons_zero, List.getElem_cons_succ])
  refine wpAnyH_take (i := 12) (v := undef) rfl (by kernel_rfl) (by kernel_rfl) (by kernel_rfl) (fun _ _ _ h => h) (Or.inr ⟨by rfl, rfl⟩) hHeld ?_
  (try simp only [Act.put, List.setIfInBounds_toArray, List.set_cons_zero, List.set_cons_succ, List.getElem_toArray, List.getElem_cons_zero, List.getElem_cons_succ])
  refine wpAnyH_take (i := 13) (v := undef) rfl (by kernel_rfl) (by kernel_rfl) (by kernel_rfl) (fun _ _ _ h => h) (Or.inr ⟨by rfl, rfl⟩) hHeld ?_
  (try simp only [Act.put, List.setIfInBounds_toArray, List.set_cons_zero, List.set_cons_succ, List.getElem_toArray, List.getElem_cons_zero, List.getElem_cons_succ])
  refine wpAnyH_take (i := 14) (v := undef) rfl (by kernel_rfl) (by kernel_rfl) (by kernel_rfl) (fun _ _ _ h => h) (Or.inr ⟨by rfl, rfl⟩) hHeld ?_
  (try simp only [Act.put, List.setIfInBounds_toArray, List.set_cons_zero, List.set_cons_succ, List.getElem_toArray, List.getElem_cons_zero, List.getElem_cons_succ])
  refine wpAnyH_take (i := 15) (v := ?vt169) rfl (by kernel_rfl) (by kernel_rfl) (by kernel_rfl) (fun _ _ _ h => h) (Or.inl ⟨by rfl, ?hyt169⟩) hHeld ?restt169
  case hyt169 => intro w hSw; (try dsimp only at hSw); go_simp; try (with_reducible rfl)
  (try simp only [Act.put, List.setIfInBounds_toArray, List.set_cons_zero, List.set_cons_succ, List.getElem_toArray, List.getElem_cons_zero, List.getElem_cons_succ])
  refine wpAnyH_take (i := 16) (v := ?vt170) rfl (by kernel_rfl) (by kernel_rfl) (by kernel_rfl) (fun _ _ _ h => h) (Or.inl ⟨by rfl, ?hyt170⟩) hHeld ?restt170
  case hyt170 => intro w hSw; (try dsimp only at hSw); go_simp; try (with_reducible rfl)
  (try simp only [Act.put, List.setIfInBounds_toArray, List.set_cons_zero, List.set_cons_succ, List.getElem_toArray, List.getElem_cons_zero, List.getElem_cons_succ])
  refine wpAnyH_take (i := 17) (v := ?vt171) rfl (by kernel_rfl) (by kernel_rfl) (by kernel_rfl) (fun _ _ _ h => h) (Or.inl ⟨by rfl, ?hyt171⟩) hHeld ?restt171
  case hyt171 => intro w hSw; (try dsimp only at hSw); go_simp; try (with_reducible rfl)
  (try simp only [Act.put, List.setIfInBounds_toArray, List.set_cons_zero, List.set_cons_succ, List.getElem_toArray, List.getElem_cons_zero, List.getElem_cons_succ])
  refine wpAnyH_take (i := 18) (v := ?vt172) rfl (by kernel_rfl) (by kernel_rfl) (by kernel_rfl) (fun _ _ _ h => h) (Or.inl ⟨by rfl, ?hyt172⟩) hHeld ?restt172
  case hyt172 => intro w hSw; (try dsimp only at hSw); go_simp; try (with_reducible rfl)
  (try simp only [Act.put, List.setIfInBounds_toArray, List.set_cons_zero, List.set_cons_succ, List.getElem_toArray, List.getElem_cons_zero, List.getElem_cons_succ])
  refine wpAnyH_take (i := 19) (v := ?vt173) rfl (by kernel_rfl) (by kernel_rfl) (by kernel_rfl) (fun _ _ _ h => h) (Or.inl ⟨by rfl, ?hyt173⟩) hHeld ?restt173
  case hyt173 => intro w hSw; (try dsimp only at hSw); obtain ⟨c0, c1⟩ := (HA.out.fr (HGc.out.trans hSw (fun _ _ h => h)) (fun h => h)).cells; go_simp; try (with_reducible rfl)
  (try simp only [Act.put, List.setIfInBounds_toArray, List.set_cons_zero, List.set_cons_succ, List.getElem_toArray, List.getElem_cons_zero, List.getElem_cons_succ])
  refine wpAnyH_take (i := 20) (v := ?vt174) rfl (by kernel_rfl) (by kernel_rfl) (by kernel_rfl) (fun _ _ _ h => h) (Or.inl ⟨by rfl, ?hyt174⟩) hHeld ?restt174
  case hyt174 => intro w hSw; (try dsimp only at hSw); obtain ⟨c0, c1⟩ := (HB.out.fr (HGc.out.trans hSw (fun _ _ h => h)) (fun h => h)).cells; go_simp; try (with_reducible rfl)
  (try simp only [Act.put, List.setIfInBounds_toArray, List.set_cons_zero, List.set_cons_succ, List.getElem_toArray, List.getElem_cons_zero, List.getElem_cons_succ])
  refine wpAnyH_take (i := 22) (v := ?vt175) rfl (by kernel_rfl) (by kernel_rfl) (by kernel_rfl) (fun _ _ _ h => h) (Or.inl ⟨by rfl, ?hyt175⟩) hHeld ?restt175
  case hyt175 => intro w hSw; (try dsimp only at hSw); go_simp; try (with_reducible rfl)
  (try simp only [Act.put, List.setIfInBounds_toArray, List.set_cons_zero, List.set_cons_succ, List.getElem_toArray, List.getElem_cons_zero, List.getElem_cons_succ])
  refine wpAnyH_ready (rs := [21]) (by kernel_rfl) (by simp) ?_
  refine AllReadyH.cons rfl (fun Kx hKx => ?_) AllReadyH.nil
  go_simp
  have hcon := HCM.out (v3)
  with_reducible refine hcon.mono ?_
  clear hcon
  rintro e' v4 ⟨rfl, hff⟩
  have HFn : Hid (Fr (fun _ => False) v3 v4) := Lib.hid (hff)
  clear hff
  have HGc := Lib.hid (HGc.out.trans HFn.out (fun _ _ h => h))
  refine hKx.out _ _ ?_ (fun hHeld => ?_)
  · exact HFn.out
  clear hKx Kx
  (try simp only [Act.put, List.setIfInBounds_toArray, List.set_cons_zero, List.set_cons_succ, List.getElem_toArray, List.getElem_cons_zero, List.getElem_cons_succ])
  refine wpAnyH_more (fun w' => Fr (fun _ => False) v4 w') (fun _ h => HFn.out.trans h (fun _ _ h => h)) ?_ (fun hHeld => ?_)
  · exact Fr.refl _ _
  clear HFn
  refine wpAnyH_take (i := 23) (v := ?vt176) rfl (by kernel_rfl) (by kernel_rfl) (by kernel_rfl) (fun _ _ _ h => h) (Or.inl ⟨by rfl, ?hyt176⟩) hHeld ?restt176
  case hyt176 => intro w hSw; (try dsimp only at hSw); go_simp; try (with_reducible rfl)
  (try simp only [Act.put, List.setIfInBounds_toArray, List.set_cons_zero, List.set_cons_succ, List.getElem_toArray, List.getElem_cons_zero, List.getElem_cons_succ])
  refine wpAnyH_take (i := 24) (v := ?vt177) rfl (by kernel_rfl) (by kernel_rfl) (by kernel_rfl) (fun _ _ _ h => h) (Or.inl ⟨by rfl, ?hyt177⟩) hHeld ?restt177
  case hyt177 => intro w hSw; (try dsimp only at hSw); go_simp; try (with_reducible rfl)
  (try simp only [Act.put, List.setIfInBounds_toArray, List.set_cons_zero, List.set_cons_succ, List.getElem_toArray, List.getElem_cons_zero, List.getElem_cons_succ])
  refine wpAnyH_take (i := 25) (v := ?vt178) rfl (by kernel_rfl) (by kernel_rfl) (by kernel_rfl) (fun _ _ _ h => h) (Or.inl ⟨by rfl, ?hyt178⟩) hHeld ?restt178
  case hyt178 => intro w hSw; (try dsimp only at hSw); go_simp; try (with_reducible rfl)
  (try simp only [Act.put, List.setIfInBounds_toArray, List.set_cons_zero, List.set_cons_succ, List.getElem_toArray, List.getElem_cons_zero, List.getElem_cons_succ])
  refine wpAnyH_take (i := 26) (v := ?vt179) rfl (by kernel_rfl) (by kernel_rfl) (by kernel_rfl) (fun _ _ _ h => h) (Or.inl ⟨by rfl, ?hyt179⟩) hHeld ?restt179
  case hyt179 => intro w hSw; (try dsimp only at hSw); go_simp; try (with_reducible rfl)
  (try simp only [Act.put, List.setIfInBounds_toArray, List.set_cons_zero, List.set_cons_succ, List.getElem_toArray, List.getElem_cons_zero, List.getElem_cons_succ])
  refine wpAnyH_take (i := 29) (v := ?vt180) rfl (by kernel_rfl) (by kernel_rfl) (by kernel_rfl) (fun _ _ _ h => h) (Or.inl ⟨by rfl, ?hyt180⟩) hHeld ?restt180
  case hyt180 => intro w hSw; (try dsimp only at hSw); go_simp; try (with_reducible rfl)
  (try simp only [Act.put, List.setIfInBounds_toArray, List.set_cons_zero, List.set_cons_succ, List.getElem_toArray, List.getElem_cons_zero, List.getElem_cons_succ])
  refine wpAnyH_ready (rs := [27]) (by kernel_rfl) (by simp) ?_
  refine AllReadyH.cons rfl (fun Kx hKx => ?_) AllReadyH.nil
  go_simp
  obtain ⟨v5, hwm⟩ : ∃ v, (v4.alloc (.cells #[.string (txt s)] 9)) = v := ⟨_, rfl⟩
  rw [hwm]
  obtain ⟨q27, hqm⟩ : ∃ q, v4.heap.size = q := ⟨_, rfl⟩
  try rw [hqm]
  have HFn : Hid (Fr (fun _ => False) v4 v5) := Lib.hid (by rw [← hwm]; exact ((Fr.refl _ _).alloc _))
  have hbm : Row v5 q27 9 ([s].map strc) := by rw [← hwm, ← hqm]; exact Row.new v4 _ _
  have HB27 := Lib.hid hbm
  clear hwm hqm hbm
  have HGc := Lib.hid (HGc.out.trans HFn.out (fun _ _ h => h))
  refine hKx.out _ _ ?_ (fun hHeld => ?_)
  · exact HFn.out
  clear hKx Kx
  (try simp only [Act.put, List.setIfInBounds_toArray, List.set_cons_zero, List.set_cons_succ, List.getElem_toArray, List.getElem_cons_zero, List.getElem_cons_succ])
  refine wpAnyH_more (fun w' => Fr (fun _ => False) v5 w') (fun _ h => HFn.out.trans h (fun _ _ h => h)) ?_ (fun hHeld => ?_)
  · exact Fr.refl _ _
  clear HFn
  refine wpAnyH_ready (rs := [28]) (by kernel_rfl) (by simp) ?_
  refine AllReadyH.cons rfl (fun Kx hKx => ?_) AllReadyH.nil
  go_simp
  have hcon := HAC1.out (v5) q27 HB27.out
  with_reducible refine hcon.mono ?_
  clear hcon
  rintro e' v6 ⟨rfl, hff⟩
  have HFn : Hid (Fr (fun _ => False) v5 v6) := Lib.hid (hff)
  clear hff
  have HB27 := Lib.hid (HB27.out.fr HFn.out (fun h => h))
  have HGc := Lib.hid (HGc.out.trans HFn.out (fun _ _ h => h))
  refine hKx.out _ _ ?_ (fun hHeld => ?_)
  · exact HFn.out
  clear hKx Kx
  (try simp only [Act.put, List.setIfInBounds_toArray, List.set_cons_zero, List.set_cons_succ, List.getElem_toArray, List.getElem_cons_zero, List.getElem_cons_succ])
  refine wpAnyH_more (fun w' => Fr (fun _ => False) v6 w') (fun _ h => HFn.out.trans h (fun _ _ h => h)) ?_ (fun hHeld => ?_)
  · exact Fr.refl _ _
  clear HFn
  refine wpAnyH_ready (rs := [30]) (by kernel_rfl) (by simp) ?_
  refine AllReadyH.cons rfl (fun Kx hKx => ?_) AllReadyH.nil
  go_simp
  have hcon := HRS.out (v6)
  with_reducible refine hcon.mono ?_
  clear hcon
  rintro e' v7 ⟨rfl, hff⟩
  have HFn : Hid (Fr (fun _ => False) v6 v7) := Lib.hid (hff)
  clear hff
  have HB27 := Lib.hid (HB27.out.fr HFn.out (fun h => h))
  have HGc := Lib.hid (HGc.out.trans HFn.out (fun _ _ h => h))
  refine hKx.out _ _ ?_ (fun hHeld => ?_)
  · exact HFn.out
  clear hKx Kx
  (try simp only [Act.put, List.setIfInBounds_toArray, List.set_cons_zero, List.set_cons_succ, List.getElem_toArray, List.getElem_cons_zero, List.getElem_cons_succ])
  refine wpAnyH_more (fun w' => Fr (fun _ => False) v7 w') (fun _ h => HFn.out.trans h (fun _ _ h => h)) ?_ (fun hHeld => ?_)
  · exact Fr.refl _ _
  clear HFn
  refine wpAnyH_take (i := 31) (v := ?vt181) rfl (by kernel_rfl) (by kernel_rfl) (by kernel_rfl) (fun _ _ _ h => h) (Or.inl ⟨by rfl, ?hyt181⟩) hHeld ?restt181
  case hyt181 => intro w hSw; (try dsimp only at hSw); go_simp; try (with_reducible rfl)
  (try simp only [Act.put, List.setIfInBounds_toArray, List.set_cons_zero, List.set_cons_succ, List.getElem_toArray, List.getElem_cons_zero, List.getElem_cons_succ])
  refine wpAnyH_take (i := 32) (v := ?vt182) rfl (by kernel_rfl) (by kernel_rfl) (by kernel_rfl) (fun _ _ _ h => h) (Or.inl ⟨by rfl, ?hyt182⟩) hHeld ?restt182
  case hyt182 => intro w hSw; (try dsimp only at hSw); go_simp; try (with_reducible rfl)
  (try simp only [Act.put, List.setIfInBounds_toArray, List.set_cons_zero, List.set_cons_succ, List.getElem_toArray, List.getElem_cons_zero, List.getElem_cons_succ])
  refine wpAnyH_take (i := 33) (v := ?vt183) rfl (by kernel_rfl) (by kernel_rfl) (by kernel_rfl) (fun _ _ _ h => h) (Or.inl ⟨by rfl, ?hyt183⟩) hHeld ?restt183
  case hyt183 => intro w hSw; (try dsimp only at hSw); go_simp; try (with_reducible rfl)
  (try simp only [Act.put, List.setIfInBounds_toArray, List.set_cons_zero, List.set_cons_succ, List.getElem_toArray, List.getElem_cons_zero, List.getElem_cons_succ])
  refine wpAnyH_take (i := 34) (v := ?vt184) rfl (by kernel_rfl) (by kernel_rfl) (by kernel_rfl) (fun _ _ _ h => h) (Or.inl ⟨by rfl, ?hyt184⟩) hHeld ?restt184
  case hyt184 => intro w hSw; (try dsimp only at hSw); go_simp; try (with_reducible rfl)
  (try simp only [Act.put, List.setIfInBounds_toArray, List.set_cons_zero, List.set_cons_succ, List.getElem_toArray, List.getElem_cons_zero, List.getElem_cons_succ])
  refine wpAnyH_take (i := 35) (v := ?vt185) rfl (by kernel_rfl) (by kernel_rfl) (by kernel_rfl) (fun _ _ _ h => h) (Or.inl ⟨by rfl, ?hyt185⟩) hHeld ?restt185
  case hyt185 => intro w hSw; (try dsimp only at hSw); go_simp; try (with_reducible rfl)
  (try simp only [Act.put, List.setIfInBounds_toArray, List.set_cons_zero, List.set_cons_succ, List.getElem_toArray, List.getElem_cons_zero, List.getElem_cons_succ])
  refine wpAnyH_take (i := 36) (v := ?vt186) rfl (by kernel_rfl) (by kernel_rfl) (by kernel_rfl) (fun _ _ _ h => h) (Or.inl ⟨by rfl, ?hyt186⟩) hHeld ?restt186
  case hyt186 => intro w hSw; (try dsimp only at hSw); obtain ⟨c0, c1⟩ := (HA.out.fr (HGc.out.trans hSw (fun _ _ h => h)) (fun h => h)).cells; go_simp; try (with_reducible rfl)
  (try simp only [Act.put, List.setIfInBounds_toArray, List.set_cons_zero, List.set_cons_succ, List.getElem_toArray, List.getElem_cons_zero, List.getElem_cons_succ])
  refine wpAnyH_take (i := 37) (v := ?vt187) rfl (by kernel_rfl) (by kernel_rfl) (by kernel_rfl) (fun _ _ _ h => h) (Or.inl ⟨by rfl, ?hyt187⟩) hHeld ?restt187
  case hyt187 => intro w hSw; (try dsimp only at hSw); go_simp; try (with_reducible rfl)
  (try simp only [Act.put, List.setIfInBounds_toArray, List.set_cons_zero, List.set_cons_succ, List.getElem_toArray, List.getElem_cons_zero, List.getElem_cons_succ])
  refine wpAnyH_take (i := 38) (v := ?vt188) rfl (by kernel_rfl) (by kernel_rfl) (by kernel_rfl) (fun _ _ _ h => h) (Or.inl ⟨by rfl, ?hyt188⟩) hHeld ?restt188
  case hyt188 => intro w hSw; (try dsimp only at hSw); obtain ⟨c0, c1⟩ := (HB.out.fr (HGc.out.trans hSw (fun _ _ h => h)) (fun h => h)).cells; go_simp; try (with_reducible rfl)
  (try simp only [Act.put, List.setIfInBounds_toArray, List.set_cons_zero, List.set_cons_succ, List.getElem_toArray, List.getElem_cons_zero, List.getElem_cons_succ])
  refine wpAnyH_take (i := 41) (v := ?vt189) rfl (by kernel_rfl) (by kernel_rfl) (by kernel_rfl) (fun _ _ _ h => h) (Or.inl ⟨by rfl, ?hyt189⟩) hHeld ?restt189
  case hyt189 => intro w hSw; (try dsimp only at hSw); go_simp; try (with_reducible rfl)
  (try simp only [Act.put, List.setIfInBounds_toArray, List.set_cons_zero, List.set_cons_succ, List.getElem_toArray, List.getElem_cons_zero, List.getElem_cons_succ])
  refine wpAnyH_ready (rs := [39]) (by kernel_rfl) (by simp) ?_
  refine AllReadyH.cons rfl (fun Kx hKx => ?_) AllReadyH.nil
  go_simp
  obtain ⟨v8, hwm⟩ : ∃ v, (v7.alloc (.cells #[.string (txt s), .string (txt a.a), .string (txt b.a)] 9)) = v := ⟨_, rfl⟩
  rw [hwm]
  obtain ⟨q39, hqm⟩ : ∃ q, v7.heap.size = q := ⟨_, rfl⟩
  try rw [hqm]
  have HFn : Hid (Fr (fun _ => False) v7 v8) := Lib.hid (by rw [← hwm]; exact ((Fr.refl _ _).alloc _))
  have hbm : Row v8 q39 9 ([s, a.a, b.a].map strc) := by rw [← hwm, ← hqm]; exact Row.new v7 _ _
  have HB39 := Lib.hid hbm
  clear hwm hqm hbm
  have HB27 := Lib.hid (HB27.out.fr HFn.out (fun h => h))
  have HGc := Lib.hid (HGc.out.trans HFn.out (fun _ _ h => h))
  refine hKx.out _ _ ?_ (fun hHeld => ?_)
  · exact HFn.out
  clear hKx Kx
  (try simp only [Act.put, List.setIfInBounds_toArray, List.set_cons_zero, List.set_cons_succ, List.getElem_toArray, List.getElem_cons_zero, List.getElem_cons_succ])
  refine wpAnyH_more (fun w' => Fr (fun _ => False) v8 w') (fun _ h => HFn.out.trans h (fun _ _ h => h)) ?_ (fun hHeld => ?_)
  · exact Fr.refl _ _
  clear HFn
  refine wpAnyH_ready (rs := [40]) (by kernel_rfl) (by simp) ?_
  refine AllReadyH.cons rfl (fun Kx hKx => ?_) AllReadyH.nil
  go_simp
  have hcon := HAC3.out (v8) q39 HB39.out
  with_reducible refine hcon.mono ?_
  clear hcon
  rintro e' v9 ⟨rfl, hff⟩
  have HFn : Hid (Fr (fun _ => False) v8 v9) := Lib.hid (hff)
  clear hff
  have HB27 := Lib.hid (HB27.out.fr HFn.out (fun h => h))
  have HB39 := Lib.hid (HB39.out.fr HFn.out (fun h => h))
  have HGc := Lib.hid (HGc.out.trans HFn.out (fun _ _ h => h))
  refine hKx.out _ _ ?_ (fun hHeld => ?_)
  · exact HFn.out
  clear hKx Kx
  (try simp only [Act.put, List.setIfInBounds_toArray, List.set_cons_zero, List.set_cons_succ, List.getElem_toArray, List.getElem_cons_zero, List.getElem_cons_succ])
  refine wpAnyH_more (fun w' => Fr (fun _ => False) v9 w') (fun _ h => HFn.out.trans h (fun _ _ h => h)) ?_ (fun hHeld => ?_)
  · exact Fr.refl _ _
  clear HFn
  refine wpAnyH_ready (rs := [42]) (by kernel_rfl) (by simp) ?_
  refine AllReadyH.cons rfl (fun Kx hKx => ?_) AllReadyH.nil
  go_simp
  have hcon := HRS.out (v9)
  with_reducible refine hcon.mono ?_
  clear hcon
  rintro e' v10 ⟨rfl, hff⟩
  have HFn : Hid (Fr (fun _ => False) v9 v10) := Lib.hid (hff)
  clear hff
  have HB27 := Lib.hid (HB27.out.fr HFn.out (fun h => h))
  have HB39 := Lib.hid (HB39.out.fr HFn.out (fun h => h))
  have HGc := Lib.hid (HGc.out.trans HFn.out (fun _ _ h => h))
  refine hKx.out _ _ ?_ (fun hHeld => ?_)
  · exact HFn.out
  clear hKx Kx
  (try simp only [Act.put, List.setIfInBounds_toArray, List.set_cons_zero, List.set_cons_succ, List.getElem_toArray, List.getElem_cons_zero, List.getElem_cons_succ])
  refine wpAnyH_more (fun w' => Fr (fun _ => False) v10 w') (fun _ h => HFn.out.trans h (fun _ _ h => h)) ?_ (fun hHeld => ?_)
  · exact Fr.refl _ _
  clear HFn
  refine wpAnyH_take (i := 43) (v := ?vt190) rfl (by kernel_rfl) (by kernel_rfl) (by kernel_rfl) (fun _ _ _ h => h) (Or.inl ⟨by rfl, ?hyt190⟩) hHeld ?restt190
  case hyt190 => intro w hSw; (try dsimp only at hSw); go_simp; try (with_reducible rfl)
  (try simp only [Act.put, List.setIfInBounds_toArray, List.set_cons_zero, List.set_cons_succ, List.getElem_toArray, List.getElem_cons_zero, List.getElem_cons_succ])
  refine wpAnyH_take (i := 44) (v := undef) rfl (by kernel_rfl) (by kernel_rfl) (by kernel_rfl) (fun _ _ _ h => h) (Or.inr ⟨by rfl, rfl⟩) hHeld ?_
  (try simp only [Act.put, List.setIfInBounds_toArray, List.set_cons_zero, List.set_cons_succ, List.getElem_toArray, List.getElem_cons_zero, List.getElem_cons_succ])
  refine wpAnyH_take (i := 45) (v := undef) rfl (by kernel_rfl) (by kernel_rfl) (by kernel_rfl) (fun _ _ _ h => h) (Or.inr ⟨by rfl, rfl⟩) hHeld ?_
  (try simp only [Act.put, List.setIfInBounds_toArray, List.set_cons_zero, List.set_cons_succ, List.getElem_toArray, List.getElem_cons_zero, List.getElem_cons_succ])
  refine wpAnyH_take (i := 46) (v := undef) rfl (by kernel_rfl) (by kernel_rfl) (by kernel_rfl) (fun _ _ _ h => h) (Or.inr ⟨by rfl, rfl⟩) hHeld ?_
  (try simp only [Act.put, List.setIfInBounds_toArray, List.set_cons_zero, List.set_cons_succ, List.getElem_toArray, List.getElem_cons_zero, List.getElem_cons_succ])
  refine wpAnyH_take (i := 47) (v := ?vt194) rfl (by kernel_rfl) (by kernel_rfl) (by kernel_rfl) (fun _ _ _ h => h) (Or.inl ⟨by rfl, ?hyt194⟩) hHeld ?restt194
  case hyt194 => intro w hSw; (try dsimp only at hSw); go_simp; try (with_reducible rfl)
  (try simp only [Act.put, List.setIfInBounds_toArray, List.set_cons_zero, List.set_cons_succ, List.getElem_toArray, List.getElem_cons_zero, List.getElem_cons_succ])
  refine wpAnyH_take (i := 48) (v := ?vt195) rfl (by kernel_rfl) (by kernel_rfl) (by kernel_rfl) (fun _ _ _ h => h) (Or.inl ⟨by rfl, ?hyt195⟩) hHeld ?restt195
  case hyt195 => intro w hSw; (try dsimp only at hSw); go_simp; try (with_reducible rfl)
  (try simp only [Act.put, List.setIfInBounds_toArray, List.set_cons_zero, List.set_cons_succ, List.getElem_toArray, List.getElem_cons_zero, List.getElem_cons_succ])
  refine wpAnyH_take (i := 49) (v := undef) rfl (by kernel_rfl) (by kernel_rfl) (by kernel_rfl) (fun _ _ _ h => h) (Or.inr ⟨by rfl, rfl⟩) hHeld ?_
  (try simp only [Act.put, List.setIfInBounds_toArray, List.set_cons_zero, List.set_cons_succ, List.getElem_toArray, List.getElem_cons_zero, List.getElem_cons_succ])
  refine wpAnyH_take (i := 50) (v := undef) rfl (by kernel_rfl) (by kernel_rfl) (by kernel_rfl) (fun _ _ _ h => h) (Or.inr ⟨by rfl, rfl⟩) hHeld ?_
  (try simp only [Act.put, List.setIfInBounds_toArray, List.set_cons_zero, List.set_cons_succ, List.getElem_toArray, List.getElem_cons_zero, List.getElem_cons_succ])
  refine wpAnyH_take (i := 51) (v := undef) rfl (by kernel_rfl) (by kernel_rfl) (by kernel_rfl) (fun _ _ _ h => h) (Or.inr ⟨by rfl, rfl⟩) hHeld ?_
  (try simp only [Act.put, List.setIfInBounds_toArray, List.set_cons_zero, List.set_cons_succ, List.getElem_toArray, List.getElem_cons_zero, List.getElem_cons_succ])
  refine wpAnyH_take (i := 52) (v := ?vt199) rfl (by kernel_rfl) (by kernel_rfl) (by kernel_rfl) (fun _ _ _ h => h) (Or.inl ⟨by rfl, ?hyt199⟩) hHeld ?restt199
  case hyt199 => intro w hSw; (try dsimp only at hSw); go_simp; try (with_reducible rfl)
  (try simp only [Act.put, List.setIfInBounds_toArray, List.set_cons_zero, List.set_cons_succ, List.getElem_toArray, List.getElem_cons_zero, List.getElem_cons_succ])
  refine wpAnyH_take (i := 53) (v := ?vt200) rfl (by kernel_rfl) (by kernel_rfl) (by kernel_rfl) (fun _ _ _ h => h) (Or.inl ⟨by rfl, ?hyt200⟩) hHeld ?restt200
  case hyt200 => intro w hSw; (try dsimp only at hSw); go_simp; try (with_reducible rfl)
  (try simp only [Act.put, List.setIfInBounds_toArray, List.set_cons_zero, List.set_cons_succ, List.getElem_toArray, List.getElem_cons_zero, List.getElem_cons_succ])
  refine wpAnyH_take (i := 54) (v := ?vt201) rfl (by kernel_rfl) (by kernel_rfl) (by kernel_rfl) (fun _ _ _ h => h) (Or.inl ⟨by rfl, ?hyt201⟩) hHeld ?restt201
  case hyt201 => intro w hSw; (try dsimp only at hSw); go_simp; try (with_reducible rfl)
  (try simp only [Act.put, List.setIfInBounds_toArray, List.set_cons_zero, List.set_cons_succ, List.getElem_toArray, List.getElem_cons_zero, List.getElem_cons_succ])
  refine wpAnyH_take (i := 55) (v := ?vt202) rfl (by kernel_rfl) (by kernel_rfl) (by kernel_rfl) (fun _ _ _ h => h) (Or.inl ⟨by rfl, ?hyt202⟩) hHeld ?restt202
  case hyt202 => intro w hSw; (try dsimp only at hSw); go_simp; try (with_reducible rfl)
  (try simp only [Act.put, List.setIfInBounds_toArray, List.set_cons_zero, List.set_cons_succ, List.getElem_toArray, List.getElem_cons_zero, List.getElem_cons_succ])
  refine wpAnyH_ready (rs := [56]) (by kernel_rfl) (by simp) ?_
  refine AllReadyH.cons rfl (fun Kx hKx => ?_) AllReadyH.nil
  go_simp
  have hcon := HAC0.out (v10)
  with_reducible refine hcon.mono ?_
  clear hcon
  rintro e' v11 ⟨rfl, hff⟩
  have HFn : Hid (Fr (fun _ => False) v10 v11) := Lib.hid (hff)
  clear hff
  have HB27 := Lib.hid (HB27.out.fr HFn.out (fun h => h))
  have HB39 := Lib.hid (HB39.out.fr HFn.out (fun h => h))
  have HGc := Lib.hid (HGc.out.trans HFn.out (fun _ _ h => h))
  refine hKx.out _ _ ?_ (fun hHeld => ?_)
  · exact HFn.out
  clear hKx Kx
  (try simp only [Act.put, List.setIfInBounds_toArray, List.set_cons_zero, List.set_cons_succ, List.getElem_toArray, List.getElem_cons_zero, List.getElem_cons_succ])
  refine wpAnyH_more (fun w' => Fr (fun _ => False) v11 w') (fun _ h => HFn.out.trans h (fun _ _ h => h)) ?_ (fun hHeld => ?_)
  · exact Fr.refl _ _
  clear HFn
  refine wpAnyH_take (i := 57) (v := ?vt203) rfl (by kernel_rfl) (by kernel_rfl) (by kernel_rfl) (fun _ _ _ h => h) (Or.inl ⟨by rfl, ?hyt203⟩) hHeld ?restt203
  case hyt203 => intro w hSw; (try dsimp only at hSw); go_simp; try (with_reducible rfl)
  (try simp only [Act.put, List.setIfInBounds_toArray, List.set_cons_zero, List.set_cons_succ, List.getElem_toArray, List.getElem_cons_zero, List.getElem_cons_succ])
  refine wpAnyH_take (i := 58) (v := ?vt204) rfl (by kernel_rfl) (by kernel_rfl) (by kernel_rfl) (fun _ _ _ h => h) (Or.inl ⟨by rfl, ?hyt204⟩) hHeld ?restt204
  case hyt204 => intro w hSw; (try dsimp only at hSw); go_simp; try (with_reducible rfl)
  (try simp only [Act.put, List.setIfInBounds_toArray, List.set_cons_zero, List.set_cons_succ, List.getElem_toArray, List.getElem_cons_zero, List.getElem_cons_succ])
  refine wpAnyH_done (by kernel_rfl) ?_ _
  go_wp2_with fail
  go_ret
  exact ⟨rfl, HF9.out.trans HGc.out (fun _ _ h => h)⟩
set_option maxRecDepth 100000 in
set_option maxHeartbeats 12800000 in
theorem opids_f1 (a b : Nm) (s : List UInt8) (w : World) (ha : a.a.length ≤ 9223372036854775807) (hb : b.a.length ≤ 9223372036854775807) (hs : s.length ≤ 9223372036854775807) (hsm : a.a.length ≤ 100 ∧ b.a.length ≤ 100 ∧ s.length ≤ 100) (hc0 : decide (a.c = 0) = false) (has : actorB s = true) (haa : actorB a.a = false) :
    Calls Try.prog 4 #[nmc a, nmc b, .string (txt s)] w fun e w' => e = .returned (.bool true) ∧ Fr (fun _ => False) w w' := by
  obtain ⟨g, w1, hg, hw1, hr1, hf1⟩ := new_n w a
  obtain ⟨g2, w2, hg2, hw2, hr2, hf2⟩ := new_n w1 b
  have HA3 := Lib.hid (hr1.fr hf2 (fun h => h))
  have HB3 := Lib.hid hr2
  have HF3 := Lib.hid (hf1.trans hf2 (fun _ _ h => h))
  have HAW := Lib.hid (fun w' => awake17_any w')
  have hsa := txt_sz a.a
  have hsb := txt_sz b.a
  have hss := txt_sz s
  obtain ⟨la, hla⟩ : ∃ l, l = a.a.length := ⟨_, rfl⟩
  obtain ⟨lb, hlb⟩ : ∃ l, l = b.a.length := ⟨_, rfl⟩
  obtain ⟨lc, hlc⟩ : ∃ l, l = s.length := ⟨_, rfl⟩
  rw [← hla] at hsa ha
  rw [← hlb] at hsb hb
  rw [← hlc] at hss hs
  obtain ⟨n1, n2, n3⟩ := hsm
  have hid := fun w => id_any a w (by omega)
  have hrid := fun w => rid_any a w (by omega)
  have hz := fun w => zero_any a w
  have hcm := fun w => cmp_any a b w
  have hls := fun w => rless_any a b w (by omega) (by omega)
  have hls2 := fun w => rless_any b a w (by omega) (by omega)
  have hrs : ∀ w : World, Calls Try.prog 19 #[.string (txt s)] w fun e w' => e = .returned (.bool (actorB s)) ∧ Fr (fun _ => False) w w' := fun w => (ractor_any s w (by omega)).mono fun e w' h => ⟨h.1, h.2 ▸ Fr.refl _ _⟩
  have hra : ∀ w : World, Calls Try.prog 19 #[.string (txt a.a)] w fun e w' => e = .returned (.bool (actorB a.a)) ∧ Fr (fun _ => False) w w' := fun w => (ractor_any a.a w (by omega)).mono fun e w' h => ⟨h.1, h.2 ▸ Fr.refl _ _⟩
  have hrb : ∀ w : World, Calls Try.prog 19 #[.string (txt b.a)] w fun e w' => e = .returned (.bool (actorB b.a)) ∧ Fr (fun _ => False) w w' := fun w => (ractor_any b.a w (by omega)).mono fun e w' h => ⟨h.1, h.2 ▸ Fr.refl _ _⟩
  have hac0 : ∀ w : World, Calls Try.prog 18 #[.slice none 0 0] w fun e w' => e = .returned (.bool true) ∧ Fr (fun _ => False) w w' := fun w => (actor_any none 0 0 [] w (Rd.nil _ _) (by omega) (by simp)).mono fun e w' h => ⟨h.1, h.2 ▸ Fr.refl _ _⟩
  have hac1 : ∀ (w : World) (q : Nat), Row w q 9 ([s].map strc) → Calls Try.prog 18 #[.slice (some ⟨q, 0, none⟩) 1 1] w fun e w' => e = .returned (.bool (actorB s)) ∧ Fr (fun _ => False) w w' := fun w q hq => (actor_any (some ⟨q, 0, none⟩) 1 1 [s] w (Row.rd hq 0 1 (Nat.le_refl _)) (by omega) (by simp; omega)).mono fun e w' h => ⟨by rw [h.1]; simp [actorsB], h.2 ▸ Fr.refl _ _⟩
  have hac3 : ∀ (w : World) (q : Nat), Row w q 9 ([s, a.a, b.a].map strc) → Calls Try.prog 18 #[.slice (some ⟨q, 0, none⟩) 3 3] w fun e w' => e = .returned (.bool (actorB s && (actorB a.a && actorB b.a))) ∧ Fr (fun _ => False) w w' := fun w q hq => (actor_any (some ⟨q, 0, none⟩) 3 3 [s, a.a, b.a] w (Row.rd hq 0 3 (Nat.le_refl _)) (by omega) (by simp; omega)).mono fun e w' h => ⟨by rw [h.1]; simp [actorsB], h.2 ▸ Fr.refl _ _⟩
  have hways := cmp_ways a b
  obtain ⟨lab, hlab⟩ : ∃ z, lessN a b = z := ⟨_, rfl⟩
  obtain ⟨lba, hlba⟩ : ∃ z, lessN b a = z := ⟨_, rfl⟩
  obtain ⟨p, hp⟩ : ∃ z, cmpN a b = z := ⟨_, rfl⟩
  obtain ⟨i, hi⟩ : ∃ z, idB a = z := ⟨_, rfl⟩
  obtain ⟨z, hze⟩ : ∃ z, zeroB a = z := ⟨_, rfl⟩
  obtain ⟨e, hee⟩ : ∃ z, decide (a.a = []) = z := ⟨_, rfl⟩
  obtain ⟨ab, hab⟩ : ∃ z, actorB b.a = z := ⟨_, rfl⟩
  rw [hlab, hlba, hp] at hways
  have hzz : z = (decide (a.c = 0) && e) := by rw [← hze, ← hee]; rfl
  rw [hc0] at hzz
  have te := txt_e a.a
  rw [hee] at te
  have te2 : (txt a.a).toList.isEmpty = e := by
    rw [show (txt a.a).toList = a.a from ByteArray.toList_mk _, ← hee]
    cases a.a <;> simp
  have tc0 : (a.c == 0) = false := hc0
  obtain ⟨p0, hp0⟩ : ∃ p0 : Int, (if lab = true then -1 else 0) = p0 := ⟨_, rfl⟩
  have HP : Hid ((lba = true → p = 1) ∧ (lba = false → p = p0)) := Lib.hid (by
    rw [← hp0]
    rcases hways with ⟨h1, _, h2, h3⟩ | ⟨h1, _, h2, h3⟩ | ⟨h1, _, h2, h3⟩ <;> rw [h1, h2, h3] <;> simp)
  have HP0 : Hid ((lab = true → p0 = -1) ∧ (lab = false → p0 = 0)) := Lib.hid (by rw [← hp0]; cases lab <;> simp)
  simp only [hlab] at hls
  simp only [hlba] at hls2
  simp only [hp] at hcm
  simp only [hi] at hid hrid
  simp only [hze] at hz
  simp only [has] at hrs hac1
  simp only [haa] at hra
  simp only [hab] at hrb
  simp only [has, haa, hab, Bool.true_and, Bool.false_and] at hac3
  unfold nmc at hid hrid hz hcm hls hls2
  have HID := Lib.hid hid
  have HRID := Lib.hid hrid
  have HZ := Lib.hid hz
  have HCM := Lib.hid hcm
  have HLS := Lib.hid hls
  have HLS2 := Lib.hid hls2
  have HRS := Lib.hid hrs
  have HRA := Lib.hid hra
  have HRB := Lib.hid hrb
  have HAC0 := Lib.hid hac0
  have HAC1 := Lib.hid hac1
  have HAC3 := Lib.hid hac3
  have ti : (i == i) = true := by simp
  have tp : (p == p) = true := by simp
  have tab : (ab == ab) = true := by simp
  have tz : (z == false) = true := by rw [hzz]; simp
  have g0 : decide ((100 : Int) < (la : Int)) = false := decide_eq_false (by omega)
  have g0' : decide (100 < la) = false := decide_eq_false (by omega)
  have g1 : decide ((100 : Int) < (lb : Int)) = false := decide_eq_false (by omega)
  have g1' : decide (100 < lb) = false := decide_eq_false (by omega)
  have g2' : decide ((100 : Int) < (lc : Int)) = false := decide_eq_false (by omega)
  have g2'' : decide (100 < lc) = false := decide_eq_false (by omega)
  clear hp0 hid hrid hz hcm hls hls2 hrs hra hrb hac0 hac1 hac3 hways hlab hlba hp hi hze hee hab hzz hc0 has haa n1 n2 n3
  unfold nmc
  clear hr1 hr2 hf1 hf2 hla hlb hlc
  go_enter Try.func4, Try.ntmps4
  go_wp2_with fail
  clear hw1 hw2 hg hg2
  refine (HAW.out _).mono ?_
  rintro e w4 ⟨rfl, hf⟩
  have HF4 := Lib.hid (HF3.out.trans hf (fun _ _ h => h))
  have HA4 := Lib.hid (HA3.out.fr hf (fun h => h))
  have HB4 := Lib.hid (HB3.out.fr hf (fun h => h))
  clear hf
  obtain ⟨a0, a1⟩ := HA4.out.cells
  obtain ⟨b0, b1⟩ := HB4.out.cells
  go_wp2_with fail
  refine (HLS.out _).mono ?_
  rintro e w5 ⟨rfl, hf⟩
  have HF5 := Lib.hid (HF4.out.trans hf (fun _ _ h => h))
  have HA5 := Lib.hid (HA4.out.fr hf (fun h => h))
  have HB5 := Lib.hid (HB4.out.fr hf (fun h => h))
  clear hf a0 a1 b0 b1
  go_upto_if 30 with fail
  go_cut [7] (fun v wx => v = .int .i64 p0 ∧ RowN wx g a ∧ RowN wx g2 b ∧ Fr (fun _ => False) w wx)
  case first =>
    cases lab with
    | true =>
      go_wp2_with fail
      go_meet
      exact ⟨congrArg (Value.int .i64) (by have h := HP0.out.1; simp at h; omega), HA5.out, HB5.out, HF5.out⟩
    | false =>
      go_wp2_with fail
      go_meet
      exact ⟨congrArg (Value.int .i64) (by have h := HP0.out.2; simp at h; omega), HA5.out, HB5.out, HF5.out⟩
  case rest =>
  obtain ⟨rfl, ha6, hb6, hf6⟩ := hcut
  rename World => w6
  have HA6 := Lib.hid ha6
  have HB6 := Lib.hid hb6
  have HF6 := Lib.hid hf6
  clear ha6 hb6 hf6
  obtain ⟨a0, a1⟩ := HA6.out.cells
  obtain ⟨b0, b1⟩ := HB6.out.cells
  go_wp2_with fail
  refine (HLS2.out _).mono ?_
  rintro e w7 ⟨rfl, hf⟩
  have HF7 := Lib.hid (HF6.out.trans hf (fun _ _ h => h))
  have HA7 := Lib.hid (HA6.out.fr hf (fun h => h))
  have HB7 := Lib.hid (HB6.out.fr hf (fun h => h))
  clear hf a0 a1 b0 b1
  go_upto_if 33 with fail
  go_cut [7] (fun v wx => v = .int .i64 p ∧ RowN wx g a ∧ RowN wx g2 b ∧ Fr (fun _ => False) w wx)
  case first =>
    cases lba with
    | true =>
      go_wp2_with fail
      go_meet
      exact ⟨congrArg (Value.int .i64) (by have h := HP.out.1; simp at h; omega), HA7.out, HB7.out, HF7.out⟩
    | false =>
      go_wp2_with fail
      go_meet
      exact ⟨congrArg (Value.int .i64) (by have h := HP.out.2; simp at h; omega), HA7.out, HB7.out, HF7.out⟩
  case rest =>
  obtain ⟨rfl, ha9, hb9, hf9⟩ := hcut
  rename World => w9
  have HA9 := Lib.hid ha9
  have HB9 := Lib.hid hb9
  have HF9 := Lib.hid hf9
  clear ha9 hb9 hf9
  have HA := HA9
  have HB := HB9
  go_upto_region 8 with fail
  have HGc : Hid (Fr (fun _ => False) w9 w9) := Lib.hid (Fr.refl _ _)
  refine wp_region_held_drew (S := fun w' => Fr (fun _ => False) w9 w') (by kernel_rfl) ?_ (fun hHeld => ?_)
  · exact (Fr.refl _ _).drew
  refine wpAnyH_take (i := 0) (v := ?vt205) rfl (by kernel_rfl) (by kernel_rfl) (by kernel_rfl) (fun _ _ _ h => h) (Or.inl ⟨by rfl, ?hyt205⟩) hHeld ?restt205
  case hyt205 => intro w hSw; (try dsimp only at hSw); obtain ⟨c0, c1⟩ := (HA.out.fr (HGc.out.trans hSw (fun _ _ h => h)) (fun h => h)).cells; go_simp; try (with_reducible rfl)
  (try simp only [Act.put, List.setIfInBounds_toArray, List.set_cons_zero, List.set_cons_succ, List.getElem_toArray, List.getElem_cons_zero])
  refine wpAnyH_take (i := 2) (v := ?vt206) rfl (by kernel_rfl) (by kernel_rfl) (by kernel_rfl) (fun _ _ _ h => h) (Or.inl ⟨by rfl, ?hyt206⟩) hHeld ?restt206
  case hyt206 => intro w hSw; (try dsimp only at hSw); obtain ⟨c0, c1⟩ := (HA.out.fr (HGc.out.trans hSw (fun _ _ h => h)) (fun h => h)).cells; go_simp; try (with_reducible rfl)
  (try simp only [Act.put, List.setIfInBounds_toArray, List.set_cons_zero, List.set_cons_succ, List.getElem_toArray, List.getElem_cons_zero, List.getElem_cons_succ])
  refine wpAnyH_ready (rs := [1]) (by kernel_rfl) (by simp) ?_
  refine AllReadyH.cons rfl (fun Kx hKx => ?_) AllReadyH.nil
  go_simp
  have hcon := HID.out (w9.drew)
  with_reducible refine hcon.mono ?_
  clear hcon
  rintro e' v1 ⟨rfl, hff⟩
  have HFn : Hid (Fr (fun _ => False) w9 v1) := Lib.hid ((Fr.refl _ _).drew.trans hff (fun _ _ h => h))
  clear hff
  have HGc := Lib.hid (HGc.out.trans HFn.out (fun _ _ h => h))
  refine hKx.out _ _ ?_ (fun hHeld => ?_)
  · exact HFn.out
  clear hKx Kx
  (try simp only [Act.put, List.setIfInBounds_toArray, List.set_cons_zero, List.set_cons_succ, List.getElem_toArray, List.getElem_cons_zero, List.getElem_cons_succ])
  refine wpAnyH_more (fun w' => Fr (fun _ => False) v1 w') (fun _ h => HFn.out.trans h (fun _ _ h => h)) ?_ (fun hHeld => ?_)
  · exact Fr.refl _ _
  clear HFn
  refine wpAnyH_ready (rs := [3]) (by kernel_rfl) (by simp) ?_
  refine AllReadyH.cons rfl (fun Kx hKx => ?_) AllReadyH.nil
  go_simp
  have hcon := HRID.out (v1)
  with_reducible refine hcon.mono ?_
  clear hcon
  rintro e' v2 ⟨rfl, hff⟩
  have HFn : Hid (Fr (fun _ => False) v1 v2) := Lib.hid (hff)
  clear hff
  have HGc := Lib.hid (HGc.out.trans HFn.out (fun _ _ h => h))
  refine hKx.out _ _ ?_ (fun hHeld => ?_)
  · exact HFn.out
  clear hKx Kx
  (try simp only [Act.put, List.setIfInBounds_toArray, List.set_cons_zero, List.set_cons_succ, List.getElem_toArray, List.getElem_cons_zero, List.getElem_cons_succ])
  refine wpAnyH_more (fun w' => Fr (fun _ => False) v2 w') (fun _ h => HFn.out.trans h (fun _ _ h => h)) ?_ (fun hHeld => ?_)
  · exact Fr.refl _ _
  clear HFn
  refine wpAnyH_take (i := 4) (v := ?vt207) rfl (by kernel_rfl) (by kernel_rfl) (by kernel_rfl) (fun _ _ _ h => h) (Or.inl ⟨by rfl, ?hyt207⟩) hHeld ?restt207
  case hyt207 => intro w hSw; (try dsimp only at hSw); go_simp; try (with_reducible rfl)
  (try simp only [Act.put, List.setIfInBounds_toArray, List.set_cons_zero, List.set_cons_succ, List.getElem_toArray, List.getElem_cons_zero, List.getElem_cons_succ])
  refine wpAnyH_take (i := 5) (v := ?vt208) rfl (by kernel_rfl) (by kernel_rfl) (by kernel_rfl) (fun _ _ _ h => h) (Or.inl ⟨by rfl, ?hyt208⟩) hHeld ?restt208
  case hyt208 => intro w hSw; (try dsimp only at hSw); go_simp; try (with_reducible rfl)
  (try simp only [Act.put, List.setIfInBounds_toArray, List.set_cons_zero, List.set_cons_succ, List.getElem_toArray, List.getElem_cons_zero, List.getElem_cons_succ])
  refine wpAnyH_take (i := 6) (v := ?vt209) rfl (by kernel_rfl) (by kernel_rfl) (by kernel_rfl) (fun _ _ _ h => h) (Or.inl ⟨by rfl, ?hyt209⟩) hHeld ?restt209
  case hyt209 => intro w hSw; (try dsimp only at hSw); obtain ⟨c0, c1⟩ := (HA.out.fr (HGc.out.trans hSw (fun _ _ h => h)) (fun h => h)).cells; go_simp; try (with_reducible rfl)
  (try simp only [Act.put, List.setIfInBounds_toArray, List.set_cons_zero, List.set_cons_succ, List.getElem_toArray, List.getElem_cons_zero, List.getElem_cons_succ])
  refine wpAnyH_take (i := 8) (v := ?vt210) rfl (by kernel_rfl) (by kernel_rfl) (by kernel_rfl) (fun _ _ _ h => h) (Or.inl ⟨by rfl, ?hyt210⟩) hHeld ?restt210
  case hyt210 => intro w hSw; (try dsimp only at hSw); go_simp; try (with_reducible rfl)
  (try simp only [Act.put, List.setIfInBounds_toArray, List.set_cons_zero, List.set_cons_succ, List.getElem_toArray, List.getElem_cons_zero, List.getElem_cons_succ])
  refine wpAnyH_take (i := 9) (v := ?vt211) rfl (by kernel_rfl) (by kernel_rfl) (by kernel_rfl) (fun _ _ _ h => h) (Or.inl ⟨by rfl, ?hyt211⟩) hHeld ?restt211
  case hyt211 => intro w hSw; (try dsimp only at hSw); obtain ⟨c0, c1⟩ := (HA.out.fr (HGc.out.trans hSw (fun _ _ h => h)) (fun h => h)).cells; go_simp; try (with_reducible rfl)
  (try simp only [Act.put, List.setIfInBounds_toArray, List.set_cons_zero, List.set_cons_succ, List.getElem_toArray, List.getElem_cons_zero, List.getElem_cons_succ])
  refine wpAnyH_take (i := 10) (v := ?vt212) rfl (by kernel_rfl) (by kernel_rfl) (by kernel_rfl) (fun _ _ _ h => h) (Or.inl ⟨by rfl, ?hyt212⟩) hHeld ?restt212
  case hyt212 => intro w hSw; (try dsimp only at hSw); go_simp; try (with_reducible rfl)
  (try simp only [Act.put, List.setIfInBounds_toArray, List.set_cons_zero, List.set_cons_succ, List.getElem_toArray, List.getElem_cons_zero, List.getElem_cons_succ])
  refine wpAnyH_ready (rs := [7]) (by kernel_rfl) (by simp) ?_
  refine AllReadyH.cons rfl (fun Kx hKx => ?_) AllReadyH.nil
  go_simp
  have hcon := HZ.out (v2)
  with_reducible refine hcon.mono ?_
  clear hcon
  rintro e' v3 ⟨rfl, hff⟩
  have HFn : Hid (Fr (fun _ => False) v2 v3) := Lib.hid (hff)
  clear hff
  have HGc := Lib.hid (HGc.out.trans HFn.out (fun _ _ h => h))
  refine hKx.out _ _ ?_ (fun hHeld => ?_)
  · exact HFn.out
  clear hKx Kx
  (try simp only [Act.put, List.setIfInBounds_toArray, List.set_cons_zero, List.set_cons_succ, List.getElem_toArray, List.getElem_cons_zero, List.getElem_cons_succ])
  refine wpAnyH_more (fun w' => Fr (fun _ => False) v3 w') (fun _ h => HFn.out.trans h (fun _ _ h => h)) ?_ (fun hHeld => ?_)
  · exact Fr.refl _ _
  clear HFn
  refine wpAnyH_take (i := 11) (v := ?vt213) rfl (by kernel_rfl) (by kernel_rfl) (by kernel_rfl) (fun _ _ _ h => h) (Or.inl ⟨by rfl, ?hyt213⟩) hHeld ?restt213
  case hyt213 => intro w hSw; (try dsimp only at hSw); go_simp; try (with_reducible rfl)
  (try simp only [Act.put, List.setIfInBounds_toArray, List.set_cons_zero, List.set_cons_succ, List.getElem_toArray, List.getElem_cons_zero, List.getElem_cons_succ])
  refine wpAnyH_take (i := 12) (v := undef) rfl (by kernel_rfl) (by kernel_rfl) (by kernel_rfl) (fun _ _ _ h => h) (Or.inr ⟨by rfl, rfl⟩) hHeld ?_
  (try simp only [Act.put, List.setIfInBounds_toArray, List.set_cons_zero, List.set_cons_succ, List.getElem_toArray, List.getElem_cons_zero, List.getElem_cons_succ])
  refine wpAnyH_take (i := 13) (v := undef) rfl (by kernel_rfl) (by kernel_rfl) (by kernel_rfl) (fun _ _ _ h => h) (Or.inr ⟨by rfl, rfl⟩) hHeld ?_
  (try simp only [Act.put, List.setIfInBounds_toArray, List.set_cons_zero, List.set_cons_succ, List.getElem_toArray, List.getElem_cons_zero, List.getElem_cons_succ])
  refine wpAnyH_take (i := 14) (v := undef) rfl (by kernel_rfl) (by kernel_rfl) (by kernel_rfl) (fun _ _ _ h => h) (Or.inr ⟨by rfl, rfl⟩) hHeld ?_
  (try simp only [Act.put, List.setIfInBounds_toArray, List.set_cons_zero, List.set_cons_succ, List.getElem_toArray, List.getElem_cons_zero, List.getElem_cons_succ])
  refine wpAnyH_take (i := 15) (v := ?vt217) rfl (by kernel_rfl) (by kernel_rfl) (by kernel_rfl) (fun _ _ _ h => h) (Or.inl ⟨by rfl, ?hyt217⟩) hHeld ?restt217
  case hyt217 => intro w hSw; (try dsimp only at hSw); go_simp; try (with_reducible rfl)
  (try simp only [Act.put, List.setIfInBounds_toArray, List.set_cons_zero, List.set_cons_succ, List.getElem_toArray, List.getElem_cons_zero, List.getElem_cons_succ])
  refine wpAnyH_take (i := 16) (v := ?vt218) rfl (by kernel_rfl) (by kernel_rfl) (by kernel_rfl) (fun _ _ _ h => h) (Or.inl ⟨by rfl, ?hyt218⟩) hHeld ?restt218
  case hyt218 => intro w hSw; (try dsimp only at hSw); go_simp; try (with_reducible rfl)
  (try simp only [Act.put, List.setIfInBounds_toArray, List.set_cons_zero, List.set_cons_succ, List.getElem_toArray, List.getElem_cons_zero, List.getElem_cons_succ])
  refine wpAnyH_take (i := 17) (v := ?vt219) rfl (by kernel_rfl) (by kernel_rfl) (by kernel_rfl) (fun _ _ _ h => h) (Or.inl ⟨by rfl, ?hyt219⟩) hHeld ?restt219
  case hyt219 => intro w hSw; (try dsimp only at hSw); go_simp; try (with_reducible rfl)
  (try simp only [Act.put, List.setIfInBounds_toArray, List.set_cons_zero, List.set_cons_succ, List.getElem_toArray, List.getElem_cons_zero, List.getElem_cons_succ])
  refine wpAnyH_take (i := 18) (v := ?vt220) rfl (by kernel_rfl) (by kernel_rfl) (by kernel_rfl) (fun _ _ _ h => h) (Or.inl ⟨by rfl, ?hyt220⟩) hHeld ?restt220
  case hyt220 => intro w hSw; (try dsimp only at hSw); go_simp; try (with_reducible rfl)
  (try simp only [Act.put, List.setIfInBounds_toArray, List.set_cons_zero, List.set_cons_succ, List.getElem_toArray, List.getElem_cons_zero, List.getElem_cons_succ])
  refine wpAnyH_take (i := 19) (v := ?vt221) rfl (by kernel_rfl) (by kernel_rfl) (by kernel_rfl) (fun _ _ _ h => h) (Or.inl ⟨by rfl, ?hyt221⟩) hHeld ?restt221
  case hyt221 => intro w hSw; (try dsimp only at hSw); obtain ⟨c0, c1⟩ := (HA.out.fr (HGc.out.trans hSw (fun _ _ h => h)) (fun h => h)).cells; go_simp; try (with_reducible rfl)
  (try simp only [Act.put, List.setIfInBounds_toArray, List.set_cons_zero, List.set_cons_succ, List.getElem_toArray, List.getElem_cons_zero, List.getElem_cons_succ])
  refine wpAnyH_take (i := 20) (v := ?vt222) rfl (by kernel_rfl) (by kernel_rfl) (by kernel_rfl) (fun _ _ _ h => h) (Or.inl ⟨by rfl, ?hyt222⟩) hHeld ?restt222
  case hyt222 => intro w hSw; (try dsimp only at hSw); obtain ⟨c0, c1⟩ := (HB.out.fr (HGc.out.trans hSw (fun _ _ h => h)) (fun h => h)).cells; go_simp; try (with_reducible rfl)
  (try simp only [Act.put, List.setIfInBounds_toArray, List.set_cons_zero, List.set_cons_succ, List.getElem_toArray, List.getElem_cons_zero, List.getElem_cons_succ])
  refine wpAnyH_take (i := 22) (v := ?vt223) rfl (by kernel_rfl) (by kernel_rfl) (by kernel_rfl) (fun _ _ _ h => h) (Or.inl ⟨by rfl, ?hyt223⟩) hHeld ?restt223
  case hyt223 => intro w hSw; (try dsimp only at hSw); go_simp; try (with_reducible rfl)
  (try simp only [Act.put, List.setIfInBounds_toArray, List.set_cons_zero, List.set_cons_succ, List.getElem_toArray, List.getElem_cons_zero, List.getElem_cons_succ])
  refine wpAnyH_ready (rs := [21]) (by kernel_rfl) (by simp) ?_
  refine AllReadyH.cons rfl (fun Kx hKx => ?_) AllReadyH.nil
  go_simp
  have hcon := HCM.out (v3)
  with_reducible refine hcon.mono ?_
  clear hcon
  rintro e' v4 ⟨rfl, hff⟩
  have HFn : Hid (Fr (fun _ => False) v3 v4) := Lib.hid (hff)
  clear hff
  have HGc := Lib.hid (HGc.out.trans HFn.out (fun _ _ h => h))
  refine hKx.out _ _ ?_ (fun hHeld => ?_)
  · exact HFn.out
  clear hKx Kx
  (try simp only [Act.put, List.setIfInBounds_toArray, List.set_cons_zero, List.set_cons_succ, List.getElem_toArray, List.getElem_cons_zero, List.getElem_cons_succ])
  refine wpAnyH_more (fun w' => Fr (fun _ => False) v4 w') (fun _ h => HFn.out.trans h (fun _ _ h => h)) ?_ (fun hHeld => ?_)
  · exact Fr.refl _ _
  clear HFn
  refine wpAnyH_take (i := 23) (v := ?vt224) rfl (by kernel_rfl) (by kernel_rfl) (by kernel_rfl) (fun _ _ _ h => h) (Or.inl ⟨by rfl, ?hyt224⟩) hHeld ?restt224
  case hyt224 => intro w hSw; (try dsimp only at hSw); go_simp; try (with_reducible rfl)
  (try simp only [Act.put, List.setIfInBounds_toArray, List.set_cons_zero, List.set_cons_succ, List.getElem_toArray, List.getElem_cons_zero, List.getElem_cons_succ])
  refine wpAnyH_take (i := 24) (v := ?vt225) rfl (by kernel_rfl) (by kernel_rfl) (by kernel_rfl) (fun _ _ _ h => h) (Or.inl ⟨by rfl, ?hyt225⟩) hHeld ?restt225
  case hyt225 => intro w hSw; (try dsimp only at hSw); go_simp; try (with_reducible rfl)
  (try simp only [Act.put, List.setIfInBounds_toArray, List.set_cons_zero, List.set_cons_succ, List.getElem_toArray, List.getElem_cons_zero, List.getElem_cons_succ])
  refine wpAnyH_take (i := 25) (v := ?vt226) rfl (by kernel_rfl) (by kernel_rfl) (by kernel_rfl) (fun _ _ _ h => h) (Or.inl ⟨by rfl, ?hyt226⟩) hHeld ?restt226
  case hyt226 => intro w hSw; (try dsimp only at hSw); go_simp; try (with_reducible rfl)
  (try simp only [Act.put, List.setIfInBounds_toArray, List.set_cons_zero, List.set_cons_succ, List.getElem_toArray, List.getElem_cons_zero, List.getElem_cons_succ])
  refine wpAnyH_take (i := 26) (v := ?vt227) rfl (by kernel_rfl) (by kernel_rfl) (by kernel_rfl) (fun _ _ _ h => h) (Or.inl ⟨by rfl, ?hyt227⟩) hHeld ?restt227
  case hyt227 => intro w hSw; (try dsimp only at hSw); go_simp; try (with_reducible rfl)
  (try simp only [Act.put, List.setIfInBounds_toArray, List.set_cons_zero, List.set_cons_succ, List.getElem_toArray, List.getElem_cons_zero, List.getElem_cons_succ])
  refine wpAnyH_take (i := 29) (v := ?vt228) rfl (by kernel_rfl) (by kernel_rfl) (by kernel_rfl) (fun _ _ _ h => h) (Or.inl ⟨by rfl, ?hyt228⟩) hHeld ?restt228
  case hyt228 => intro w hSw; (try dsimp only at hSw); go_simp; try (with_reducible rfl)
  (try simp only [Act.put, List.setIfInBounds_toArray, List.set_cons_zero, List.set_cons_succ, List.getElem_toArray, List.getElem_cons_zero, List.getElem_cons_succ])
  refine wpAnyH_ready (rs := [27]) (by kernel_rfl) (by simp) ?_
  refine AllReadyH.cons rfl (fun Kx hKx => ?_) AllReadyH.nil
  go_simp
  obtain ⟨v5, hwm⟩ : ∃ v, (v4.alloc (.cells #[.string (txt s)] 9)) = v := ⟨_, rfl⟩
  rw [hwm]
  obtain ⟨q27, hqm⟩ : ∃ q, v4.heap.size = q := ⟨_, rfl⟩
  try rw [hqm]
  have HFn : Hid (Fr (fun _ => False) v4 v5) := Lib.hid (by rw [← hwm]; exact ((Fr.refl _ _).alloc _))
  have hbm : Row v5 q27 9 ([s].map strc) := by rw [← hwm, ← hqm]; exact Row.new v4 _ _
  have HB27 := Lib.hid hbm
  clear hwm hqm hbm
  have HGc := Lib.hid (HGc.out.trans HFn.out (fun _ _ h => h))
  refine hKx.out _ _ ?_ (fun hHeld => ?_)
  · exact HFn.out
  clear hKx Kx
  (try simp only [Act.put, List.setIfInBounds_toArray, List.set_cons_zero, List.set_cons_succ, List.getElem_toArray, List.getElem_cons_zero, List.getElem_cons_succ])
  refine wpAnyH_more (fun w' => Fr (fun _ => False) v5 w') (fun _ h => HFn.out.trans h (fun _ _ h => h)) ?_ (fun hHeld => ?_)
  · exact Fr.refl _ _
  clear HFn
  refine wpAnyH_ready (rs := [28]) (by kernel_rfl) (by simp) ?_
  refine AllReadyH.cons rfl (fun Kx hKx => ?_) AllReadyH.nil
  go_simp
  have hcon := HAC1.out (v5) q27 HB27.out
  with_reducible refine hcon.mono ?_
  clear hcon
  rintro e' v6 ⟨rfl, hff⟩
  have HFn : Hid (Fr (fun _ => False) v5 v6) := Lib.hid (hff)
  clear hff
  have HB27 := Lib.hid (HB27.out.fr HFn.out (fun h => h))
  have HGc := Lib.hid (HGc.out.trans HFn.out (fun _ _ h => h))
  refine hKx.out _ _ ?_ (fun hHeld => ?_)
  · exact HFn.out
  clear hKx Kx
  (try simp only [Act.put, List.setIfInBounds_toArray, List.set_cons_zero, List.set_cons_succ, List.getElem_toArray, List.getElem_cons_zero, List.getElem_cons_succ])
  refine wpAnyH_more (fun w' => Fr (fun _ => False) v6 w') (fun _ h => HFn.out.trans h (fun _ _ h => h)) ?_ (fun hHeld => ?_)
  · exact Fr.refl _ _
  clear HFn
  refine wpAnyH_ready (rs := [30]) (by kernel_rfl) (by simp) ?_
  refine AllReadyH.cons rfl (fun Kx hKx => ?_) AllReadyH.nil
  go_simp
  have hcon := HRS.out (v6)
  with_reducible refine hcon.mono ?_
  clear hcon
  rintro e' v7 ⟨rfl, hff⟩
  have HFn : Hid (Fr (fun _ => False) v6 v7) := Lib.hid (hff)
  clear hff
  have HB27 := Lib.hid (HB27.out.fr HFn.out (fun h => h))
  have HGc := Lib.hid (HGc.out.trans HFn.out (fun _ _ h => h))
  refine hKx.out _ _ ?_ (fun hHeld => ?_)
  · exact HFn.out
  clear hKx Kx
  (try simp only [Act.put, List.setIfInBounds_toArray, List.set_cons_zero, List.set_cons_succ, List.getElem_toArray, List.getElem_cons_zero, List.getElem_cons_succ])
  refine wpAnyH_more (fun w' => Fr (fun _ => False) v7 w') (fun _ h => HFn.out.trans h (fun _ _ h => h)) ?_ (fun hHeld => ?_)
  · exact Fr.refl _ _
  clear HFn
  refine wpAnyH_take (i := 31) (v := ?vt229) rfl (by kernel_rfl) (by kernel_rfl) (by kernel_rfl) (fun _ _ _ h => h) (Or.inl ⟨by rfl, ?hyt229⟩) hHeld ?restt229
  case hyt229 => intro w hSw; (try dsimp only at hSw); go_simp; try (with_reducible rfl)
  (try simp only [Act.put, List.setIfInBounds_toArray, List.set_cons_zero, List.set_cons_succ, List.getElem_toArray, List.getElem_cons_zero, List.getElem_cons_succ])
  refine wpAnyH_take (i := 32) (v := ?vt230) rfl (by kernel_rfl) (by kernel_rfl) (by kernel_rfl) (fun _ _ _ h => h) (Or.inl ⟨by rfl, ?hyt230⟩) hHeld ?restt230
  case hyt230 => intro w hSw; (try dsimp only at hSw); go_simp; try (with_reducible rfl)
  (try simp only [Act.put, List.setIfInBounds_toArray, List.set_cons_zero, List.set_cons_succ, List.getElem_toArray, List.getElem_cons_zero, List.getElem_cons_succ])
  refine wpAnyH_take (i := 33) (v := ?vt231) rfl (by kernel_rfl) (by kernel_rfl) (by kernel_rfl) (fun _ _ _ h => h) (Or.inl ⟨by rfl, ?hyt231⟩) hHeld ?restt231
  case hyt231 => intro w hSw; (try dsimp only at hSw); go_simp; try (with_reducible rfl)
  (try simp only [Act.put, List.setIfInBounds_toArray, List.set_cons_zero, List.set_cons_succ, List.getElem_toArray, List.getElem_cons_zero, List.getElem_cons_succ])
  refine wpAnyH_take (i := 34) (v := ?vt232) rfl (by kernel_rfl) (by kernel_rfl) (by kernel_rfl) (fun _ _ _ h => h) (Or.inl ⟨by rfl, ?hyt232⟩) hHeld ?restt232
  case hyt232 => intro w hSw; (try dsimp only at hSw); go_simp; try (with_reducible rfl)
  (try simp only [Act.put, List.setIfInBounds_toArray, List.set_cons_zero, List.set_cons_succ, List.getElem_toArray, List.getElem_cons_zero, List.getElem_cons_succ])
  refine wpAnyH_take (i := 35) (v := ?vt233) rfl (by kernel_rfl) (by kernel_rfl) (by kernel_rfl) (fun _ _ _ h => h) (Or.inl ⟨by rfl, ?hyt233⟩) hHeld ?restt233
  case hyt233 => intro w hSw; (try dsimp only at hSw); go_simp; try (with_reducible rfl)
  (try simp only [Act.put, List.setIfInBounds_toArray, List.set_cons_zero, List.set_cons_succ, List.getElem_toArray, List.getElem_cons_zero, List.getElem_cons_succ])
  refine wpAnyH_take (i := 36) (v := ?vt234) rfl (by kernel_rfl) (by kernel_rfl) (by kernel_rfl) (fun _ _ _ h => h) (Or.inl ⟨by rfl, ?hyt234⟩) hHeld ?restt234
  case hyt234 => intro w hSw; (try dsimp only at hSw); obtain ⟨c0, c1⟩ := (HA.out.fr (HGc.out.trans hSw (fun _ _ h => h)) (fun h => h)).cells; go_simp; try (with_reducible rfl)
  (try simp only [Act.put, List.setIfInBounds_toArray, List.set_cons_zero, List.set_cons_succ, List.getElem_toArray, List.getElem_cons_zero, List.getElem_cons_succ])
  refine wpAnyH_take (i := 37) (v := ?vt235) rfl (by kernel_rfl) (by kernel_rfl) (by kernel_rfl) (fun _ _ _ h => h) (Or.inl ⟨by rfl, ?hyt235⟩) hHeld ?restt235
  case hyt235 => intro w hSw; (try dsimp only at hSw); go_simp; try (with_reducible rfl)
  (try simp only [Act.put, List.setIfInBounds_toArray, List.set_cons_zero, List.set_cons_succ, List.getElem_toArray, List.getElem_cons_zero, List.getElem_cons_succ])
  refine wpAnyH_take (i := 38) (v := ?vt236) rfl (by kernel_rfl) (by kernel_rfl) (by kernel_rfl) (fun _ _ _ h => h) (Or.inl ⟨by rfl, ?hyt236⟩) hHeld ?restt236
  case hyt236 => intro w hSw; (try dsimp only at hSw); obtain ⟨c0, c1⟩ := (HB.out.fr (HGc.out.trans hSw (fun _ _ h => h)) (fun h => h)).cells; go_simp; try (with_reducible rfl)
  (try simp only [Act.put, List.setIfInBounds_toArray, List.set_cons_zero, List.set_cons_succ, List.getElem_toArray, List.getElem_cons_zero, List.getElem_cons_succ])
  refine wpAnyH_take (i := 41) (v := ?vt237) rfl (by kernel_rfl) (by kernel_rfl) (by kernel_rfl) (fun _ _ _ h => h) (Or.inl ⟨by rfl, ?hyt237⟩) hHeld ?restt237
  case hyt237 => intro w hSw; (try dsimp only at hSw); go_simp; try (with_reducible rfl)
  (try simp only [Act.put, List.setIfInBounds_toArray, List.set_cons_zero, List.set_cons_succ, List.getElem_toArray, List.getElem_cons_zero, List.getElem_cons_succ])
  refine wpAnyH_ready (rs := [39]) (by kernel_rfl) (by simp) ?_
  refine AllReadyH.cons rfl (fun Kx hKx => ?_) AllReadyH.nil
  go_simp
  obtain ⟨v8, hwm⟩ : ∃ v, (v7.alloc (.cells #[.string (txt s), .string (txt a.a), .string (txt b.a)] 9)) = v := ⟨_, rfl⟩
  rw [hwm]
  obtain ⟨q39, hqm⟩ : ∃ q, v7.heap.size = q := ⟨_, rfl⟩
  try rw [hqm]
  have HFn : Hid (Fr (fun _ => False) v7 v8) := Lib.hid (by rw [← hwm]; exact ((Fr.refl _ _).alloc _))
  have hbm : Row v8 q39 9 ([s, a.a, b.a].map strc) := by rw [← hwm, ← hqm]; exact Row.new v7 _ _
  have HB39 := Lib.hid hbm
  clear hwm hqm hbm
  have HB27 := Lib.hid (HB27.out.fr HFn.out (fun h => h))
  have HGc := Lib.hid (HGc.out.trans HFn.out (fun _ _ h => h))
  refine hKx.out _ _ ?_ (fun hHeld => ?_)
  · exact HFn.out
  clear hKx Kx
  (try simp only [Act.put, List.setIfInBounds_toArray, List.set_cons_zero, List.set_cons_succ, List.getElem_toArray, List.getElem_cons_zero, List.getElem_cons_succ])
  refine wpAnyH_more (fun w' => Fr (fun _ => False) v8 w') (fun _ h => HFn.out.trans h (fun _ _ h => h)) ?_ (fun hHeld => ?_)
  · exact Fr.refl _ _
  clear HFn
  refine wpAnyH_ready (rs := [40]) (by kernel_rfl) (by simp) ?_
  refine AllReadyH.cons rfl (fun Kx hKx => ?_) AllReadyH.nil
  go_simp
  have hcon := HAC3.out (v8) q39 HB39.out
  with_reducible refine hcon.mono ?_
  clear hcon
  rintro e' v9 ⟨rfl, hff⟩
  have HFn : Hid (Fr (fun _ => False) v8 v9) := Lib.hid (hff)
  clear hff
  have HB27 := Lib.hid (HB27.out.fr HFn.out (fun h => h))
  have HB39 := Lib.hid (HB39.out.fr HFn.out (fun h => h))
  have HGc := Lib.hid (HGc.out.trans HFn.out (fun _ _ h => h))
  refine hKx.out _ _ ?_ (fun hHeld => ?_)
  · exact HFn.out
  clear hKx Kx
  (try simp only [Act.put, List.setIfInBounds_toArray, List.set_cons_zero, List.set_cons_succ, List.getElem_toArray, List.getElem_cons_zero, List.getElem_cons_succ])
  refine wpAnyH_more (fun w' => Fr (fun _ => False) v9 w') (fun _ h => HFn.out.trans h (fun _ _ h => h)) ?_ (fun hHeld => ?_)
  · exact Fr.refl _ _
  clear HFn
  refine wpAnyH_ready (rs := [42]) (by kernel_rfl) (by simp) ?_
  refine AllReadyH.cons rfl (fun Kx hKx => ?_) AllReadyH.nil
  go_simp
  have hcon := HRS.out (v9)
  with_reducible refine hcon.mono ?_
  clear hcon
  rintro e' v10 ⟨rfl, hff⟩
  have HFn : Hid (Fr (fun _ => False) v9 v10) := Lib.hid (hff)
  clear hff
  have HB27 := Lib.hid (HB27.out.fr HFn.out (fun h => h))
  have HB39 := Lib.hid (HB39.out.fr HFn.out (fun h => h))
  have HGc := Lib.hid (HGc.out.trans HFn.out (fun _ _ h => h))
  refine hKx.out _ _ ?_ (fun hHeld => ?_)
  · exact HFn.out
  clear hKx Kx
  (try simp only [Act.put, List.setIfInBounds_toArray, List.set_cons_zero, List.set_cons_succ, List.getElem_toArray, List.getElem_cons_zero, List.getElem_cons_succ])
  refine wpAnyH_more (fun w' => Fr (fun _ => False) v10 w') (fun _ h => HFn.out.trans h (fun _ _ h => h)) ?_ (fun hHeld => ?_)
  · exact Fr.refl _ _
  clear HFn
  refine wpAnyH_take (i := 43) (v := ?vt238) rfl (by kernel_rfl) (by kernel_rfl) (by kernel_rfl) (fun _ _ _ h => h) (Or.inl ⟨by rfl, ?hyt238⟩) hHeld ?restt238
  case hyt238 => intro w hSw; (try dsimp only at hSw); go_simp; try (with_reducible rfl)
  (try simp only [Act.put, List.setIfInBounds_toArray, List.set_cons_zero, List.set_cons_succ, List.getElem_toArray, List.getElem_cons_zero, List.getElem_cons_succ])
  refine wpAnyH_take (i := 44) (v := ?vt239) rfl (by kernel_rfl) (by kernel_rfl) (by kernel_rfl) (fun _ _ _ h => h) (Or.inl ⟨by rfl, ?hyt239⟩) hHeld ?restt239
  case hyt239 => intro w hSw; (try dsimp only at hSw); go_simp; try (with_reducible rfl)
  (try simp only [Act.put, List.setIfInBounds_toArray, List.set_cons_zero, List.set_cons_succ, List.getElem_toArray, List.getElem_cons_zero, List.getElem_cons_succ])
  refine wpAnyH_take (i := 45) (v := ?vt240) rfl (by kernel_rfl) (by kernel_rfl) (by kernel_rfl) (fun _ _ _ h => h) (Or.inl ⟨by rfl, ?hyt240⟩) hHeld ?restt240
  case hyt240 => intro w hSw; (try dsimp only at hSw); obtain ⟨c0, c1⟩ := (HA.out.fr (HGc.out.trans hSw (fun _ _ h => h)) (fun h => h)).cells; go_simp; try (with_reducible rfl)
  (try simp only [Act.put, List.setIfInBounds_toArray, List.set_cons_zero, List.set_cons_succ, List.getElem_toArray, List.getElem_cons_zero, List.getElem_cons_succ])
  refine wpAnyH_ready (rs := [46]) (by kernel_rfl) (by simp) ?_
  refine AllReadyH.cons rfl (fun Kx hKx => ?_) AllReadyH.nil
  go_simp
  have hcon := HRA.out (v10)
  with_reducible refine hcon.mono ?_
  clear hcon
  rintro e' v11 ⟨rfl, hff⟩
  have HFn : Hid (Fr (fun _ => False) v10 v11) := Lib.hid (hff)
  clear hff
  have HB27 := Lib.hid (HB27.out.fr HFn.out (fun h => h))
  have HB39 := Lib.hid (HB39.out.fr HFn.out (fun h => h))
  have HGc := Lib.hid (HGc.out.trans HFn.out (fun _ _ h => h))
  refine hKx.out _ _ ?_ (fun hHeld => ?_)
  · exact HFn.out
  clear hKx Kx
  (try simp only [Act.put, List.setIfInBounds_toArray, List.set_cons_zero, List.set_cons_succ, List.getElem_toArray, List.getElem_cons_zero, List.getElem_cons_succ])
  refine wpAnyH_more (fun w' => Fr (fun _ => False) v11 w') (fun _ h => HFn.out.trans h (fun _ _ h => h)) ?_ (fun hHeld => ?_)
  · exact Fr.refl _ _
  clear HFn
  refine wpAnyH_take (i := 47) (v := ?vt241) rfl (by kernel_rfl) (by kernel_rfl) (by kernel_rfl) (fun _ _ _ h => h) (Or.inl ⟨by rfl, ?hyt241⟩) hHeld ?restt241
  case hyt241 => intro w hSw; (try dsimp only at hSw); go_simp; try (with_reducible rfl)
  (try simp only [Act.put, List.setIfInBounds_toArray, List.set_cons_zero, List.set_cons_succ, List.getElem_toArray, List.getElem_cons_zero, List.getElem_cons_succ])
  refine wpAnyH_take (i := 48) (v := ?vt242) rfl (by kernel_rfl) (by kernel_rfl) (by kernel_rfl) (fun _ _ _ h => h) (Or.inl ⟨by rfl, ?hyt242⟩) hHeld ?restt242
  case hyt242 => intro w hSw; (try dsimp only at hSw); go_simp; try (with_reducible rfl)
  (try simp only [Act.put, List.setIfInBounds_toArray, List.set_cons_zero, List.set_cons_succ, List.getElem_toArray, List.getElem_cons_zero, List.getElem_cons_succ])
  refine wpAnyH_take (i := 49) (v := undef) rfl (by kernel_rfl) (by kernel_rfl) (by kernel_rfl) (fun _ _ _ h => h) (Or.inr ⟨by rfl, rfl⟩) hHeld ?_
  (try simp only [Act.put, List.setIfInBounds_toArray, List.set_cons_zero, List.set_cons_succ, List.getElem_toArray, List.getElem_cons_zero, List.getElem_cons_succ])
  refine wpAnyH_take (i := 50) (v := undef) rfl (by kernel_rfl) (by kernel_rfl) (by kernel_rfl) (fun _ _ _ h => h) (Or.inr ⟨by rfl, rfl⟩) hHeld ?_
  (try simp only [Act.put, List.setIfInBounds_toArray, List.set_cons_zero, List.set_cons_succ, List.getElem_toArray, List.getElem_cons_zero, List.getElem_cons_succ])
  refine wpAnyH_take (i := 51) (v := undef) rfl (by kernel_rfl) (by kernel_rfl) (by kernel_rfl) (fun _ _ _ h => h) (Or.inr ⟨by rfl, rfl⟩) hHeld ?_
  (try simp only [Act.put, List.setIfInBounds_toArray, List.set_cons_zero, List.set_cons_succ, List.getElem_toArray, List.getElem_cons_zero, List.getElem_cons_succ])
  refine wpAnyH_take (i := 52) (v := ?vt246) rfl (by kernel_rfl) (by kernel_rfl) (by kernel_rfl) (fun _ _ _ h => h) (Or.inl ⟨by rfl, ?hyt246⟩) hHeld ?restt246
  case hyt246 => intro w hSw; (try dsimp only at hSw); go_simp; try (with_reducible rfl)
  (try simp only [Act.put, List.setIfInBounds_toArray, List.set_cons_zero, List.set_cons_succ, List.getElem_toArray, List.getElem_cons_zero, List.getElem_cons_succ])
  refine wpAnyH_take (i := 53) (v := ?vt247) rfl (by kernel_rfl) (by kernel_rfl) (by kernel_rfl) (fun _ _ _ h => h) (Or.inl ⟨by rfl, ?hyt247⟩) hHeld ?restt247
  case hyt247 => intro w hSw; (try dsimp only at hSw); go_simp; try (with_reducible rfl)
  (try simp only [Act.put, List.setIfInBounds_toArray, List.set_cons_zero, List.set_cons_succ, List.getElem_toArray, List.getElem_cons_zero, List.getElem_cons_succ])
  refine wpAnyH_take (i := 54) (v := ?vt248) rfl (by kernel_rfl) (by kernel_rfl) (by kernel_rfl) (fun _ _ _ h => h) (Or.inl ⟨by rfl, ?hyt248⟩) hHeld ?restt248
  case hyt248 => intro w hSw; (try dsimp only at hSw); go_simp; try (with_reducible rfl)
  (try simp only [Act.put, List.setIfInBounds_toArray, List.set_cons_zero, List.set_cons_succ, List.getElem_toArray, List.getElem_cons_zero, List.getElem_cons_succ])
  refine wpAnyH_take (i := 55) (v := ?vt249) rfl (by kernel_rfl) (by kernel_rfl) (by kernel_rfl) (fun _ _ _ h => h) (Or.inl ⟨by rfl, ?hyt249⟩) hHeld ?restt249
  case hyt249 => intro w hSw; (try dsimp only at hSw); go_simp; try (with_reducible rfl)
  (try simp only [Act.put, List.setIfInBounds_toArray, List.set_cons_zero, List.set_cons_succ, List.getElem_toArray, List.getElem_cons_zero, List.getElem_cons_succ])
  refine wpAnyH_ready (rs := [56]) (by kernel_rfl) (by simp) ?_
  refine AllReadyH.cons rfl (fun Kx hKx => ?_) AllReadyH.nil
  go_simp
  have hcon := HAC0.out (v11)
  with_reducible refine hcon.mono ?_
  clear hcon
  rintro e' v12 ⟨rfl, hff⟩
  have HFn : Hid (Fr (fun _ => False) v11 v12) := Lib.hid (hff)
  clear hff
  have HB27 := Lib.hid (HB27.out.fr HFn.out (fun h => h))
  have HB39 := Lib.hid (HB39.out.fr HFn.out (fun h => h))
  have HGc := Lib.hid (HGc.out.trans HFn.out (fun _ _ h => h))
  refine hKx.out _ _ ?_ (fun hHeld => ?_)
  · exact HFn.out
  clear hKx Kx
  (try simp only [Act.put, List.setIfInBounds_toArray, List.set_cons_zero, List.set_cons_succ, List.getElem_toArray, List.getElem_cons_zero, List.getElem_cons_succ])
  refine wpAnyH_more (fun w' => Fr (fun _ => False) v12 w') (fun _ h => HFn.out.trans h (fun _ _ h => h)) ?_ (fun hHeld => ?_)
  · exact Fr.refl _ _
  clear HFn
  refine wpAnyH_take (i := 57) (v := ?vt250) rfl (by kernel_rfl) (by kernel_rfl) (by kernel_rfl) (fun _ _ _ h => h) (Or.inl ⟨by rfl, ?hyt250⟩) hHeld ?restt250
  case hyt250 => intro w hSw; (try dsimp only at hSw); go_simp; try (with_reducible rfl)
  (try simp only [Act.put, List.setIfInBounds_toArray, List.set_cons_zero, List.set_cons_succ, List.getElem_toArray, List.getElem_cons_zero, List.getElem_cons_succ])
  refine wpAnyH_take (i := 58) (v := ?vt251) rfl (by kernel_rfl) (by kernel_rfl) (by kernel_rfl) (fun _ _ _ h => h) (Or.inl ⟨by rfl, ?hyt251⟩) hHeld ?restt251
  case hyt251 => intro w hSw; (try dsimp only at hSw); go_simp; try (with_reducible rfl)
  (try simp only [Act.put, List.setIfInBounds_toArray, List.set_cons_zero, List.set_cons_succ, List.getElem_toArray, List.getElem_cons_zero, List.getElem_cons_succ])
  refine wpAnyH_done (by kernel_rfl) ?_ _
  go_wp2_with fail
  go_ret
  exact ⟨rfl, HF9.out.trans HGc.out (fun _ _ h => h)⟩
set_option maxRecDepth 100000 in
set_option maxHeartbeats 12800000 in
theorem opids_f2 (a b : Nm) (s : List UInt8) (w : World) (ha : a.a.length ≤ 9223372036854775807) (hb : b.a.length ≤ 9223372036854775807) (hs : s.length ≤ 9223372036854775807) (hsm : a.a.length ≤ 100 ∧ b.a.length ≤ 100 ∧ s.length ≤ 100) (hc0 : decide (a.c = 0) = false) (has : actorB s = true) (haa : actorB a.a = true) :
    Calls Try.prog 4 #[nmc a, nmc b, .string (txt s)] w fun e w' => e = .returned (.bool true) ∧ Fr (fun _ => False) w w' := by
  obtain ⟨g, w1, hg, hw1, hr1, hf1⟩ := new_n w a
  obtain ⟨g2, w2, hg2, hw2, hr2, hf2⟩ := new_n w1 b
  have HA3 := Lib.hid (hr1.fr hf2 (fun h => h))
  have HB3 := Lib.hid hr2
  have HF3 := Lib.hid (hf1.trans hf2 (fun _ _ h => h))
  have HAW := Lib.hid (fun w' => awake17_any w')
  have hsa := txt_sz a.a
  have hsb := txt_sz b.a
  have hss := txt_sz s
  obtain ⟨la, hla⟩ : ∃ l, l = a.a.length := ⟨_, rfl⟩
  obtain ⟨lb, hlb⟩ : ∃ l, l = b.a.length := ⟨_, rfl⟩
  obtain ⟨lc, hlc⟩ : ∃ l, l = s.length := ⟨_, rfl⟩
  rw [← hla] at hsa ha
  rw [← hlb] at hsb hb
  rw [← hlc] at hss hs
  obtain ⟨n1, n2, n3⟩ := hsm
  have hid := fun w => id_any a w (by omega)
  have hrid := fun w => rid_any a w (by omega)
  have hz := fun w => zero_any a w
  have hcm := fun w => cmp_any a b w
  have hls := fun w => rless_any a b w (by omega) (by omega)
  have hls2 := fun w => rless_any b a w (by omega) (by omega)
  have hrs : ∀ w : World, Calls Try.prog 19 #[.string (txt s)] w fun e w' => e = .returned (.bool (actorB s)) ∧ Fr (fun _ => False) w w' := fun w => (ractor_any s w (by omega)).mono fun e w' h => ⟨h.1, h.2 ▸ Fr.refl _ _⟩
  have hra : ∀ w : World, Calls Try.prog 19 #[.string (txt a.a)] w fun e w' => e = .returned (.bool (actorB a.a)) ∧ Fr (fun _ => False) w w' := fun w => (ractor_any a.a w (by omega)).mono fun e w' h => ⟨h.1, h.2 ▸ Fr.refl _ _⟩
  have hrb : ∀ w : World, Calls Try.prog 19 #[.string (txt b.a)] w fun e w' => e = .returned (.bool (actorB b.a)) ∧ Fr (fun _ => False) w w' := fun w => (ractor_any b.a w (by omega)).mono fun e w' h => ⟨h.1, h.2 ▸ Fr.refl _ _⟩
  have hac0 : ∀ w : World, Calls Try.prog 18 #[.slice none 0 0] w fun e w' => e = .returned (.bool true) ∧ Fr (fun _ => False) w w' := fun w => (actor_any none 0 0 [] w (Rd.nil _ _) (by omega) (by simp)).mono fun e w' h => ⟨h.1, h.2 ▸ Fr.refl _ _⟩
  have hac1 : ∀ (w : World) (q : Nat), Row w q 9 ([s].map strc) → Calls Try.prog 18 #[.slice (some ⟨q, 0, none⟩) 1 1] w fun e w' => e = .returned (.bool (actorB s)) ∧ Fr (fun _ => False) w w' := fun w q hq => (actor_any (some ⟨q, 0, none⟩) 1 1 [s] w (Row.rd hq 0 1 (Nat.le_refl _)) (by omega) (by simp; omega)).mono fun e w' h => ⟨by rw [h.1]; simp [actorsB], h.2 ▸ Fr.refl _ _⟩
  have hac3 : ∀ (w : World) (q : Nat), Row w q 9 ([s, a.a, b.a].map strc) → Calls Try.prog 18 #[.slice (some ⟨q, 0, none⟩) 3 3] w fun e w' => e = .returned (.bool (actorB s && (actorB a.a && actorB b.a))) ∧ Fr (fun _ => False) w w' := fun w q hq => (actor_any (some ⟨q, 0, none⟩) 3 3 [s, a.a, b.a] w (Row.rd hq 0 3 (Nat.le_refl _)) (by omega) (by simp; omega)).mono fun e w' h => ⟨by rw [h.1]; simp [actorsB], h.2 ▸ Fr.refl _ _⟩
  have hways := cmp_ways a b
  obtain ⟨lab, hlab⟩ : ∃ z, lessN a b = z := ⟨_, rfl⟩
  obtain ⟨lba, hlba⟩ : ∃ z, lessN b a = z := ⟨_, rfl⟩
  obtain ⟨p, hp⟩ : ∃ z, cmpN a b = z := ⟨_, rfl⟩
  obtain ⟨i, hi⟩ : ∃ z, idB a = z := ⟨_, rfl⟩
  obtain ⟨z, hze⟩ : ∃ z, zeroB a = z := ⟨_, rfl⟩
  obtain ⟨e, hee⟩ : ∃ z, decide (a.a = []) = z := ⟨_, rfl⟩
  obtain ⟨ab, hab⟩ : ∃ z, actorB b.a = z := ⟨_, rfl⟩
  rw [hlab, hlba, hp] at hways
  have hzz : z = (decide (a.c = 0) && e) := by rw [← hze, ← hee]; rfl
  rw [hc0] at hzz
  have te := txt_e a.a
  rw [hee] at te
  have te2 : (txt a.a).toList.isEmpty = e := by
    rw [show (txt a.a).toList = a.a from ByteArray.toList_mk _, ← hee]
    cases a.a <;> simp
  have tc0 : (a.c == 0) = false := hc0
  obtain ⟨p0, hp0⟩ : ∃ p0 : Int, (if lab = true then -1 else 0) = p0 := ⟨_, rfl⟩
  have HP : Hid ((lba = true → p = 1) ∧ (lba = false → p = p0)) := Lib.hid (by
    rw [← hp0]
    rcases hways with ⟨h1, _, h2, h3⟩ | ⟨h1, _, h2, h3⟩ | ⟨h1, _, h2, h3⟩ <;> rw [h1, h2, h3] <;> simp)
  have HP0 : Hid ((lab = true → p0 = -1) ∧ (lab = false → p0 = 0)) := Lib.hid (by rw [← hp0]; cases lab <;> simp)
  simp only [hlab] at hls
  simp only [hlba] at hls2
  simp only [hp] at hcm
  simp only [hi] at hid hrid
  simp only [hze] at hz
  simp only [has] at hrs hac1
  simp only [haa] at hra
  simp only [hab] at hrb
  simp only [has, haa, hab, Bool.true_and] at hac3
  unfold nmc at hid hrid hz hcm hls hls2
  have HID := Lib.hid hid
  have HRID := Lib.hid hrid
  have HZ := Lib.hid hz
  have HCM := Lib.hid hcm
  have HLS := Lib.hid hls
  have HLS2 := Lib.hid hls2
  have HRS := Lib.hid hrs
  have HRA := Lib.hid hra
  have HRB := Lib.hid hrb
  have HAC0 := Lib.hid hac0
  have HAC1 := Lib.hid hac1
  have HAC3 := Lib.hid hac3
  have ti : (i == i) = true := by simp
  have tp : (p == p) = true := by simp
  have tab : (ab == ab) = true := by simp
  have tz : (z == false) = true := by rw [hzz]; simp
  have g0 : decide ((100 : Int) < (la : Int)) = false := decide_eq_false (by omega)
  have g0' : decide (100 < la) = false := decide_eq_false (by omega)
  have g1 : decide ((100 : Int) < (lb : Int)) = false := decide_eq_false (by omega)
  have g1' : decide (100 < lb) = false := decide_eq_false (by omega)
  have g2' : decide ((100 : Int) < (lc : Int)) = false := decide_eq_false (by omega)
  have g2'' : decide (100 < lc) = false := decide_eq_false (by omega)
  clear hp0 hid hrid hz hcm hls hls2 hrs hra hrb hac0 hac1 hac3 hways hlab hlba hp hi hze hee hab hzz hc0 has haa n1 n2 n3
  unfold nmc
  clear hr1 hr2 hf1 hf2 hla hlb hlc
  go_enter Try.func4, Try.ntmps4
  go_wp2_with fail
  clear hw1 hw2 hg hg2
  refine (HAW.out _).mono ?_
  rintro e w4 ⟨rfl, hf⟩
  have HF4 := Lib.hid (HF3.out.trans hf (fun _ _ h => h))
  have HA4 := Lib.hid (HA3.out.fr hf (fun h => h))
  have HB4 := Lib.hid (HB3.out.fr hf (fun h => h))
  clear hf
  obtain ⟨a0, a1⟩ := HA4.out.cells
  obtain ⟨b0, b1⟩ := HB4.out.cells
  go_wp2_with fail
  refine (HLS.out _).mono ?_
  rintro e w5 ⟨rfl, hf⟩
  have HF5 := Lib.hid (HF4.out.trans hf (fun _ _ h => h))
  have HA5 := Lib.hid (HA4.out.fr hf (fun h => h))
  have HB5 := Lib.hid (HB4.out.fr hf (fun h => h))
  clear hf a0 a1 b0 b1
  go_upto_if 30 with fail
  go_cut [7] (fun v wx => v = .int .i64 p0 ∧ RowN wx g a ∧ RowN wx g2 b ∧ Fr (fun _ => False) w wx)
  case first =>
    cases lab with
    | true =>
      go_wp2_with fail
      go_meet
      exact ⟨congrArg (Value.int .i64) (by have h := HP0.out.1; simp at h; omega), HA5.out, HB5.out, HF5.out⟩
    | false =>
      go_wp2_with fail
      go_meet
      exact ⟨congrArg (Value.int .i64) (by have h := HP0.out.2; simp at h; omega), HA5.out, HB5.out, HF5.out⟩
  case rest =>
  obtain ⟨rfl, ha6, hb6, hf6⟩ := hcut
  rename World => w6
  have HA6 := Lib.hid ha6
  have HB6 := Lib.hid hb6
  have HF6 := Lib.hid hf6
  clear ha6 hb6 hf6
  obtain ⟨a0, a1⟩ := HA6.out.cells
  obtain ⟨b0, b1⟩ := HB6.out.cells
  go_wp2_with fail
  refine (HLS2.out _).mono ?_
  rintro e w7 ⟨rfl, hf⟩
  have HF7 := Lib.hid (HF6.out.trans hf (fun _ _ h => h))
  have HA7 := Lib.hid (HA6.out.fr hf (fun h => h))
  have HB7 := Lib.hid (HB6.out.fr hf (fun h => h))
  clear hf a0 a1 b0 b1
  go_upto_if 33 with fail
  go_cut [7] (fun v wx => v = .int .i64 p ∧ RowN wx g a ∧ RowN wx g2 b ∧ Fr (fun _ => False) w wx)
  case first =>
    cases lba with
    | true =>
      go_wp2_with fail
      go_meet
      exact ⟨congrArg (Value.int .i64) (by have h := HP.out.1; simp at h; omega), HA7.out, HB7.out, HF7.out⟩
    | false =>
      go_wp2_with fail
      go_meet
      exact ⟨congrArg (Value.int .i64) (by have h := HP.out.2; simp at h; omega), HA7.out, HB7.out, HF7.out⟩
  case rest =>
  obtain ⟨rfl, ha9, hb9, hf9⟩ := hcut
  rename World => w9
  have HA9 := Lib.hid ha9
  have HB9 := Lib.hid hb9
  have HF9 := Lib.hid hf9
  clear ha9 hb9 hf9
  have HA := HA9
  have HB := HB9
  go_upto_region 8 with fail
  have HGc : Hid (Fr (fun _ => False) w9 w9) := Lib.hid (Fr.refl _ _)
  refine wp_region_held_drew (S := fun w' => Fr (fun _ => False) w9 w') (by kernel_rfl) ?_ (fun hHeld => ?_)
  · exact (Fr.refl _ _).drew
  refine wpAnyH_take (i := 0) (v := ?vt252) rfl (by kernel_rfl) (by kernel_rfl) (by kernel_rfl) (fun _ _ _ h => h) (Or.inl ⟨by rfl, ?hyt252⟩) hHeld ?restt252
  case hyt252 => intro w hSw; (try dsimp only at hSw); obtain ⟨c0, c1⟩ := (HA.out.fr (HGc.out.trans hSw (fun _ _ h => h)) (fun h => h)).cells; go_simp; try (with_reducible rfl)
  (try simp only [Act.put, List.setIfInBounds_toArray, List.set_cons_zero, List.set_cons_succ, List.getElem_toArray, List.getElem_cons_zero])
  refine wpAnyH_take (i := 2) (v := ?vt253) rfl (by kernel_rfl) (by kernel_rfl) (by kernel_rfl) (fun _ _ _ h => h) (Or.inl ⟨by rfl, ?hyt253⟩) hHeld ?restt253
  case hyt253 => intro w hSw; (try dsimp only at hSw); obtain ⟨c0, c1⟩ := (HA.out.fr (HGc.out.trans hSw (fun _ _ h => h)) (fun h => h)).cells; go_simp; try (with_reducible rfl)
  (try simp only [Act.put, List.setIfInBounds_toArray, List.set_cons_zero, List.set_cons_succ, List.getElem_toArray, List.getElem_cons_zero, List.getElem_cons_succ])
  refine wpAnyH_ready (rs := [1]) (by kernel_rfl) (by simp) ?_
  refine AllReadyH.cons rfl (fun Kx hKx => ?_) AllReadyH.nil
  go_simp
  have hcon := HID.out (w9.drew)
  with_reducible refine hcon.mono ?_
  clear hcon
  rintro e' v1 ⟨rfl, hff⟩
  have HFn : Hid (Fr (fun _ => False) w9 v1) := Lib.hid ((Fr.refl _ _).drew.trans hff (fun _ _ h => h))
  clear hff
  have HGc := Lib.hid (HGc.out.trans HFn.out (fun _ _ h => h))
  refine hKx.out _ _ ?_ (fun hHeld => ?_)
  · exact HFn.out
  clear hKx Kx
  (try simp only [Act.put, List.setIfInBounds_toArray, List.set_cons_zero, List.set_cons_succ, List.getElem_toArray, List.getElem_cons_zero, List.getElem_cons_succ])
  refine wpAnyH_more (fun w' => Fr (fun _ => False) v1 w') (fun _ h => HFn.out.trans h (fun _ _ h => h)) ?_ (fun hHeld => ?_)
  · exact Fr.refl _ _
  clear HFn
  refine wpAnyH_ready (rs := [3]) (by kernel_rfl) (by simp) ?_
  refine AllReadyH.cons rfl (fun Kx hKx => ?_) AllReadyH.nil
  go_simp
  have hcon := HRID.out (v1)
  with_reducible refine hcon.mono ?_
  clear hcon
  rintro e' v2 ⟨rfl, hff⟩
  have HFn : Hid (Fr (fun _ => False) v1 v2) := Lib.hid (hff)
  clear hff
  have HGc := Lib.hid (HGc.out.trans HFn.out (fun _ _ h => h))
  refine hKx.out _ _ ?_ (fun hHeld => ?_)
  · exact HFn.out
  clear hKx Kx
  (try simp only [Act.put, List.setIfInBounds_toArray, List.set_cons_zero, List.set_cons_succ, List.getElem_toArray, List.getElem_cons_zero, List.getElem_cons_succ])
  refine wpAnyH_more (fun w' => Fr (fun _ => False) v2 w') (fun _ h => HFn.out.trans h (fun _ _ h => h)) ?_ (fun hHeld => ?_)
  · exact Fr.refl _ _
  clear HFn
  refine wpAnyH_take (i := 4) (v := ?vt254) rfl (by kernel_rfl) (by kernel_rfl) (by kernel_rfl) (fun _ _ _ h => h) (Or.inl ⟨by rfl, ?hyt254⟩) hHeld ?restt254
  case hyt254 => intro w hSw; (try dsimp only at hSw); go_simp; try (with_reducible rfl)
  (try simp only [Act.put, List.setIfInBounds_toArray, List.set_cons_zero, List.set_cons_succ, List.getElem_toArray, List.getElem_cons_zero, List.getElem_cons_succ])
  refine wpAnyH_take (i := 5) (v := ?vt255) rfl (by kernel_rfl) (by kernel_rfl) (by kernel_rfl) (fun _ _ _ h => h) (Or.inl ⟨by rfl, ?hyt255⟩) hHeld ?restt255
  case hyt255 => intro w hSw; (try dsimp only at hSw); go_simp; try (with_reducible rfl)
  (try simp only [Act.put, List.setIfInBounds_toArray, List.set_cons_zero, List.set_cons_succ, List.getElem_toArray, List.getElem_cons_zero, List.getElem_cons_succ])
  refine wpAnyH_take (i := 6) (v := ?vt256) rfl (by kernel_rfl) (by kernel_rfl) (by kernel_rfl) (fun _ _ _ h => h) (Or.inl ⟨by rfl, ?hyt256⟩) hHeld ?restt256
  case hyt256 => intro w hSw; (try dsimp only at hSw); obtain ⟨c0, c1⟩ := (HA.out.fr (HGc.out.trans hSw (fun _ _ h => h)) (fun h => h)).cells; go_simp; try (with_reducible rfl)
  (try simp only [Act.put, List.setIfInBounds_toArray, List.set_cons_zero, List.set_cons_succ, List.getElem_toArray, List.getElem_cons_zero, List.getElem_cons_succ])
  refine wpAnyH_take (i := 8) (v := ?vt257) rfl (by kernel_rfl) (by kernel_rfl) (by kernel_rfl) (fun _ _ _ h => h) (Or.inl ⟨by rfl, ?hyt257⟩) hHeld ?restt257
  case hyt257 => intro w hSw; (try dsimp only at hSw); go_simp; try (with_reducible rfl)
  (try simp only [Act.put, List.setIfInBounds_toArray, List.set_cons_zero, List.set_cons_succ, List.getElem_toArray, List.getElem_cons_zero, List.getElem_cons_succ])
  refine wpAnyH_take (i := 9) (v := ?vt258) rfl (by kernel_rfl) (by kernel_rfl) (by kernel_rfl) (fun _ _ _ h => h) (Or.inl ⟨by rfl, ?hyt258⟩) hHeld ?restt258
  case hyt258 => intro w hSw; (try dsimp only at hSw); obtain ⟨c0, c1⟩ := (HA.out.fr (HGc.out.trans hSw (fun _ _ h => h)) (fun h => h)).cells; go_simp; try (with_reducible rfl)
  (try simp only [Act.put, List.setIfInBounds_toArray, List.set_cons_zero, List.set_cons_succ, List.getElem_toArray, List.getElem_cons_zero, List.getElem_cons_succ])
  refine wpAnyH_take (i := 10) (v := ?vt259) rfl (by kernel_rfl) (by kernel_rfl) (by kernel_rfl) (fun _ _ _ h => h) (Or.inl ⟨by rfl, ?hyt259⟩) hHeld ?restt259
  case hyt259 => intro w hSw; (try dsimp only at hSw); go_simp; try (with_reducible rfl)
  (try simp only [Act.put, List.setIfInBounds_toArray, List.set_cons_zero, List.set_cons_succ, List.getElem_toArray, List.getElem_cons_zero, List.getElem_cons_succ])
  refine wpAnyH_ready (rs := [7]) (by kernel_rfl) (by simp) ?_
  refine AllReadyH.cons rfl (fun Kx hKx => ?_) AllReadyH.nil
  go_simp
  have hcon := HZ.out (v2)
  with_reducible refine hcon.mono ?_
  clear hcon
  rintro e' v3 ⟨rfl, hff⟩
  have HFn : Hid (Fr (fun _ => False) v2 v3) := Lib.hid (hff)
  clear hff
  have HGc := Lib.hid (HGc.out.trans HFn.out (fun _ _ h => h))
  refine hKx.out _ _ ?_ (fun hHeld => ?_)
  · exact HFn.out
  clear hKx Kx
  (try simp only [Act.put, List.setIfInBounds_toArray, List.set_cons_zero, List.set_cons_succ, List.getElem_toArray, List.getElem_cons_zero, List.getElem_cons_succ])
  refine wpAnyH_more (fun w' => Fr (fun _ => False) v3 w') (fun _ h => HFn.out.trans h (fun _ _ h => h)) ?_ (fun hHeld => ?_)
  · exact Fr.refl _ _
  clear HFn
  refine wpAnyH_take (i := 11) (v := ?vt260) rfl (by kernel_rfl) (by kernel_rfl) (by kernel_rfl) (fun _ _ _ h => h) (Or.inl ⟨by rfl, ?hyt260⟩) hHeld ?restt260
  case hyt260 => intro w hSw; (try dsimp only at hSw); go_simp; try (with_reducible rfl)
  (try simp only [Act.put, List.setIfInBounds_toArray, List.set_cons_zero, List.set_cons_succ, List.getElem_toArray, List.getElem_cons_zero, List.getElem_cons_succ])
  refine wpAnyH_take (i := 12) (v := undef) rfl (by kernel_rfl) (by kernel_rfl) (by kernel_rfl) (fun _ _ _ h => h) (Or.inr ⟨by rfl, rfl⟩) hHeld ?_
  (try simp only [Act.put, List.setIfInBounds_toArray, List.set_cons_zero, List.set_cons_succ, List.getElem_toArray, List.getElem_cons_zero, List.getElem_cons_succ])
  refine wpAnyH_take (i := 13) (v := undef) rfl (by kernel_rfl) (by kernel_rfl) (by kernel_rfl) (fun _ _ _ h => h) (Or.inr ⟨by rfl, rfl⟩) hHeld ?_
  (try simp only [Act.put, List.setIfInBounds_toArray, List.set_cons_zero, List.set_cons_succ, List.getElem_toArray, List.getElem_cons_zero, List.getElem_cons_succ])
  refine wpAnyH_take (i := 14) (v := undef) rfl (by kernel_rfl) (by kernel_rfl) (by kernel_rfl) (fun _ _ _ h => h) (Or.inr ⟨by rfl, rfl⟩) hHeld ?_
  (try simp only [Act.put, List.setIfInBounds_toArray, List.set_cons_zero, List.set_cons_succ, List.getElem_toArray, List.getElem_cons_zero, List.getElem_cons_succ])
  refine wpAnyH_take (i := 15) (v := ?vt264) rfl (by kernel_rfl) (by kernel_rfl) (by kernel_rfl) (fun _ _ _ h => h) (Or.inl ⟨by rfl, ?hyt264⟩) hHeld ?restt264
  case hyt264 => intro w hSw; (try dsimp only at hSw); go_simp; try (with_reducible rfl)
  (try simp only [Act.put, List.setIfInBounds_toArray, List.set_cons_zero, List.set_cons_succ, List.getElem_toArray, List.getElem_cons_zero, List.getElem_cons_succ])
  refine wpAnyH_take (i := 16) (v := ?vt265) rfl (by kernel_rfl) (by kernel_rfl) (by kernel_rfl) (fun _ _ _ h => h) (Or.inl ⟨by rfl, ?hyt265⟩) hHeld ?restt265
  case hyt265 => intro w hSw; (try dsimp only at hSw); go_simp; try (with_reducible rfl)
  (try simp only [Act.put, List.setIfInBounds_toArray, List.set_cons_zero, List.set_cons_succ, List.getElem_toArray, List.getElem_cons_zero, List.getElem_cons_succ])
  refine wpAnyH_take (i := 17) (v := ?vt266) rfl (by kernel_rfl) (by kernel_rfl) (by kernel_rfl) (fun _ _ _ h => h) (Or.inl ⟨by rfl, ?hyt266⟩) hHeld ?restt266
  case hyt266 => intro w hSw; (try dsimp only at hSw); go_simp; try (with_reducible rfl)
  (try simp only [Act.put, List.setIfInBounds_toArray, List.set_cons_zero, List.set_cons_succ, List.getElem_toArray, List.getElem_cons_zero, List.getElem_cons_succ])
  refine wpAnyH_take (i := 18) (v := ?vt267) rfl (by kernel_rfl) (by kernel_rfl) (by kernel_rfl) (fun _ _ _ h => h) (Or.inl ⟨by rfl, ?hyt267⟩) hHeld ?restt267
  case hyt267 => intro w hSw; (try dsimp only at hSw); go_simp; try (with_reducible rfl)
  (try simp only [Act.put, List.setIfInBounds_toArray, List.set_cons_zero, List.set_cons_succ, List.getElem_toArray, List.getElem_cons_zero, List.getElem_cons_succ])
  refine wpAnyH_take (i := 19) (v := ?vt268) rfl (by kernel_rfl) (by kernel_rfl) (by kernel_rfl) (fun _ _ _ h => h) (Or.inl ⟨by rfl, ?hyt268⟩) hHeld ?restt268
  case hyt268 => intro w hSw; (try dsimp only at hSw); obtain ⟨c0, c1⟩ := (HA.out.fr (HGc.out.trans hSw (fun _ _ h => h)) (fun h => h)).cells; go_simp; try (with_reducible rfl)
  (try simp only [Act.put, List.setIfInBounds_toArray, List.set_cons_zero, List.set_cons_succ, List.getElem_toArray, List.getElem_cons_zero, List.getElem_cons_succ])
  refine wpAnyH_take (i := 20) (v := ?vt269) rfl (by kernel_rfl) (by kernel_rfl) (by kernel_rfl) (fun _ _ _ h => h) (Or.inl ⟨by rfl, ?hyt269⟩) hHeld ?restt269
  case hyt269 => intro w hSw; (try dsimp only at hSw); obtain ⟨c0, c1⟩ := (HB.out.fr (HGc.out.trans hSw (fun _ _ h => h)) (fun h => h)).cells; go_simp; try (with_reducible rfl)
  (try simp only [Act.put, List.setIfInBounds_toArray, List.set_cons_zero, List.set_cons_succ, List.getElem_toArray, List.getElem_cons_zero, List.getElem_cons_succ])
  refine wpAnyH_take (i := 22) (v := ?vt270) rfl (by kernel_rfl) (by kernel_rfl) (by kernel_rfl) (fun _ _ _ h => h) (Or.inl ⟨by rfl, ?hyt270⟩) hHeld ?restt270
  case hyt270 => intro w hSw; (try dsimp only at hSw); go_simp; try (with_reducible rfl)
  (try simp only [Act.put, List.setIfInBounds_toArray, List.set_cons_zero, List.set_cons_succ, List.getElem_toArray, List.getElem_cons_zero, List.getElem_cons_succ])
  refine wpAnyH_ready (rs := [21]) (by kernel_rfl) (by simp) ?_
  refine AllReadyH.cons rfl (fun Kx hKx => ?_) AllReadyH.nil
  go_simp
  have hcon := HCM.out (v3)
  with_reducible refine hcon.mono ?_
  clear hcon
  rintro e' v4 ⟨rfl, hff⟩
  have HFn : Hid (Fr (fun _ => False) v3 v4) := Lib.hid (hff)
  clear hff
  have HGc := Lib.hid (HGc.out.trans HFn.out (fun _ _ h => h))
  refine hKx.out _ _ ?_ (fun hHeld => ?_)
  · exact HFn.out
  clear hKx Kx
  (try simp only [Act.put, List.setIfInBounds_toArray, List.set_cons_zero, List.set_cons_succ, List.getElem_toArray, List.getElem_cons_zero, List.getElem_cons_succ])
  refine wpAnyH_more (fun w' => Fr (fun _ => False) v4 w') (fun _ h => HFn.out.trans h (fun _ _ h => h)) ?_ (fun hHeld => ?_)
  · exact Fr.refl _ _
  clear HFn
  refine wpAnyH_take (i := 23) (v := ?vt271) rfl (by kernel_rfl) (by kernel_rfl) (by kernel_rfl) (fun _ _ _ h => h) (Or.inl ⟨by rfl, ?hyt271⟩) hHeld ?restt271
  case hyt271 => intro w hSw; (try dsimp only at hSw); go_simp; try (with_reducible rfl)
  (try simp only [Act.put, List.setIfInBounds_toArray, List.set_cons_zero, List.set_cons_succ, List.getElem_toArray, List.getElem_cons_zero, List.getElem_cons_succ])
  refine wpAnyH_take (i := 24) (v := ?vt272) rfl (by kernel_rfl) (by kernel_rfl) (by kernel_rfl) (fun _ _ _ h => h) (Or.inl ⟨by rfl, ?hyt272⟩) hHeld ?restt272
  case hyt272 => intro w hSw; (try dsimp only at hSw); go_simp; try (with_reducible rfl)
  (try simp only [Act.put, List.setIfInBounds_toArray, List.set_cons_zero, List.set_cons_succ, List.getElem_toArray, List.getElem_cons_zero, List.getElem_cons_succ])
  refine wpAnyH_take (i := 25) (v := ?vt273) rfl (by kernel_rfl) (by kernel_rfl) (by kernel_rfl) (fun _ _ _ h => h) (Or.inl ⟨by rfl, ?hyt273⟩) hHeld ?restt273
  case hyt273 => intro w hSw; (try dsimp only at hSw); go_simp; try (with_reducible rfl)
  (try simp only [Act.put, List.setIfInBounds_toArray, List.set_cons_zero, List.set_cons_succ, List.getElem_toArray, List.getElem_cons_zero, List.getElem_cons_succ])
  refine wpAnyH_take (i := 26) (v := ?vt274) rfl (by kernel_rfl) (by kernel_rfl) (by kernel_rfl) (fun _ _ _ h => h) (Or.inl ⟨by rfl, ?hyt274⟩) hHeld ?restt274
  case hyt274 => intro w hSw; (try dsimp only at hSw); go_simp; try (with_reducible rfl)
  (try simp only [Act.put, List.setIfInBounds_toArray, List.set_cons_zero, List.set_cons_succ, List.getElem_toArray, List.getElem_cons_zero, List.getElem_cons_succ])
  refine wpAnyH_take (i := 29) (v := ?vt275) rfl (by kernel_rfl) (by kernel_rfl) (by kernel_rfl) (fun _ _ _ h => h) (Or.inl ⟨by rfl, ?hyt275⟩) hHeld ?restt275
  case hyt275 => intro w hSw; (try dsimp only at hSw); go_simp; try (with_reducible rfl)
  (try simp only [Act.put, List.setIfInBounds_toArray, List.set_cons_zero, List.set_cons_succ, List.getElem_toArray, List.getElem_cons_zero, List.getElem_cons_succ])
  refine wpAnyH_ready (rs := [27]) (by kernel_rfl) (by simp) ?_
  refine AllReadyH.cons rfl (fun Kx hKx => ?_) AllReadyH.nil
  go_simp
  obtain ⟨v5, hwm⟩ : ∃ v, (v4.alloc (.cells #[.string (txt s)] 9)) = v := ⟨_, rfl⟩
  rw [hwm]
  obtain ⟨q27, hqm⟩ : ∃ q, v4.heap.size = q := ⟨_, rfl⟩
  try rw [hqm]
  have HFn : Hid (Fr (fun _ => False) v4 v5) := Lib.hid (by rw [← hwm]; exact ((Fr.refl _ _).alloc _))
  have hbm : Row v5 q27 9 ([s].map strc) := by rw [← hwm, ← hqm]; exact Row.new v4 _ _
  have HB27 := Lib.hid hbm
  clear hwm hqm hbm
  have HGc := Lib.hid (HGc.out.trans HFn.out (fun _ _ h => h))
  refine hKx.out _ _ ?_ (fun hHeld => ?_)
  · exact HFn.out
  clear hKx Kx
  (try simp only [Act.put, List.setIfInBounds_toArray, List.set_cons_zero, List.set_cons_succ, List.getElem_toArray, List.getElem_cons_zero, List.getElem_cons_succ])
  refine wpAnyH_more (fun w' => Fr (fun _ => False) v5 w') (fun _ h => HFn.out.trans h (fun _ _ h => h)) ?_ (fun hHeld => ?_)
  · exact Fr.refl _ _
  clear HFn
  refine wpAnyH_ready (rs := [28]) (by kernel_rfl) (by simp) ?_
  refine AllReadyH.cons rfl (fun Kx hKx => ?_) AllReadyH.nil
  go_simp
  have hcon := HAC1.out (v5) q27 HB27.out
  with_reducible refine hcon.mono ?_
  clear hcon
  rintro e' v6 ⟨rfl, hff⟩
  have HFn : Hid (Fr (fun _ => False) v5 v6) := Lib.hid (hff)
  clear hff
  have HB27 := Lib.hid (HB27.out.fr HFn.out (fun h => h))
  have HGc := Lib.hid (HGc.out.trans HFn.out (fun _ _ h => h))
  refine hKx.out _ _ ?_ (fun hHeld => ?_)
  · exact HFn.out
  clear hKx Kx
  (try simp only [Act.put, List.setIfInBounds_toArray, List.set_cons_zero, List.set_cons_succ, List.getElem_toArray, List.getElem_cons_zero, List.getElem_cons_succ])
  refine wpAnyH_more (fun w' => Fr (fun _ => False) v6 w') (fun _ h => HFn.out.trans h (fun _ _ h => h)) ?_ (fun hHeld => ?_)
  · exact Fr.refl _ _
  clear HFn
  refine wpAnyH_ready (rs := [30]) (by kernel_rfl) (by simp) ?_
  refine AllReadyH.cons rfl (fun Kx hKx => ?_) AllReadyH.nil
  go_simp
  have hcon := HRS.out (v6)
  with_reducible refine hcon.mono ?_
  clear hcon
  rintro e' v7 ⟨rfl, hff⟩
  have HFn : Hid (Fr (fun _ => False) v6 v7) := Lib.hid (hff)
  clear hff
  have HB27 := Lib.hid (HB27.out.fr HFn.out (fun h => h))
  have HGc := Lib.hid (HGc.out.trans HFn.out (fun _ _ h => h))
  refine hKx.out _ _ ?_ (fun hHeld => ?_)
  · exact HFn.out
  clear hKx Kx
  (try simp only [Act.put, List.setIfInBounds_toArray, List.set_cons_zero, List.set_cons_succ, List.getElem_toArray, List.getElem_cons_zero, List.getElem_cons_succ])
  refine wpAnyH_more (fun w' => Fr (fun _ => False) v7 w') (fun _ h => HFn.out.trans h (fun _ _ h => h)) ?_ (fun hHeld => ?_)
  · exact Fr.refl _ _
  clear HFn
  refine wpAnyH_take (i := 31) (v := ?vt276) rfl (by kernel_rfl) (by kernel_rfl) (by kernel_rfl) (fun _ _ _ h => h) (Or.inl ⟨by rfl, ?hyt276⟩) hHeld ?restt276
  case hyt276 => intro w hSw; (try dsimp only at hSw); go_simp; try (with_reducible rfl)
  (try simp only [Act.put, List.setIfInBounds_toArray, List.set_cons_zero, List.set_cons_succ, List.getElem_toArray, List.getElem_cons_zero, List.getElem_cons_succ])
  refine wpAnyH_take (i := 32) (v := ?vt277) rfl (by kernel_rfl) (by kernel_rfl) (by kernel_rfl) (fun _ _ _ h => h) (Or.inl ⟨by rfl, ?hyt277⟩) hHeld ?restt277
  case hyt277 => intro w hSw; (try dsimp only at hSw); go_simp; try (with_reducible rfl)
  (try simp only [Act.put, List.setIfInBounds_toArray, List.set_cons_zero, List.set_cons_succ, List.getElem_toArray, List.getElem_cons_zero, List.getElem_cons_succ])
  refine wpAnyH_take (i := 33) (v := ?vt278) rfl (by kernel_rfl) (by kernel_rfl) (by kernel_rfl) (fun _ _ _ h => h) (Or.inl ⟨by rfl, ?hyt278⟩) hHeld ?restt278
  case hyt278 => intro w hSw; (try dsimp only at hSw); go_simp; try (with_reducible rfl)
  (try simp only [Act.put, List.setIfInBounds_toArray, List.set_cons_zero, List.set_cons_succ, List.getElem_toArray, List.getElem_cons_zero, List.getElem_cons_succ])
  refine wpAnyH_take (i := 34) (v := ?vt279) rfl (by kernel_rfl) (by kernel_rfl) (by kernel_rfl) (fun _ _ _ h => h) (Or.inl ⟨by rfl, ?hyt279⟩) hHeld ?restt279
  case hyt279 => intro w hSw; (try dsimp only at hSw); go_simp; try (with_reducible rfl)
  (try simp only [Act.put, List.setIfInBounds_toArray, List.set_cons_zero, List.set_cons_succ, List.getElem_toArray, List.getElem_cons_zero, List.getElem_cons_succ])
  refine wpAnyH_take (i := 35) (v := ?vt280) rfl (by kernel_rfl) (by kernel_rfl) (by kernel_rfl) (fun _ _ _ h => h) (Or.inl ⟨by rfl, ?hyt280⟩) hHeld ?restt280
  case hyt280 => intro w hSw; (try dsimp only at hSw); go_simp; try (with_reducible rfl)
  (try simp only [Act.put, List.setIfInBounds_toArray, List.set_cons_zero, List.set_cons_succ, List.getElem_toArray, List.getElem_cons_zero, List.getElem_cons_succ])
  refine wpAnyH_take (i := 36) (v := ?vt281) rfl (by kernel_rfl) (by kernel_rfl) (by kernel_rfl) (fun _ _ _ h => h) (Or.inl ⟨by rfl, ?hyt281⟩) hHeld ?restt281
  case hyt281 => intro w hSw; (try dsimp only at hSw); obtain ⟨c0, c1⟩ := (HA.out.fr (HGc.out.trans hSw (fun _ _ h => h)) (fun h => h)).cells; go_simp; try (with_reducible rfl)
  (try simp only [Act.put, List.setIfInBounds_toArray, List.set_cons_zero, List.set_cons_succ, List.getElem_toArray, List.getElem_cons_zero, List.getElem_cons_succ])
  refine wpAnyH_take (i := 37) (v := ?vt282) rfl (by kernel_rfl) (by kernel_rfl) (by kernel_rfl) (fun _ _ _ h => h) (Or.inl ⟨by rfl, ?hyt282⟩) hHeld ?restt282
  case hyt282 => intro w hSw; (try dsimp only at hSw); go_simp; try (with_reducible rfl)
  (try simp only [Act.put, List.setIfInBounds_toArray, List.set_cons_zero, List.set_cons_succ, List.getElem_toArray, List.getElem_cons_zero, List.getElem_cons_succ])
  refine wpAnyH_take (i := 38) (v := ?vt283) rfl (by kernel_rfl) (by kernel_rfl) (by kernel_rfl) (fun _ _ _ h => h) (Or.inl ⟨by rfl, ?hyt283⟩) hHeld ?restt283
  case hyt283 => intro w hSw; (try dsimp only at hSw); obtain ⟨c0, c1⟩ := (HB.out.fr (HGc.out.trans hSw (fun _ _ h => h)) (fun h => h)).cells; go_simp; try (with_reducible rfl)
  (try simp only [Act.put, List.setIfInBounds_toArray, List.set_cons_zero, List.set_cons_succ, List.getElem_toArray, List.getElem_cons_zero, List.getElem_cons_succ])
  refine wpAnyH_take (i := 41) (v := ?vt284) rfl (by kernel_rfl) (by kernel_rfl) (by kernel_rfl) (fun _ _ _ h => h) (Or.inl ⟨by rfl, ?hyt284⟩) hHeld ?restt284
  case hyt284 => intro w hSw; (try dsimp only at hSw); go_simp; try (with_reducible rfl)
  (try simp only [Act.put, List.setIfInBounds_toArray, List.set_cons_zero, List.set_cons_succ, List.getElem_toArray, List.getElem_cons_zero, List.getElem_cons_succ])
  refine wpAnyH_ready (rs := [39]) (by kernel_rfl) (by simp) ?_
  refine AllReadyH.cons rfl (fun Kx hKx => ?_) AllReadyH.nil
  go_simp
  obtain ⟨v8, hwm⟩ : ∃ v, (v7.alloc (.cells #[.string (txt s), .string (txt a.a), .string (txt b.a)] 9)) = v := ⟨_, rfl⟩
  rw [hwm]
  obtain ⟨q39, hqm⟩ : ∃ q, v7.heap.size = q := ⟨_, rfl⟩
  try rw [hqm]
  have HFn : Hid (Fr (fun _ => False) v7 v8) := Lib.hid (by rw [← hwm]; exact ((Fr.refl _ _).alloc _))
  have hbm : Row v8 q39 9 ([s, a.a, b.a].map strc) := by rw [← hwm, ← hqm]; exact Row.new v7 _ _
  have HB39 := Lib.hid hbm
  clear hwm hqm hbm
  have HB27 := Lib.hid (HB27.out.fr HFn.out (fun h => h))
  have HGc := Lib.hid (HGc.out.trans HFn.out (fun _ _ h => h))
  refine hKx.out _ _ ?_ (fun hHeld => ?_)
  · exact HFn.out
  clear hKx Kx
  (try simp only [Act.put, List.setIfInBounds_toArray, List.set_cons_zero, List.set_cons_succ, List.getElem_toArray, List.getElem_cons_zero, List.getElem_cons_succ])
  refine wpAnyH_more (fun w' => Fr (fun _ => False) v8 w') (fun _ h => HFn.out.trans h (fun _ _ h => h)) ?_ (fun hHeld => ?_)
  · exact Fr.refl _ _
  clear HFn
  refine wpAnyH_ready (rs := [40]) (by kernel_rfl) (by simp) ?_
  refine AllReadyH.cons rfl (fun Kx hKx => ?_) AllReadyH.nil
  go_simp
  have hcon := HAC3.out (v8) q39 HB39.out
  with_reducible refine hcon.mono ?_
  clear hcon
  rintro e' v9 ⟨rfl, hff⟩
  have HFn : Hid (Fr (fun _ => False) v8 v9) := Lib.hid (hff)
  clear hff
  have HB27 := Lib.hid (HB27.out.fr HFn.out (fun h => h))
  have HB39 := Lib.hid (HB39.out.fr HFn.out (fun h => h))
  have HGc := Lib.hid (HGc.out.trans HFn.out (fun _ _ h => h))
  refine hKx.out _ _ ?_ (fun hHeld => ?_)
  · exact HFn.out
  clear hKx Kx
  (try simp only [Act.put, List.setIfInBounds_toArray, List.set_cons_zero, List.set_cons_succ, List.getElem_toArray, List.getElem_cons_zero, List.getElem_cons_succ])
  refine wpAnyH_more (fun w' => Fr (fun _ => False) v9 w') (fun _ h => HFn.out.trans h (fun _ _ h => h)) ?_ (fun hHeld => ?_)
  · exact Fr.refl _ _
  clear HFn
  refine wpAnyH_ready (rs := [42]) (by kernel_rfl) (by simp) ?_
  refine AllReadyH.cons rfl (fun Kx hKx => ?_) AllReadyH.nil
  go_simp
  have hcon := HRS.out (v9)
  with_reducible refine hcon.mono ?_
  clear hcon
  rintro e' v10 ⟨rfl, hff⟩
  have HFn : Hid (Fr (fun _ => False) v9 v10) := Lib.hid (hff)
  clear hff
  have HB27 := Lib.hid (HB27.out.fr HFn.out (fun h => h))
  have HB39 := Lib.hid (HB39.out.fr HFn.out (fun h => h))
  have HGc := Lib.hid (HGc.out.trans HFn.out (fun _ _ h => h))
  refine hKx.out _ _ ?_ (fun hHeld => ?_)
  · exact HFn.out
  clear hKx Kx
  (try simp only [Act.put, List.setIfInBounds_toArray, List.set_cons_zero, List.set_cons_succ, List.getElem_toArray, List.getElem_cons_zero, List.getElem_cons_succ])
  refine wpAnyH_more (fun w' => Fr (fun _ => False) v10 w') (fun _ h => HFn.out.trans h (fun _ _ h => h)) ?_ (fun hHeld => ?_)
  · exact Fr.refl _ _
  clear HFn
  refine wpAnyH_take (i := 43) (v := ?vt285) rfl (by kernel_rfl) (by kernel_rfl) (by kernel_rfl) (fun _ _ _ h => h) (Or.inl ⟨by rfl, ?hyt285⟩) hHeld ?restt285
  case hyt285 => intro w hSw; (try dsimp only at hSw); go_simp; try (with_reducible rfl)
  (try simp only [Act.put, List.setIfInBounds_toArray, List.set_cons_zero, List.set_cons_succ, List.getElem_toArray, List.getElem_cons_zero, List.getElem_cons_succ])
  refine wpAnyH_take (i := 44) (v := ?vt286) rfl (by kernel_rfl) (by kernel_rfl) (by kernel_rfl) (fun _ _ _ h => h) (Or.inl ⟨by rfl, ?hyt286⟩) hHeld ?restt286
  case hyt286 => intro w hSw; (try dsimp only at hSw); go_simp; try (with_reducible rfl)
  (try simp only [Act.put, List.setIfInBounds_toArray, List.set_cons_zero, List.set_cons_succ, List.getElem_toArray, List.getElem_cons_zero, List.getElem_cons_succ])
  refine wpAnyH_take (i := 45) (v := ?vt287) rfl (by kernel_rfl) (by kernel_rfl) (by kernel_rfl) (fun _ _ _ h => h) (Or.inl ⟨by rfl, ?hyt287⟩) hHeld ?restt287
  case hyt287 => intro w hSw; (try dsimp only at hSw); obtain ⟨c0, c1⟩ := (HA.out.fr (HGc.out.trans hSw (fun _ _ h => h)) (fun h => h)).cells; go_simp; try (with_reducible rfl)
  (try simp only [Act.put, List.setIfInBounds_toArray, List.set_cons_zero, List.set_cons_succ, List.getElem_toArray, List.getElem_cons_zero, List.getElem_cons_succ])
  refine wpAnyH_ready (rs := [46]) (by kernel_rfl) (by simp) ?_
  refine AllReadyH.cons rfl (fun Kx hKx => ?_) AllReadyH.nil
  go_simp
  have hcon := HRA.out (v10)
  with_reducible refine hcon.mono ?_
  clear hcon
  rintro e' v11 ⟨rfl, hff⟩
  have HFn : Hid (Fr (fun _ => False) v10 v11) := Lib.hid (hff)
  clear hff
  have HB27 := Lib.hid (HB27.out.fr HFn.out (fun h => h))
  have HB39 := Lib.hid (HB39.out.fr HFn.out (fun h => h))
  have HGc := Lib.hid (HGc.out.trans HFn.out (fun _ _ h => h))
  refine hKx.out _ _ ?_ (fun hHeld => ?_)
  · exact HFn.out
  clear hKx Kx
  (try simp only [Act.put, List.setIfInBounds_toArray, List.set_cons_zero, List.set_cons_succ, List.getElem_toArray, List.getElem_cons_zero, List.getElem_cons_succ])
  refine wpAnyH_more (fun w' => Fr (fun _ => False) v11 w') (fun _ h => HFn.out.trans h (fun _ _ h => h)) ?_ (fun hHeld => ?_)
  · exact Fr.refl _ _
  clear HFn
  refine wpAnyH_take (i := 47) (v := ?vt288) rfl (by kernel_rfl) (by kernel_rfl) (by kernel_rfl) (fun _ _ _ h => h) (Or.inl ⟨by rfl, ?hyt288⟩) hHeld ?restt288
  case hyt288 => intro w hSw; (try dsimp only at hSw); go_simp; try (with_reducible rfl)
  (try simp only [Act.put, List.setIfInBounds_toArray, List.set_cons_zero, List.set_cons_succ, List.getElem_toArray, List.getElem_cons_zero, List.getElem_cons_succ])
  refine wpAnyH_take (i := 48) (v := ?vt289) rfl (by kernel_rfl) (by kernel_rfl) (by kernel_rfl) (fun _ _ _ h => h) (Or.inl ⟨by rfl, ?hyt289⟩) hHeld ?restt289
  case hyt289 => intro w hSw; (try dsimp only at hSw); go_simp; try (with_reducible rfl)
  (try simp only [Act.put, List.setIfInBounds_toArray, List.set_cons_zero, List.set_cons_succ, List.getElem_toArray, List.getElem_cons_zero, List.getElem_cons_succ])
  refine wpAnyH_take (i := 49) (v := ?vt290) rfl (by kernel_rfl) (by kernel_rfl) (by kernel_rfl) (fun _ _ _ h => h) (Or.inl ⟨by rfl, ?hyt290⟩) hHeld ?restt290
  case hyt290 => intro w hSw; (try dsimp only at hSw); go_simp; try (with_reducible rfl)
  (try simp only [Act.put, List.setIfInBounds_toArray, List.set_cons_zero, List.set_cons_succ, List.getElem_toArray, List.getElem_cons_zero, List.getElem_cons_succ])
  refine wpAnyH_take (i := 50) (v := ?vt291) rfl (by kernel_rfl) (by kernel_rfl) (by kernel_rfl) (fun _ _ _ h => h) (Or.inl ⟨by rfl, ?hyt291⟩) hHeld ?restt291
  case hyt291 => intro w hSw; (try dsimp only at hSw); obtain ⟨c0, c1⟩ := (HB.out.fr (HGc.out.trans hSw (fun _ _ h => h)) (fun h => h)).cells; go_simp; try (with_reducible rfl)
  (try simp only [Act.put, List.setIfInBounds_toArray, List.set_cons_zero, List.set_cons_succ, List.getElem_toArray, List.getElem_cons_zero, List.getElem_cons_succ])
  refine wpAnyH_ready (rs := [51]) (by kernel_rfl) (by simp) ?_
  refine AllReadyH.cons rfl (fun Kx hKx => ?_) AllReadyH.nil
  go_simp
  have hcon := HRB.out (v11)
  with_reducible refine hcon.mono ?_
  clear hcon
  rintro e' v12 ⟨rfl, hff⟩
  have HFn : Hid (Fr (fun _ => False) v11 v12) := Lib.hid (hff)
  clear hff
  have HB27 := Lib.hid (HB27.out.fr HFn.out (fun h => h))
  have HB39 := Lib.hid (HB39.out.fr HFn.out (fun h => h))
  have HGc := Lib.hid (HGc.out.trans HFn.out (fun _ _ h => h))
  refine hKx.out _ _ ?_ (fun hHeld => ?_)
  · exact HFn.out
  clear hKx Kx
  (try simp only [Act.put, List.setIfInBounds_toArray, List.set_cons_zero, List.set_cons_succ, List.getElem_toArray, List.getElem_cons_zero, List.getElem_cons_succ])
  refine wpAnyH_more (fun w' => Fr (fun _ => False) v12 w') (fun _ h => HFn.out.trans h (fun _ _ h => h)) ?_ (fun hHeld => ?_)
  · exact Fr.refl _ _
  clear HFn
  refine wpAnyH_take (i := 52) (v := ?vt292) rfl (by kernel_rfl) (by kernel_rfl) (by kernel_rfl) (fun _ _ _ h => h) (Or.inl ⟨by rfl, ?hyt292⟩) hHeld ?restt292
  case hyt292 => intro w hSw; (try dsimp only at hSw); go_simp; try (with_reducible rfl)
  (try simp only [Act.put, List.setIfInBounds_toArray, List.set_cons_zero, List.set_cons_succ, List.getElem_toArray, List.getElem_cons_zero, List.getElem_cons_succ])
  refine wpAnyH_take (i := 53) (v := ?vt293) rfl (by kernel_rfl) (by kernel_rfl) (by kernel_rfl) (fun _ _ _ h => h) (Or.inl ⟨by rfl, ?hyt293⟩) hHeld ?restt293
  case hyt293 => intro w hSw; (try dsimp only at hSw); go_simp; try (with_reducible rfl)
  (try simp only [Act.put, List.setIfInBounds_toArray, List.set_cons_zero, List.set_cons_succ, List.getElem_toArray, List.getElem_cons_zero, List.getElem_cons_succ])
  refine wpAnyH_take (i := 54) (v := ?vt294) rfl (by kernel_rfl) (by kernel_rfl) (by kernel_rfl) (fun _ _ _ h => h) (Or.inl ⟨by rfl, ?hyt294⟩) hHeld ?restt294
  case hyt294 => intro w hSw; (try dsimp only at hSw); go_simp; try (with_reducible rfl)
  (try simp only [Act.put, List.setIfInBounds_toArray, List.set_cons_zero, List.set_cons_succ, List.getElem_toArray, List.getElem_cons_zero, List.getElem_cons_succ])
  refine wpAnyH_take (i := 55) (v := ?vt295) rfl (by kernel_rfl) (by kernel_rfl) (by kernel_rfl) (fun _ _ _ h => h) (Or.inl ⟨by rfl, ?hyt295⟩) hHeld ?restt295
  case hyt295 => intro w hSw; (try dsimp only at hSw); go_simp; try (with_reducible rfl)
  (try simp only [Act.put, List.setIfInBounds_toArray, List.set_cons_zero, List.set_cons_succ, List.getElem_toArray, List.getElem_cons_zero, List.getElem_cons_succ])
  refine wpAnyH_ready (rs := [56]) (by kernel_rfl) (by simp) ?_
  refine AllReadyH.cons rfl (fun Kx hKx => ?_) AllReadyH.nil
  go_simp
  have hcon := HAC0.out (v12)
  with_reducible refine hcon.mono ?_
  clear hcon
  rintro e' v13 ⟨rfl, hff⟩
  have HFn : Hid (Fr (fun _ => False) v12 v13) := Lib.hid (hff)
  clear hff
  have HB27 := Lib.hid (HB27.out.fr HFn.out (fun h => h))
  have HB39 := Lib.hid (HB39.out.fr HFn.out (fun h => h))
  have HGc := Lib.hid (HGc.out.trans HFn.out (fun _ _ h => h))
  refine hKx.out _ _ ?_ (fun hHeld => ?_)
  · exact HFn.out
  clear hKx Kx
  (try simp only [Act.put, List.setIfInBounds_toArray, List.set_cons_zero, List.set_cons_succ, List.getElem_toArray, List.getElem_cons_zero, List.getElem_cons_succ])
  refine wpAnyH_more (fun w' => Fr (fun _ => False) v13 w') (fun _ h => HFn.out.trans h (fun _ _ h => h)) ?_ (fun hHeld => ?_)
  · exact Fr.refl _ _
  clear HFn
  refine wpAnyH_take (i := 57) (v := ?vt296) rfl (by kernel_rfl) (by kernel_rfl) (by kernel_rfl) (fun _ _ _ h => h) (Or.inl ⟨by rfl, ?hyt296⟩) hHeld ?restt296
  case hyt296 => intro w hSw; (try dsimp only at hSw); go_simp; try (with_reducible rfl)
  (try simp only [Act.put, List.setIfInBounds_toArray, List.set_cons_zero, List.set_cons_succ, List.getElem_toArray, List.getElem_cons_zero, List.getElem_cons_succ])
  refine wpAnyH_take (i := 58) (v := ?vt297) rfl (by kernel_rfl) (by kernel_rfl) (by kernel_rfl) (fun _ _ _ h => h) (Or.inl ⟨by rfl, ?hyt297⟩) hHeld ?restt297
  case hyt297 => intro w hSw; (try dsimp only at hSw); go_simp; try (with_reducible rfl)
  (try simp only [Act.put, List.setIfInBounds_toArray, List.set_cons_zero, List.set_cons_succ, List.getElem_toArray, List.getElem_cons_zero, List.getElem_cons_succ])
  refine wpAnyH_done (by kernel_rfl) ?_ _
  go_wp2_with fail
  go_ret
  exact ⟨rfl, HF9.out.trans HGc.out (fun _ _ h => h)⟩
end Go.Proofs.Ytmiofhoojahpjaa
