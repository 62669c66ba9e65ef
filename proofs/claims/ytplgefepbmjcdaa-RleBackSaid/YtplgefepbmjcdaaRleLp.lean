/-
  The law RlePuts (written by gen_laws11.py).
-/
import Derived.Test.YtplgefepbmjcdaaRleAa
import Derived.Test.YtplgefepbmjcdaaRleAb
import Derived.Test.YtplgefepbmjcdaaRleZc
namespace Go.Proofs.Ytplgefepbmjcdaa
open Go.RowKit Mem Go.Lib RleM LebM
attribute [local go_sem ↓] Go.wp_at_zero Go.wp_at_succ
set_option linter.unusedVariables false

def Rng (sign : Bool) (a : List (Bool × Int)) : Prop := ∀ (k : Nat) (t : Bool × Int), a[k]? = some t → -9223372036854775808 ≤ t.2 ∧ t.2 < 9223372036854775808 ∧ (sign = false → 0 ≤ t.2)
theorem ref_may {κ : Type} {L : List κ} {f : κ → Bool × List UInt8} (h : ∀ c, (f c).1 = false → f c = (false, [])) : ∀ (j : Nat) (x : Bool × List UInt8), (L.map f)[j]? = some x → x.1 = false → x = (false, []) := by
  intro j x hx h0
  rw [List.getElem?_map] at hx
  obtain ⟨c, _, rfl⟩ := Option.map_eq_some_iff.1 hx
  exact h c h0
theorem refS_len {c : Bool × Int} (h : mayU c) : (kR.put (refS false c)).length ≤ 10 := by
  show (refS false c).2.length ≤ 10
  unfold refS
  simp only
  split
  · simp
  · exact putU10 h.2
theorem refS_len2 {c : Bool × Int} (h : mayS c) : (kR.put (refS true c)).length ≤ 10 := by
  show (refS true c).2.length ≤ 10
  unfold refS
  simp only
  split
  · simp
  · exact putS10 h.2
theorem refW_len (c : Bool × List UInt8) (h : c.2.length ≤ 1000000) : (refW c).2.length ≤ 10 + c.2.length := by
  unfold refW
  simp only
  split
  · simp
  · exact putW10 h
set_option maxRecDepth 100000 in
set_option maxHeartbeats 6400000 in
theorem puts_law (A : Option Addr) (n c : Nat) (L : List (Bool × Int)) (A' : Option Addr) (n' c' : Nat) (L' : List (Bool × List UInt8)) (w : World) (hL : Cls nv w A n L) (hn : n ≤ maxLen) (hrng : ∀ (k : Nat) (t : Bool × Int), L[k]? = some t → -9223372036854775808 ≤ t.2 ∧ t.2 < 9223372036854775808)
    (hL' : Cls sv w A' n' L') (hn' : n' ≤ maxLen) (hl' : ∀ (k : Nat) (t : Bool × List UInt8), L'[k]? = some t → t.2.length ≤ maxLen) :
    Calls Try.prog 3 #[.slice A n c, .slice A' n' c'] w fun e w' => e = .returned (.bool true) ∧ Fr (fun _ => False) w w' := by
  have HL := Lib.hid hL
  have HL' := Lib.hid hL'
  have HLN := Lib.hid hL.1
  have HLN' := Lib.hid hL'.1
  have HRNG := Lib.hid hrng
  have HLL := Lib.hid hl'
  have HNN := Lib.hid hn'
  have hnm : n ≤ 9223372036854775807 := hn
  clear hL hL' hrng hl' hn hn'
  by_cases hbig : 600 < n
  · have t0 : decide ((600 : Int) < (n : Int)) = true := by simp; omega
    have t0' : decide (600 < n) = true := by simp; omega
    go_enter Try.func3, Try.ntmps3
    go_wp2_with fail
    refine (awake_any w).mono ?_
    rintro e w2 ⟨rfl, hf2⟩
    have HF2 := Lib.hid hf2
    clear hf2
    go_wp2_with fail
    refine (awake_any w2).mono ?_
    rintro e w9 ⟨rfl, hf9⟩
    have HF9 := Lib.hid (HF2.out.trans hf9 (fun _ _ h => h))
    clear hf9
    go_wp2_with fail
    go_ret
    exact ⟨rfl, HF9.out⟩
  · have t0 : decide ((600 : Int) < (n : Int)) = false := by simp; omega
    have t0' : decide (600 < n) = false := by simp; omega
    have hn6 : n ≤ 600 := by omega
    clear hbig
    go_enter Try.func3, Try.ntmps3
    go_wp2_with fail
    refine (awake_any w).mono ?_
    rintro e w2 ⟨rfl, hf2⟩
    have HF2 := Lib.hid hf2
    clear hf2
    go_wp2_with fail
    refine (long_any A' n' c' L' w2 (HL'.out.fr HF2.out (fun _ _ h => h)) HNN.out HLL.out).mono ?_
    rintro e w3 ⟨r, rfl, hr, hf3⟩
    have HF3 := Lib.hid (HF2.out.trans hf3 (fun _ _ h => h))
    have HRR := Lib.hid hr
    clear hf3 hr
    cases r with
    | true =>
      go_wp2_with fail
      refine (awake_any w3).mono ?_
      rintro e w9 ⟨rfl, hf9⟩
      have HF9 := Lib.hid (HF3.out.trans hf9 (fun _ _ h => h))
      clear hf9
      go_wp2_with fail
      go_ret
      exact ⟨rfl, HF9.out⟩
    | false =>
      obtain ⟨hn6', hlw⟩ := HRR.out rfl
      have HLW := Lib.hid hlw
      clear hlw
      have hr1 : ∀ (k : Nat) (t : Bool × Int), L[k]? = some t → -9223372036854775808 ≤ t.2 ∧ t.2 < 9223372036854775808 := HRNG.out
      obtain ⟨a, ha⟩ : ∃ a, a = L.map (cellS false) := ⟨_, rfl⟩
      obtain ⟨b, hb⟩ : ∃ b, b = L.map (cellS true) := ⟨_, rfl⟩
      obtain ⟨d, hd⟩ : ∃ d, d = L'.map cellW := ⟨_, rfl⟩
      have hma : ∀ x ∈ a, mayU x := by
        intro x hx
        rw [ha] at hx
        obtain ⟨y, hy, rfl⟩ := List.mem_map.1 hx
        obtain ⟨k, hk⟩ := List.getElem?_of_mem hy
        exact may_cellU (HRNG.out k y hk).1 (HRNG.out k y hk).2
      have hmb : ∀ x ∈ b, mayS x := by
        intro x hx
        rw [hb] at hx
        obtain ⟨y, hy, rfl⟩ := List.mem_map.1 hx
        obtain ⟨k, hk⟩ := List.getElem?_of_mem hy
        exact may_cellS (HRNG.out k y hk).1 (HRNG.out k y hk).2
      have hmd : ∀ x ∈ d, mayW x := by
        intro x hx
        rw [hd] at hx
        obtain ⟨y, hy, rfl⟩ := List.mem_map.1 hx
        exact may_cellW (by have := HLW.out y hy; omega)
      have hld : ∀ x ∈ d, n' + x.2.length / 4 ≤ 600 := by
        intro x hx
        rw [hd] at hx
        obtain ⟨y, hy, rfl⟩ := List.mem_map.1 hx
        have h := HLW.out y hy
        unfold cellW
        simp only
        split
        · simp only [List.length_nil]; omega
        · exact h
      have hal : a.length = n := by rw [ha, List.length_map, HLN.out]
      have hbl : b.length = n := by rw [hb, List.length_map, HLN.out]
      have hdl : d.length = n' := by rw [hd, List.length_map, HLN'.out]
      have HMA := Lib.hid hma
      have HMB := Lib.hid hmb
      have HMD := Lib.hid hmd
      have HLD := Lib.hid hld
      have HAL := Lib.hid hal
      have HBL := Lib.hid hbl
      have HDL := Lib.hid hdl
      have HAe := Lib.hid ha
      have HBe := Lib.hid hb
      have HDe := Lib.hid hd
      clear hma hmb hmd hld hal hbl hdl ha hb hd hr1
      go_wp2_with fail
      refine (rCells_any A n c false L w3 (HL.out.fr HF3.out (fun _ _ h => h)) (by omega) HRNG.out).mono ?_
      rintro e w4 ⟨Aa, ca, rfl, hO4, hf4⟩
      rw [← HAe.out] at hO4 ⊢
      rw [HAL.out]
      have HOA := Lib.hid hO4
      have HF4 := Lib.hid (HF3.out.trans hf4 (fun _ _ h => h))
      clear hO4 hf4
      go_wp2_with fail
      refine (rCells_any A n c true L w4 (HL.out.fr HF4.out (fun _ _ h => h)) (by omega) HRNG.out).mono ?_
      rintro e w5 ⟨Ab, cb, rfl, hO5, hf5⟩
      rw [← HBe.out] at hO5 ⊢
      rw [HBL.out]
      have HOB := Lib.hid hO5
      have HOA5 := Lib.hid (HOA.out.fr hf5)
      have HF5 := Lib.hid (HF4.out.trans hf5 (fun _ _ h => h))
      clear hO5 hf5
      go_wp2_with fail
      refine (rTexts_any A' n' c' L' w5 (HL'.out.fr HF5.out (fun _ _ h => h)) (by omega)).mono ?_
      rintro e w6 ⟨Ad, cd, rfl, hO6, hf6⟩
      rw [← HDe.out] at hO6 ⊢
      rw [HDL.out]
      have HOD6 := Lib.hid hO6.cls
      have HOA6 := Lib.hid (HOA5.out.fr hf6).cls
      have HOB6 := Lib.hid (HOB.out.fr hf6).cls
      have HF6 := Lib.hid (HF5.out.trans hf6 (fun _ _ h => h))
      have hca := (own_cap hO6).2.1
      clear hO6 hf6 HOA HOB HOA5 hca
      have HCA : Hid (Cls nv w6 Aa n a) := Lib.hid (by have h := HOA6.out; rw [HAL.out] at h; exact h)
      have HCB : Hid (Cls nv w6 Ab n b) := Lib.hid (by have h := HOB6.out; rw [HBL.out] at h; exact h)
      have HCD : Hid (Cls sv w6 Ad n' d) := Lib.hid (by have h := HOD6.out; rw [HDL.out] at h; exact h)
      clear HOA6 HOB6 HOD6
      obtain ⟨P1, hP1⟩ : ∃ P, P = tellW kU (gatherG a) := ⟨_, rfl⟩
      obtain ⟨P2, hP2⟩ : ∃ P, P = tellW kS (gatherG b) := ⟨_, rfl⟩
      obtain ⟨P3, hP3⟩ : ∃ P, P = tellW kW (gatherG d) := ⟨_, rfl⟩
      have HP1 := Lib.hid hP1
      have HP2 := Lib.hid hP2
      have HP3 := Lib.hid hP3
      have HQ1 : Hid (tellW kR (gatherG (a.map (refS false))) = P1) := Lib.hid (by rw [hP1]; exact ref_U HMA.out)
      have HQ2 : Hid (tellW kR (gatherG (b.map (refS true))) = P2) := Lib.hid (by rw [hP2]; exact ref_S HMB.out)
      have HQ3 : Hid (tellW kR (gatherG (d.map refW)) = P3) := Lib.hid (by rw [hP3]; exact ref_W HMD.out)
      have HRA : Hid (Rng false a) := Lib.hid (fun k t h => by have h1 := (HMA.out t (List.mem_of_getElem? h)).2; have h2 : 0 ≤ t.2 := h1.1; have h3 : t.2 < 9223372036854775808 := h1.2; exact ⟨by omega, h3, fun _ => h2⟩)
      have HRB : Hid (Rng true b) := Lib.hid (fun k t h => by have h1 := (HMB.out t (List.mem_of_getElem? h)).2; exact ⟨h1.1, h1.2, fun e => by cases e⟩)
      have HRD : Hid (∀ (k : Nat) (t : Bool × List UInt8), d[k]? = some t → t.2.length ≤ 1000000) := Lib.hid (fun k t h => (HMD.out t (List.mem_of_getElem? h)).2)
      have HY1 : Hid (∀ (j : Nat) (x : Bool × List UInt8), (a.map (refS false))[j]? = some x → x.1 = false → x = (false, [])) := Lib.hid (ref_may (fun c h => by have h' : c.1 = false := h; unfold refS; rw [if_pos h', h']))
      have HY2 : Hid (∀ (j : Nat) (x : Bool × List UInt8), (b.map (refS true))[j]? = some x → x.1 = false → x = (false, [])) := Lib.hid (ref_may (fun c h => by have h' : c.1 = false := h; unfold refS; rw [if_pos h', h']))
      have HY3 : Hid (∀ (j : Nat) (x : Bool × List UInt8), (d.map refW)[j]? = some x → x.1 = false → x = (false, [])) := Lib.hid (ref_may (fun c h => by have h' : c.1 = false := h; unfold refW; rw [if_pos h', h']))
      have HS1 : Hid ((tellG kR (gatherG (a.map (refS false)))).length ≤ 1000000000) := Lib.hid (by
        have h := (tell_le (K := kR) (a.map (refS false)) 10 600 (by rw [List.length_map, HAL.out]; omega) (by omega) (fun x hx => by
          obtain ⟨y, hy, rfl⟩ := List.mem_map.1 hx
          exact refS_len (HMA.out y hy))).1
        omega)
      have HS2 : Hid ((tellG kR (gatherG (b.map (refS true)))).length ≤ 1000000000) := Lib.hid (by
        have h := (tell_le (K := kR) (b.map (refS true)) 10 600 (by rw [List.length_map, HBL.out]; omega) (by omega) (fun x hx => by
          obtain ⟨y, hy, rfl⟩ := List.mem_map.1 hx
          exact refS_len2 (HMB.out y hy))).1
        omega)
      have HS3 : Hid ((tellG kR (gatherG (d.map refW))).length ≤ 1000000000) := Lib.hid (by
        have h := (tell_le (K := kR) (d.map refW) 2413 600 (by rw [List.length_map, HDL.out]; omega) (by omega) (fun x hx => by
          obtain ⟨y, hy, rfl⟩ := List.mem_map.1 hx
          have h1 := HLD.out y hy
          have h2 := refW_len y (by omega)
          have h3 : (kR.put (refW y)).length = (refW y).2.length := rfl
          omega)).1
        omega)
      clear hP1 hP2 hP3
      go_upto_region 4 with fail
      refine wp_region_held_drew (S := fun w' => Fr (fun _ => False) w6 w') (by kernel_rfl) ?_ (fun hHeld => ?_)
      · exact (Fr.refl _ _).drew
      refine wpAnyH_take (i := 0) (v := ?vz10) rfl (by kernel_rfl) (by kernel_rfl) (by kernel_rfl) (fun _ _ _ h => h) (Or.inl ⟨by rfl, ?hyz10⟩) hHeld ?restz10
      case hyz10 => intro w hSw; (try dsimp only at hSw); go_simp; try (with_reducible rfl)
      (try simp only [Act.put, List.setIfInBounds_toArray, List.set_cons_zero, List.set_cons_succ, List.getElem_toArray, List.getElem_cons_zero])
      refine wpAnyH_take (i := 3) (v := ?vz13) rfl (by kernel_rfl) (by kernel_rfl) (by kernel_rfl) (fun _ _ _ h => h) (Or.inl ⟨by rfl, ?hyz13⟩) hHeld ?restz13
      case hyz13 => intro w hSw; (try dsimp only at hSw); go_simp; try (with_reducible rfl)
      (try simp only [Act.put, List.setIfInBounds_toArray, List.set_cons_zero, List.set_cons_succ, List.getElem_toArray, List.getElem_cons_zero, List.getElem_cons_succ])
      refine wpAnyH_ready (rs := [1]) (by kernel_rfl) (by simp) ?_
      refine AllReadyH.cons rfl (fun Kx hKx => ?_) AllReadyH.nil
      go_simp
      have hcon := pPut_any _ _ ca _ w6.drew (HCA.out.fr ((Fr.refl (fun _ => False) _).drew) (fun _ _ h => h)) (by omega) (fun x hx => (HMA.out x hx).2)
      with_reducible refine hcon.mono ?_
      clear hcon
      rintro e' x1 ⟨Zx1, zx1, rfl, ho, hff⟩
      have HFx1 : Hid (Fr (fun _ => False) w6 x1) := Lib.hid ((Fr.refl _ _).drew.trans hff (fun _ _ h => h))
      rw [← HP1.out] at ho ⊢
      have HZx1 := Lib.hid ho
      clear ho
      refine hKx.out _ _ ?_ (fun hHeld => ?_)
      · exact HFx1.out
      clear hKx Kx hff
      (try simp only [Act.put, List.setIfInBounds_toArray, List.set_cons_zero, List.set_cons_succ, List.getElem_toArray, List.getElem_cons_zero, List.getElem_cons_succ])
      refine wpAnyH_more (fun w' => Fr (fun _ => False) x1 w') (fun _ h => HFx1.out.trans h (fun _ _ h => h)) ?_ (fun hHeld => ?_)
      · exact Fr.refl _ _
      refine wpAnyH_take (i := 2) (v := ?vz12) rfl (by kernel_rfl) (by kernel_rfl) (by kernel_rfl) (fun _ _ _ h => h) (Or.inl ⟨by rfl, ?hyz12⟩) hHeld ?restz12
      case hyz12 => intro w hSw; (try dsimp only at hSw); have hcv := (HZx1.out.fr hSw).str; go_simp; try (with_reducible rfl)
      (try simp only [Act.put, List.setIfInBounds_toArray, List.set_cons_zero, List.set_cons_succ, List.getElem_toArray, List.getElem_cons_zero, List.getElem_cons_succ])
      refine wpAnyH_ready (rs := [4]) (by kernel_rfl) (by simp) ?_
      refine AllReadyH.cons rfl (fun Kx hKx => ?_) AllReadyH.nil
      go_simp
      have hcon := rNumbers_any _ _ ca false _ x1 (HCA.out.fr (HFx1.out) (fun _ _ h => h)) (by omega) HRA.out
      with_reducible refine hcon.mono ?_
      clear hcon
      rintro e' x2 ⟨Zx2, zx2, rfl, ho, hff⟩
      have HFx2 : Hid (Fr (fun _ => False) x1 x2) := Lib.hid (hff)
      rw [List.length_map, HAL.out]
      have HZx2 : Hid (Cls sv x2 Zx2 n (a.map (refS false))) := Lib.hid (by have h := ho.cls; rw [List.length_map, HAL.out] at h; exact h)
      clear ho
      refine hKx.out _ _ ?_ (fun hHeld => ?_)
      · exact HFx2.out
      clear hKx Kx hff
      (try simp only [Act.put, List.setIfInBounds_toArray, List.set_cons_zero, List.set_cons_succ, List.getElem_toArray, List.getElem_cons_zero, List.getElem_cons_succ])
      refine wpAnyH_more (fun w' => Fr (fun _ => False) x2 w') (fun _ h => HFx2.out.trans h (fun _ _ h => h)) ?_ (fun hHeld => ?_)
      · exact Fr.refl _ _
      refine wpAnyH_ready (rs := [5]) (by kernel_rfl) (by simp) ?_
      refine AllReadyH.cons rfl (fun Kx hKx => ?_) AllReadyH.nil
      go_simp
      have hcon := rBytes_any _ _ zx2 _ x2 HZx2.out (by omega) HY1.out HS1.out
      with_reducible refine hcon.mono ?_
      clear hcon
      rintro e' x3 ⟨Zx3, zx3, rfl, ho, hff⟩
      have HFx3 : Hid (Fr (fun _ => False) x2 x3) := Lib.hid (hff)
      rw [HQ1.out] at ho ⊢
      have HZx3 := Lib.hid ho
      clear ho
      refine hKx.out _ _ ?_ (fun hHeld => ?_)
      · exact HFx3.out
      clear hKx Kx hff
      (try simp only [Act.put, List.setIfInBounds_toArray, List.set_cons_zero, List.set_cons_succ, List.getElem_toArray, List.getElem_cons_zero, List.getElem_cons_succ])
      refine wpAnyH_more (fun w' => Fr (fun _ => False) x3 w') (fun _ h => HFx3.out.trans h (fun _ _ h => h)) ?_ (fun hHeld => ?_)
      · exact Fr.refl _ _
      refine wpAnyH_take (i := 6) (v := ?vz16) rfl (by kernel_rfl) (by kernel_rfl) (by kernel_rfl) (fun _ _ _ h => h) (Or.inl ⟨by rfl, ?hyz16⟩) hHeld ?restz16
      case hyz16 => intro w hSw; (try dsimp only at hSw); have hcv := (HZx3.out.fr hSw).str; go_simp; try (with_reducible rfl)
      (try simp only [Act.put, List.setIfInBounds_toArray, List.set_cons_zero, List.set_cons_succ, List.getElem_toArray, List.getElem_cons_zero, List.getElem_cons_succ])
      refine wpAnyH_take (i := 7) (v := ?vz17) rfl (by kernel_rfl) (by kernel_rfl) (by kernel_rfl) (fun _ _ _ h => h) (Or.inl ⟨by rfl, ?hyz17⟩) hHeld ?restz17
      case hyz17 => intro w hSw; (try dsimp only at hSw); go_simp; try (with_reducible rfl)
      (try simp only [Act.put, List.setIfInBounds_toArray, List.set_cons_zero, List.set_cons_succ, List.getElem_toArray, List.getElem_cons_zero, List.getElem_cons_succ])
      refine wpAnyH_take (i := 8) (v := ?vz18) rfl (by kernel_rfl) (by kernel_rfl) (by kernel_rfl) (fun _ _ _ h => h) (Or.inl ⟨by rfl, ?hyz18⟩) hHeld ?restz18
      case hyz18 => intro w hSw; (try dsimp only at hSw); go_simp; try (with_reducible rfl)
      (try simp only [Act.put, List.setIfInBounds_toArray, List.set_cons_zero, List.set_cons_succ, List.getElem_toArray, List.getElem_cons_zero, List.getElem_cons_succ])
      refine wpAnyH_take (i := 9) (v := ?vz19) rfl (by kernel_rfl) (by kernel_rfl) (by kernel_rfl) (fun _ _ _ h => h) (Or.inl ⟨by rfl, ?hyz19⟩) hHeld ?restz19
      case hyz19 => intro w hSw; (try dsimp only at hSw); go_simp; try (with_reducible rfl)
      (try simp only [Act.put, List.setIfInBounds_toArray, List.set_cons_zero, List.set_cons_succ, List.getElem_toArray, List.getElem_cons_zero, List.getElem_cons_succ])
      refine wpAnyH_take (i := 12) (v := ?vz112) rfl (by kernel_rfl) (by kernel_rfl) (by kernel_rfl) (fun _ _ _ h => h) (Or.inl ⟨by rfl, ?hyz112⟩) hHeld ?restz112
      case hyz112 => intro w hSw; (try dsimp only at hSw); go_simp; try (with_reducible rfl)
      (try simp only [Act.put, List.setIfInBounds_toArray, List.set_cons_zero, List.set_cons_succ, List.getElem_toArray, List.getElem_cons_zero, List.getElem_cons_succ])
      refine wpAnyH_ready (rs := [10]) (by kernel_rfl) (by simp) ?_
      refine AllReadyH.cons rfl (fun Kx hKx => ?_) AllReadyH.nil
      go_simp
      have hcon := pPutS_any _ _ cb _ x3 (HCB.out.fr (((HFx1.out).trans HFx2.out (fun _ _ h => h)).trans HFx3.out (fun _ _ h => h)) (fun _ _ h => h)) (by omega) (fun x hx => (HMB.out x hx).2)
      with_reducible refine hcon.mono ?_
      clear hcon
      rintro e' x4 ⟨Zx4, zx4, rfl, ho, hff⟩
      have HFx4 : Hid (Fr (fun _ => False) x3 x4) := Lib.hid (hff)
      rw [← HP2.out] at ho ⊢
      have HZx4 := Lib.hid ho
      clear ho
      refine hKx.out _ _ ?_ (fun hHeld => ?_)
      · exact HFx4.out
      clear hKx Kx hff
      (try simp only [Act.put, List.setIfInBounds_toArray, List.set_cons_zero, List.set_cons_succ, List.getElem_toArray, List.getElem_cons_zero, List.getElem_cons_succ])
      refine wpAnyH_more (fun w' => Fr (fun _ => False) x4 w') (fun _ h => HFx4.out.trans h (fun _ _ h => h)) ?_ (fun hHeld => ?_)
      · exact Fr.refl _ _
      refine wpAnyH_take (i := 11) (v := ?vz111) rfl (by kernel_rfl) (by kernel_rfl) (by kernel_rfl) (fun _ _ _ h => h) (Or.inl ⟨by rfl, ?hyz111⟩) hHeld ?restz111
      case hyz111 => intro w hSw; (try dsimp only at hSw); have hcv := (HZx4.out.fr hSw).str; go_simp; try (with_reducible rfl)
      (try simp only [Act.put, List.setIfInBounds_toArray, List.set_cons_zero, List.set_cons_succ, List.getElem_toArray, List.getElem_cons_zero, List.getElem_cons_succ])
      refine wpAnyH_ready (rs := [13]) (by kernel_rfl) (by simp) ?_
      refine AllReadyH.cons rfl (fun Kx hKx => ?_) AllReadyH.nil
      go_simp
      have hcon := rNumbers_any _ _ cb true _ x4 (HCB.out.fr ((((HFx1.out).trans HFx2.out (fun _ _ h => h)).trans HFx3.out (fun _ _ h => h)).trans HFx4.out (fun _ _ h => h)) (fun _ _ h => h)) (by omega) HRB.out
      with_reducible refine hcon.mono ?_
      clear hcon
      rintro e' x5 ⟨Zx5, zx5, rfl, ho, hff⟩
      have HFx5 : Hid (Fr (fun _ => False) x4 x5) := Lib.hid (hff)
      rw [List.length_map, HBL.out]
      have HZx5 : Hid (Cls sv x5 Zx5 n (b.map (refS true))) := Lib.hid (by have h := ho.cls; rw [List.length_map, HBL.out] at h; exact h)
      clear ho
      refine hKx.out _ _ ?_ (fun hHeld => ?_)
      · exact HFx5.out
      clear hKx Kx hff
      (try simp only [Act.put, List.setIfInBounds_toArray, List.set_cons_zero, List.set_cons_succ, List.getElem_toArray, List.getElem_cons_zero, List.getElem_cons_succ])
      refine wpAnyH_more (fun w' => Fr (fun _ => False) x5 w') (fun _ h => HFx5.out.trans h (fun _ _ h => h)) ?_ (fun hHeld => ?_)
      · exact Fr.refl _ _
      refine wpAnyH_ready (rs := [14]) (by kernel_rfl) (by simp) ?_
      refine AllReadyH.cons rfl (fun Kx hKx => ?_) AllReadyH.nil
      go_simp
      have hcon := rBytes_any _ _ zx5 _ x5 HZx5.out (by omega) HY2.out HS2.out
      with_reducible refine hcon.mono ?_
      clear hcon
      rintro e' x6 ⟨Zx6, zx6, rfl, ho, hff⟩
      have HFx6 : Hid (Fr (fun _ => False) x5 x6) := Lib.hid (hff)
      rw [HQ2.out] at ho ⊢
      have HZx6 := Lib.hid ho
      clear ho
      refine hKx.out _ _ ?_ (fun hHeld => ?_)
      · exact HFx6.out
      clear hKx Kx hff
      (try simp only [Act.put, List.setIfInBounds_toArray, List.set_cons_zero, List.set_cons_succ, List.getElem_toArray, List.getElem_cons_zero, List.getElem_cons_succ])
      refine wpAnyH_more (fun w' => Fr (fun _ => False) x6 w') (fun _ h => HFx6.out.trans h (fun _ _ h => h)) ?_ (fun hHeld => ?_)
      · exact Fr.refl _ _
      refine wpAnyH_take (i := 15) (v := ?vz115) rfl (by kernel_rfl) (by kernel_rfl) (by kernel_rfl) (fun _ _ _ h => h) (Or.inl ⟨by rfl, ?hyz115⟩) hHeld ?restz115
      case hyz115 => intro w hSw; (try dsimp only at hSw); have hcv := (HZx6.out.fr hSw).str; go_simp; try (with_reducible rfl)
      (try simp only [Act.put, List.setIfInBounds_toArray, List.set_cons_zero, List.set_cons_succ, List.getElem_toArray, List.getElem_cons_zero, List.getElem_cons_succ])
      refine wpAnyH_take (i := 16) (v := ?vz116) rfl (by kernel_rfl) (by kernel_rfl) (by kernel_rfl) (fun _ _ _ h => h) (Or.inl ⟨by rfl, ?hyz116⟩) hHeld ?restz116
      case hyz116 => intro w hSw; (try dsimp only at hSw); go_simp; try (with_reducible rfl)
      (try simp only [Act.put, List.setIfInBounds_toArray, List.set_cons_zero, List.set_cons_succ, List.getElem_toArray, List.getElem_cons_zero, List.getElem_cons_succ])
      refine wpAnyH_take (i := 17) (v := ?vz117) rfl (by kernel_rfl) (by kernel_rfl) (by kernel_rfl) (fun _ _ _ h => h) (Or.inl ⟨by rfl, ?hyz117⟩) hHeld ?restz117
      case hyz117 => intro w hSw; (try dsimp only at hSw); go_simp; try (with_reducible rfl)
      (try simp only [Act.put, List.setIfInBounds_toArray, List.set_cons_zero, List.set_cons_succ, List.getElem_toArray, List.getElem_cons_zero, List.getElem_cons_succ])
      refine wpAnyH_take (i := 18) (v := ?vz118) rfl (by kernel_rfl) (by kernel_rfl) (by kernel_rfl) (fun _ _ _ h => h) (Or.inl ⟨by rfl, ?hyz118⟩) hHeld ?restz118
      case hyz118 => intro w hSw; (try dsimp only at hSw); go_simp; try (with_reducible rfl)
      (try simp only [Act.put, List.setIfInBounds_toArray, List.set_cons_zero, List.set_cons_succ, List.getElem_toArray, List.getElem_cons_zero, List.getElem_cons_succ])
      refine wpAnyH_take (i := 19) (v := ?vz119) rfl (by kernel_rfl) (by kernel_rfl) (by kernel_rfl) (fun _ _ _ h => h) (Or.inl ⟨by rfl, ?hyz119⟩) hHeld ?restz119
      case hyz119 => intro w hSw; (try dsimp only at hSw); go_simp; try (with_reducible rfl)
      (try simp only [Act.put, List.setIfInBounds_toArray, List.set_cons_zero, List.set_cons_succ, List.getElem_toArray, List.getElem_cons_zero, List.getElem_cons_succ])
      refine wpAnyH_take (i := 22) (v := ?vz122) rfl (by kernel_rfl) (by kernel_rfl) (by kernel_rfl) (fun _ _ _ h => h) (Or.inl ⟨by rfl, ?hyz122⟩) hHeld ?restz122
      case hyz122 => intro w hSw; (try dsimp only at hSw); go_simp; try (with_reducible rfl)
      (try simp only [Act.put, List.setIfInBounds_toArray, List.set_cons_zero, List.set_cons_succ, List.getElem_toArray, List.getElem_cons_zero, List.getElem_cons_succ])
      refine wpAnyH_ready (rs := [20]) (by kernel_rfl) (by simp) ?_
      refine AllReadyH.cons rfl (fun Kx hKx => ?_) AllReadyH.nil
      go_simp
      have hcon := pPutW_any _ _ cd _ x6 (HCD.out.fr ((((((HFx1.out).trans HFx2.out (fun _ _ h => h)).trans HFx3.out (fun _ _ h => h)).trans HFx4.out (fun _ _ h => h)).trans HFx5.out (fun _ _ h => h)).trans HFx6.out (fun _ _ h => h)) (fun _ _ h => h)) (by omega) (fun x hx => (HMD.out x hx).2)
      with_reducible refine hcon.mono ?_
      clear hcon
      rintro e' x7 ⟨Zx7, zx7, rfl, ho, hff⟩
      have HFx7 : Hid (Fr (fun _ => False) x6 x7) := Lib.hid (hff)
      rw [← HP3.out] at ho ⊢
      have HZx7 := Lib.hid ho
      clear ho
      refine hKx.out _ _ ?_ (fun hHeld => ?_)
      · exact HFx7.out
      clear hKx Kx hff
      (try simp only [Act.put, List.setIfInBounds_toArray, List.set_cons_zero, List.set_cons_succ, List.getElem_toArray, List.getElem_cons_zero, List.getElem_cons_succ])
      refine wpAnyH_more (fun w' => Fr (fun _ => False) x7 w') (fun _ h => HFx7.out.trans h (fun _ _ h => h)) ?_ (fun hHeld => ?_)
      · exact Fr.refl _ _
      refine wpAnyH_take (i := 21) (v := ?vz121) rfl (by kernel_rfl) (by kernel_rfl) (by kernel_rfl) (fun _ _ _ h => h) (Or.inl ⟨by rfl, ?hyz121⟩) hHeld ?restz121
      case hyz121 => intro w hSw; (try dsimp only at hSw); have hcv := (HZx7.out.fr hSw).str; go_simp; try (with_reducible rfl)
      (try simp only [Act.put, List.setIfInBounds_toArray, List.set_cons_zero, List.set_cons_succ, List.getElem_toArray, List.getElem_cons_zero, List.getElem_cons_succ])
      refine wpAnyH_ready (rs := [23]) (by kernel_rfl) (by simp) ?_
      refine AllReadyH.cons rfl (fun Kx hKx => ?_) AllReadyH.nil
      go_simp
      have hcon := rWords_any _ _ cd _ x7 (HCD.out.fr (((((((HFx1.out).trans HFx2.out (fun _ _ h => h)).trans HFx3.out (fun _ _ h => h)).trans HFx4.out (fun _ _ h => h)).trans HFx5.out (fun _ _ h => h)).trans HFx6.out (fun _ _ h => h)).trans HFx7.out (fun _ _ h => h)) (fun _ _ h => h)) (by omega) HRD.out
      with_reducible refine hcon.mono ?_
      clear hcon
      rintro e' x8 ⟨Zx8, zx8, rfl, ho, hff⟩
      have HFx8 : Hid (Fr (fun _ => False) x7 x8) := Lib.hid (hff)
      rw [List.length_map, HDL.out]
      have HZx8 : Hid (Cls sv x8 Zx8 n' (d.map refW)) := Lib.hid (by have h := ho.cls; rw [List.length_map, HDL.out] at h; exact h)
      clear ho
      refine hKx.out _ _ ?_ (fun hHeld => ?_)
      · exact HFx8.out
      clear hKx Kx hff
      (try simp only [Act.put, List.setIfInBounds_toArray, List.set_cons_zero, List.set_cons_succ, List.getElem_toArray, List.getElem_cons_zero, List.getElem_cons_succ])
      refine wpAnyH_more (fun w' => Fr (fun _ => False) x8 w') (fun _ h => HFx8.out.trans h (fun _ _ h => h)) ?_ (fun hHeld => ?_)
      · exact Fr.refl _ _
      refine wpAnyH_ready (rs := [24]) (by kernel_rfl) (by simp) ?_
      refine AllReadyH.cons rfl (fun Kx hKx => ?_) AllReadyH.nil
      go_simp
      have hcon := rBytes_any _ _ zx8 _ x8 HZx8.out (by omega) HY3.out HS3.out
      with_reducible refine hcon.mono ?_
      clear hcon
      rintro e' x9 ⟨Zx9, zx9, rfl, ho, hff⟩
      have HFx9 : Hid (Fr (fun _ => False) x8 x9) := Lib.hid (hff)
      rw [HQ3.out] at ho ⊢
      have HZx9 := Lib.hid ho
      clear ho
      refine hKx.out _ _ ?_ (fun hHeld => ?_)
      · exact HFx9.out
      clear hKx Kx hff
      (try simp only [Act.put, List.setIfInBounds_toArray, List.set_cons_zero, List.set_cons_succ, List.getElem_toArray, List.getElem_cons_zero, List.getElem_cons_succ])
      refine wpAnyH_more (fun w' => Fr (fun _ => False) x9 w') (fun _ h => HFx9.out.trans h (fun _ _ h => h)) ?_ (fun hHeld => ?_)
      · exact Fr.refl _ _
      refine wpAnyH_take (i := 25) (v := ?vz125) rfl (by kernel_rfl) (by kernel_rfl) (by kernel_rfl) (fun _ _ _ h => h) (Or.inl ⟨by rfl, ?hyz125⟩) hHeld ?restz125
      case hyz125 => intro w hSw; (try dsimp only at hSw); have hcv := (HZx9.out.fr hSw).str; go_simp; try (with_reducible rfl)
      (try simp only [Act.put, List.setIfInBounds_toArray, List.set_cons_zero, List.set_cons_succ, List.getElem_toArray, List.getElem_cons_zero, List.getElem_cons_succ])
      refine wpAnyH_take (i := 26) (v := ?vz126) rfl (by kernel_rfl) (by kernel_rfl) (by kernel_rfl) (fun _ _ _ h => h) (Or.inl ⟨by rfl, ?hyz126⟩) hHeld ?restz126
      case hyz126 => intro w hSw; (try dsimp only at hSw); go_simp; try (with_reducible rfl)
      (try simp only [Act.put, List.setIfInBounds_toArray, List.set_cons_zero, List.set_cons_succ, List.getElem_toArray, List.getElem_cons_zero, List.getElem_cons_succ])
      refine wpAnyH_take (i := 27) (v := ?vz127) rfl (by kernel_rfl) (by kernel_rfl) (by kernel_rfl) (fun _ _ _ h => h) (Or.inl ⟨by rfl, ?hyz127⟩) hHeld ?restz127
      case hyz127 => intro w hSw; (try dsimp only at hSw); go_simp; try (with_reducible rfl)
      (try simp only [Act.put, List.setIfInBounds_toArray, List.set_cons_zero, List.set_cons_succ, List.getElem_toArray, List.getElem_cons_zero, List.getElem_cons_succ])
      refine wpAnyH_ready (rs := [28]) (by kernel_rfl) (by simp) ?_
      refine AllReadyH.cons rfl (fun Kx hKx => ?_) AllReadyH.nil
      go_simp
      refine hKx.out _ _ ?_ (fun hHeld => ?_)
      · exact Fr.refl _ _
      clear hKx Kx
      (try simp only [Act.put, List.setIfInBounds_toArray, List.set_cons_zero, List.set_cons_succ, List.getElem_toArray, List.getElem_cons_zero, List.getElem_cons_succ])
      refine wpAnyH_done (by kernel_rfl) ?_ _
      have HFE := Lib.hid (HF6.out.trans (((((((((HFx1.out).trans HFx2.out (fun _ _ h => h)).trans HFx3.out (fun _ _ h => h)).trans HFx4.out (fun _ _ h => h)).trans HFx5.out (fun _ _ h => h)).trans HFx6.out (fun _ _ h => h)).trans HFx7.out (fun _ _ h => h)).trans HFx8.out (fun _ _ h => h)).trans HFx9.out (fun _ _ h => h)) (fun _ _ h => h))
      go_wp2_with fail
      go_ret
      exact ⟨rfl, HFE.out⟩
end Go.Proofs.Ytplgefepbmjcdaa
