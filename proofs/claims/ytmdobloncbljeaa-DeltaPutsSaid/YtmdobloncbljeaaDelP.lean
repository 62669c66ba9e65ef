/-
  The law DeltaPuts, over what Put must keep (written by gen_puts12.py).
-/
import Derived.Test.YtmdobloncbljeaaDelK
import Derived.Test.YtmdobloncbljeaaDelX
import Derived.Test.YtmdobloncbljeaaRleLp
namespace Go.Proofs.Ytmdobloncbljeaa
open Go.RowKit Mem Go.Lib RleM LebM
attribute [local go_sem ↓] Go.wp_at_zero Go.wp_at_succ
set_option linter.unusedVariables false

set_option maxRecDepth 100000 in
set_option maxHeartbeats 1600000 in
theorem rBytes12_any (A : Option Addr) (n c : Nat) (L : List (Bool × Int)) (w : World) (hL : Cls nv w A n L) (hn : n ≤ 600) (hm : ∀ x ∈ L, mayS x) :
    Calls Try.prog 10 #[.slice A n c] w (Gives w (tellW kS (gatherG (stepsF 0 L)))) := by
  have hln := hL.1
  have hst := rSteps_any A n c L w hL (by omega) (fun x hx => (hm x hx).2)
  have hdl0 : (stepsF 0 L).length = n := by rw [steps_len, hln]
  have hmd0 := steps_may 0 L hm
  obtain ⟨D, hD⟩ : ∃ D, D = stepsF 0 L := ⟨_, rfl⟩
  rw [← hD] at hst hdl0 hmd0 ⊢
  rw [hdl0] at hst
  obtain ⟨P, hP⟩ : ∃ P, P = tellW kS (gatherG D) := ⟨_, rfl⟩
  have HQ : Hid (tellW kR (gatherG (D.map (refS true))) = P) := Lib.hid (by rw [hP]; exact ref_S hmd0)
  have HR : Hid (Rng true D) := Lib.hid (fun k t h => by have h1 := (hmd0 t (List.mem_of_getElem? h)).2; exact ⟨h1.1, h1.2, fun e => by cases e⟩)
  have HY : Hid (∀ (j : Nat) (x : Bool × List UInt8), (D.map (refS true))[j]? = some x → x.1 = false → x = (false, [])) := Lib.hid (ref_may (fun c h => by have h' : c.1 = false := h; unfold refS; rw [if_pos h', h']))
  have HS : Hid ((tellG kR (gatherG (D.map (refS true)))).length ≤ 1000000000) := Lib.hid (by
    have h := (tell_le (K := kR) (D.map (refS true)) 10 600 (by rw [List.length_map, hdl0]; omega) (by omega) (fun x hx => by
      obtain ⟨y, hy, rfl⟩ := List.mem_map.1 hx
      exact refS_len2 (hmd0 y hy))).1
    omega)
  have HST := Lib.hid hst
  have HDL := Lib.hid hdl0
  rw [← hP]
  clear hst hdl0 hmd0 hD hP hL hm hln
  go_enter Try.func10, Try.ntmps10
  go_wp2_with fail
  refine HST.out.mono ?_
  rintro e w2 ⟨A2, c2, rfl, hO2, hf2⟩
  have HC2 : Hid (Cls nv w2 A2 n D) := Lib.hid (by have h := hO2.cls; rw [HDL.out] at h; exact h)
  have HF2 := Lib.hid hf2
  clear hO2 hf2
  go_wp2_with fail
  refine (rNumbers_any A2 n c2 true D w2 HC2.out (by omega) HR.out).mono ?_
  rintro e w3 ⟨A3, c3, rfl, hO3, hf3⟩
  rw [List.length_map, HDL.out]
  have HC3 : Hid (Cls sv w3 A3 n (D.map (refS true))) := Lib.hid (by have h := hO3.cls; rw [List.length_map, HDL.out] at h; exact h)
  have HF3 := Lib.hid (HF2.out.trans hf3 (fun _ _ h => h))
  clear hO3 hf3
  go_wp2_with fail
  refine (rBytes_any A3 n c3 _ w3 HC3.out (by omega) HY.out HS.out).mono ?_
  rintro e w4 ⟨A4, c4, rfl, hO4, hf4⟩
  rw [HQ.out] at hO4 ⊢
  have HO4 := Lib.hid (hO4.base HF3.out.size)
  have HF4 := Lib.hid (HF3.out.trans hf4 (fun _ _ h => h))
  clear hO4 hf4
  go_wp2_with fail
  go_ret
  exact ⟨A4, c4, rfl, HO4.out, HF4.out⟩
set_option maxRecDepth 100000 in
set_option maxHeartbeats 3200000 in
theorem dputs_law (K : DelC) (A : Option Addr) (n c : Nat) (L : List (Bool × Int)) (w : World) (hL : Cls nv w A n L) (hn : n ≤ maxLen) (hrng : ∀ (k : Nat) (t : Bool × Int), L[k]? = some t → -9223372036854775808 ≤ t.2 ∧ t.2 < 9223372036854775808) :
    Calls Try.prog 3 #[.slice A n c] w fun e w' => e = .returned (.bool true) ∧ Fr (fun _ => False) w w' := by
  have HL := Lib.hid hL
  have HLN := Lib.hid hL.1
  have HRNG := Lib.hid hrng
  have hnm : n ≤ 9223372036854775807 := hn
  clear hL hrng hn
  by_cases hbig : 600 < n
  · have t0 : decide ((600 : Int) < (n : Int)) = true := by simp; omega
    have t0' : decide (600 < n) = true := by simp; omega
    go_enter Try.func3, Try.ntmps3
    go_wp2_with fail
    refine (awake12_any K w).mono ?_
    rintro e w2 ⟨rfl, hf2⟩
    have HF2 := Lib.hid hf2
    clear hf2
    go_wp2_with fail
    refine (awake12_any K w2).mono ?_
    rintro e w9 ⟨rfl, hf9⟩
    have HF9 := Lib.hid (HF2.out.trans hf9 (fun _ _ h => h))
    clear hf9
    go_wp2_with fail
    go_ret
    exact ⟨rfl, HF9.out⟩
  · have t0 : decide ((600 : Int) < (n : Int)) = false := by simp; omega
    have t0' : decide (600 < n) = false := by simp; omega
    have hn6 : n ≤ 600 := by omega
    clear hbig
    obtain ⟨b, hb⟩ : ∃ b, b = L.map (cellS true) := ⟨_, rfl⟩
    have hmb : ∀ x ∈ b, mayS x := by
      intro x hx
      rw [hb] at hx
      obtain ⟨y, hy, rfl⟩ := List.mem_map.1 hx
      obtain ⟨k, hk⟩ := List.getElem?_of_mem hy
      exact may_cellS (HRNG.out k y hk).1 (HRNG.out k y hk).2
    have hbl : b.length = n := by rw [hb, List.length_map, HLN.out]
    have HMB := Lib.hid hmb
    have HBL := Lib.hid hbl
    have HBe := Lib.hid hb
    clear hmb hbl hb
    go_enter Try.func3, Try.ntmps3
    go_wp2_with fail
    refine (awake12_any K w).mono ?_
    rintro e w2 ⟨rfl, hf2⟩
    have HF2 := Lib.hid hf2
    clear hf2
    go_wp2_with fail
    refine (rCells_any A n c true L w2 (HL.out.fr HF2.out (fun _ _ h => h)) (by omega) HRNG.out).mono ?_
    rintro e w4 ⟨Ab, cb, rfl, hO4, hf4⟩
    rw [← HBe.out] at hO4 ⊢
    rw [HBL.out]
    have HCB : Hid (Cls nv w4 Ab n b) := Lib.hid (by have h := hO4.cls; rw [HBL.out] at h; exact h)
    have HF4 := Lib.hid (HF2.out.trans hf4 (fun _ _ h => h))
    clear hO4 hf4
    obtain ⟨P, hP⟩ : ∃ P, P = tellW kS (gatherG (stepsF 0 b)) := ⟨_, rfl⟩
    have HPC : Hid (∀ w', Fr (fun _ => False) w4 w' → Calls Try.prog 9 #[.slice Ab n cb] w' (Gives w' P)) := Lib.hid (fun w' hf => by rw [hP]; exact K.put Ab n cb b w' (HCB.out.fr hf (fun _ _ h => h)) (by omega) HMB.out)
    have HBC : Hid (∀ w', Fr (fun _ => False) w4 w' → Calls Try.prog 10 #[.slice Ab n cb] w' (Gives w' P)) := Lib.hid (fun w' hf => by rw [hP]; exact rBytes12_any Ab n cb b w' (HCB.out.fr hf (fun _ _ h => h)) hn6 HMB.out)
    clear hP
    go_upto_region 4 with fail
    refine wp_region_held_drew (S := fun w' => Fr (fun _ => False) w4 w') (by kernel_rfl) ?_ (fun hHeld => ?_)
    · exact (Fr.refl _ _).drew
    refine wpAnyH_take (i := 0) (v := ?vz10) rfl (by kernel_rfl) (by kernel_rfl) (by kernel_rfl) (fun _ _ _ h => h) (Or.inl ⟨by rfl, ?hyz10⟩) hHeld ?restz10
    case hyz10 => intro w hSw; (try dsimp only at hSw); go_simp; try (with_reducible rfl)
    (try simp only [Act.put, List.setIfInBounds_toArray, List.set_cons_zero, List.set_cons_succ, List.getElem_toArray, List.getElem_cons_zero])
    refine wpAnyH_take (i := 3) (v := ?vz13) rfl (by kernel_rfl) (by kernel_rfl) (by kernel_rfl) (fun _ _ _ h => h) (Or.inl ⟨by rfl, ?hyz13⟩) hHeld ?restz13
    case hyz13 => intro w hSw; (try dsimp only at hSw); go_simp; try (with_reducible rfl)
    (try simp only [Act.put, List.setIfInBounds_toArray, List.set_cons_zero, List.set_cons_succ, List.getElem_toArray, List.getElem_cons_zero, List.getElem_cons_succ])
    refine wpAnyH_ready (rs := [1]) (by kernel_rfl) (by simp) ?_
    refine AllReadyH.cons rfl (fun Kx hKx => ?_) AllReadyH.nil
    go_simp
    have hcon := HPC.out w4.drew (Fr.refl _ _).drew
    with_reducible refine hcon.mono ?_
    clear hcon
    rintro e' x1 ⟨Z1, z1, rfl, ho, hff⟩
    have HFx1 : Hid (Fr (fun _ => False) w4 x1) := Lib.hid ((Fr.refl _ _).drew.trans hff (fun _ _ h => h))
    have HZ1 := Lib.hid ho
    clear ho
    refine hKx.out _ _ ?_ (fun hHeld => ?_)
    · exact HFx1.out
    clear hKx Kx hff
    (try simp only [Act.put, List.setIfInBounds_toArray, List.set_cons_zero, List.set_cons_succ, List.getElem_toArray, List.getElem_cons_zero, List.getElem_cons_succ])
    refine wpAnyH_more (fun w' => Fr (fun _ => False) x1 w') (fun _ h => HFx1.out.trans h (fun _ _ h => h)) ?_ (fun hHeld => ?_)
    · exact Fr.refl _ _
    refine wpAnyH_take (i := 2) (v := ?vz12) rfl (by kernel_rfl) (by kernel_rfl) (by kernel_rfl) (fun _ _ _ h => h) (Or.inl ⟨by rfl, ?hyz12⟩) hHeld ?restz12
    case hyz12 => intro w hSw; (try dsimp only at hSw); have hcv := (HZ1.out.fr hSw).str; go_simp; try (with_reducible rfl)
    (try simp only [Act.put, List.setIfInBounds_toArray, List.set_cons_zero, List.set_cons_succ, List.getElem_toArray, List.getElem_cons_zero, List.getElem_cons_succ])
    refine wpAnyH_ready (rs := [4]) (by kernel_rfl) (by simp) ?_
    refine AllReadyH.cons rfl (fun Kx hKx => ?_) AllReadyH.nil
    go_simp
    have hcon := HBC.out x1 (HFx1.out)
    with_reducible refine hcon.mono ?_
    clear hcon
    rintro e' x2 ⟨Z2, z2, rfl, ho, hff⟩
    have HFx2 : Hid (Fr (fun _ => False) x1 x2) := Lib.hid (hff)
    have HZ2 := Lib.hid ho
    clear ho
    refine hKx.out _ _ ?_ (fun hHeld => ?_)
    · exact HFx2.out
    clear hKx Kx hff
    (try simp only [Act.put, List.setIfInBounds_toArray, List.set_cons_zero, List.set_cons_succ, List.getElem_toArray, List.getElem_cons_zero, List.getElem_cons_succ])
    refine wpAnyH_more (fun w' => Fr (fun _ => False) x2 w') (fun _ h => HFx2.out.trans h (fun _ _ h => h)) ?_ (fun hHeld => ?_)
    · exact Fr.refl _ _
    refine wpAnyH_take (i := 5) (v := ?vz15) rfl (by kernel_rfl) (by kernel_rfl) (by kernel_rfl) (fun _ _ _ h => h) (Or.inl ⟨by rfl, ?hyz15⟩) hHeld ?restz15
    case hyz15 => intro w hSw; (try dsimp only at hSw); have hcv := (HZ2.out.fr hSw).str; go_simp; try (with_reducible rfl)
    (try simp only [Act.put, List.setIfInBounds_toArray, List.set_cons_zero, List.set_cons_succ, List.getElem_toArray, List.getElem_cons_zero, List.getElem_cons_succ])
    refine wpAnyH_take (i := 6) (v := ?vz16) rfl (by kernel_rfl) (by kernel_rfl) (by kernel_rfl) (fun _ _ _ h => h) (Or.inl ⟨by rfl, ?hyz16⟩) hHeld ?restz16
    case hyz16 => intro w hSw; (try dsimp only at hSw); go_simp; try (with_reducible rfl)
    (try simp only [Act.put, List.setIfInBounds_toArray, List.set_cons_zero, List.set_cons_succ, List.getElem_toArray, List.getElem_cons_zero, List.getElem_cons_succ])
    refine wpAnyH_ready (rs := [7]) (by kernel_rfl) (by simp) ?_
    refine AllReadyH.cons rfl (fun Kx hKx => ?_) AllReadyH.nil
    go_simp
    refine hKx.out _ _ ?_ (fun hHeld => ?_)
    · exact Fr.refl _ _
    clear hKx Kx
    (try simp only [Act.put, List.setIfInBounds_toArray, List.set_cons_zero, List.set_cons_succ, List.getElem_toArray, List.getElem_cons_zero, List.getElem_cons_succ])
    refine wpAnyH_done (by kernel_rfl) ?_ _
    have HFE := Lib.hid (HF4.out.trans (HFx1.out.trans HFx2.out (fun _ _ h => h)) (fun _ _ h => h))
    go_wp2_with fail
    go_ret
    exact ⟨rfl, HFE.out⟩
end Go.Proofs.Ytmdobloncbljeaa
