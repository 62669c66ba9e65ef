/-
  The law InflateBack, out of the program's contracts.
-/
import Derived.Test.YtgpkiijmembggaaGreatDoorZm13
import Derived.Test.YtgpkiijmembggaaGreatDoorZm05
namespace Go.Proofs.YtgpkiijmembggaaGreatDoor
open Go.RowKit BitsM Mem Go.Lib
attribute [local go_sem ↓] Go.wp_at_zero Go.wp_at_succ
set_option linter.unusedVariables false
set_option maxRecDepth 100000

set_option maxHeartbeats 6400000 in
theorem back10_law {Gl : World → Prop} (K : InfC Gl) (A : Option Addr) (n c : Nat) (B : List UInt8) (AM : Option Addr) (m cm : Nat) (M : List UInt8) (w : World) (hG : Gl w) (hr : Rd w A n (B.map bytec)) (hc : n ≤ c) (hcm : c ≤ maxLen) (hrm : Rd w AM m (M.map bytec)) (hmc : m ≤ cm) (hmcm : cm ≤ maxLen) :
    Calls Tryz.prog 3 #[.slice A n c, .slice AM m cm] w fun e w' => e = .returned (.bool true) ∧ Fr (fun _ => False) w w' := by
  have HAW := Lib.hid (awake10_any K)
  have HG := Lib.hid hG
  have HR := Lib.hid hr
  have HRM := Lib.hid hrm
  have HC := Lib.hid (And.intro hc hcm)
  have hbl : B.length = n := by simpa using hr.1
  have hml : M.length = m := by simpa using hrm.1
  have HBL := Lib.hid hbl
  have HML := Lib.hid hml
  clear hG hr hc hcm hbl hrm hmc hmcm hml
  by_cases hbig : 2800 < n ∨ 700 < m
  · have quick : Calls Tryz.prog 3 #[.slice A n c, .slice AM m cm] w fun e w' => e = .returned (.bool true) ∧ Fr (fun _ => False) w w' := by
      by_cases hb : 2800 < n
      · have t : decide (2800 < (n : Int)) = true := decide_eq_true (by omega)
        clear hbig
        go_enter Tryz.func3, Tryz.ntmps3
        go_wp2_with fail
        refine (HAW.out w HG.out).mono ?_
        rintro e w2 ⟨rfl, hf2⟩
        have HF2 := Lib.hid hf2
        clear hf2
        go_wp2_with fail
        refine (HAW.out w2 (K.d.fr0 HG.out HF2.out)).mono ?_
        rintro e w3 ⟨rfl, hf3⟩
        have HF3 := Lib.hid (HF2.out.trans hf3 (fun _ _ h => h))
        clear hf3
        go_wp2_with fail
        go_ret
        exact ⟨rfl, HF3.out⟩
      · have t : decide (2800 < (n : Int)) = false := decide_eq_false (by omega)
        have t2 : decide (700 < (m : Int)) = true := decide_eq_true (by omega)
        clear hbig
        go_enter Tryz.func3, Tryz.ntmps3
        go_wp2_with fail
        refine (HAW.out w HG.out).mono ?_
        rintro e w2 ⟨rfl, hf2⟩
        have HF2 := Lib.hid hf2
        clear hf2
        go_wp2_with fail
        refine (HAW.out w2 (K.d.fr0 HG.out HF2.out)).mono ?_
        rintro e w3 ⟨rfl, hf3⟩
        have HF3 := Lib.hid (HF2.out.trans hf3 (fun _ _ h => h))
        clear hf3
        go_wp2_with fail
        go_ret
        exact ⟨rfl, HF3.out⟩
    exact quick
  have hn2 : n ≤ 2800 := by omega
  have hm2 : m ≤ 700 := by omega
  have t : decide (2800 < (n : Int)) = false := decide_eq_false (by omega)
  have t2 : decide (700 < (m : Int)) = false := decide_eq_false (by omega)
  clear hbig
  have bF := fixed_len B
  have bD := dyn_len B
  have bS := storedB_len B (by rw [HBL.out]; omega)
  have bP := press_at_most B (by rw [HBL.out]; omega)
  have pF := pack_length (DeM.fixedBits B)
  have pD := pack_length (DeM.dynBits B)
  rw [HBL.out] at bF bD bS bP
  have HWAY : Hid (∀ W, W = DeM.storedB B ∨ W = pack (DeM.fixedBits B) ∨ W = pack (DeM.dynBits B) → ∀ al, al = W.length + m → InM.openP (W ++ M) (n : Int) = .ok (B, W.length)) := Lib.hid (fun W hW al _ => by
    have h := InM.open_all [] W B M (fun p hp => by cases hp) (by rw [HBL.out]; omega) hW (n : Int) (by rw [HBL.out]; simp)
    have e : InM.ahead [] = [] := rfl
    rw [e, List.nil_append, List.flatten_nil, List.nil_append, List.length_nil, Nat.zero_add] at h
    exact h)
  obtain ⟨W0, h0⟩ : ∃ W, W = DeM.storedB B := ⟨_, rfl⟩
  obtain ⟨W1, h1⟩ : ∃ W, W = pack (DeM.fixedBits B) := ⟨_, rfl⟩
  obtain ⟨W2, h2⟩ : ∃ W, W = pack (DeM.dynBits B) := ⟨_, rfl⟩
  obtain ⟨W3, h3⟩ : ∃ W, W = DeM.pressB B := ⟨_, rfl⟩
  obtain ⟨f1, hf1l⟩ : ∃ f, f = (DeM.fixedBits B).length := ⟨_, rfl⟩
  obtain ⟨f2, hf2l⟩ : ∃ f, f = (DeM.dynBits B).length := ⟨_, rfl⟩
  have HSTO : Hid (∀ w', Fr (fun _ => False) w w' → Calls Tryz.prog 10 #[.slice A n c] w' (Gives w' W0)) := Lib.hid (fun w' hf => by
    rw [h0]
    exact K.d.stored A n c B w' (K.d.fr0 HG.out hf) (HR.out.fr hf (fun _ _ h => h)) HC.out.1 HC.out.2 (by omega))
  have HFIX : Hid (∀ w', Fr (fun _ => False) w w' → Calls Tryz.prog 8 #[.slice A n c] w' (GivesN w' W1 f1)) := Lib.hid (fun w' hf => by
    rw [h1, hf1l]
    exact K.d.fixed A n c B w' (K.d.fr0 HG.out hf) (HR.out.fr hf (fun _ _ h => h)) HC.out.1 HC.out.2 (by omega))
  have HDYN : Hid (∀ w', Fr (fun _ => False) w w' → Calls Tryz.prog 9 #[.slice A n c] w' (GivesN w' W2 f2)) := Lib.hid (fun w' hf => by
    rw [h2, hf2l]
    exact K.d.dynamic A n c B w' (K.d.fr0 HG.out hf) (HR.out.fr hf (fun _ _ h => h)) HC.out.1 HC.out.2 (by omega))
  have HPRE : Hid (∀ w', Fr (fun _ => False) w w' → Calls Tryz.prog 11 #[.slice A n c] w' (Gives w' W3)) := Lib.hid (fun w' hf => by
    rw [h3]
    exact K.d.press A n c B w' (K.d.fr0 HG.out hf) (HR.out.fr hf (fun _ _ h => h)) HC.out.1 HC.out.2 (by omega))
  have HWS : Hid ((W0 = DeM.storedB B ∧ W0.length ≤ 60000) ∧ (W1 = pack (DeM.fixedBits B) ∧ W1.length ≤ 60000) ∧ (W2 = pack (DeM.dynBits B) ∧ W2.length ≤ 60000) ∧ ((W3 = DeM.storedB B ∨ W3 = pack (DeM.fixedBits B) ∨ W3 = pack (DeM.dynBits B)) ∧ W3.length ≤ 60000)) := Lib.hid
    ⟨⟨h0, by rw [h0]; omega⟩, ⟨h1, by rw [h1]; omega⟩, ⟨h2, by rw [h2]; omega⟩, ⟨by rw [h3]; exact press_way B, by rw [h3]; omega⟩⟩
  clear bF bD bS bP pF pD h0 h1 h2 h3 hf1l hf2l
  obtain ⟨l0, hl0⟩ : ∃ l, l = W0.length := ⟨_, rfl⟩
  obtain ⟨l1, hl1⟩ : ∃ l, l = W1.length := ⟨_, rfl⟩
  obtain ⟨l2, hl2⟩ : ∃ l, l = W2.length := ⟨_, rfl⟩
  obtain ⟨l3, hl3⟩ : ∃ l, l = W3.length := ⟨_, rfl⟩
  have HLS : Hid (l0 = W0.length ∧ l1 = W1.length ∧ l2 = W2.length ∧ l3 = W3.length) := Lib.hid ⟨hl0, hl1, hl2, hl3⟩
  clear hl0 hl1 hl2 hl3
  go_enter Tryz.func3, Tryz.ntmps3
  go_wp2_with fail
  refine (HAW.out w HG.out).mono ?_
  rintro e w2 ⟨rfl, hf2⟩
  have HF2 := Lib.hid hf2
  clear hf2
  go_wp2_with fail
  refine (HFIX.out w2 HF2.out).mono ?_
  rintro e w3 ⟨A1, c1, rfl, ho1, hf3⟩
  rw [← HLS.out.2.1]
  have HR1 := Lib.hid ho1.rd
  have HF3 := Lib.hid (HF2.out.trans hf3 (fun _ _ h => h))
  clear ho1 hf3
  go_wp2_with fail
  refine (HDYN.out w3 HF3.out).mono ?_
  rintro e w4 ⟨A2, c2, rfl, ho2, hf4⟩
  rw [← HLS.out.2.2.1]
  have HR2 := Lib.hid ho2.rd
  have HR1a := Lib.hid (HR1.out.fr hf4 (fun _ _ h => h))
  have HF4 := Lib.hid (HF3.out.trans hf4 (fun _ _ h => h))
  clear ho2 hf4 HR1
  go_wp2_with fail
  refine (HSTO.out w4 HF4.out).mono ?_
  rintro e w5 ⟨A0, c0, rfl, ho0, hf5⟩
  rw [← HLS.out.1]
  have HR0 := Lib.hid ho0.rd
  have HR1b := Lib.hid (HR1a.out.fr hf5 (fun _ _ h => h))
  have HR2b := Lib.hid (HR2.out.fr hf5 (fun _ _ h => h))
  have HF5 := Lib.hid (HF4.out.trans hf5 (fun _ _ h => h))
  clear ho0 hf5 HR1a HR2
  go_wp2_with fail
  refine (HPRE.out w5 HF5.out).mono ?_
  rintro e w6 ⟨A3, c3, rfl, ho3, hf6⟩
  rw [← HLS.out.2.2.2]
  have HF6 := Lib.hid (HF5.out.trans hf6 (fun _ _ h => h))
  obtain ⟨w7, hw7⟩ : ∃ w7, w7 = w6.alloc (.cells #[Value.slice A0 l0 c0, .slice A1 l1 c1, .slice A2 l2 c2, .slice A3 l3 c3] 22) := ⟨_, rfl⟩
  obtain ⟨g, hg⟩ : ∃ g, g = w6.heap.size := ⟨_, rfl⟩
  have hf67 : Fr (fun _ => False) w6 w7 := by rw [hw7]; exact (Fr.refl _ w6).alloc _
  have hrow : Row w7 g 22 [Value.slice A0 l0 c0, .slice A1 l1 c1, .slice A2 l2 c2, .slice A3 l3 c3] := by rw [hw7, hg]; exact Row.new w6 _ _
  have HF7 := Lib.hid (HF6.out.trans hf67 (fun _ _ h => h))
  have HROW : Hid (∀ k, k < 4 → ∃ (W : List UInt8) (AW : Option Addr) (wl cw : Nat), w7.cell? ⟨g, k, none⟩ = some (.slice AW wl cw) ∧ wl = W.length ∧ Rd w7 AW wl (W.map bytec) ∧ (W = DeM.storedB B ∨ W = pack (DeM.fixedBits B) ∨ W = pack (DeM.dynBits B)) ∧ W.length ≤ 60000) := Lib.hid (fun k hk => by
    have h67 := hf6.trans hf67 (fun _ _ h => h)
    match k, hk with
    | 0, _ => exact ⟨W0, A0, l0, c0, hrow.cell rfl, HLS.out.1, by rw [HLS.out.1]; exact HR0.out.fr h67 (fun _ _ h => h), .inl HWS.out.1.1, HWS.out.1.2⟩
    | 1, _ => exact ⟨W1, A1, l1, c1, hrow.cell rfl, HLS.out.2.1, by rw [HLS.out.2.1]; exact HR1b.out.fr h67 (fun _ _ h => h), .inr (.inl HWS.out.2.1.1), HWS.out.2.1.2⟩
    | 2, _ => exact ⟨W2, A2, l2, c2, hrow.cell rfl, HLS.out.2.2.1, by rw [HLS.out.2.2.1]; exact HR2b.out.fr h67 (fun _ _ h => h), .inr (.inr HWS.out.2.2.1.1), HWS.out.2.2.1.2⟩
    | 3, _ => exact ⟨W3, A3, l3, c3, hrow.cell rfl, HLS.out.2.2.2, by rw [HLS.out.2.2.2]; exact ho3.rd.fr hf67 (fun _ _ h => h), HWS.out.2.2.2.1, HWS.out.2.2.2.2⟩)
  clear hrow hf67 ho3 hf6 HR0 HR1b HR2b HF2 HF3 HF4 HF5 HF6 HWS HLS HSTO HFIX HDYN HPRE
  go_wp2_with fail
  rw [← hw7, ← hg]
  clear hw7 hg
  go_loopw [10] (fun i wr => ∃ k : Nat, k ≤ 4 ∧ i = .int .i64 (k : Int) ∧ Hid (Fr (fun _ => False) w7 wr)) (fun i _ => 4 - (intOf i).toNat)
  case atStart => exact ⟨0, by omega, rfl, Fr.refl _ _⟩
  case round =>
    obtain ⟨k, hk, rfl, HF⟩ := hrel
    rename World => wr
    by_cases hlt : k < 4
    · have hki : (k : Int) < 4 := by omega
      obtain ⟨W, AW, wl, cw, kc, hwl, hrw, hWW, hW6⟩ := HROW.out k hlt
      have l2c := HF.out.cell kc (fun h => h)
      have HKC := Lib.hid kc
      have hop := HWAY.out W hWW _ rfl
      have HWL := Lib.hid hwl
      have HOP := Lib.hid hop
      obtain ⟨al, hal⟩ : ∃ al, al = wl + m := ⟨_, rfl⟩
      have hal2 : al ≤ 70000 := by omega
      have hwl2 : wl ≤ 60000 := by omega
      have HAL := Lib.hid hal
      have HWR := Lib.hid hrw
      clear kc hwl hrw hWW hW6 hop hal
      have HE : Hid (∀ wr', wr' = wr.alloc (.cells #[] 5) → wr'.ownsRow wr.heap.size 5 1 (.slice (some ⟨wr.heap.size, 0, none⟩) 0 0) 0 ([] : List Value)) := Lib.hid (fun wr' h => by
        rw [h]
        exact own_full (k := wr.heap.size) rfl (Nat.le_refl _) 5 [] (by simp))
      have HF8 := Lib.hid ((Fr.refl (fun _ => False) wr).alloc (.cells #[] 5))
      have l2d := HF8.out.cell l2c (fun h => h)
      go_wp2_with (at_builtin; refine wpList_appN u8T _ rfl _ _ rfl wr.heap.size _ 0 [] rfl (HE.out _ rfl) _ wl _ (W.map bytec) rfl ((HWR.out.fr HF.out (fun _ _ h => h)).fr HF8.out (fun _ _ h => h)) (bytec_one _) wl (by omega) (by unfold maxLen; omega) (by omega) (by simp) ?_)
      intro D3 d3 w8 _ _ hown3 hf3 _
      have HO3 := Lib.hid hown3
      have HF9 : Hid (Fr (fun _ => False) wr w8) := Lib.hid (HF8.out.trans hf3 (fun b hb h => by simp [Value.ownBlock] at h; subst h; simp at hb))
      clear hown3 hf3
      go_wp2_with (at_builtin; refine wpList_appN u8T _ rfl _ _ rfl wr.heap.size _ wl _ rfl HO3.out _ m _ (M.map bytec) rfl (((HRM.out.fr HF7.out (fun _ _ h => h)).fr HF.out (fun _ _ h => h)).fr HF9.out (fun _ _ h => h)) (bytec_one _) al HAL.out (by unfold maxLen; omega) (by omega) HF9.out.size ?_)
      intro D4 d4 w10 _ _ hown4 hf4 _
      rw [← List.map_append] at hown4
      have HO4 := Lib.hid (Rd.of_own hown4)
      have HC4 := Lib.hid (own_cap hown4).2
      have HF10 : Hid (Fr (fun _ => False) wr w10) := Lib.hid (HF9.out.trans hf4 (fun b hb h => by have h1 := (HO3.out.lt b h).1; omega))
      clear hown4 hf4
      have HFA := Lib.hid ((HF7.out.trans HF.out (fun _ _ h => h)).trans HF10.out (fun _ _ h => h))
      have HOPN : Hid (Calls Tryz.prog 12 #[.slice D4 al d4, .int .i64 (n : Int)] w10 fun e w' => ∃ A c, e = .returned (.tuple #[.slice A n c, .int .i64 (wl : Int), .int .i64 0]) ∧ Own w' w10.heap.size A c B ∧ Fr (fun _ => False) w10 w') := Lib.hid (by
        have h := K.open_ D4 al d4 (n : Int) _ w10 (K.d.fr0 HG.out HFA.out) HO4.out HC4.out.1 HC4.out.2 (by omega) (by omega) (by omega)
        rw [HOP.out, ← HWL.out] at h
        unfold Opens at h
        simp only [HBL.out] at h
        exact h)
      go_wp2_with fail
      refine HOPN.out.mono ?_
      rintro e w11 ⟨A5, c5, rfl, ho5, hf5⟩
      have hrd5 : Rd w11 A5 n (B.map bytec) := by have h := ho5.rd; rw [HBL.out] at h; exact h
      have HF11 := Lib.hid (HF10.out.trans hf5 (fun _ _ h => h))
      have HFB := Lib.hid (HFA.out.trans hf5 (fun _ _ h => h))
      have HF12 := Lib.hid (HF.out.trans HF11.out (fun _ _ h => h))
      have s5 := str_rd hrd5 c5
      have s0 := str_rd (HR.out.fr HFB.out (fun _ _ h => h)) c
      have l5c := HF12.out.cell HKC.out (fun h => h)
      clear ho5 hf5 hrd5 HOPN l2c l2d
      go_wp2_with fail
      exact ⟨⟨k + 1, by omega, by go_num, HF12.out⟩, by simp [intOf]; omega⟩
    · obtain rfl : k = 4 := by omega
      go_wp2_with fail
      go_ret
      exact ⟨rfl, HF7.out.trans HF.out (fun _ _ h => h)⟩
end Go.Proofs.YtgpkiijmembggaaGreatDoor
