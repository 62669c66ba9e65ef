/-
  Contract of layer 4's program: bytes taken in.
-/
import Derived.Test.YtjjeahijcibafaaDoorShqE
namespace Go.Proofs.YtjjeahijcibafaaDoor
open Go.RowKit ShaM Mem Go.Lib
attribute [local go_sem ↓] Go.wp_at_zero Go.wp_at_succ

/-- the Hasher (or state) in block g took D in -/
def Ha (w : World) (g : Nat) (t : TypeId) (D : List Nat) : Prop := ∃ ad buf, Hs D ad buf ∧ Row w g t (sc ad buf D.length)
theorem Ha.fr {S : Nat → Prop} {w w' : World} {g : Nat} {t : TypeId} {D : List Nat} (h : Ha w g t D) (hf : Fr S w w') (hg : ¬ S g) : Ha w' g t D := by
  obtain ⟨ad, buf, h1, h2⟩ := h
  exact ⟨ad, buf, h1, h2.fr hf hg⟩
theorem Ha.count {w : World} {g : Nat} {t : TypeId} {D : List Nat} (h : Ha w g t D) : w.cell? ⟨g, 72, none⟩ = some (.int .u64 (D.length : Int)) := by
  obtain ⟨ad, buf, h1, h2⟩ := h
  exact h2.cell (sc_count h1.al h1.bl)
theorem drop_cons_take {C : List Nat} {k j : Nat} : C.take k ++ (C.drop k).take j = C.take (k + j) := by
  rw [List.take_add]

set_option maxRecDepth 100000 in
set_option maxHeartbeats 1600000 in
theorem take_any (g n c : Nat) (t : TypeId) (A : Option Addr) (D C : List Nat) (w : World) (hH : Ha w g t D) (hG : Gl w) (hg : 2 ≤ g) (hr : Rd w A n (C.map byten)) (hA : 0 < n → ∀ ad, A = some ad → ad.block ≠ g) (hC : ∀ b ∈ C, b < 256) (hc : n ≤ c) (hD : D.length + n ≤ 1125899906842624) :
    Calls Tryd.prog 19 #[.pointer (some ⟨g, 0, none⟩), .slice A n c] w fun e w' => e = .returned (.tuple #[]) ∧ Ha w' g t (D ++ C) ∧ Fr (fun b => b = g) w w' := by
  have hCl : C.length = n := by simpa using hr.1
  have HCL := Lib.hid hCl
  have HGL := Lib.hid hG
  have HR := Lib.hid hr
  have HA := Lib.hid hA
  have HCB := Lib.hid hC
  have HH := Lib.hid hH
  clear hCl hG hr hA hC hH
  go_enter Tryd.func19, Tryd.ntmps19
  go_wp2_with fail
  go_loopw [1] (fun v wr => ∃ (k m c' : Nat) (A' : Option Addr), k + m = n ∧ v = .slice A' m c' ∧ m ≤ c' ∧ Hid (Rd wr A' m ((C.drop k).map byten)) ∧ Hid (0 < m → ∀ ad, A' = some ad → ad.block ≠ g) ∧ Hid (Ha wr g t (D ++ C.take k)) ∧ Fr (fun b => b = g) w wr)
    (fun v _ => match v with | .slice _ m _ => m | _ => 0)
  case atStart => exact ⟨0, n, c, A, by omega, rfl, hc, HR, HA, Lib.hid (by rw [List.take_zero, List.append_nil]; exact HH.out), Fr.refl _ _⟩
  case round =>
    obtain ⟨k, m, c1, A1, hkm, rfl, hmc, HR1, HA1, HH1, hfr⟩ := hrel
    by_cases hm : 0 < m
    · obtain ⟨ad, buf, hs, hrow⟩ := HH1.out
      obtain ⟨D1, hD1⟩ : ∃ D1, D1 = D ++ C.take k := ⟨_, rfl⟩
      obtain ⟨C1, hC1⟩ : ∃ C1, C1 = C.drop k := ⟨_, rfl⟩
      rw [← hD1] at hs hrow
      rw [← hC1] at HR1
      have hN0 : D1.length ≤ 1125899906842624 := by rw [hD1, List.length_append, List.length_take]; omega
      have hC1l : C1.length = m := by rw [hC1, List.length_drop, HCL.out]; omega
      obtain ⟨N, hN⟩ : ∃ N, N = D1.length := ⟨_, rfl⟩
      obtain ⟨r, hr⟩ : ∃ r, r = N % 64 := ⟨_, rfl⟩
      obtain ⟨j, hj⟩ : ∃ j, j = min m (64 - r) := ⟨_, rfl⟩
      rw [← hN] at hrow hN0
      have hcell := hrow.cell (sc_count hs.al hs.bl)
      have hsl : (sc ad buf N).length = 73 := sc_len hs.al hs.bl
      have er : (N : Int).tmod 64 = (r : Int) := by rw [Int.tmod_eq_emod_of_nonneg (by omega)]; omega
      have hr64 : r < 64 := by omega
      have hri : (r : Int) ≤ 64 := by omega
      have hrn : ¬ 64 = r := by omega
      have hm0 : (0 : Int) < (m : Int) := by omega
      obtain ⟨cs, hcs⟩ : ∃ cs, cs = C1.take (64 - r) := ⟨_, rfl⟩
      have hcl : cs.length = j := by rw [hcs, List.length_take, hC1l, hj, Nat.min_comm]
      have HS := Lib.hid hs
      have HROW := Lib.hid hrow
      have HD1 := Lib.hid hD1
      have HC1 := Lib.hid hC1
      have HN := Lib.hid hN
      have HRR := Lib.hid hr
      have HJ := Lib.hid hj
      have HCS := Lib.hid hcs
      have HCSL := Lib.hid hcl
      have HSL := Lib.hid hsl
      have HC1L := Lib.hid hC1l
      have HFR := Lib.hid hfr
      clear hs hrow hD1 hC1 hN hr hj hcs hcl hsl hC1l hfr HH1
      go_wp2_with fail
      go_still_tail 10, (by kernel_rfl)
      change wpList _ _ _ _ _ wr.drew
      clear hcell er
      have HCSB := Lib.hid (show (cs.map byten) = (C1.map byten).take (64 - r) by rw [HCS.out, List.map_take])
      have HCSJ := Lib.hid (show j = (cs.map byten).length by rw [List.length_map, HCSL.out])
      go_wp2_with (refine wpList_copy_row rfl (.tmp 16) (.tmp 17) 22 22 rfl 5 Tryd.underlying22 (by kernel_rfl) g (8 + r) (64 - r) (64 - r) A1 m c1 rfl rfl t (sc ad buf N) (C1.map byten) HROW.out.drew HR1.out.drew (cs.map byten) HCSB.out j HCSJ.out (by have := HSL.out; have := HJ.out; omega) (byten_one _) ?_)
      intro w2 hrow2 hf2
      have hbl := HS.out.bl
      rw [sc_splice HS.out.al (by rw [hbl, HCSL.out]; have := HJ.out; omega)] at hrow2
      obtain ⟨buf2, hb2⟩ : ∃ buf2, buf2 = splice buf r cs := ⟨_, rfl⟩
      rw [← hb2] at hrow2
      have hbl2 : buf2.length = 64 := by rw [hb2, length_splice _ _ _ (by rw [hbl, HCSL.out]; have := HJ.out; omega), hbl]
      have hcell := hrow2.cell (sc_count HS.out.al hbl2)
      have hfree := hrow2.free 72
      have ej : IntKind.u64.wrap (j : Int) = (j : Int) := by rw [IntKind.wrap_u64]; have := HJ.out; omega
      obtain ⟨N2, hN2⟩ : ∃ N2, N2 = N + j := ⟨_, rfl⟩
      have ea : IntKind.u64.wrap ((N : Int) + (j : Int)) = (N2 : Int) := by rw [IntKind.wrap_u64]; have := HJ.out; omega
      have ea2 : (N : Int) + (j : Int) = (N2 : Int) := by omega
      have hrow3 := hrow2.set 72 (.int .u64 (N2 : Int))
      rw [sc_set_count HS.out.al hbl2] at hrow3
      have hf3 : Fr (fun b => b = g) w (w2.setCell ⟨g, 72, none⟩ (.int .u64 (N2 : Int))) := (HFR.out.drew.trans hf2 (fun _ _ h => h)).trans (Fr.set1 _ _ _ _) (fun _ _ h => h)
      have hjm : (j : Int) ≤ (m : Int) := by have := HJ.out; omega
      have HROW3 := Lib.hid hrow3
      have HFW := Lib.hid (show Fr (fun b => b = g) wr w2 from (Fr.refl _ wr).drew.trans hf2 (fun _ _ h => h))
      have HF3 := Lib.hid hf3
      have HB2 := Lib.hid hb2
      have HBL2 := Lib.hid hbl2
      have HN2 := Lib.hid hN2
      clear HCSB HCSJ hrow2 hf2 hbl hb2 hbl2 hN2 hrow3 hf3
      go_upto_region 4 with fail
      obtain ⟨w3, hw3⟩ : ∃ w3, w3 = w2.setCell ⟨g, 72, none⟩ (.int .u64 (N2 : Int)) := ⟨_, rfl⟩
      rw [← hw3] at HROW3 HF3 ⊢
      obtain ⟨A2, hA2⟩ : ∃ A2, A2 = (if c1 = j then A1 else Option.map (fun x => x.add j) A1) := ⟨_, rfl⟩
      rw [← hA2]
      obtain ⟨m2, hm2⟩ : ∃ m2, m2 = m - j := ⟨_, rfl⟩
      obtain ⟨c2, hc2⟩ : ∃ c2, c2 = c1 - j := ⟨_, rfl⟩
      rw [← hm2, ← hc2]
      have hrd : Rd w3 A2 m2 ((C.drop (k + j)).map byten) := by
        have hf13 : Fr (fun b => b = g) wr w3 := by rw [hw3]; exact (HFW.out).trans (Fr.set1 _ _ _ _) (fun _ _ h => h)
        have h1 := (HR1.out.frp hf13 HA1.out).cut (k := j) (m := m) (cap := c1) (by omega) (Nat.le_refl _) hmc
        rw [← hA2, ← hm2] at h1
        have e : ((C1.map byten).take m).drop j = (C.drop (k + j)).map byten := by
          rw [List.take_of_length_le (by rw [List.length_map, HC1L.out]; omega), ← List.map_drop, HC1.out, List.drop_drop]
        rw [e] at h1
        exact h1
      have hA3 : 0 < m2 → ∀ ad, A2 = some ad → ad.block ≠ g := by
        intro _ ad h
        rw [hA2] at h
        split at h
        · exact HA1.out hm ad h
        · cases hA1 : A1 with
          | none => rw [hA1] at h; cases h
          | some a1 =>
            rw [hA1] at h
            injection h with h
            rw [← h, add_block]
            exact HA1.out hm a1 hA1
      have hcsx : ∀ b ∈ cs, b < 256 := by
        intro b hb
        rw [HCS.out, HC1.out] at hb
        exact HCB.out b (List.mem_of_mem_drop (List.mem_of_mem_take hb))
      have hDn : D ++ C.take (k + j) = D1 ++ cs := by
        rw [HD1.out, HCS.out, HC1.out, List.append_assoc]
        congr 1
        rw [← drop_cons_take]
        congr 1
        have hl : (C.drop k).length = m := by rw [← HC1.out, HC1L.out]
        have := HJ.out
        rcases Nat.le_total m (64 - r) with h | h
        · rw [List.take_of_length_le (by omega), List.take_of_length_le (by omega)]
        · congr 1; omega
      have hD1l : D1.length = N := HN.out.symm
      have hrr : D1.length % 64 = r := by rw [hD1l]; exact HRR.out.symm
      have hN2l : (D1 ++ cs).length = N2 := by rw [List.length_append, hD1l, HCSL.out, HN2.out]
      have hcell := HROW3.out.cell (sc_count HS.out.al HBL2.out)
      have hpos : 0 < j := by have := HJ.out; omega
      by_cases hfull : r + j = 64
      · have tt : ((N2 : Int) % 64 == 0) = true := by have := HN2.out; have := HRR.out; simp; omega
        have hsF := HS.out.full hcsx (by rw [hrr, HCSL.out]; exact hfull)
        rw [hrr, ← HB2.out] at hsF
        have hmix := mix_any g N2 t ad buf2 w3 HS.out.al HBL2.out hsF.bx (HGL.out.fr HF3.out (by omega) (by omega)) HROW3.out
        have HMIX := Lib.hid hmix
        have HSF := Lib.hid hsF
        have HRD := Lib.hid hrd
        have HA3 := Lib.hid hA3
        have HDN := Lib.hid hDn
        have HNL := Lib.hid hN2l
        have HM2 := Lib.hid hm2
        have HC2 := Lib.hid hc2
        clear hw3 hA2 hm2 hc2 hrd hA3 hcsx hDn hD1l hrr hN2l hmix hsF ea ea2 ej HFW
        go_wp2_with fail
        refine HMIX.out.mono ?_
        rintro e w4 ⟨rfl, hrow4, hf4⟩
        have hha : Ha w4 g t (D ++ C.take (k + j)) := ⟨_, _, by rw [HDN.out]; exact HSF.out, by rw [HDN.out, HNL.out]; exact hrow4⟩
        have HHA := Lib.hid hha
        have HRD4 := Lib.hid (HRD.out.frp hf4 HA3.out)
        have HF4 := Lib.hid (HF3.out.trans hf4 (fun _ _ h => h))
        clear hrow4 hf4 hha hcell tt
        go_wp2_with fail
        exact ⟨⟨k + j, m2, c2, A2, by have := HM2.out; omega, rfl, by have := HM2.out; have := HC2.out; omega, HRD4, HA3, HHA, HF4.out⟩, by have := HM2.out; simp; omega⟩
      · have tt : ((N2 : Int) % 64 == 0) = false := by have := HN2.out; have := HRR.out; have := HJ.out; simp; omega
        have hsM := HS.out.more hcsx (by rw [hrr, HCSL.out]; have := HJ.out; omega)
        rw [hrr, ← HB2.out] at hsM
        have hha : Ha w3 g t (D ++ C.take (k + j)) := ⟨_, _, by rw [hDn]; exact hsM, by rw [hDn, hN2l]; exact HROW3.out⟩
        have HHA := Lib.hid hha
        have HRD := Lib.hid hrd
        have HA3 := Lib.hid hA3
        have HM2 := Lib.hid hm2
        have HC2 := Lib.hid hc2
        clear hw3 hA2 hm2 hc2 hrd hA3 hcsx hDn hD1l hrr hN2l hsM ea ea2 ej HFW hha
        go_wp2_with fail
        exact ⟨⟨k + j, m2, c2, A2, by have := HM2.out; omega, rfl, by have := HM2.out; have := HC2.out; omega, HRD, HA3, HHA, HF3.out⟩, by have := HM2.out; simp; omega⟩
    · obtain rfl : m = 0 := by omega
      have e : C.take k = C := List.take_of_length_le (by rw [HCL.out]; omega)
      rw [e] at HH1
      go_wp2_with fail
      go_end0
      exact ⟨rfl, HH1.out, hfr⟩
end Go.Proofs.YtjjeahijcibafaaDoor
