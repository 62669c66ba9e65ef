/-
  Layer 9's reference: Agreed.
  Layer 9's reference: tokens (written by gen_toks.py).
-/
import Derived.Test.YtahfmcdhcbfkaaaDoorZm03
import Derived.Test.YtahfmcdhcbfkaaaDoorZm12
import Derived.Test.YtahfmcdhcbfkaaaDoorZm04
import Derived.Test.YtahfmcdhcbfkaaaDoorZm11
import Derived.Test.YtahfmcdhcbfkaaaDoorZm07
import Derived.Test.YtahfmcdhcbfkaaaDoorZm09
import Derived.Deep.DeepCutAuto
import Derived.Deep.RegionHeld3
import Derived.StillTailTactics
namespace Go.Proofs.YtahfmcdhcbfkaaaDoor
open Go.RowKit Mem Go.Lib
attribute [local go_sem ↓] Go.wp_at_zero Go.wp_at_succ
set_option linter.unusedVariables false
set_option maxRecDepth 100000

theorem fixA_take (k : Nat) (h : k < 288) : SyM.fixA.take (k + 1) = SyM.fixA.take k ++ [SyM.fixA[k]!] := by
  rw [List.take_add_one, List.getElem?_eq_getElem (by rw [SyM.fix_len.1]; exact h), getElem!_pos SyM.fixA k (by rw [SyM.fix_len.1]; exact h)]
  rfl
theorem fixB_take (k : Nat) (h : k < 32) : SyM.fixB.take (k + 1) = SyM.fixB.take k ++ [5] := by
  have e := (SyM.fix_at k (by omega)).2
  rw [Nat.mod_eq_of_lt h, getElem!_pos SyM.fixB k (by rw [SyM.fix_len.2]; exact h)] at e
  rw [List.take_add_one, List.getElem?_eq_getElem (by rw [SyM.fix_len.2]; exact h), e]
  rfl
set_option maxHeartbeats 3200000 in
theorem rAgreed_any (w : World) : Calls Tryd.prog 34 #[] w fun e w' => ∃ A1 c1 A2 c2, e = .returned (.tuple #[.slice A1 288 c1, .slice A2 32 c2]) ∧ w'.ownsRow w.heap.size 3 1 (.slice A1 288 c1) 288 (SyM.fixA.map natc) ∧ w'.ownsRow w.heap.size 3 1 (.slice A2 32 c2) 32 (SyM.fixB.map natc) ∧ Fr (fun _ => False) w w' := by
  obtain ⟨base, hbase⟩ : ∃ base, base = w.heap.size := ⟨_, rfl⟩
  have HB := Lib.hid hbase
  rw [← hbase]
  clear hbase
  go_enter Tryd.func34, Tryd.ntmps34
  go_wp2_with fail
  go_loopw [2, 4] (fun s i wr => ∃ (k : Nat) (A1 : Option Addr) (c1 : Nat), k ≤ 288 ∧ i = .int .i64 (k : Int) ∧ s = .slice A1 k c1 ∧ Hid (wr.ownsRow base 3 1 (.slice A1 k c1) k ((SyM.fixA.map natc).take k)) ∧ Hid (Fr (fun _ => False) w wr)) (fun _ i _ => 288 - (intOf i).toNat)
  case atStart => exact ⟨0, none, 0, by omega, rfl, rfl, World.ownsRow_nil _ _ _ _, Fr.refl _ _⟩
  case round =>
    obtain ⟨k, A1, c1, hk, rfl, rfl, HO, HF⟩ := hrel
    rename World => wr
    by_cases hlt : k < 288
    · obtain ⟨v, hv⟩ : ∃ v, v = SyM.fixA[k]! := ⟨_, rfl⟩
      have hfx := (SyM.fix_at k hlt).1
      rw [← hv] at hfx
      have HT : Hid ((SyM.fixA.map natc).take (k + 1) = (SyM.fixA.map natc).take k ++ [.int .i64 (v : Int)]) := Lib.hid (by rw [← List.map_take, fixA_take k hlt, List.map_append, ← hv, List.map_take]; rfl)
      obtain ⟨z, hz⟩ : ∃ z, z = k + 1 := ⟨_, rfl⟩
      have HZ := Lib.hid hz
      have hz3 : z ≤ 288 := by omega
      clear hz hv
      have hcase : (k < 144 ∧ v = 8) ∨ (144 ≤ k ∧ k ≤ 255 ∧ v = 9) ∨ (256 ≤ k ∧ k ≤ 279 ∧ v = 7) ∨ (280 ≤ k ∧ v = 8) := by
        split at hfx
        · omega
        · split at hfx <;> omega
      clear hfx
      rcases hcase with ⟨h1, rfl⟩ | ⟨h1, h2, rfl⟩ | ⟨h1, h2, rfl⟩ | ⟨h1, rfl⟩
      all_goals
        have T1 := Lib.hid h1
        go_wp2_with (at_builtin; refine wpList_appN int8T _ rfl _ _ rfl base _ _ _ rfl (HO.out.alloc _) _ _ _ _ rfl (Rd.one _ _ _) (one_one _ _) z HZ.out (by unfold maxLen; omega) (by omega) (by have h1 := HF.out.size; have h2 := HB.out; simp; omega) ?_)
        intro A4 c4 w4 _ _ hown4 hf4 _
        have HO4 : Hid (w4.ownsRow base 3 1 (.slice A4 z c4) z ((SyM.fixA.map natc).take (k + 1))) := Lib.hid (by rw [HT.out]; exact hown4)
        have HF4 : Hid (Fr (fun _ => False) w w4) := Lib.hid ((HF.out.alloc _).trans hf4 (fun b hb h => by have h1 := (HO.out.lt b h).1; have h2 := HB.out; omega))
        have hz1 := HZ.out
        subst hz1
        clear hown4 hf4
        go_wp2_with fail
        exact ⟨⟨k + 1, A4, c4, by omega, by go_num, rfl, HO4.out, HF4.out⟩, by simp [intOf]; omega⟩
    · obtain rfl : k = 288 := by omega
      have ho := HO.out
      rw [List.take_of_length_le (by rw [List.length_map, SyM.fix_len.1]; omega)] at ho
      have HOA := Lib.hid ho
      obtain ⟨b2, hb2⟩ : ∃ b2, b2 = wr.heap.size := ⟨_, rfl⟩
      have HB2 := Lib.hid hb2
      rename World => w2
      clear ho hb2 HO
      go_wp2_with fail
      go_loopw [3, 6] (fun s i wx => ∃ (k : Nat) (A2 : Option Addr) (c2 : Nat), k ≤ 32 ∧ i = .int .i64 (k : Int) ∧ s = .slice A2 k c2 ∧ Hid (wx.ownsRow b2 3 1 (.slice A2 k c2) k ((SyM.fixB.map natc).take k)) ∧ Hid (Fr (fun _ => False) w2 wx)) (fun _ i _ => 32 - (intOf i).toNat)
      case atStart => exact ⟨0, none, 0, by omega, rfl, rfl, World.ownsRow_nil _ _ _ _, Fr.refl _ _⟩
      case round =>
        obtain ⟨j, A2, c2, hj, rfl, rfl, HO2, HF2⟩ := hrel
        rename World => wx
        by_cases hjt : j < 32
        · have HT : Hid ((SyM.fixB.map natc).take (j + 1) = (SyM.fixB.map natc).take j ++ [.int .i64 5]) := Lib.hid (by rw [← List.map_take, fixB_take j hjt, List.map_append, List.map_take]; rfl)
          obtain ⟨z, hz⟩ : ∃ z, z = j + 1 := ⟨_, rfl⟩
          have HZ := Lib.hid hz
          have hz3 : z ≤ 32 := by omega
          clear hz
          go_wp2_with (at_builtin; refine wpList_appN int8T _ rfl _ _ rfl b2 _ _ _ rfl (HO2.out.alloc _) _ _ _ _ rfl (Rd.one _ _ _) (one_one _ _) z HZ.out (by unfold maxLen; omega) (by omega) (by have h1 := HF2.out.size; have h2 := HB2.out; simp; omega) ?_)
          intro A4 c4 w4 _ _ hown4 hf4 _
          have HO4 : Hid (w4.ownsRow b2 3 1 (.slice A4 z c4) z ((SyM.fixB.map natc).take (j + 1))) := Lib.hid (by rw [HT.out]; exact hown4)
          have HF4 : Hid (Fr (fun _ => False) w2 w4) := Lib.hid ((HF2.out.alloc _).trans hf4 (fun b hb h => by have h1 := (HO2.out.lt b h).1; have h2 := HB2.out; omega))
          have hz1 := HZ.out
          subst hz1
          clear hown4 hf4
          go_wp2_with fail
          exact ⟨⟨j + 1, by omega, by go_num, A4, c4, ⟨rfl, rfl, rfl⟩, HO4.out⟩, by simp [intOf]; omega⟩
        · obtain rfl : j = 32 := by omega
          have ho := HO2.out
          rw [List.take_of_length_le (by rw [List.length_map, SyM.fix_len.2]; omega)] at ho
          have HOB := Lib.hid ho
          clear ho HO2
          go_wp2_with fail
          exact bodyPost_ret (v := .tuple #[.slice A1 288 c1, .slice A2 32 c2]) (by simp [results, Tryd.results34, go_sem]) rfl
            ⟨A1, c1, A2, c2, rfl, HF2.out.own HOA.out (fun _ _ h => h), own_base HOB.out (by have h1 := HF.out.size; have h2 := HB.out; have h3 := HB2.out; omega), HF.out.trans HF2.out (fun _ _ h => h)⟩
end Go.Proofs.YtahfmcdhcbfkaaaDoor
namespace Go.Proofs.YtahfmcdhcbfkaaaDoor
open Go.RowKit BitsM Mem Go.Lib
attribute [local go_sem ↓] Go.wp_at_zero Go.wp_at_succ
set_option linter.unusedVariables false
set_option maxRecDepth 100000

theorem nums_cell {w : World} {g : Nat} {cs : List Nat} (h : Nums w g cs) {s : Nat} (hs : s < cs.length) : w.cell? ⟨g, s, none⟩ = some (.int .u64 ((cs[s]! : Nat) : Int)) := by
  unfold Nums at h
  rw [cell_k h, getElem!_pos cs s hs]
  simp [numc, hs]
theorem add_lit256 (al : Addr) : al.add 256 = ⟨al.block, al.off + 256, none⟩ := by
  obtain ⟨b, o, s⟩ := al
  cases s <;> simp [Addr.add]
theorem ints_natc (l : List Nat) : (CoM.ints l).map intc = l.map natc := by
  unfold CoM.ints
  rw [List.map_map]
  rfl
set_option maxHeartbeats 12800000 in
theorem rTokens_any (A A1 A2 : Option Addr) (n c n1 c1 n2 c2 : Nat) (T : List LzM.Tok) (a b : List Nat) (w : World) (hT : Toks w A n T) (hn : n ≤ 10000) (hfit : ∀ t ∈ T, Fits t)
    (ha : Rd w A1 n1 (a.map natc)) (hb : Rd w A2 n2 (b.map natc)) (hab : ∀ ad, A1 = some ad → ad.block < w.heap.size) (hbb : ∀ ad, A2 = some ad → ad.block < w.heap.size) (hn1 : 286 ≤ n1) (hn1' : n1 ≤ 1000) (hn2 : 30 ≤ n2) (hn2' : n2 ≤ 1000) (ha15 : ∀ x ∈ a, x ≤ 15) (hb15 : ∀ x ∈ b, x ≤ 15) :
    Calls Tryd.prog 35 #[.slice A n c, .slice A1 n1 c1, .slice A2 n2 c2] w fun e w' => ∃ A' c', e = .returned (.slice A' (DeM.toksBits a b T).length c') ∧ w'.ownsRow w.heap.size 5 1 (.slice A' (DeM.toksBits a b T).length c') (DeM.toksBits a b T).length ((DeM.toksBits a b T).map bitc) ∧ Fr (fun _ => False) w w' := by
  have hln := hT.1
  have hal : a.length = n1 := by simpa using ha.1
  have hbl : b.length = n2 := by simpa using hb.1
  obtain ⟨xs, hxs⟩ : ∃ xs, xs = HuffM.codesL (CoM.ints a) := ⟨_, rfl⟩
  obtain ⟨ys, hys⟩ : ∃ ys, ys = HuffM.codesL (CoM.ints b) := ⟨_, rfl⟩
  have HXL : Hid (xs.length = n1 ∧ (∀ x ∈ xs, x < 18446744073709551616) ∧ ys.length = n2 ∧ ∀ x ∈ ys, x < 18446744073709551616) := Lib.hid ⟨by rw [hxs, HuffM.codes_len, CoM.ints_len]; exact hal, by rw [hxs]; exact HuffM.codes_lt _, by rw [hys, HuffM.codes_len, CoM.ints_len]; exact hbl, by rw [hys]; exact HuffM.codes_lt _⟩
  obtain ⟨R, hR⟩ : ∃ R, R = DeM.toksBits a b T := ⟨_, rfl⟩
  rw [← hR]
  unfold DeM.toksBits at hR
  rw [← hxs, ← hys] at hR
  have hc1 := rCodes_any A1 n1 c1 (CoM.ints a) w (by rw [ints_natc]; exact ha) hn1' hab
  rw [← hxs] at hc1
  have HC1 := Lib.hid hc1
  have HC2 : Hid (∀ w', Fr (fun _ => False) w w' → Calls Tryd.prog 62 #[.slice A2 n2 c2] w' fun e w'' => e = .returned (.slice (some ⟨w'.heap.size, 0, none⟩) n2 n2) ∧ Nums w'' w'.heap.size ys ∧ Fr (fun _ => False) w' w'') := Lib.hid (fun w' hf => by
    rw [hys]
    exact rCodes_any A2 n2 c2 (CoM.ints b) w' (by rw [ints_natc]; exact hb.fr hf (fun _ _ h => h)) hn2' (fun ad h => Nat.lt_of_lt_of_le (hbb ad h) hf.size))
  have HR := Lib.hid hR
  have HT := Lib.hid hT
  have HA := Lib.hid (And.intro ha hb)
  have HAL := Lib.hid (And.intro hal hbl)
  have HA15 := Lib.hid (And.intro ha15 hb15)
  have HLN := Lib.hid hln
  have HFIT := Lib.hid hfit
  clear hT hfit ha hb hab hbb ha15 hb15 hal hbl hxs hys hR hc1 hln
  go_enter Tryd.func35, Tryd.ntmps35
  go_wp2_with fail
  refine HC1.out.mono ?_
  rintro e w1 ⟨rfl, hn1w, hf1⟩
  obtain ⟨gx, hgx⟩ : ∃ g, g = w.heap.size := ⟨_, rfl⟩
  rw [← hgx] at hn1w ⊢
  clear hgx
  have HF1 := Lib.hid hf1
  have HNX1 := Lib.hid hn1w
  clear hf1 hn1w HC1
  go_wp2_with fail
  refine (HC2.out w1 HF1.out).mono ?_
  rintro e w2 ⟨rfl, hn2w, hf2⟩
  obtain ⟨gy, hgy⟩ : ∃ g, g = w1.heap.size := ⟨_, rfl⟩
  rw [← hgy] at hn2w ⊢
  clear hgy
  have HF2 := Lib.hid (HF1.out.trans hf2 (fun _ _ h => h))
  have HNX2 := Lib.hid (HNX1.out.fr hf2 (fun h => h))
  have HNY2 := Lib.hid hn2w
  clear hf2 hn2w HC2 HNX1
  go_wp2_with fail
  refine (rLens7_any w2).mono ?_
  rintro e w3 ⟨AL, cL, rfl, hol, hf3⟩
  have hrl := rws_of SyM.lens_len hol
  have HF3 := Lib.hid (HF2.out.trans hf3 (fun _ _ h => h))
  have HF23 := Lib.hid hf3
  have HRL3 := Lib.hid hrl
  clear hol hf3 hrl
  go_wp2_with fail
  refine (rDistances_any w3).mono ?_
  rintro e w0 ⟨AD, cD, rfl, hod, hf4⟩
  have hrd := rws_of SyM.dists_len hod
  have HF0 := Lib.hid (HF3.out.trans hf4 (fun _ _ h => h))
  have HF20 := Lib.hid (HF23.out.trans hf4 (fun _ _ h => h))
  have HRL := Lib.hid (Rws.fr HRL3.out hf4 (fun _ _ h => h))
  have HRD := Lib.hid hrd
  have HNX := Lib.hid (HNX2.out.fr HF20.out (fun h => h))
  have HNY := Lib.hid (HNY2.out.fr HF20.out (fun h => h))
  have HT0 := Lib.hid (HT.out.fr HF0.out (fun _ _ h => h))
  have HA0 : Hid (Rd w0 A1 n1 (a.map natc) ∧ Rd w0 A2 n2 (b.map natc)) := Lib.hid ⟨HA.out.1.fr HF0.out (fun _ _ h => h), HA.out.2.fr HF0.out (fun _ _ h => h)⟩
  obtain ⟨B0, hB0⟩ : ∃ B, B = w0.heap.size := ⟨_, rfl⟩
  have HB0 := Lib.hid hB0
  -- a symbol's cells
  have HX : Hid (∀ s, s < n1 → ∃ al, A1 = some al ∧ w0.cell? ⟨gx, s, none⟩ = some (.int .u64 ((xs[s]! : Nat) : Int)) ∧ w0.cell? (al.add s) = some (.int .i64 ((a[s]! : Nat) : Int)) ∧ xs[s]! < 18446744073709551616 ∧ a[s]! ≤ 15) := Lib.hid (fun s hs => by
    obtain ⟨al, e1, e2⟩ := nat_cell HA0.out.1 hs
    refine ⟨al, e1, nums_cell HNX.out (by rw [HXL.out.1]; exact hs), e2, ?_, ?_⟩
    · rw [getElem!_pos xs s (by rw [HXL.out.1]; exact hs)]; exact HXL.out.2.1 _ (List.getElem_mem _)
    · rw [getElem!_pos a s (by rw [HAL.out.1]; exact hs)]; exact HA15.out.1 _ (List.getElem_mem _))
  have HY : Hid (∀ s, s < n2 → ∃ al, A2 = some al ∧ w0.cell? ⟨gy, s, none⟩ = some (.int .u64 ((ys[s]! : Nat) : Int)) ∧ w0.cell? (al.add s) = some (.int .i64 ((b[s]! : Nat) : Int)) ∧ ys[s]! < 18446744073709551616 ∧ b[s]! ≤ 15) := Lib.hid (fun s hs => by
    obtain ⟨al, e1, e2⟩ := nat_cell HA0.out.2 hs
    refine ⟨al, e1, nums_cell HNY.out (by rw [HXL.out.2.2.1]; exact hs), e2, ?_, ?_⟩
    · rw [getElem!_pos ys s (by rw [HXL.out.2.2.1]; exact hs)]; exact HXL.out.2.2.2 _ (List.getElem_mem _)
    · rw [getElem!_pos b s (by rw [HAL.out.2]; exact hs)]; exact HA15.out.2 _ (List.getElem_mem _))
  have HGW : Hid (w.heap.size ≤ B0) := Lib.hid (by rw [hB0]; exact HF0.out.size)
  clear hod hf4 hrd hB0 HRL3 HNX2 HNY2 HF20 HF23 HF3 HF2 HF1 HT HA HXL HA15
  go_wp2_with fail
  go_loopw [11, 12] (fun m i wr => ∃ (k r : Nat) (D : Option Addr) (d : Nat) (Q : List Bool), k ≤ n ∧ r ≤ 100 * k ∧ i = .int .i64 (k : Int) ∧ m = .slice D r d ∧ Hid (Q = (T.take k).flatMap (DeM.tokBits xs a ys b)) ∧ Hid (wr.ownsRow B0 5 1 (.slice D r d) r (Q.map bitc)) ∧ Hid (Fr (fun _ => False) w0 wr)) (fun _ i _ => n - (intOf i).toNat)
  case atStart => exact ⟨0, 0, none, 0, [], Nat.zero_le _, by omega, rfl, rfl, rfl, World.ownsRow_nil _ _ _ _, Fr.refl _ _⟩
  case round =>
    obtain ⟨k, r, D, d, Q, hk, hr, rfl, rfl, HQ, HO, HF⟩ := hrel
    rename World => wr
    by_cases hlt : k < n
    · obtain ⟨t, ht⟩ : ∃ t, T[k]? = some t := ⟨_, List.getElem?_eq_getElem (by rw [HLN.out]; exact hlt)⟩
      obtain ⟨gi, oi, rfl, hgi, k1, k2, k3⟩ := HT0.out.2 k t ht
      have HTK : Hid ((T.take (k + 1)).flatMap (DeM.tokBits xs a ys b) = (T.take k).flatMap (DeM.tokBits xs a ys b) ++ DeM.tokBits xs a ys b t) := Lib.hid (by
        rw [List.take_add_one, ht]
        simp)
      have hft := HFIT.out t (List.mem_of_getElem? ht)
      rcases fits_cases hft with ⟨bt, rfl⟩ | ⟨L, E, rfl, hL1, hL2, hE1, hE2⟩
      · simp only at k1 k2 k3
        obtain ⟨s, hs⟩ : ∃ s, s = bt.toNat := ⟨_, rfl⟩
        have hs256 : s < 256 := by rw [hs]; exact bt.toNat_lt
        have k1' : w0.cell? ⟨gi, oi + k * 3, none⟩ = some (.int .u8 (s : Int)) := by rw [hs]; exact k1
        have l1 := HF.out.cell k1' (fun h => h)
        have l2 := HF.out.cell k2 (fun h => h)
        obtain ⟨al, rfl, x1, x2, xlt, x15⟩ := HX.out s (by omega)
        obtain ⟨cv, hcv⟩ : ∃ cv, cv = xs[s]! := ⟨_, rfl⟩
        obtain ⟨v, hv⟩ : ∃ v, v = a[s]! := ⟨_, rfl⟩
        rw [← hcv] at x1 xlt
        rw [← hv] at x2 x15
        have cv_lt : cv < 18446744073709551616 := xlt
        have HTB : Hid (DeM.tokBits xs a ys b ⟨bt, 0, 0⟩ = (low cv v).reverse) := Lib.hid (by
          unfold DeM.tokBits DeM.codeBits
          rw [if_pos rfl]
          simp only
          rw [← hs, ← hcv, ← hv, Nat.min_eq_left (by omega)])
        have HKa : Hid (w0.cell? ⟨gx, s, none⟩ = some (.int .u64 (cv : Int)) ∧ w0.cell? (al.add s) = some (.int .i64 (v : Int))) := Lib.hid ⟨x1, x2⟩
        have hcvt : ∀ w : World, (convert 5 3 (.int .u8 (s : Int))).run Tryd.prog w = .ok (.int .i64 (s : Int)) w := by
          intro w
          go_simp
          rw [IntKind.wrap_i64]
          omega
        have hs1 : (s : Int) < (n1 : Int) := by omega
        obtain ⟨rv, hrv⟩ : ∃ rv, rv = r + v := ⟨_, rfl⟩
        have HRa := Lib.hid hrv
        have hrv1 : rv ≤ 2000000 := by omega
        have HRV2 : Hid (rv ≤ 100 * (k + 1)) := Lib.hid (by omega)
        clear ht hgi hft k1 k2 k3 k1' x1 x2 xlt hs hcv hv hrv
        go_wp2_with fail
        refine wp_region_held_drew (S := fun w' => (w'.cell? ⟨gx, s, none⟩ = some (.int .u64 (cv : Int)) ∧ w'.cell? (al.add s) = some (.int .i64 (v : Int)))) (by kernel_rfl) ?_ (fun hHeld => ?_)
        · exact ⟨HF.out.cell HKa.out.1 (fun h => h), HF.out.cell HKa.out.2 (fun h => h)⟩
        refine wpAnyH_take (i := 0) (v := ?va0) rfl (by kernel_rfl) (by kernel_rfl) (by kernel_rfl) (fun _ _ _ h => h) (Or.inl ⟨by rfl, ?hya0⟩) hHeld ?resta0
        case hya0 => intro w hSw; (try dsimp only at hSw); go_simp; try (with_reducible rfl)
        (try simp only [Act.put, List.setIfInBounds_toArray, List.set_cons_zero, List.set_cons_succ, List.getElem_toArray, List.getElem_cons_zero])
        refine wpAnyH_take (i := 1) (v := ?va1) rfl (by kernel_rfl) (by kernel_rfl) (by kernel_rfl) (fun _ _ _ h => h) (Or.inl ⟨by rfl, ?hya1⟩) hHeld ?resta1
        case hya1 => intro w hSw; (try dsimp only at hSw); go_simp; try (with_reducible rfl)
        (try simp only [Act.put, List.setIfInBounds_toArray, List.set_cons_zero, List.set_cons_succ, List.getElem_toArray, List.getElem_cons_zero, List.getElem_cons_succ])
        refine wpAnyH_take (i := 2) (v := ?va2) rfl (by kernel_rfl) (by kernel_rfl) (by kernel_rfl) (fun _ _ _ h => h) (Or.inl ⟨by rfl, ?hya2⟩) hHeld ?resta2
        case hya2 => intro w hSw; (try dsimp only at hSw); go_simp; try (with_reducible rfl)
        (try simp only [Act.put, List.setIfInBounds_toArray, List.set_cons_zero, List.set_cons_succ, List.getElem_toArray, List.getElem_cons_zero, List.getElem_cons_succ])
        refine wpAnyH_take (i := 3) (v := ?va3) rfl (by kernel_rfl) (by kernel_rfl) (by kernel_rfl) (fun _ _ _ h => h) (Or.inl ⟨by rfl, ?hya3⟩) hHeld ?resta3
        case hya3 => intro w hSw; (try dsimp only at hSw); go_simp; try (with_reducible rfl)
        (try simp only [Act.put, List.setIfInBounds_toArray, List.set_cons_zero, List.set_cons_succ, List.getElem_toArray, List.getElem_cons_zero, List.getElem_cons_succ])
        refine wpAnyH_take (i := 4) (v := ?va4) rfl (by kernel_rfl) (by kernel_rfl) (by kernel_rfl) (fun _ _ _ h => h) (Or.inl ⟨by rfl, ?hya4⟩) hHeld ?resta4
        case hya4 => intro w hSw; (try dsimp only at hSw); go_simp; try (with_reducible rfl)
        (try simp only [Act.put, List.setIfInBounds_toArray, List.set_cons_zero, List.set_cons_succ, List.getElem_toArray, List.getElem_cons_zero, List.getElem_cons_succ])
        refine wpAnyH_take (i := 5) (v := ?va5) rfl (by kernel_rfl) (by kernel_rfl) (by kernel_rfl) (fun _ _ _ h => h) (Or.inl ⟨by rfl, ?hya5⟩) hHeld ?resta5
        case hya5 => intro w hSw; (try dsimp only at hSw); go_simp; try (with_reducible rfl)
        (try simp only [Act.put, List.setIfInBounds_toArray, List.set_cons_zero, List.set_cons_succ, List.getElem_toArray, List.getElem_cons_zero, List.getElem_cons_succ])
        refine wpAnyH_take (i := 6) (v := ?va6) rfl (by kernel_rfl) (by kernel_rfl) (by kernel_rfl) (fun _ _ _ h => h) (Or.inl ⟨by rfl, ?hya6⟩) hHeld ?resta6
        case hya6 => intro w hSw; (try dsimp only at hSw); go_simp; try (with_reducible rfl)
        (try simp only [Act.put, List.setIfInBounds_toArray, List.set_cons_zero, List.set_cons_succ, List.getElem_toArray, List.getElem_cons_zero, List.getElem_cons_succ])
        refine wpAnyH_take (i := 7) (v := ?va7) rfl (by kernel_rfl) (by kernel_rfl) (by kernel_rfl) (fun _ _ _ h => h) (Or.inl ⟨by rfl, ?hya7⟩) hHeld ?resta7
        case hya7 => intro w hSw; (try dsimp only at hSw); go_simp; try (with_reducible rfl)
        (try simp only [Act.put, List.setIfInBounds_toArray, List.set_cons_zero, List.set_cons_succ, List.getElem_toArray, List.getElem_cons_zero, List.getElem_cons_succ])
        refine wpAnyH_take (i := 8) (v := ?va8) rfl (by kernel_rfl) (by kernel_rfl) (by kernel_rfl) (fun _ _ _ h => h) (Or.inl ⟨by rfl, ?hya8⟩) hHeld ?resta8
        case hya8 => intro w hSw; (try dsimp only at hSw); go_simp; try (with_reducible rfl)
        (try simp only [Act.put, List.setIfInBounds_toArray, List.set_cons_zero, List.set_cons_succ, List.getElem_toArray, List.getElem_cons_zero, List.getElem_cons_succ])
        refine wpAnyH_ready (rs := [9]) (by kernel_rfl) (by simp) ?_
        refine AllReadyH.cons rfl (fun Kx hKx => ?_) AllReadyH.nil
        go_simp
        refine (high_nat cv v (by omega) cv_lt _).mono ?_
        rintro e wha ⟨Ea, ea, rfl, ho1, hg1⟩
        have HOha : Hid (wha.ownsRow B0 5 1 (.slice D r d) r (Q.map bitc)) := Lib.hid (hg1.own HO.out (fun _ _ h => h))
        have HRha := Lib.hid (Rd.of_own ho1)
        have HFha : Hid (Fr (fun _ => False) w0 wha) := Lib.hid (HF.out.drew.trans hg1 (fun _ _ h => h))
        have HKha : Hid (wha.cell? ⟨gx, s, none⟩ = some (.int .u64 (cv : Int)) ∧ wha.cell? (al.add s) = some (.int .i64 (v : Int))) := Lib.hid ⟨HFha.out.cell HKa.out.1 (fun h => h), HFha.out.cell HKa.out.2 (fun h => h)⟩
        clear ho1 hg1
        refine hKx.out _ _ ?_ (fun hHeld => ?_)
        · exact HKha.out
        clear hKx Kx
        (try simp only [Act.put, List.setIfInBounds_toArray, List.set_cons_zero, List.set_cons_succ, List.getElem_toArray, List.getElem_cons_zero, List.getElem_cons_succ])
        refine wpAnyH_ready (rs := [10]) (by kernel_rfl) (by simp) ?_
        refine AllReadyH.cons rfl (fun Kx hKx => ?_) AllReadyH.nil
        refine step_app u8T _ (by rfl) _ _ (by rfl) B0 _ r (Q.map bitc) (by rfl) HOha.out Ea v ea _ (by rfl) HRha.out (bitc_one _) rv HRa.out (by unfold maxLen; omega) (by omega) (by have h1 := HB0.out; have h2 := HFha.out.size; omega) ?_
        intro D2 d2 wq _ hown10 hfr10
        obtain ⟨Q2, hQ2⟩ : ∃ Q', Q' = Q ++ (low cv v).reverse := ⟨_, rfl⟩
        have HOq : Hid (wq.ownsRow B0 5 1 (.slice D2 rv d2) rv (Q2.map bitc)) := Lib.hid (by rw [hQ2, List.map_append]; exact hown10)
        have HQa := Lib.hid hQ2
        have HFq : Hid (Fr (fun _ => False) w0 wq) := Lib.hid (HFha.out.trans hfr10 (fun b hb h => by have h1 := (HOha.out.lt b h).1; have h2 := HB0.out; omega))
        have HKqa : Hid (wq.cell? ⟨gx, s, none⟩ = some (.int .u64 (cv : Int)) ∧ wq.cell? (al.add s) = some (.int .i64 (v : Int))) := Lib.hid ⟨HFq.out.cell HKa.out.1 (fun h => h), HFq.out.cell HKa.out.2 (fun h => h)⟩
        clear hown10 hfr10 hQ2 HOha HRha HFha HKha
        refine hKx.out _ _ ?_ (fun hHeld => ?_)
        · exact HKqa.out
        clear hKx Kx
        (try simp only [Act.put, List.setIfInBounds_toArray, List.set_cons_zero, List.set_cons_succ, List.getElem_toArray, List.getElem_cons_zero, List.getElem_cons_succ])
        refine wpAnyH_ready (rs := [11]) (by kernel_rfl) (by simp) ?_
        refine AllReadyH.cons rfl (fun Kx hKx => ?_) AllReadyH.nil
        go_simp
        refine hKx.out _ _ ?_ (fun hHeld => ?_)
        · exact HKqa.out
        clear hKx Kx
        (try simp only [Act.put, List.setIfInBounds_toArray, List.set_cons_zero, List.set_cons_succ, List.getElem_toArray, List.getElem_cons_zero, List.getElem_cons_succ])
        refine wpAnyH_done (by kernel_rfl) ?_ _
        go_wp2_with fail
        exact ⟨⟨k + 1, rv, D2, d2, Q2, by omega, HRV2.out, by go_num, rfl, by show _ = _; rw [HQa.out, HQ.out, HTK.out, HTB.out], HOq.out, HFq.out⟩, by simp [intOf]; omega⟩
      · simp only at k1 k2 k3
        have l2 := HF.out.cell k2 (fun h => h)
        have hL0 : ((L : Int) == 0) = false := by simp; omega
        have l3 := HF.out.cell k3 (fun h => h)
        obtain ⟨s, hs⟩ : ∃ s, s = SyM.lenS (L : Int) := ⟨_, rfl⟩
        obtain ⟨x, hx⟩ : ∃ x, x = SyM.lenX (L : Int) := ⟨_, rfl⟩
        obtain ⟨u, hu⟩ : ∃ u, u = SyM.distS (E : Int) := ⟨_, rfl⟩
        obtain ⟨y, hy⟩ : ∃ y, y = SyM.distX (E : Int) := ⟨_, rfl⟩
        have hs29 : s < 29 := by rw [hs]; exact SyM.lenS_lt _
        have hu30 : u < 30 := by rw [hu]; exact SyM.distS_lt _
        have hxis := (SyM.lenX_is (L : Int)).1
        have hyis := (SyM.distX_is (E : Int)).1
        rw [SyM.clampI_id _ _ _ (by omega) (by omega), ← hs, ← hx] at hxis
        rw [SyM.clampI_id _ _ _ (by omega) (by omega), ← hu, ← hy] at hyis
        have hx2 : x ≤ 258 := by rw [hx]; exact (SyM.lenX_le _).1
        have hy2 : y ≤ 32768 := by rw [hy]; exact (SyM.distX_le _).1
        obtain ⟨wl, hwl⟩ : ∃ z, z = SyM.wid SyM.lens s := ⟨_, rfl⟩
        obtain ⟨wd, hwd⟩ : ∃ z, z = SyM.wid SyM.dists u := ⟨_, rfl⟩
        have hwl13 : wl ≤ 13 := by rw [hwl]; exact SyM.lens_wid _
        have hwd13 : wd ≤ 13 := by rw [hwd]; exact SyM.dists_wid _
        have HOL : Hid (∀ w', Fr (fun _ => False) w0 w' → Calls Tryd.prog 66 #[.int .i64 (L : Int), .slice AL 29 cL] w' fun e w'' => e = .returned (.tuple #[.int .i64 (s : Int), .int .i64 (x : Int)]) ∧ Fr (fun _ => False) w' w'') := Lib.hid (fun w' hf => by
          have h := rOf_any (L : Int) AL 29 cL SyM.lens w' (Rws.fr HRL.out hf (fun _ _ h => h)) (by omega) (by omega) (by omega) (by omega) lens_le
          have e1 : SyM.sym (L : Int) SyM.lens = s := by rw [hs, SyM.lenS, SyM.clampI_id _ _ _ (by omega) (by omega)]
          rw [e1, show (L : Int) - (SyM.least SyM.lens s : Int) = (x : Int) by omega] at h
          exact h)
        have HOD : Hid (∀ w', Fr (fun _ => False) w0 w' → Calls Tryd.prog 66 #[.int .i64 (E : Int), .slice AD 30 cD] w' fun e w'' => e = .returned (.tuple #[.int .i64 (u : Int), .int .i64 (y : Int)]) ∧ Fr (fun _ => False) w' w'') := Lib.hid (fun w' hf => by
          have h := rOf_any (E : Int) AD 30 cD SyM.dists w' (Rws.fr HRD.out hf (fun _ _ h => h)) (by omega) (by omega) (by omega) (by omega) dists_le
          have e1 : SyM.sym (E : Int) SyM.dists = u := by rw [hu, SyM.distS, SyM.clampI_id _ _ _ (by omega) (by omega)]
          rw [e1, show (E : Int) - (SyM.least SyM.dists u : Int) = (y : Int) by omega] at h
          exact h)
        obtain ⟨gl, ol, hALe, _, _, lw⟩ := Rws.at_ HRL.out (k := s) hs29
        obtain ⟨gd, od, hADe, _, _, dw⟩ := Rws.at_ HRD.out (k := u) hu30
        rw [← hwl] at lw
        rw [← hwd] at dw
        obtain ⟨q, hq⟩ : ∃ q, q = 257 + s := ⟨_, rfl⟩
        have hq1 : (257 : Int) + (s : Int) = (q : Int) := by omega
        have hq2 : IntKind.i64.wrap ((257 : Int) + (s : Int)) = (q : Int) := by rw [IntKind.wrap_i64]; omega
        have hq3 : IntKind.i64.wrap (q : Int) = (q : Int) := by rw [IntKind.wrap_i64]; omega
        have hqn : (q : Int) < (n1 : Int) := by omega
        have hun : (u : Int) < (n2 : Int) := by omega
        obtain ⟨al, hal, x1, x2, xlt, x15⟩ := HX.out q (by omega)
        obtain ⟨bl, hbl, y1, y2, ylt, y15⟩ := HY.out u (by omega)
        subst hal
        subst hbl
        subst hALe
        subst hADe
        obtain ⟨cv, hcv⟩ : ∃ cv, cv = xs[q]! := ⟨_, rfl⟩
        obtain ⟨v, hv⟩ : ∃ v, v = a[q]! := ⟨_, rfl⟩
        obtain ⟨cz, hcz⟩ : ∃ cv, cv = ys[u]! := ⟨_, rfl⟩
        obtain ⟨z, hz⟩ : ∃ v, v = b[u]! := ⟨_, rfl⟩
        rw [← hcv] at x1 xlt
        rw [← hv] at x2 x15
        rw [← hcz] at y1 ylt
        rw [← hz] at y2 y15
        have cv_lt : cv < 18446744073709551616 := xlt
        have cz_lt : cz < 18446744073709551616 := ylt
        have HTB : Hid (DeM.tokBits xs a ys b ⟨0, (L : Int), (E : Int)⟩ = (low cv v).reverse ++ low x wl ++ ((low cz z).reverse ++ low y wd)) := Lib.hid (by
          unfold DeM.tokBits DeM.codeBits
          rw [if_neg (by simp; omega)]
          simp only
          rw [← hs, ← hx, ← hu, ← hy, ← hwl, ← hwd, ← hq, ← hcv, ← hv, ← hcz, ← hz, Nat.min_eq_left (by omega), Nat.min_eq_left (by omega)])
        have HKb : Hid (w0.cell? ⟨gx, q, none⟩ = some (.int .u64 (cv : Int)) ∧ w0.cell? (al.add q) = some (.int .i64 (v : Int))) := Lib.hid ⟨x1, x2⟩
        have HKd : Hid (w0.cell? ⟨gy, u, none⟩ = some (.int .u64 (cz : Int)) ∧ w0.cell? (bl.add u) = some (.int .i64 (z : Int))) := Lib.hid ⟨y1, y2⟩
        have HLW := Lib.hid lw
        have HDW := Lib.hid dw
        have HK3 := Lib.hid k3
        have hcx := conv_u64 x (by omega)
        have hcy := conv_u64 y (by omega)
        have hs29i : (s : Int) < 29 := by omega
        have hu30i : (u : Int) < 30 := by omega
        obtain ⟨r2, hr2⟩ : ∃ r2, r2 = r + v := ⟨_, rfl⟩
        obtain ⟨r3, hr3⟩ : ∃ r3, r3 = r2 + wl := ⟨_, rfl⟩
        obtain ⟨r4, hr4⟩ : ∃ r4, r4 = r3 + z := ⟨_, rfl⟩
        obtain ⟨r5, hr5⟩ : ∃ r5, r5 = r4 + wd := ⟨_, rfl⟩
        have HRb := Lib.hid hr2
        have HRc := Lib.hid hr3
        have HRd := Lib.hid hr4
        have HRe := Lib.hid hr5
        have hr2b : r2 ≤ 2000000 := by omega
        have hr3b : r3 ≤ 2000000 := by omega
        have hr4b : r4 ≤ 2000000 := by omega
        have hr5b : r5 ≤ 2000000 := by omega
        have HRV2 : Hid (r5 ≤ 100 * (k + 1)) := Lib.hid (by omega)
        clear ht hgi hft k1 k2 k3 l3 x1 x2 xlt y1 y2 ylt lw dw hs hx hu hy hxis hyis hwl hwd hcv hv hcz hz hq hr2 hr3 hr4 hr5
        go_wp2_with fail
        refine (HOL.out wr HF.out).mono ?_
        rintro e w4 ⟨rfl, hf4⟩
        have HOb := Lib.hid (hf4.own HO.out (fun _ _ h => h))
        have HFb := Lib.hid (HF.out.trans hf4 (fun _ _ h => h))
        clear hf4 l2
        go_upto_region 11 with fail
        refine wp_region_held_drew (S := fun w' => (w'.cell? ⟨gx, q, none⟩ = some (.int .u64 (cv : Int)) ∧ w'.cell? (al.add q) = some (.int .i64 (v : Int)))) (by kernel_rfl) ?_ (fun hHeld => ?_)
        · exact ⟨HFb.out.cell HKb.out.1 (fun h => h), HFb.out.cell HKb.out.2 (fun h => h)⟩
        refine wpAnyH_take (i := 0) (v := ?vb0) rfl (by kernel_rfl) (by kernel_rfl) (by kernel_rfl) (fun _ _ _ h => h) (Or.inl ⟨by rfl, ?hyb0⟩) hHeld ?restb0
        case hyb0 => intro w hSw; (try dsimp only at hSw); go_simp; try (with_reducible rfl)
        (try simp only [Act.put, List.setIfInBounds_toArray, List.set_cons_zero, List.set_cons_succ, List.getElem_toArray, List.getElem_cons_zero])
        refine wpAnyH_take (i := 1) (v := ?vb1) rfl (by kernel_rfl) (by kernel_rfl) (by kernel_rfl) (fun _ _ _ h => h) (Or.inl ⟨by rfl, ?hyb1⟩) hHeld ?restb1
        case hyb1 => intro w hSw; (try dsimp only at hSw); go_simp; try (with_reducible rfl)
        (try simp only [Act.put, List.setIfInBounds_toArray, List.set_cons_zero, List.set_cons_succ, List.getElem_toArray, List.getElem_cons_zero, List.getElem_cons_succ])
        refine wpAnyH_take (i := 2) (v := ?vb2) rfl (by kernel_rfl) (by kernel_rfl) (by kernel_rfl) (fun _ _ _ h => h) (Or.inl ⟨by rfl, ?hyb2⟩) hHeld ?restb2
        case hyb2 => intro w hSw; (try dsimp only at hSw); go_simp; try (with_reducible rfl)
        (try simp only [Act.put, List.setIfInBounds_toArray, List.set_cons_zero, List.set_cons_succ, List.getElem_toArray, List.getElem_cons_zero, List.getElem_cons_succ])
        refine wpAnyH_take (i := 3) (v := ?vb3) rfl (by kernel_rfl) (by kernel_rfl) (by kernel_rfl) (fun _ _ _ h => h) (Or.inl ⟨by rfl, ?hyb3⟩) hHeld ?restb3
        case hyb3 => intro w hSw; (try dsimp only at hSw); go_simp; try (with_reducible rfl)
        (try simp only [Act.put, List.setIfInBounds_toArray, List.set_cons_zero, List.set_cons_succ, List.getElem_toArray, List.getElem_cons_zero, List.getElem_cons_succ])
        refine wpAnyH_take (i := 4) (v := ?vb4) rfl (by kernel_rfl) (by kernel_rfl) (by kernel_rfl) (fun _ _ _ h => h) (Or.inl ⟨by rfl, ?hyb4⟩) hHeld ?restb4
        case hyb4 => intro w hSw; (try dsimp only at hSw); go_simp; try (with_reducible rfl)
        (try simp only [Act.put, List.setIfInBounds_toArray, List.set_cons_zero, List.set_cons_succ, List.getElem_toArray, List.getElem_cons_zero, List.getElem_cons_succ])
        refine wpAnyH_take (i := 5) (v := ?vb5) rfl (by kernel_rfl) (by kernel_rfl) (by kernel_rfl) (fun _ _ _ h => h) (Or.inl ⟨by rfl, ?hyb5⟩) hHeld ?restb5
        case hyb5 => intro w hSw; (try dsimp only at hSw); go_simp; try (with_reducible rfl)
        (try simp only [Act.put, List.setIfInBounds_toArray, List.set_cons_zero, List.set_cons_succ, List.getElem_toArray, List.getElem_cons_zero, List.getElem_cons_succ])
        refine wpAnyH_take (i := 6) (v := ?vb6) rfl (by kernel_rfl) (by kernel_rfl) (by kernel_rfl) (fun _ _ _ h => h) (Or.inl ⟨by rfl, ?hyb6⟩) hHeld ?restb6
        case hyb6 => intro w hSw; (try dsimp only at hSw); go_simp; try (with_reducible rfl)
        (try simp only [Act.put, List.setIfInBounds_toArray, List.set_cons_zero, List.set_cons_succ, List.getElem_toArray, List.getElem_cons_zero, List.getElem_cons_succ])
        refine wpAnyH_take (i := 7) (v := ?vb7) rfl (by kernel_rfl) (by kernel_rfl) (by kernel_rfl) (fun _ _ _ h => h) (Or.inl ⟨by rfl, ?hyb7⟩) hHeld ?restb7
        case hyb7 => intro w hSw; (try dsimp only at hSw); go_simp; try (with_reducible rfl)
        (try simp only [Act.put, List.setIfInBounds_toArray, List.set_cons_zero, List.set_cons_succ, List.getElem_toArray, List.getElem_cons_zero, List.getElem_cons_succ])
        refine wpAnyH_take (i := 8) (v := ?vb8) rfl (by kernel_rfl) (by kernel_rfl) (by kernel_rfl) (fun _ _ _ h => h) (Or.inl ⟨by rfl, ?hyb8⟩) hHeld ?restb8
        case hyb8 => intro w hSw; (try dsimp only at hSw); go_simp; try (with_reducible rfl)
        (try simp only [Act.put, List.setIfInBounds_toArray, List.set_cons_zero, List.set_cons_succ, List.getElem_toArray, List.getElem_cons_zero, List.getElem_cons_succ])
        refine wpAnyH_take (i := 9) (v := ?vb9) rfl (by kernel_rfl) (by kernel_rfl) (by kernel_rfl) (fun _ _ _ h => h) (Or.inl ⟨by rfl, ?hyb9⟩) hHeld ?restb9
        case hyb9 => intro w hSw; (try dsimp only at hSw); go_simp; try (with_reducible rfl)
        (try simp only [Act.put, List.setIfInBounds_toArray, List.set_cons_zero, List.set_cons_succ, List.getElem_toArray, List.getElem_cons_zero, List.getElem_cons_succ])
        refine wpAnyH_take (i := 10) (v := ?vb10) rfl (by kernel_rfl) (by kernel_rfl) (by kernel_rfl) (fun _ _ _ h => h) (Or.inl ⟨by rfl, ?hyb10⟩) hHeld ?restb10
        case hyb10 => intro w hSw; (try dsimp only at hSw); go_simp; try (with_reducible rfl)
        (try simp only [Act.put, List.setIfInBounds_toArray, List.set_cons_zero, List.set_cons_succ, List.getElem_toArray, List.getElem_cons_zero, List.getElem_cons_succ])
        refine wpAnyH_ready (rs := [11]) (by kernel_rfl) (by simp) ?_
        refine AllReadyH.cons rfl (fun Kx hKx => ?_) AllReadyH.nil
        go_simp
        refine (high_nat cv v (by omega) cv_lt _).mono ?_
        rintro e whb ⟨Eb, eb, rfl, ho1, hg1⟩
        have HOhb : Hid (whb.ownsRow B0 5 1 (.slice D r d) r (Q.map bitc)) := Lib.hid (hg1.own HOb.out (fun _ _ h => h))
        have HRhb := Lib.hid (Rd.of_own ho1)
        have HFhb : Hid (Fr (fun _ => False) w0 whb) := Lib.hid (HFb.out.drew.trans hg1 (fun _ _ h => h))
        have HKhb : Hid (whb.cell? ⟨gx, q, none⟩ = some (.int .u64 (cv : Int)) ∧ whb.cell? (al.add q) = some (.int .i64 (v : Int))) := Lib.hid ⟨HFhb.out.cell HKb.out.1 (fun h => h), HFhb.out.cell HKb.out.2 (fun h => h)⟩
        clear ho1 hg1
        refine hKx.out _ _ ?_ (fun hHeld => ?_)
        · exact HKhb.out
        clear hKx Kx
        (try simp only [Act.put, List.setIfInBounds_toArray, List.set_cons_zero, List.set_cons_succ, List.getElem_toArray, List.getElem_cons_zero, List.getElem_cons_succ])
        refine wpAnyH_ready (rs := [12]) (by kernel_rfl) (by simp) ?_
        refine AllReadyH.cons rfl (fun Kx hKx => ?_) AllReadyH.nil
        refine step_app u8T _ (by rfl) _ _ (by rfl) B0 _ r (Q.map bitc) (by rfl) HOhb.out Eb v eb _ (by rfl) HRhb.out (bitc_one _) r2 HRb.out (by unfold maxLen; omega) (by omega) (by have h1 := HB0.out; have h2 := HFhb.out.size; omega) ?_
        intro D2 d2 w5 _ hown10 hfr10
        obtain ⟨Q2, hQ2⟩ : ∃ Q', Q' = Q ++ (low cv v).reverse := ⟨_, rfl⟩
        have HOc : Hid (w5.ownsRow B0 5 1 (.slice D2 r2 d2) r2 (Q2.map bitc)) := Lib.hid (by rw [hQ2, List.map_append]; exact hown10)
        have HQb := Lib.hid hQ2
        have HFc : Hid (Fr (fun _ => False) w0 w5) := Lib.hid (HFhb.out.trans hfr10 (fun b hb h => by have h1 := (HOhb.out.lt b h).1; have h2 := HB0.out; omega))
        have HKqb : Hid (w5.cell? ⟨gx, q, none⟩ = some (.int .u64 (cv : Int)) ∧ w5.cell? (al.add q) = some (.int .i64 (v : Int))) := Lib.hid ⟨HFc.out.cell HKb.out.1 (fun h => h), HFc.out.cell HKb.out.2 (fun h => h)⟩
        clear hown10 hfr10 hQ2 HOhb HRhb HFhb HKhb
        refine hKx.out _ _ ?_ (fun hHeld => ?_)
        · exact HKqb.out
        clear hKx Kx
        (try simp only [Act.put, List.setIfInBounds_toArray, List.set_cons_zero, List.set_cons_succ, List.getElem_toArray, List.getElem_cons_zero, List.getElem_cons_succ])
        refine wpAnyH_ready (rs := [13]) (by kernel_rfl) (by simp) ?_
        refine AllReadyH.cons rfl (fun Kx hKx => ?_) AllReadyH.nil
        go_simp
        refine hKx.out _ _ ?_ (fun hHeld => ?_)
        · exact HKqb.out
        clear hKx Kx
        (try simp only [Act.put, List.setIfInBounds_toArray, List.set_cons_zero, List.set_cons_succ, List.getElem_toArray, List.getElem_cons_zero, List.getElem_cons_succ])
        refine wpAnyH_done (by kernel_rfl) ?_ _
        have lwq := HFc.out.cell HLW.out (fun h => h)
        go_wp2_with fail
        refine (low_nat x wl (by omega) (by omega) _).mono ?_
        rintro e wlc ⟨Ec, ec, rfl, ho1, hg1⟩
        have HOhc : Hid (wlc.ownsRow B0 5 1 (.slice D2 r2 d2) r2 (Q2.map bitc)) := Lib.hid (hg1.own HOc.out (fun _ _ h => h))
        have HRhc := Lib.hid (Rd.of_own ho1)
        have HFhc : Hid (Fr (fun _ => False) w0 wlc) := Lib.hid (HFc.out.trans hg1 (fun _ _ h => h))
        clear ho1 hg1
        go_wp2_with (at_builtin; refine wpList_appN u8T _ rfl _ _ rfl B0 _ r2 _ rfl HOhc.out _ wl _ _ rfl HRhc.out (bitc_one _) r3 HRc.out (by unfold maxLen; omega) (by omega) (by have h1 := HFhc.out.size; have h2 := HB0.out; omega) ?_)
        intro D3 d3 w6 _ _ hown10 hfr10 _
        obtain ⟨Q3, hQ3⟩ : ∃ Q', Q' = Q2 ++ low x wl := ⟨_, rfl⟩
        have HOd : Hid (w6.ownsRow B0 5 1 (.slice D3 r3 d3) r3 (Q3.map bitc)) := Lib.hid (by rw [hQ3, List.map_append]; exact hown10)
        have HQc := Lib.hid hQ3
        have HFd : Hid (Fr (fun _ => False) w0 w6) := Lib.hid (HFhc.out.trans hfr10 (fun b hb h => by have h1 := (HOhc.out.lt b h).1; have h2 := HB0.out; omega))
        clear hown10 hfr10 hQ3 HOhc HRhc HFhc
        have l3q := HFd.out.cell HK3.out (fun h => h)
        clear lwq
        go_wp2_with fail
        refine (HOD.out w6 HFd.out).mono ?_
        rintro e w7 ⟨rfl, hf7⟩
        have HOe := Lib.hid (hf7.own HOd.out (fun _ _ h => h))
        have HFe := Lib.hid (HFd.out.trans hf7 (fun _ _ h => h))
        clear hf7 l3q
        go_upto_region 14 with fail
        refine wp_region_held_drew (S := fun w' => (w'.cell? ⟨gy, u, none⟩ = some (.int .u64 (cz : Int)) ∧ w'.cell? (bl.add u) = some (.int .i64 (z : Int)))) (by kernel_rfl) ?_ (fun hHeld => ?_)
        · exact ⟨HFe.out.cell HKd.out.1 (fun h => h), HFe.out.cell HKd.out.2 (fun h => h)⟩
        refine wpAnyH_take (i := 0) (v := ?vc0) rfl (by kernel_rfl) (by kernel_rfl) (by kernel_rfl) (fun _ _ _ h => h) (Or.inl ⟨by rfl, ?hyc0⟩) hHeld ?restc0
        case hyc0 => intro w hSw; (try dsimp only at hSw); go_simp; try (with_reducible rfl)
        (try simp only [Act.put, List.setIfInBounds_toArray, List.set_cons_zero, List.set_cons_succ, List.getElem_toArray, List.getElem_cons_zero])
        refine wpAnyH_take (i := 1) (v := ?vc1) rfl (by kernel_rfl) (by kernel_rfl) (by kernel_rfl) (fun _ _ _ h => h) (Or.inl ⟨by rfl, ?hyc1⟩) hHeld ?restc1
        case hyc1 => intro w hSw; (try dsimp only at hSw); go_simp; try (with_reducible rfl)
        (try simp only [Act.put, List.setIfInBounds_toArray, List.set_cons_zero, List.set_cons_succ, List.getElem_toArray, List.getElem_cons_zero, List.getElem_cons_succ])
        refine wpAnyH_take (i := 2) (v := ?vc2) rfl (by kernel_rfl) (by kernel_rfl) (by kernel_rfl) (fun _ _ _ h => h) (Or.inl ⟨by rfl, ?hyc2⟩) hHeld ?restc2
        case hyc2 => intro w hSw; (try dsimp only at hSw); go_simp; try (with_reducible rfl)
        (try simp only [Act.put, List.setIfInBounds_toArray, List.set_cons_zero, List.set_cons_succ, List.getElem_toArray, List.getElem_cons_zero, List.getElem_cons_succ])
        refine wpAnyH_take (i := 3) (v := ?vc3) rfl (by kernel_rfl) (by kernel_rfl) (by kernel_rfl) (fun _ _ _ h => h) (Or.inl ⟨by rfl, ?hyc3⟩) hHeld ?restc3
        case hyc3 => intro w hSw; (try dsimp only at hSw); go_simp; try (with_reducible rfl)
        (try simp only [Act.put, List.setIfInBounds_toArray, List.set_cons_zero, List.set_cons_succ, List.getElem_toArray, List.getElem_cons_zero, List.getElem_cons_succ])
        refine wpAnyH_take (i := 4) (v := ?vc4) rfl (by kernel_rfl) (by kernel_rfl) (by kernel_rfl) (fun _ _ _ h => h) (Or.inl ⟨by rfl, ?hyc4⟩) hHeld ?restc4
        case hyc4 => intro w hSw; (try dsimp only at hSw); go_simp; try (with_reducible rfl)
        (try simp only [Act.put, List.setIfInBounds_toArray, List.set_cons_zero, List.set_cons_succ, List.getElem_toArray, List.getElem_cons_zero, List.getElem_cons_succ])
        refine wpAnyH_take (i := 5) (v := ?vc5) rfl (by kernel_rfl) (by kernel_rfl) (by kernel_rfl) (fun _ _ _ h => h) (Or.inl ⟨by rfl, ?hyc5⟩) hHeld ?restc5
        case hyc5 => intro w hSw; (try dsimp only at hSw); go_simp; try (with_reducible rfl)
        (try simp only [Act.put, List.setIfInBounds_toArray, List.set_cons_zero, List.set_cons_succ, List.getElem_toArray, List.getElem_cons_zero, List.getElem_cons_succ])
        refine wpAnyH_take (i := 6) (v := ?vc6) rfl (by kernel_rfl) (by kernel_rfl) (by kernel_rfl) (fun _ _ _ h => h) (Or.inl ⟨by rfl, ?hyc6⟩) hHeld ?restc6
        case hyc6 => intro w hSw; (try dsimp only at hSw); go_simp; try (with_reducible rfl)
        (try simp only [Act.put, List.setIfInBounds_toArray, List.set_cons_zero, List.set_cons_succ, List.getElem_toArray, List.getElem_cons_zero, List.getElem_cons_succ])
        refine wpAnyH_take (i := 7) (v := ?vc7) rfl (by kernel_rfl) (by kernel_rfl) (by kernel_rfl) (fun _ _ _ h => h) (Or.inl ⟨by rfl, ?hyc7⟩) hHeld ?restc7
        case hyc7 => intro w hSw; (try dsimp only at hSw); go_simp; try (with_reducible rfl)
        (try simp only [Act.put, List.setIfInBounds_toArray, List.set_cons_zero, List.set_cons_succ, List.getElem_toArray, List.getElem_cons_zero, List.getElem_cons_succ])
        refine wpAnyH_take (i := 8) (v := ?vc8) rfl (by kernel_rfl) (by kernel_rfl) (by kernel_rfl) (fun _ _ _ h => h) (Or.inl ⟨by rfl, ?hyc8⟩) hHeld ?restc8
        case hyc8 => intro w hSw; (try dsimp only at hSw); go_simp; try (with_reducible rfl)
        (try simp only [Act.put, List.setIfInBounds_toArray, List.set_cons_zero, List.set_cons_succ, List.getElem_toArray, List.getElem_cons_zero, List.getElem_cons_succ])
        refine wpAnyH_ready (rs := [9]) (by kernel_rfl) (by simp) ?_
        refine AllReadyH.cons rfl (fun Kx hKx => ?_) AllReadyH.nil
        go_simp
        refine (high_nat cz z (by omega) cz_lt _).mono ?_
        rintro e whd ⟨Ed, ed, rfl, ho1, hg1⟩
        have HOhd : Hid (whd.ownsRow B0 5 1 (.slice D3 r3 d3) r3 (Q3.map bitc)) := Lib.hid (hg1.own HOe.out (fun _ _ h => h))
        have HRhd := Lib.hid (Rd.of_own ho1)
        have HFhd : Hid (Fr (fun _ => False) w0 whd) := Lib.hid (HFe.out.drew.trans hg1 (fun _ _ h => h))
        have HKhd : Hid (whd.cell? ⟨gy, u, none⟩ = some (.int .u64 (cz : Int)) ∧ whd.cell? (bl.add u) = some (.int .i64 (z : Int))) := Lib.hid ⟨HFhd.out.cell HKd.out.1 (fun h => h), HFhd.out.cell HKd.out.2 (fun h => h)⟩
        clear ho1 hg1
        refine hKx.out _ _ ?_ (fun hHeld => ?_)
        · exact HKhd.out
        clear hKx Kx
        (try simp only [Act.put, List.setIfInBounds_toArray, List.set_cons_zero, List.set_cons_succ, List.getElem_toArray, List.getElem_cons_zero, List.getElem_cons_succ])
        refine wpAnyH_ready (rs := [10]) (by kernel_rfl) (by simp) ?_
        refine AllReadyH.cons rfl (fun Kx hKx => ?_) AllReadyH.nil
        refine step_app u8T _ (by rfl) _ _ (by rfl) B0 _ r3 (Q3.map bitc) (by rfl) HOhd.out Ed z ed _ (by rfl) HRhd.out (bitc_one _) r4 HRd.out (by unfold maxLen; omega) (by omega) (by have h1 := HB0.out; have h2 := HFhd.out.size; omega) ?_
        intro D4 d4 w8 _ hown10 hfr10
        obtain ⟨Q4, hQ4⟩ : ∃ Q', Q' = Q3 ++ (low cz z).reverse := ⟨_, rfl⟩
        have HOf : Hid (w8.ownsRow B0 5 1 (.slice D4 r4 d4) r4 (Q4.map bitc)) := Lib.hid (by rw [hQ4, List.map_append]; exact hown10)
        have HQd := Lib.hid hQ4
        have HFf : Hid (Fr (fun _ => False) w0 w8) := Lib.hid (HFhd.out.trans hfr10 (fun b hb h => by have h1 := (HOhd.out.lt b h).1; have h2 := HB0.out; omega))
        have HKqd : Hid (w8.cell? ⟨gy, u, none⟩ = some (.int .u64 (cz : Int)) ∧ w8.cell? (bl.add u) = some (.int .i64 (z : Int))) := Lib.hid ⟨HFf.out.cell HKd.out.1 (fun h => h), HFf.out.cell HKd.out.2 (fun h => h)⟩
        clear hown10 hfr10 hQ4 HOhd HRhd HFhd HKhd
        refine hKx.out _ _ ?_ (fun hHeld => ?_)
        · exact HKqd.out
        clear hKx Kx
        (try simp only [Act.put, List.setIfInBounds_toArray, List.set_cons_zero, List.set_cons_succ, List.getElem_toArray, List.getElem_cons_zero, List.getElem_cons_succ])
        refine wpAnyH_ready (rs := [11]) (by kernel_rfl) (by simp) ?_
        refine AllReadyH.cons rfl (fun Kx hKx => ?_) AllReadyH.nil
        go_simp
        refine hKx.out _ _ ?_ (fun hHeld => ?_)
        · exact HKqd.out
        clear hKx Kx
        (try simp only [Act.put, List.setIfInBounds_toArray, List.set_cons_zero, List.set_cons_succ, List.getElem_toArray, List.getElem_cons_zero, List.getElem_cons_succ])
        refine wpAnyH_done (by kernel_rfl) ?_ _
        have dwq := HFf.out.cell HDW.out (fun h => h)
        go_wp2_with fail
        refine (low_nat y wd (by omega) (by omega) _).mono ?_
        rintro e wle ⟨Ee, ee, rfl, ho1, hg1⟩
        have HOhe : Hid (wle.ownsRow B0 5 1 (.slice D4 r4 d4) r4 (Q4.map bitc)) := Lib.hid (hg1.own HOf.out (fun _ _ h => h))
        have HRhe := Lib.hid (Rd.of_own ho1)
        have HFhe : Hid (Fr (fun _ => False) w0 wle) := Lib.hid (HFf.out.trans hg1 (fun _ _ h => h))
        clear ho1 hg1
        go_wp2_with (at_builtin; refine wpList_appN u8T _ rfl _ _ rfl B0 _ r4 _ rfl HOhe.out _ wd _ _ rfl HRhe.out (bitc_one _) r5 HRe.out (by unfold maxLen; omega) (by omega) (by have h1 := HFhe.out.size; have h2 := HB0.out; omega) ?_)
        intro D5 d5 w9 _ _ hown10 hfr10 _
        obtain ⟨Q5, hQ5⟩ : ∃ Q', Q' = Q4 ++ low y wd := ⟨_, rfl⟩
        have HOg : Hid (w9.ownsRow B0 5 1 (.slice D5 r5 d5) r5 (Q5.map bitc)) := Lib.hid (by rw [hQ5, List.map_append]; exact hown10)
        have HQe := Lib.hid hQ5
        have HFg : Hid (Fr (fun _ => False) w0 w9) := Lib.hid (HFhe.out.trans hfr10 (fun b hb h => by have h1 := (HOhe.out.lt b h).1; have h2 := HB0.out; omega))
        clear hown10 hfr10 hQ5 HOhe HRhe HFhe
        clear dwq
        go_wp2_with fail
        exact ⟨⟨k + 1, r5, D5, d5, Q5, by omega, HRV2.out, by go_num, rfl, by show _ = _; rw [HQe.out, HQd.out, HQc.out, HQb.out, HQ.out, HTK.out, HTB.out]; simp only [List.append_assoc], HOg.out, HFg.out⟩, by simp [intOf]; omega⟩
    · obtain rfl : k = n := by omega
      rw [List.take_of_length_le (by rw [HLN.out]; omega)] at HQ
      obtain ⟨al, rfl, x1, x2, xlt, x15⟩ := HX.out 256 (by omega)
      obtain ⟨cv, hcv⟩ : ∃ cv, cv = xs[256]! := ⟨_, rfl⟩
      obtain ⟨v, hv⟩ : ∃ v, v = a[256]! := ⟨_, rfl⟩
      rw [← hcv] at x1 xlt
      rw [← hv] at x2 x15
      have cv_lt : cv < 18446744073709551616 := xlt
      have x2' : w0.cell? ⟨al.block, al.off + 256, none⟩ = some (.int .i64 (v : Int)) := by rw [← add_lit256]; exact x2
      have HKz : Hid (w0.cell? ⟨gx, 256, none⟩ = some (.int .u64 (cv : Int)) ∧ w0.cell? ⟨al.block, al.off + 256, none⟩ = some (.int .i64 (v : Int))) := Lib.hid ⟨x1, x2'⟩
      have HEND : Hid (R = Q ++ (low cv v).reverse) := Lib.hid (by
        rw [HR.out, HQ.out, DeM.codeBits, ← hcv, ← hv, Nat.min_eq_left (by omega)])
      have hn1i : (256 : Int) < (n1 : Int) := by omega
      have hn1q : 256 < n1 := by omega
      obtain ⟨rv, hrv⟩ : ∃ rv, rv = r + v := ⟨_, rfl⟩
      have HRz := Lib.hid hrv
      have hrv1 : rv ≤ 2000000 := by omega
      clear x1 x2 x2' xlt hcv hv hrv
      go_upto_region 16 with fail
      refine wp_region_held_drew (S := fun w' => (w'.cell? ⟨gx, 256, none⟩ = some (.int .u64 (cv : Int)) ∧ w'.cell? ⟨al.block, al.off + 256, none⟩ = some (.int .i64 (v : Int)))) (by kernel_rfl) ?_ (fun hHeld => ?_)
      · exact ⟨HF.out.cell HKz.out.1 (fun h => h), HF.out.cell HKz.out.2 (fun h => h)⟩
      refine wpAnyH_take (i := 0) (v := ?vd0) rfl (by kernel_rfl) (by kernel_rfl) (by kernel_rfl) (fun _ _ _ h => h) (Or.inl ⟨by rfl, ?hyd0⟩) hHeld ?restd0
      case hyd0 => intro w hSw; (try dsimp only at hSw); go_simp; try (with_reducible rfl)
      (try simp only [Act.put, List.setIfInBounds_toArray, List.set_cons_zero, List.set_cons_succ, List.getElem_toArray, List.getElem_cons_zero])
      refine wpAnyH_take (i := 1) (v := ?vd1) rfl (by kernel_rfl) (by kernel_rfl) (by kernel_rfl) (fun _ _ _ h => h) (Or.inl ⟨by rfl, ?hyd1⟩) hHeld ?restd1
      case hyd1 => intro w hSw; (try dsimp only at hSw); go_simp; try (with_reducible rfl)
      (try simp only [Act.put, List.setIfInBounds_toArray, List.set_cons_zero, List.set_cons_succ, List.getElem_toArray, List.getElem_cons_zero, List.getElem_cons_succ])
      refine wpAnyH_take (i := 2) (v := ?vd2) rfl (by kernel_rfl) (by kernel_rfl) (by kernel_rfl) (fun _ _ _ h => h) (Or.inl ⟨by rfl, ?hyd2⟩) hHeld ?restd2
      case hyd2 => intro w hSw; (try dsimp only at hSw); go_simp; try (with_reducible rfl)
      (try simp only [Act.put, List.setIfInBounds_toArray, List.set_cons_zero, List.set_cons_succ, List.getElem_toArray, List.getElem_cons_zero, List.getElem_cons_succ])
      refine wpAnyH_take (i := 3) (v := ?vd3) rfl (by kernel_rfl) (by kernel_rfl) (by kernel_rfl) (fun _ _ _ h => h) (Or.inl ⟨by rfl, ?hyd3⟩) hHeld ?restd3
      case hyd3 => intro w hSw; (try dsimp only at hSw); go_simp; try (with_reducible rfl)
      (try simp only [Act.put, List.setIfInBounds_toArray, List.set_cons_zero, List.set_cons_succ, List.getElem_toArray, List.getElem_cons_zero, List.getElem_cons_succ])
      refine wpAnyH_take (i := 4) (v := ?vd4) rfl (by kernel_rfl) (by kernel_rfl) (by kernel_rfl) (fun _ _ _ h => h) (Or.inl ⟨by rfl, ?hyd4⟩) hHeld ?restd4
      case hyd4 => intro w hSw; (try dsimp only at hSw); go_simp; try (with_reducible rfl)
      (try simp only [Act.put, List.setIfInBounds_toArray, List.set_cons_zero, List.set_cons_succ, List.getElem_toArray, List.getElem_cons_zero, List.getElem_cons_succ])
      refine wpAnyH_take (i := 5) (v := ?vd5) rfl (by kernel_rfl) (by kernel_rfl) (by kernel_rfl) (fun _ _ _ h => h) (Or.inl ⟨by rfl, ?hyd5⟩) hHeld ?restd5
      case hyd5 => intro w hSw; (try dsimp only at hSw); go_simp; try (with_reducible rfl)
      (try simp only [Act.put, List.setIfInBounds_toArray, List.set_cons_zero, List.set_cons_succ, List.getElem_toArray, List.getElem_cons_zero, List.getElem_cons_succ])
      refine wpAnyH_take (i := 6) (v := ?vd6) rfl (by kernel_rfl) (by kernel_rfl) (by kernel_rfl) (fun _ _ _ h => h) (Or.inl ⟨by rfl, ?hyd6⟩) hHeld ?restd6
      case hyd6 => intro w hSw; (try dsimp only at hSw); go_simp; try (with_reducible rfl)
      (try simp only [Act.put, List.setIfInBounds_toArray, List.set_cons_zero, List.set_cons_succ, List.getElem_toArray, List.getElem_cons_zero, List.getElem_cons_succ])
      refine wpAnyH_ready (rs := [7]) (by kernel_rfl) (by simp) ?_
      refine AllReadyH.cons rfl (fun Kx hKx => ?_) AllReadyH.nil
      go_simp
      refine (high_nat cv v (by omega) cv_lt _).mono ?_
      rintro e whz ⟨Ez, ez, rfl, ho1, hg1⟩
      have HOhz : Hid (whz.ownsRow B0 5 1 (.slice D r d) r (Q.map bitc)) := Lib.hid (hg1.own HO.out (fun _ _ h => h))
      have HRhz := Lib.hid (Rd.of_own ho1)
      have HFhz : Hid (Fr (fun _ => False) w0 whz) := Lib.hid (HF.out.drew.trans hg1 (fun _ _ h => h))
      have HKhz : Hid (whz.cell? ⟨gx, 256, none⟩ = some (.int .u64 (cv : Int)) ∧ whz.cell? ⟨al.block, al.off + 256, none⟩ = some (.int .i64 (v : Int))) := Lib.hid ⟨HFhz.out.cell HKz.out.1 (fun h => h), HFhz.out.cell HKz.out.2 (fun h => h)⟩
      clear ho1 hg1
      refine hKx.out _ _ ?_ (fun hHeld => ?_)
      · exact HKhz.out
      clear hKx Kx
      (try simp only [Act.put, List.setIfInBounds_toArray, List.set_cons_zero, List.set_cons_succ, List.getElem_toArray, List.getElem_cons_zero, List.getElem_cons_succ])
      refine wpAnyH_ready (rs := [8]) (by kernel_rfl) (by simp) ?_
      refine AllReadyH.cons rfl (fun Kx hKx => ?_) AllReadyH.nil
      refine step_app u8T _ (by rfl) _ _ (by rfl) B0 _ r (Q.map bitc) (by rfl) HOhz.out Ez v ez _ (by rfl) HRhz.out (bitc_one _) rv HRz.out (by unfold maxLen; omega) (by omega) (by have h1 := HB0.out; have h2 := HFhz.out.size; omega) ?_
      intro D2 d2 wq _ hown10 hfr10
      obtain ⟨Q2, hQ2⟩ : ∃ Q', Q' = Q ++ (low cv v).reverse := ⟨_, rfl⟩
      have HOq : Hid (wq.ownsRow B0 5 1 (.slice D2 rv d2) rv (Q2.map bitc)) := Lib.hid (by rw [hQ2, List.map_append]; exact hown10)
      have HQz := Lib.hid hQ2
      have HFq : Hid (Fr (fun _ => False) w0 wq) := Lib.hid (HFhz.out.trans hfr10 (fun b hb h => by have h1 := (HOhz.out.lt b h).1; have h2 := HB0.out; omega))
      have HKqz : Hid (wq.cell? ⟨gx, 256, none⟩ = some (.int .u64 (cv : Int)) ∧ wq.cell? ⟨al.block, al.off + 256, none⟩ = some (.int .i64 (v : Int))) := Lib.hid ⟨HFq.out.cell HKz.out.1 (fun h => h), HFq.out.cell HKz.out.2 (fun h => h)⟩
      clear hown10 hfr10 hQ2 HOhz HRhz HFhz HKhz
      refine hKx.out _ _ ?_ (fun hHeld => ?_)
      · exact HKqz.out
      clear hKx Kx
      (try simp only [Act.put, List.setIfInBounds_toArray, List.set_cons_zero, List.set_cons_succ, List.getElem_toArray, List.getElem_cons_zero, List.getElem_cons_succ])
      refine wpAnyH_ready (rs := [9]) (by kernel_rfl) (by simp) ?_
      refine AllReadyH.cons rfl (fun Kx hKx => ?_) AllReadyH.nil
      go_simp
      refine hKx.out _ _ ?_ (fun hHeld => ?_)
      · exact HKqz.out
      clear hKx Kx
      (try simp only [Act.put, List.setIfInBounds_toArray, List.set_cons_zero, List.set_cons_succ, List.getElem_toArray, List.getElem_cons_zero, List.getElem_cons_succ])
      refine wpAnyH_done (by kernel_rfl) ?_ _
      go_wp2_with fail
      go_ret
      have hq2 : Q2 = R := by rw [HQz.out, HEND.out]
      subst hq2
      have hrl : rv = Q2.length := by have h := HOq.out.1; simp at h; omega
      subst hrl
      exact ⟨D2, d2, rfl, own_base HOq.out HGW.out, HF0.out.trans HFq.out (fun _ _ h => h)⟩
end Go.Proofs.YtahfmcdhcbfkaaaDoor
