/-
  Contract of layer 5's reference: Next.
  Layer 5: what a function that answers lengths by weights keeps.
-/
import Derived.Test.YtjghcacepneipaaDoorZm14
import Derived.Test.YtjghcacepneipaaDoorZm10
namespace Go.Proofs.YtjghcacepneipaaDoor
open Go.RowKit HuffM Mem Go.Lib

set_option maxRecDepth 100000 in
set_option maxHeartbeats 1600000 in
theorem rNext_any (A : Option Addr) (n c : Nat) (L : List Int) (D : Option Addr) (m d : Nat) (B : List UInt8) (w : World) (hr : Rd w A n (L.map intc)) (hn : n ≤ 1000) (hA : ∀ ad, A = some ad → ad.block < w.heap.size)
    (hb : Rd w D m (B.map bytec)) (hL : ∀ x ∈ L, inR x = true) :
    Calls Tryd.prog 44 #[.slice A n c, .slice D m d] w fun e w' => e = .returned (.tuple #[.int .i64 (nextS L B).1, .int .i64 (nextS L B).2]) ∧ Fr (fun _ => False) w w' := by
  have hln : L.length = n := by simpa using hr.1
  have hbm : B.length = m := by simpa using hb.1
  have HR := Lib.hid hr
  have HB := Lib.hid hb
  have HLN := Lib.hid hln
  have HBM := Lib.hid hbm
  have HL := Lib.hid hL
  have HC := Lib.hid (rCodes_any A n c L w hr hn hA)
  clear hr hb hln hbm hL hA
  go_enter Tryd.func44, Tryd.ntmps44
  go_wp2_with fail
  refine HC.out.mono ?_
  rintro e w1 ⟨rfl, hn1, hf1⟩
  obtain ⟨g, hg⟩ : ∃ g, g = w.heap.size := ⟨_, rfl⟩
  rw [← hg] at hn1 ⊢
  have hr1 := HR.out.fr hf1 (fun _ _ h => h)
  have hb1 := HB.out.fr hf1 (fun _ _ h => h)
  have hrc : Rd w1 (some ⟨g, 0, none⟩) n ((codesL L).map numc) := by
    have h := hn1.rd
    rw [codes_len, HLN.out] at h
    exact h
  have HR1 := Lib.hid hr1
  have HB1 := Lib.hid hb1
  have HRC := Lib.hid hrc
  have HF1 := Lib.hid hf1
  clear hn1 hg hr1 hb1 hrc hf1 HC HR HB
  go_wp2_with fail
  go_loop [7] (fun i => ∃ s : Nat, s ≤ n ∧ i = .int .i64 (s : Int) ∧ Hid (firstHit L B s = none)) (fun i => n - (intOf i).toNat)
  case atStart => exact ⟨0, by omega, rfl, rfl⟩
  case round =>
    obtain ⟨s, hs, rfl, HN⟩ := hrel
    by_cases hlt : s < n
    · obtain ⟨ad, u, rfl, hu, hcell⟩ := HR1.out.at_ hlt
      obtain ⟨x, hx⟩ : ∃ x, L[s]? = some x := ⟨_, List.getElem?_eq_getElem (by have := HLN.out; omega)⟩
      obtain rfl : intc x = u := by simpa [hx] using hu
      unfold intc at hcell
      have hgd : L.getD s 0 = x := by rw [List.getD_eq_getElem?_getD, hx]; rfl
      have hxr := HL.out x (List.mem_of_getElem? hx)
      have hx0 : 0 ≤ x ∧ x ≤ 15 := by simpa [inR] using hxr
      obtain ⟨hx0, hx15⟩ := hx0
      obtain ⟨q, hq⟩ : ∃ q, (codesL L)[s]? = some q := ⟨_, List.getElem?_eq_getElem (by rw [codes_len]; have := HLN.out; omega)⟩
      have hqc : w1.cell? ⟨g, s, none⟩ = some (.int .u64 (q : Int)) := by
        obtain ⟨ad', e, h⟩ := HRC.out.2 (by omega)
        injection e with e
        subst e
        have := h s (numc q) (by rw [List.getElem?_map, hq]; rfl)
        rwa [show (⟨g, 0, none⟩ : Addr).add s = ⟨g, s, none⟩ from by unfold Addr.add; split <;> simp_all] at this
      have hq64 := codes_lt L q (List.mem_of_getElem? hq)
      have hqd : (codesL L).getD s 0 = q := by rw [List.getD_eq_getElem?_getD, hq]; rfl
      obtain ⟨k, rfl⟩ := Int.eq_ofNat_of_zero_le hx0
      have hk15 : k ≤ 15 := by omega
      have hit : hits L B s = (decide (k ≠ 0) && decide (k ≤ m) && (bcode B k == q)) := by
        unfold hits
        simp only [hgd, hqd, HBM.out, Int.toNat_natCast]
        congr 2
        · rw [Bool.eq_iff_iff]; simp
        · rw [Bool.eq_iff_iff]; simp
      have HIT := Lib.hid hit
      have HGD := Lib.hid hgd
      clear hu hx hgd hxr hq hqd hit hx0 hx15
      by_cases hk0 : k = 0
      · have t : ((k : Int) == 0) = true := by simp; omega
        have e : firstHit L B (s + 1) = none := by rw [first_step HN.out, HIT.out]; simp [hk0]
        have E := Lib.hid e
        clear e hk0
        go_wp2
        go_round
        case rel => exact ⟨s + 1, by omega, by go_num, E⟩
        case measure => simp [intOf] <;> omega
      · have t : ((k : Int) == 0) = false := by simp; omega
        by_cases hkm : k ≤ m
        · have t2 : decide (m < k) = false := by simp; omega
          have hkp : bcode B k < 18446744073709551616 := by
            have h1 := bcode_lt B k
            have h2 := Nat.pow_le_pow_right (show 0 < 2 by omega) hk15
            omega
          go_wp2_with fail
          go_loop [9, 10] (fun a i => ∃ j y : Nat, j ≤ k ∧ i = .int .i64 (j : Int) ∧ a = .int .u64 (y : Int) ∧ y ≤ 255 * 32767 ∧ Hid (y = bcode B j)) (fun _ i => k - (intOf i).toNat)
          case atStart => exact ⟨0, 0, by omega, rfl, rfl, by omega, rfl⟩
          case round =>
            obtain ⟨j, y, hj, rfl, rfl, hy, Hy⟩ := hrel
            by_cases hjk : j < k
            · obtain ⟨ad2, v, rfl, hv, hc2⟩ := HB1.out.at_ (show j < m by omega)
              obtain ⟨b, hb⟩ : ∃ b, B[j]? = some b := ⟨_, List.getElem?_eq_getElem (by have := HBM.out; omega)⟩
              obtain rfl : bytec b = v := by simpa [hb] using hv
              unfold bytec at hc2
              have hb256 := b.toNat_lt
              have hst := bcode_succ hb
              rw [← Hy.out] at hst
              have hbd : 2 * y + b.toNat ≤ 255 * 32767 := by
                have h1 := bcode_lt B (j + 1)
                have h2 := Nat.pow_le_pow_right (show 0 < 2 by omega) (show j + 1 ≤ 15 by omega)
                omega
              have HST := Lib.hid hst
              clear hv hb hst
              go_wp2
              go_round
              case rel => exact ⟨j + 1, 2 * y + b.toNat, by omega, by go_num, by go_num, hbd, HST.out.symm⟩
              case measure => simp [intOf] <;> omega
            · obtain rfl : j = k := by omega
              by_cases hyq : y = q
              · have t3 : ((y : Int) == (q : Int)) = true := by simp; omega
                have hh : hits L B s = true := by rw [HIT.out, ← Hy.out]; simp [hk0, hkm, hyq]
                have hn : nextS L B = ((s : Int), (j : Int)) := by
                  unfold nextS
                  rw [first_of HN.out hh (by rw [HLN.out]; exact hlt)]
                  simp only [HGD.out]
                have HNX := Lib.hid hn
                clear hh hn hyq
                go_wp2
                rw [HNX.out]
                exact bodyPost_ret (v := .tuple #[.int .i64 (s : Int), .int .i64 (j : Int)]) (by simp [results, Tryd.results44, go_sem]) rfl ⟨rfl, HF1.out⟩
              · have t3 : ((y : Int) == (q : Int)) = false := by simp; omega
                have e : firstHit L B (s + 1) = none := by rw [first_step HN.out, HIT.out, ← Hy.out]; simp [hyq]
                have E := Lib.hid e
                clear e hyq
                go_wp2
                go_round
                case rel => exact ⟨s + 1, by omega, by go_num, E⟩
                case measure => simp [intOf] <;> omega
        · have t2 : decide (m < k) = true := by simp; omega
          have e : firstHit L B (s + 1) = none := by rw [first_step HN.out, HIT.out]; simp [hkm]
          have E := Lib.hid e
          clear e hkm
          go_wp2
          go_round
          case rel => exact ⟨s + 1, by omega, by go_num, E⟩
          case measure => simp [intOf] <;> omega
    · obtain rfl : s = n := by omega
      have hn : nextS L B = (-1, 0) := by
        unfold nextS
        rw [HLN.out, HN.out]
      have HNX := Lib.hid hn
      clear hn
      go_wp2
      rw [HNX.out]
      exact bodyPost_ret (v := .tuple #[.int .i64 (-1), .int .i64 0]) (by simp [results, Tryd.results44, go_sem]) rfl ⟨rfl, HF1.out⟩
end Go.Proofs.YtjghcacepneipaaDoor
namespace Go.Proofs.YtjghcacepneipaaDoor
open Go.RowKit HuffM Mem Go.Lib

/-- a function answers the lengths by weights -/
def LensC (f : FuncId) : Prop := ∀ (A : Option Addr) (n c m : Nat) (W : List Nat) (w : World), Rd w A n (W.map natc) → n ≤ c → n ≤ 1000 → (∀ ad, A = some ad → ad.block < w.heap.size) → (∀ x ∈ W, x ≤ 1073741824) → 1 ≤ m → m ≤ 15 → cnt W ≤ 2 ^ m →
    Calls Tryd.prog f #[.int .i64 (m : Int), .slice A n c] w fun e w' => ∃ A' c', e = .returned (.slice A' n c') ∧ n ≤ c' ∧ Rd w' A' n ((lens m W).map natc) ∧ Fr (fun _ => False) w w' ∧ ∀ ad, A' = some ad → ad.block < w'.heap.size
theorem natc_int (L : List Nat) : ∀ v ∈ L.map natc, ∃ x : Int, v = .int .i64 x := by
  intro v hv
  obtain ⟨x, _, rfl⟩ := List.mem_map.1 hv
  exact ⟨x, rfl⟩
end Go.Proofs.YtjghcacepneipaaDoor
