/-
  The law BitsReads: whatever is read of any bytes is the document's.
-/
import Derived.Test.YtfhhhgmabfdacaaF
import Derived.Deep.DeepMust
namespace Go.Proofs.Ytfhhhgmabfdacaa
open Go.RowKit BitsM Mem

theorem cut_both {w : World} {A : Option Addr} {N cap : Nat} {B : List UInt8} (h : Rd w A N ((bitsOf B).map bitc)) {k m : Nat} (hk : k ≤ m) (hm : m ≤ N) (hc : N ≤ cap) :
    (cap = k → Rd w A (m - k) ((cut B k (m - k)).map bitc)) ∧ Rd w (A.map (·.add k)) (m - k) ((cut B k (m - k)).map bitc) := by
  have e : (((bitsOf B).map bitc).take m).drop k = (cut B k (m - k)).map bitc := by
    rw [← List.map_take, ← List.map_drop, List.drop_take]
    rfl
  refine ⟨fun hck => ?_, by rw [← e]; exact h.cut' hk hm⟩
  have h0 : m - k = 0 := by omega
  rw [h0]
  exact Rd.nil w A
theorem cut_if {w : World} {A : Option Addr} {N cap : Nat} {B : List UInt8} (h : Rd w A N ((bitsOf B).map bitc)) {k m : Nat} (hk : k ≤ m) (hm : m ≤ N) (hc : N ≤ cap) :
    Rd w (if cap = k then A else A.map (·.add k)) (m - k) ((cut B k (m - k)).map bitc) := by
  have h2 := cut_both h hk hm hc
  split
  · exact h2.1 ‹_›
  · exact h2.2
theorem num_cut_lt (B : List UInt8) (p n : Nat) (hn : n ≤ 64) : num (cut B p n) < 18446744073709551616 := by
  have h1 := num_lt (cut B p n)
  have h2 : (cut B p n).length ≤ 64 := by unfold cut; simp; omega
  exact Nat.lt_of_lt_of_le h1 (Nat.pow_le_pow_right (show 0 < 2 by omega) h2)

theorem bytes_both {w : World} {A : Option Addr} {N cap : Nat} {B : List UInt8} (h : Rd w A N (B.map bytec)) {k m : Nat} (hk : k ≤ m) (hm : m ≤ N) (hc : N ≤ cap) :
    (cap = k → Rd w A (m - k) (((B.drop k).take (m - k)).map bytec)) ∧ Rd w (A.map (·.add k)) (m - k) (((B.drop k).take (m - k)).map bytec) := by
  have e : ((B.map bytec).take m).drop k = ((B.drop k).take (m - k)).map bytec := by
    rw [← List.map_take, ← List.map_drop, List.drop_take]
  refine ⟨fun hck => ?_, by rw [← e]; exact h.cut' hk hm⟩
  have h0 : m - k = 0 := by omega
  rw [h0]
  exact Rd.nil w A
theorem Rd.heap {w W : World} {A : Option Addr} {n : Nat} {xs : List Value} (h : Rd w A n xs) (e : W.heap = w.heap) : Rd W A n xs :=
  ⟨h.1, fun hn => by
    obtain ⟨ad, hA, hc⟩ := h.2 hn
    exact ⟨ad, hA, fun j u hu => by
      have := hc j u hu
      simp only [World.cell?, e] at this ⊢
      exact this⟩⟩

set_option maxRecDepth 100000 in
set_option maxHeartbeats 16000000 in
theorem reads_law (A0 A : Option Addr) (n c0 m c : Nat) (B : List UInt8) (l : List ActD) (w : World) (hb : Rd w A0 n (B.map bytec)) (hc0 : n ≤ c0) (hcm0 : c0 ≤ maxLen) (hl : Acts w A m l) (_hc : m ≤ c) (_hm : c ≤ maxLen) :
    Calls Try.prog 4 #[.slice A0 n c0, .slice A m c] w fun e w' => e = .returned (.bool true) ∧ Fr (fun _ => False) w w' := by
  have hc := _hc
  have hm := _hm
  have HB := Lib.hid hb
  have HL := Lib.hid hl
  have hBn : B.length = n := by simpa using hb.1
  unfold maxLen at hcm0 hm
  have HBn := Lib.hid hBn
  clear hb hl hBn
  by_cases hn3 : 300 < n
  · go_enter Try.func4, Try.ntmps4
    go_wp2_with fail
    refine (awake_any _).mono ?_
    rintro e w1 ⟨rfl, hfr1⟩
    go_wp2_with fail
    refine (awake_any _).mono ?_
    rintro e w3 ⟨rfl, hfr3⟩
    go_wp2
    go_ret
    exact ⟨rfl, hfr1.trans hfr3 (fun _ _ h => h)⟩
  by_cases hm3 : 300 < m
  · go_enter Try.func4, Try.ntmps4
    go_wp2_with fail
    refine (awake_any _).mono ?_
    rintro e w1 ⟨rfl, hfr1⟩
    go_wp2_with fail
    refine (awake_any _).mono ?_
    rintro e w3 ⟨rfl, hfr3⟩
    go_wp2
    go_ret
    exact ⟨rfl, hfr1.trans hfr3 (fun _ _ h => h)⟩
  have t1 : decide (300 < (n : Int)) = false := by simp; omega
  have t2 : decide (300 < (m : Int)) = false := by simp; omega
  go_enter Try.func4, Try.ntmps4
  go_wp2_with fail
  refine (awake_any _).mono ?_
  rintro e w1 ⟨rfl, hfr1⟩
  go_wp2_with fail
  refine (new_any A0 n c0 B _ (HB.out.fr hfr1 (fun _ _ h => h)) (by omega)).mono ?_
  rintro e w4 ⟨r, A3, c3, rfl, hre, hrsz, hA3, hfr4⟩
  have hfw4 := hfr1.trans hfr4 (fun _ _ h => h)
  have HRE4 := Lib.hid hre
  have hrw : w.heap.size ≤ r := by have := hfr1.size; omega
  have hr4 := lt_of_heap hre.1
  have hA34 : ∀ k, bl A3 = some k → k < w4.heap.size := fun k hk => own_lt hre.2.1 (by rw [bl_own]; exact hk)
  clear hre hrsz hA3 hfr4
  go_wp2_with fail
  refine (of_any A0 n c0 B _ (HB.out.fr hfw4 (fun _ _ h => h)) (by omega)).mono ?_
  rintro e w5 ⟨A5, c5, rfl, hown5, hfr5⟩
  have HRE5 := Lib.hid (HRE4.out.fr hfr5 (fun h => h) (fun _ _ h => h))
  have hfw5 := hfw4.trans hfr5 (fun _ _ h => h)
  have hA5r : ∀ ad, A5 = some ad → ad.block ≠ r := by
    intro ad hA e
    have := hown5.lt ad.block (by rw [bl_own, hA]; rfl)
    omega
  have hc5 := own_cap hown5
  have hcap5 : 8 * n ≤ c5 := hc5.2.1
  have hcm5 : c5 ≤ 9223372036854775807 := by have := hc5.2.2; unfold maxLen at this; omega
  have HALL := Lib.hid (Rd.of_own hown5)
  have HA5r := Lib.hid hA5r
  clear hown5 hfr5 hA34 hc5 hfr1 hA5r
  obtain ⟨T, hT⟩ : ∃ T, T = 8 * n := ⟨_, rfl⟩
  rw [← hT] at hcap5 HALL ⊢
  have hT2 : T ≤ 2400 := by omega
  have HT := Lib.hid hT
  clear hT
  go_wp2_with fail
  go_loopw [7, 8] (fun a i wr => ∃ k p : Nat, k ≤ m ∧ i = .int .i64 k ∧ a = .int .i64 (p : Int) ∧ Re wr r A3 c3 B p ∧ Fr (fun k => k = r) w5 wr)
    (fun _ i _ => m - (intOf i).toNat)
  case atStart => exact ⟨0, 0, by omega, rfl, rfl, HRE5.out, Fr.refl _ _⟩
  case round =>
    obtain ⟨k, p, hk, rfl, rfl, hre, hfr⟩ := hrel
    have HRE := Lib.hid hre
    have hpT : p ≤ T := by have := hre.2.2; have h1 := HT.out; have h2 := HBn.out; omega
    have hfw := hfw5.trans hfr (fun b hb h => by omega)
    have hBl : B.length ≤ 1099511627776 := by have h2 := HBn.out; omega
    clear hre
    by_cases hlt : k < m
    · obtain ⟨b, o, x, rfl, hx, hat0⟩ := HL.out.at_ hlt
      have hat := hat0.fr hfw
      have h0 := hat.c0
      have h1 := hat.c1
      have hd := hat.d
      have hN0 := hat.N0
      have hN1 := hat.N1
      obtain ⟨E, hE⟩ : ∃ E, E = ends p := ⟨_, rfl⟩
      have hE1 : ((p : Int) + 7) / 8 * 8 = (E : Int) := by have := ends_eq p; omega
      have hET : E ≤ T := by rw [hE, HT.out]; exact ends_le p n (by have := HT.out; omega)
      have hpE : p ≤ E := by rw [hE]; unfold ends; omega
      have hE8 : E % 8 = 0 := by rw [hE]; exact ends_mod p
      have HE := Lib.hid hE
      have HE1 := Lib.hid hE1
      clear hx hat0 hat hE hE1
      rcases (show x.d % 4 = 0 ∨ x.d % 4 = 1 ∨ x.d % 4 = 2 ∨ x.d % 4 = 3 by omega) with hd4 | hd4 | hd4 | hd4
      · as_aux_lemma =>
        by_cases hno : x.N < 0 ∨ 64 < x.N ∨ (T : Int) - (p : Int) < x.N
        · have hno2 := bits_no r c3 p A3 B x.N _ HRE.out hBl (by have h1 := HT.out; have h2 := HBn.out; omega)
          have HNO := Lib.hid hno2
          clear hno2
          have hcases : x.N < 0 ∨ (¬ x.N < 0 ∧ 64 < x.N) ∨ (¬ x.N < 0 ∧ ¬ 64 < x.N ∧ (T : Int) - (p : Int) < x.N) := by omega
          clear hno
          rcases hcases with hno | ⟨hno, hno1⟩ | ⟨hno, hno1, hno2⟩
          all_goals
            go_wp2_with fail
            rw [HE1.out]
            refine HNO.out.mono ?_
            rintro e w6 ⟨rfl, hre6, hfr6⟩
            have HRE6 := Lib.hid hre6
            have hfr56 := hfr.trans hfr6 (fun _ _ h => h.elim)
            clear hre6 hfr6
            have hat := at_any r c3 p A3 B w6 HRE6.out
            have hleft := left_any r c3 p A3 B w6 HRE6.out hBl
            obtain ⟨D, hD⟩ : ∃ D, D = 8 * B.length - p := ⟨_, rfl⟩
            rw [← hD] at hleft
            have hD1 : D + p ≤ T := by have h1 := HT.out; have h2 := HBn.out; omega
            have hD2 : T ≤ D + p := by have h1 := HT.out; have h2 := HBn.out; omega
            have HAt := Lib.hid hat
            have HLeft := Lib.hid hleft
            clear hat hleft hD
            go_wp2_with fail
            refine HAt.out.mono ?_
            rintro e w8 ⟨rfl, rfl⟩
            go_wp2_with fail
            refine HLeft.out.mono ?_
            rintro e w8 ⟨rfl, rfl⟩
            go_wp2_with fail
            go_roundw
            case rel => exact ⟨k + 1, p, by omega, by go_num, by rfl, (HRE6.out).drew, (hfr56).drew⟩
            case measure => simp [intOf] <;> omega
        · obtain ⟨nn, hnn⟩ : ∃ nn : Nat, x.N = nn := ⟨x.N.toNat, by omega⟩
          rw [hnn] at h1 hno
          have hnn64 : nn ≤ 64 := by omega
          have hpn : p + nn ≤ T := by omega
          clear hnn hno hN0 hN1
          rcases (show p = c5 ∨ ¬ c5 = p by omega) with hcp | hcp
          all_goals
            try subst hcp
            go_wp2_with fail
            rw [HE1.out]
            refine (bits_ok r c3 p A3 B nn _ HRE.out hBl hnn64 (by have h1 := HT.out; have h2 := HBn.out; omega)).mono ?_
            rintro e w6 ⟨rfl, hre6, hfr6⟩
            have HRE6 := Lib.hid hre6
            have hfr56 := hfr.trans hfr6 (fun _ _ h => h)
            have hcb := cut_both (HALL.out.fr hfr56 (fun ad hA h => HA5r.out ad hA h)) (k := p) (m := p + nn) (by omega) hpn hcap5
            rw [Nat.add_sub_cancel_left] at hcb
            have HCB := Lib.hid hcb
            have hz64 := num_cut_lt B p nn hnn64
            obtain ⟨z, hz⟩ : ∃ z, z = num (cut B p nn) := ⟨_, rfl⟩
            rw [← hz] at hz64 ⊢
            have HZ := Lib.hid hz
            clear hre6 hfr6 hcb hz
            go_wp2_with fail
            all_goals
              refine (num_any _ _ _ (cut B p nn) _ (by first | exact HCB.out.2 | exact HCB.out.1 (by first | rfl | assumption | trivial)) (by omega)).mono ?_
              rintro e w7 ⟨rfl, rfl⟩
              rw [← HZ.out]
              have hat := at_any r c3 (p + nn) A3 B w6 HRE6.out
              have hleft := left_any r c3 (p + nn) A3 B w6 HRE6.out hBl
              obtain ⟨D, hD⟩ : ∃ D, D = 8 * B.length - (p + nn) := ⟨_, rfl⟩
              rw [← hD] at hleft
              have hD1 : D + (p + nn) ≤ T := by have h1 := HT.out; have h2 := HBn.out; omega
              have hD2 : T ≤ D + (p + nn) := by have h1 := HT.out; have h2 := HBn.out; omega
              have HAt := Lib.hid hat
              have HLeft := Lib.hid hleft
              clear hat hleft hD
              go_wp2_with fail
              refine HAt.out.mono ?_
              rintro e w8 ⟨rfl, rfl⟩
              go_wp2_with fail
              refine HLeft.out.mono ?_
              rintro e w8 ⟨rfl, rfl⟩
              go_wp2_with fail
              go_roundw
              case rel => exact ⟨k + 1, (p + nn), by omega, by go_num, by go_num, (HRE6.out).drew, (hfr56).drew⟩
              case measure => simp [intOf] <;> omega
      · as_aux_lemma =>
        by_cases hno : x.N < 0 ∨ 64 < x.N ∨ (T : Int) - (p : Int) < x.N
        · have hno2 := bits_no r c3 p A3 B x.N _ HRE.out hBl (by have h1 := HT.out; have h2 := HBn.out; omega)
          have HNO := Lib.hid hno2
          clear hno2
          have hcases : x.N < 0 ∨ (¬ x.N < 0 ∧ 64 < x.N) ∨ (¬ x.N < 0 ∧ ¬ 64 < x.N ∧ (T : Int) - (p : Int) < x.N) := by omega
          clear hno
          rcases hcases with hno | ⟨hno, hno1⟩ | ⟨hno, hno1, hno2⟩
          all_goals
            go_wp2_with fail
            rw [HE1.out]
            refine HNO.out.mono ?_
            rintro e w6 ⟨rfl, hre6, hfr6⟩
            have HRE6 := Lib.hid hre6
            have hfr56 := hfr.trans hfr6 (fun _ _ h => h.elim)
            clear hre6 hfr6
            have hat := at_any r c3 p A3 B w6 HRE6.out
            have hleft := left_any r c3 p A3 B w6 HRE6.out hBl
            obtain ⟨D, hD⟩ : ∃ D, D = 8 * B.length - p := ⟨_, rfl⟩
            rw [← hD] at hleft
            have hD1 : D + p ≤ T := by have h1 := HT.out; have h2 := HBn.out; omega
            have hD2 : T ≤ D + p := by have h1 := HT.out; have h2 := HBn.out; omega
            have HAt := Lib.hid hat
            have HLeft := Lib.hid hleft
            clear hat hleft hD
            go_wp2_with fail
            refine HAt.out.mono ?_
            rintro e w8 ⟨rfl, rfl⟩
            go_wp2_with fail
            refine HLeft.out.mono ?_
            rintro e w8 ⟨rfl, rfl⟩
            go_wp2_with fail
            go_roundw
            case rel => exact ⟨k + 1, p, by omega, by go_num, by rfl, (HRE6.out).drew, (hfr56).drew⟩
            case measure => simp [intOf] <;> omega
        · obtain ⟨nn, hnn⟩ : ∃ nn : Nat, x.N = nn := ⟨x.N.toNat, by omega⟩
          rw [hnn] at h1 hno
          have hnn64 : nn ≤ 64 := by omega
          have hpn : p + nn ≤ T := by omega
          clear hnn hno hN0 hN1
          rcases (show p = c5 ∨ ¬ c5 = p by omega) with hcp | hcp
          all_goals
            try subst hcp
            go_wp2_with fail
            rw [HE1.out]
            refine (bits_ok r c3 p A3 B nn _ HRE.out hBl hnn64 (by have h1 := HT.out; have h2 := HBn.out; omega)).mono ?_
            rintro e w6 ⟨rfl, hre6, hfr6⟩
            have HRE6 := Lib.hid hre6
            have hfr56 := hfr.trans hfr6 (fun _ _ h => h)
            have hcb := cut_both (HALL.out.fr hfr56 (fun ad hA h => HA5r.out ad hA h)) (k := p) (m := p + nn) (by omega) hpn hcap5
            rw [Nat.add_sub_cancel_left] at hcb
            have HCB := Lib.hid hcb
            have hz64 := num_cut_lt B p nn hnn64
            obtain ⟨z, hz⟩ : ∃ z, z = num (cut B p nn) := ⟨_, rfl⟩
            rw [← hz] at hz64 ⊢
            have HZ := Lib.hid hz
            clear hre6 hfr6 hcb hz
            go_wp2_with fail
            all_goals
              refine (num_any _ _ _ (cut B p nn) _ (by first | exact HCB.out.2 | exact HCB.out.1 (by first | rfl | assumption | trivial)) (by omega)).mono ?_
              rintro e w7 ⟨rfl, rfl⟩
              rw [← HZ.out]
              have hat := at_any r c3 (p + nn) A3 B w6 HRE6.out
              have hleft := left_any r c3 (p + nn) A3 B w6 HRE6.out hBl
              obtain ⟨D, hD⟩ : ∃ D, D = 8 * B.length - (p + nn) := ⟨_, rfl⟩
              rw [← hD] at hleft
              have hD1 : D + (p + nn) ≤ T := by have h1 := HT.out; have h2 := HBn.out; omega
              have hD2 : T ≤ D + (p + nn) := by have h1 := HT.out; have h2 := HBn.out; omega
              have HAt := Lib.hid hat
              have HLeft := Lib.hid hleft
              clear hat hleft hD
              go_wp2_with fail
              refine HAt.out.mono ?_
              rintro e w8 ⟨rfl, rfl⟩
              go_wp2_with fail
              refine HLeft.out.mono ?_
              rintro e w8 ⟨rfl, rfl⟩
              go_wp2_with fail
              go_roundw
              case rel => exact ⟨k + 1, (p + nn), by omega, by go_num, by go_num, (HRE6.out).drew, (hfr56).drew⟩
              case measure => simp [intOf] <;> omega
      · as_aux_lemma =>
        have hlE : lack p = E - p := by have := HE.out; unfold ends at this; omega
        have hal := ralign_any r c3 p A3 B wr.drew HRE.out.drew hBl
        rw [← HE.out, hlE] at hal
        have hE64 : E - p ≤ 64 := by have := lack_lt p; omega
        clear hlE
        rcases (show p = c5 ∨ ¬ c5 = p by omega) with hcp | hcp
        · subst hcp
          have hEp : E - p = 0 := by omega
          rw [hEp, show (num (cut B p 0) == 0) = true from by simp [cut, num]] at hal
          have HAL := Lib.hid hal
          clear hal hEp hE64
          go_wp2_with fail
          rw [HE1.out]
          go_region_with (first
            | (go_at_call 24
               go_must (refine HAL.out.mono ?_
                        rintro e w6 ⟨rfl, hre6, hfr6⟩
                        have HRE6 := Lib.hid hre6
                        have hfr56 := (hfr.drew).trans hfr6 (fun _ _ h => h)
                        clear hre6 hfr6))
            | (go_at_call 23
               go_must (refine (num_any _ _ _ ([] : List Bool) _ (Rd.nil _ _) (by omega)).mono ?_
                        rintro e w7 ⟨rfl, rfl⟩
                        rw [show ((num ([] : List Bool) : Nat) : Int) = 0 from rfl]))
            | fail)
          all_goals
            have hat := at_any r c3 E A3 B w6 HRE6.out
            have hleft := left_any r c3 E A3 B w6 HRE6.out hBl
            obtain ⟨D, hD⟩ : ∃ D, D = 8 * B.length - E := ⟨_, rfl⟩
            rw [← hD] at hleft
            have hD1 : D + E ≤ T := by have h1 := HT.out; have h2 := HBn.out; omega
            have hD2 : T ≤ D + E := by have h1 := HT.out; have h2 := HBn.out; omega
            have HAt := Lib.hid hat
            have HLeft := Lib.hid hleft
            clear hat hleft hD
            go_wp2_with fail
            refine HAt.out.mono ?_
            rintro e w8 ⟨rfl, rfl⟩
            go_wp2_with fail
            refine HLeft.out.mono ?_
            rintro e w8 ⟨rfl, rfl⟩
            go_wp2_with fail
            go_roundw
            case rel => exact ⟨k + 1, E, by omega, by go_num, by rfl, (HRE6.out).drew, (hfr56).drew⟩
            case measure => simp [intOf] <;> omega
        · have hzl := num_cut_lt B p (E - p) hE64
          obtain ⟨z, hz⟩ : ∃ z, z = num (cut B p (E - p)) := ⟨_, rfl⟩
          rw [← hz] at hal hzl
          have HZ := Lib.hid hz
          clear hz
          rcases Nat.eq_zero_or_pos z with hz0 | hz0
          · rw [hz0, show ((0 : Nat) == 0) = true from rfl] at hal
            have hzi : ((num (cut B p (E - p)) : Nat) : Int) = 0 := by rw [← HZ.out, hz0]; rfl
            have HZI := Lib.hid hzi
            have HAL := Lib.hid hal
            clear hal hzi hz0 hzl
            go_wp2_with fail
            rw [HE1.out]
            go_region_with (first
              | (go_at_call 24
                 go_must (refine HAL.out.mono ?_
                          rintro e w6 ⟨rfl, hre6, hfr6⟩
                          have HRE6 := Lib.hid hre6
                          have hfr56 := (hfr.drew).trans hfr6 (fun _ _ h => h)
                          have HCB := Lib.hid (cut_both (HALL.out.fr hfr56 (fun ad hA h => HA5r.out ad hA h)) (k := p) (m := E) hpE hET hcap5)
                          clear hre6 hfr6))
              | (go_at_call 23
                 go_must (refine (num_any _ _ _ (cut B p (E - p)) _ HCB.out.2 hE64).mono ?_
                          rintro e w7 ⟨rfl, rfl⟩
                          rw [HZI.out]))
              | fail)
            all_goals
              have hat := at_any r c3 E A3 B w6 HRE6.out
              have hleft := left_any r c3 E A3 B w6 HRE6.out hBl
              obtain ⟨D, hD⟩ : ∃ D, D = 8 * B.length - E := ⟨_, rfl⟩
              rw [← hD] at hleft
              have hD1 : D + E ≤ T := by have h1 := HT.out; have h2 := HBn.out; omega
              have hD2 : T ≤ D + E := by have h1 := HT.out; have h2 := HBn.out; omega
              have HAt := Lib.hid hat
              have HLeft := Lib.hid hleft
              clear hat hleft hD
              go_wp2_with fail
              refine HAt.out.mono ?_
              rintro e w8 ⟨rfl, rfl⟩
              go_wp2_with fail
              refine HLeft.out.mono ?_
              rintro e w8 ⟨rfl, rfl⟩
              go_wp2_with fail
              go_roundw
              case rel => exact ⟨k + 1, E, by omega, by go_num, by rfl, (HRE6.out).drew, (hfr56).drew⟩
              case measure => simp [intOf] <;> omega
          · have hzf : ((z : Int) == 0) = false := by simp; omega
            rw [show (z == 0) = false from by simp; omega] at hal
            have HAL := Lib.hid hal
            clear hal
            go_wp2_with fail
            rw [HE1.out]
            go_region_with (first
              | (go_at_call 24
                 go_must (refine HAL.out.mono ?_
                          rintro e w6 ⟨rfl, hre6, hfr6⟩
                          have HRE6 := Lib.hid hre6
                          have hfr56 := (hfr.drew).trans hfr6 (fun _ _ h => h)
                          have HCB := Lib.hid (cut_both (HALL.out.fr hfr56 (fun ad hA h => HA5r.out ad hA h)) (k := p) (m := E) hpE hET hcap5)
                          clear hre6 hfr6))
              | (go_at_call 23
                 go_must (refine (num_any _ _ _ (cut B p (E - p)) _ HCB.out.2 hE64).mono ?_
                          rintro e w7 ⟨rfl, rfl⟩
                          rw [← HZ.out]))
              | fail)
            all_goals
              have hat := at_any r c3 E A3 B w6 HRE6.out
              have hleft := left_any r c3 E A3 B w6 HRE6.out hBl
              obtain ⟨D, hD⟩ : ∃ D, D = 8 * B.length - E := ⟨_, rfl⟩
              rw [← hD] at hleft
              have hD1 : D + E ≤ T := by have h1 := HT.out; have h2 := HBn.out; omega
              have hD2 : T ≤ D + E := by have h1 := HT.out; have h2 := HBn.out; omega
              have HAt := Lib.hid hat
              have HLeft := Lib.hid hleft
              clear hat hleft hD
              go_wp2_with fail
              refine HAt.out.mono ?_
              rintro e w8 ⟨rfl, rfl⟩
              go_wp2_with fail
              refine HLeft.out.mono ?_
              rintro e w8 ⟨rfl, rfl⟩
              go_wp2_with fail
              go_roundw
              case rel => exact ⟨k + 1, E, by omega, by go_num, by rfl, (HRE6.out).drew, (hfr56).drew⟩
              case measure => simp [intOf] <;> omega
      · as_aux_lemma =>
        by_cases hno : x.N < 0 ∨ ((T : Int) - (E : Int)) / 8 < x.N
        · have hno2 := rraw_no r c3 p A3 B x.N _ HRE.out hBl (by have h1 := HT.out; have h2 := HBn.out; rw [← HE.out]; omega)
          rw [← HE.out] at hno2
          have HNO := Lib.hid hno2
          clear hno2
          have hcases : x.N < 0 ∨ (¬ x.N < 0 ∧ ((T : Int) - (E : Int)) / 8 < x.N) := by omega
          clear hno
          rcases hcases with hno | ⟨hno, hno1⟩
          all_goals
            go_wp2_with fail
            rw [HE1.out]
            refine HNO.out.mono ?_
            rintro e w6 ⟨rfl, hre6, hfr6⟩
            have HRE6 := Lib.hid hre6
            have hfr56 := hfr.trans hfr6 (fun _ _ h => h)
            clear hre6 hfr6
            have hat := at_any r c3 E A3 B w6 HRE6.out
            have hleft := left_any r c3 E A3 B w6 HRE6.out hBl
            obtain ⟨D, hD⟩ : ∃ D, D = 8 * B.length - E := ⟨_, rfl⟩
            rw [← hD] at hleft
            have hD1 : D + E ≤ T := by have h1 := HT.out; have h2 := HBn.out; omega
            have hD2 : T ≤ D + E := by have h1 := HT.out; have h2 := HBn.out; omega
            have HAt := Lib.hid hat
            have HLeft := Lib.hid hleft
            clear hat hleft hD
            go_wp2_with fail
            refine HAt.out.mono ?_
            rintro e w8 ⟨rfl, rfl⟩
            go_wp2_with fail
            refine HLeft.out.mono ?_
            rintro e w8 ⟨rfl, rfl⟩
            go_wp2_with fail
            go_roundw
            case rel => exact ⟨k + 1, E, by omega, by go_num, by rfl, (HRE6.out).drew, (hfr56).drew⟩
            case measure => simp [intOf] <;> omega
        · obtain ⟨nn, hnn⟩ : ∃ nn : Nat, x.N = nn := ⟨x.N.toNat, by omega⟩
          rw [hnn] at h1 hno
          have hEn : E + 8 * nn ≤ T := by omega
          clear hnn hN0 hN1
          have hok := rraw_ok r c3 p A3 B nn _ HRE.out hBl (by have h1 := HT.out; have h2 := HBn.out; rw [← HE.out]; omega)
          rw [← HE.out] at hok
          have HOK := Lib.hid hok
          obtain ⟨f, hf⟩ : ∃ f, f = E / 8 := ⟨_, rfl⟩
          have hq1 : IntKind.i64.wrap ((E : Int) / 8) = (f : Int) := by rw [IntWalk.i64_in _ (by omega)]; omega
          have hfn : f + nn ≤ n := by have h1 := HT.out; omega
          have hq2 : IntKind.i64.wrap ((f : Int) + (nn : Int)) = (f : Int) + (nn : Int) := IntWalk.i64_in _ (by omega)
          clear hno
          go_wp2_with fail
          rw [HE1.out]
          refine HOK.out.mono ?_
          rintro e w6 ⟨A6, c6, rfl, hown6, hre6, hfr6⟩
          have HRE6 := Lib.hid hre6
          have hfr56 := hfr.trans hfr6 (fun _ _ h => h)
          have hfw6 := hfw5.trans hfr56 (fun b hb h => by omega)
          have hbb := bytes_both (HB.out.fr hfw6 (fun _ _ h => h)) (k := f) (m := f + nn) (by omega) hfn hc0
          rw [Nat.add_sub_cancel_left] at hbb
          rw [← hf] at hown6
          obtain ⟨B2, hB2⟩ : ∃ B2, B2 = (B.drop f).take nn := ⟨_, rfl⟩
          rw [← hB2] at hbb hown6
          have hcv1 : (convert 25 9 (.slice A6 nn c6)).run Try.prog w6.drew = .ok (.string ⟨B2.toArray⟩) w6.drew :=
            run_str (Rd.heap (Rd.of_own hown6) (show w6.drew.heap = w6.heap from rfl)) 25 9 5 Try.underlying25 Try.underlying5 Try.underlying9 c6
          have HBB := Lib.hid hbb
          have HF := Lib.hid hf
          clear hre6 hfr6 hown6 hbb hB2 hf
          rcases (show f = c0 ∨ ¬ c0 = f by omega) with hcq | hcq
          · subst hcq
            obtain rfl : nn = 0 := by omega
            have hq3 : IntKind.i64.wrap (f : Int) = (f : Int) := IntWalk.i64_in _ (by omega)
            have hcv2 : ∀ c' : Nat, (convert 25 9 (.slice A0 0 c')).run Try.prog w6.drew = .ok (.string ⟨B2.toArray⟩) w6.drew :=
              fun c' => run_str (Rd.heap (HBB.out.1 rfl) (show w6.drew.heap = w6.heap from rfl)) 25 9 5 Try.underlying25 Try.underlying5 Try.underlying9 c'
            go_wp2_with fail
            go_still (by kernel_rfl)
            have hat := at_any r c3 E A3 B w6.drew HRE6.out.drew
            have hleft := left_any r c3 E A3 B w6.drew HRE6.out.drew hBl
            obtain ⟨D, hD⟩ : ∃ D, D = 8 * B.length - E := ⟨_, rfl⟩
            rw [← hD] at hleft
            have hD1 : D + E ≤ T := by have h1 := HT.out; have h2 := HBn.out; omega
            have hD2 : T ≤ D + E := by have h1 := HT.out; have h2 := HBn.out; omega
            have HAt := Lib.hid hat
            have HLeft := Lib.hid hleft
            clear hat hleft hD
            go_wp2_with fail
            refine HAt.out.mono ?_
            rintro e w8 ⟨rfl, rfl⟩
            go_wp2_with fail
            refine HLeft.out.mono ?_
            rintro e w8 ⟨rfl, rfl⟩
            go_wp2_with fail
            go_roundw
            case rel => exact ⟨k + 1, E, by omega, by go_num, by go_num, (HRE6.out.drew).drew, (hfr56.drew).drew⟩
            case measure => simp [intOf] <;> omega
          · have hcv2 : ∀ c' : Nat, (convert 25 9 (.slice (Option.map (fun x => x.add f) A0) nn c')).run Try.prog w6.drew = .ok (.string ⟨B2.toArray⟩) w6.drew :=
              fun c' => run_str (Rd.heap HBB.out.2 (show w6.drew.heap = w6.heap from rfl)) 25 9 5 Try.underlying25 Try.underlying5 Try.underlying9 c'
            have hs1 : (f : Int) + (nn : Int) ≤ (c0 : Int) := by omega
            have hs2 : (f : Int) ≤ (f : Int) + (nn : Int) := by omega
            have hs3 : f + nn ≤ c0 := by omega
            have hs4 : ((f : Int) + (nn : Int)).toNat = f + nn := by omega
            have hs5 : f ≤ f + nn := by omega
            go_wp2_with fail
            go_still (by kernel_rfl)
            have hat := at_any r c3 (E + 8 * nn) A3 B w6.drew HRE6.out.drew
            have hleft := left_any r c3 (E + 8 * nn) A3 B w6.drew HRE6.out.drew hBl
            obtain ⟨D, hD⟩ : ∃ D, D = 8 * B.length - (E + 8 * nn) := ⟨_, rfl⟩
            rw [← hD] at hleft
            have hD1 : D + (E + 8 * nn) ≤ T := by have h1 := HT.out; have h2 := HBn.out; omega
            have hD2 : T ≤ D + (E + 8 * nn) := by have h1 := HT.out; have h2 := HBn.out; omega
            have HAt := Lib.hid hat
            have HLeft := Lib.hid hleft
            clear hat hleft hD
            go_wp2_with fail
            refine HAt.out.mono ?_
            rintro e w8 ⟨rfl, rfl⟩
            go_wp2_with fail
            refine HLeft.out.mono ?_
            rintro e w8 ⟨rfl, rfl⟩
            go_wp2_with fail
            go_roundw
            case rel => exact ⟨k + 1, (E + 8 * nn), by omega, by go_num, by go_num, (HRE6.out.drew).drew, (hfr56.drew).drew⟩
            case measure => simp [intOf] <;> omega
    · go_wp2
      go_ret
      exact ⟨rfl, hfw⟩
end Go.Proofs.Ytfhhhgmabfdacaa
