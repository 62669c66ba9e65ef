/-
  Contracts of layer 3's reference: Put, Next, Where.
-/
import Derived.Test.YtedmnkcoflbciaaGreatZm04
import Derived.Test.YtedmnkcoflbciaaGreatZm00
import Derived.Test.YtedmnkcoflbciaaGreatZm03
import Derived.Lib.PathFns
import Derived.BigRegion
import Derived.BigQuiet
import Derived.Deep.QuietTactic
import Derived.Deep.RegionWith
import Derived.StillTailTactics
import Derived.Deep.DeepMust
import Derived.Deep.DrawnRows
namespace Go.Proofs.YtedmnkcoflbciaaGreat
open Go.RowKit UtfM Mem Go.Lib
attribute [local go_sem ↓] Go.wp_at_zero Go.wp_at_succ

/-- 'string([]byte{..})' -/
theorem str_cells {w : World} {k : Nat} (hk : k = w.heap.size) (B : List UInt8) (us : Array Value) (hu : us = (B.map bytec).toArray) (n : Nat) (hn : n = B.length) :
    (convert 34 9 (.slice (some ⟨k, 0, none⟩) n n)).run Tryz.prog (w.alloc (.cells us 5)) = .ok (.string (txt B)) (w.alloc (.cells us 5)) := by
  subst hu hn
  have h := Rd.cells hk (B.map bytec) 5
  rw [List.length_map] at h
  exact str_rd h _

set_option maxRecDepth 100000 in
set_option maxHeartbeats 800000 in
theorem Put_any (n : Int) (w : World) (h0 : -1000000000000 ≤ n) (h1 : n ≤ 1000000000000) :
    Calls Tryz.prog 117 #[.int .i64 n] w fun e w' => e = .returned (.string (txt (put n))) ∧ Fr (fun _ => False) w w' := by
  by_cases hbad : n < 0 ∨ 1114111 < n ∨ 55296 ≤ n ∧ n ≤ 57343
  · have hp : put n = [] := by unfold put; rw [if_pos hbad]
    rw [hp]
    rcases (show n < 0 ∨ ¬ n < 0 ∧ 1114111 < n ∨ ¬ n < 0 ∧ ¬ 1114111 < n ∧ 55296 ≤ n ∧ n ≤ 57343 by omega) with h | ⟨h, h'⟩ | ⟨h, h', h2, h3⟩
    all_goals
      clear hbad hp
      go_enter Tryz.func117, Tryz.ntmps117
      go_wp2
      go_ret
      exact ⟨rfl, Fr.refl _ _⟩
  · have hp : put n = if n < 128 then [UInt8.ofNat n.toNat] else
        if n < 2048 then [UInt8.ofNat (192 + n.toNat / 64), UInt8.ofNat (128 + n.toNat % 64)] else
        if n < 65536 then [UInt8.ofNat (224 + n.toNat / 4096), UInt8.ofNat (128 + n.toNat / 64 % 64), UInt8.ofNat (128 + n.toNat % 64)] else
        [UInt8.ofNat (240 + n.toNat / 262144), UInt8.ofNat (128 + n.toNat / 4096 % 64), UInt8.ofNat (128 + n.toNat / 64 % 64), UInt8.ofNat (128 + n.toNat % 64)] := by
      unfold put; rw [if_neg hbad]
    have g0 : 0 ≤ n := by omega
    have g1 : n ≤ 1114111 := by omega
    have g2 : decide (n < 0) = false := by simp; omega
    have g3 : decide (1114111 < n) = false := by simp; omega
    have g4 : decide (55296 ≤ n) = false ∨ decide (55296 ≤ n) = true ∧ decide (n ≤ 57343) = false := by
      by_cases h : 55296 ≤ n
      · right; exact ⟨by simpa using h, by simp; omega⟩
      · left; simpa using h
    have HP := Lib.hid hp
    clear hp hbad
    by_cases h128 : n < 128
    · have hp := HP.out
      rw [if_pos h128] at hp
      have hs := fun w => str_cells (w := w) rfl [UInt8.ofNat n.toNat] #[.int .u8 n] (by simp [bytec]; omega) 1 rfl
      rw [hp]
      clear hp HP
      rcases g4 with g4 | ⟨g4, g5⟩
      · go_enter Tryz.func117, Tryz.ntmps117
        go_wp2
        go_ret
        exact ⟨rfl, (Fr.refl _ _).alloc _⟩
      · exfalso; simp at g4; omega
    · by_cases h2048 : n < 2048
      · have hp := HP.out
        rw [if_neg h128, if_pos h2048] at hp
        have hs := fun w => str_cells (w := w) rfl [UInt8.ofNat (192 + n.toNat / 64), UInt8.ofNat (128 + n.toNat % 64)] #[.int .u8 (192 + n / 64), .int .u8 (128 + n % 64)] (by simp only [List.map_cons, List.map_nil]; rw [bytec_ofNat (by omega), bytec_ofNat (by omega)]; simp; omega) 2 rfl
        rw [hp]
        clear hp HP
        rcases g4 with g4 | ⟨g4, g5⟩
        · go_enter Tryz.func117, Tryz.ntmps117
          go_wp2
          go_ret
          exact ⟨rfl, (Fr.refl _ _).alloc _⟩
        · exfalso; simp at g4; omega
      · by_cases h65536 : n < 65536
        · have hp := HP.out
          rw [if_neg h128, if_neg h2048, if_pos h65536] at hp
          have hs := fun w => str_cells (w := w) rfl [UInt8.ofNat (224 + n.toNat / 4096), UInt8.ofNat (128 + n.toNat / 64 % 64), UInt8.ofNat (128 + n.toNat % 64)] #[.int .u8 (224 + n / 4096), .int .u8 (128 + n / 64 % 64), .int .u8 (128 + n % 64)] (by simp only [List.map_cons, List.map_nil]; rw [bytec_ofNat (by omega), bytec_ofNat (by omega), bytec_ofNat (by omega)]; simp; omega) 3 rfl
          rw [hp]
          clear hp HP
          rcases g4 with g4 | ⟨g4, g5⟩
          · go_enter Tryz.func117, Tryz.ntmps117
            go_wp2
            go_ret
            exact ⟨rfl, (Fr.refl _ _).alloc _⟩
          · go_enter Tryz.func117, Tryz.ntmps117
            go_wp2
            go_ret
            exact ⟨rfl, (Fr.refl _ _).alloc _⟩
        · have hp := HP.out
          rw [if_neg h128, if_neg h2048, if_neg h65536] at hp
          have hs := fun w => str_cells (w := w) rfl [UInt8.ofNat (240 + n.toNat / 262144), UInt8.ofNat (128 + n.toNat / 4096 % 64), UInt8.ofNat (128 + n.toNat / 64 % 64), UInt8.ofNat (128 + n.toNat % 64)] #[.int .u8 (240 + n / 262144), .int .u8 (128 + n / 4096 % 64), .int .u8 (128 + n / 64 % 64), .int .u8 (128 + n % 64)] (by simp only [List.map_cons, List.map_nil]; rw [bytec_ofNat (by omega), bytec_ofNat (by omega), bytec_ofNat (by omega), bytec_ofNat (by omega)]; simp; omega) 4 rfl
          rw [hp]
          clear hp HP
          rcases g4 with g4 | ⟨g4, g5⟩
          · exfalso; simp at g4; omega
          · go_enter Tryz.func117, Tryz.ntmps117
            go_wp2
            go_ret
            exact ⟨rfl, (Fr.refl _ _).alloc _⟩

theorem txt_get (B : List UInt8) (i : Nat) (h : i < (txt B).size) : (txt B)[i] = B[i]'(by simpa [txt, ByteArray.size] using h) := by
  show (txt B).data[i] = _
  simp [txt]
theorem txt_sz (B : List UInt8) : (txt B).size = B.length := by simp [txt, ByteArray.size]
theorem ext_from (B : List UInt8) (k : Nat) : (txt B).extract k (txt B).size = txt (B.drop k) := by rw [Pa.extract_from]; simp [txt]
theorem ext_upto (B : List UInt8) (k : Nat) : (txt B).extract 0 k = txt (B.take k) := by rw [Pa.extract_upto]; simp [txt]

set_option maxRecDepth 100000 in
set_option maxHeartbeats 1600000 in
theorem rNext_any (B : List UInt8) (w : World) (hl : B.length ≤ 1000000000) :
    Calls Tryz.prog 85 #[.string (txt B)] w fun e w' => e = .returned (.int .i64 (nx B : Int)) ∧ Fr (fun _ => False) w w' := by
  have hsz := txt_sz B
  obtain ⟨n, hn⟩ : ∃ n, n = B.length := ⟨_, rfl⟩
  rw [← hn] at hsz hl
  have HSZ := Lib.hid hsz
  have HN := Lib.hid hn
  clear hn hsz
  go_enter Tryz.func85, Tryz.ntmps85
  go_wp2
  go_loopw [3] (fun i wr => ∃ k : Nat, 1 ≤ k ∧ k ≤ 5 ∧ i = .int .i64 k ∧ Hid (∀ j, 1 ≤ j → j < k → j ≤ B.length → ¬ hit j B) ∧ Fr (fun _ => False) w wr) (fun i _ => 5 - (intOf i).toNat)
  case atStart => exact ⟨1, by omega, by omega, rfl, fun j h1 h2 => by omega, Fr.refl _ _⟩
  case round =>
    obtain ⟨k, hk1, hk5, rfl, Hno, hfr⟩ := hrel
    by_cases hgo : k ≤ 4 ∧ k ≤ n
    · obtain ⟨hk4, hkn⟩ := hgo
      have hszI : (k : Int) ≤ ((txt B).size : Int) := by rw [HSZ.out]; omega
      have hsz0 : 0 < (txt B).size := by rw [HSZ.out]; omega
      have hkI0 : (0 : Int) ≤ (k : Int) := by omega
      have hkgt : decide (0 < (k : Int)) = true := by simp; omega
      obtain ⟨a, ha⟩ : ∃ a, (txt B)[0]'hsz0 = a := ⟨_, rfl⟩
      have ha256 := a.toNat_lt
      have hp0 : (a.toNat : Int) - off k = pn k B 0 := by
        have hl : 0 < B.length := by have := HN.out; omega
        rw [← ha, txt_get]
        show _ = ((B.getD 0 0).toNat : Int) - off k
        rw [List.getD_eq_getElem?_getD, List.getElem?_eq_getElem hl]
        rfl
      rcases (show k = 1 ∨ k = 2 ∨ k = 3 ∨ k = 4 by omega) with hk | hk | hk | hk
      · have t2 : ((k : Int) == 2) = false := by simp; omega
        have t3 : ((k : Int) == 3) = false := by simp; omega
        have t4 : ((k : Int) == 4) = false := by simp; omega
        have HP0 := Lib.hid (show (a.toNat : Int) = pn k B (1 - 1) by rw [Nat.sub_self, ← hp0, hk]; simp [off])
        clear hp0 hk
        go_wp2_with fail
        go_loop [5, 6] (fun x i => ∃ (m : Nat) (z : Int), 1 ≤ m ∧ m ≤ k ∧ i = .int .i64 m ∧ x = .int .i64 z ∧ -100000000 ≤ z ∧ z ≤ 100000000 ∧ Hid (z = pn k B (m - 1))) (fun _ i => 5 - (intOf i).toNat)
        case atStart => exact ⟨1, _, by omega, hk1, rfl, rfl, by omega, by omega, HP0.out⟩
        case round =>
          obtain ⟨m, z, hm1, hmk, rfl, rfl, hz0, hz1, Hz⟩ := hrel
          by_cases hlt : m < k
          · have hms : m < (txt B).size := by rw [HSZ.out]; omega
            have hmI : (m : Int) < ((txt B).size : Int) := by omega
            obtain ⟨c, hc⟩ : ∃ c, (txt B)[m]'hms = c := ⟨_, rfl⟩
            have hc256 := c.toNat_lt
            have hbd := pn_bd k B m (by omega)
            have hpn : z * 64 + (c.toNat : Int) - 128 = pn k B m := by
              obtain ⟨j, rfl⟩ : ∃ j, m = j + 1 := ⟨m - 1, by omega⟩
              have hl : j + 1 < B.length := by have := HN.out; omega
              rw [Hz.out, ← hc, txt_get]
              show _ = pn k B j * 64 + ((B.getD (j + 1) 0).toNat : Int) - 128
              rw [List.getD_eq_getElem?_getD, List.getElem?_eq_getElem hl]
              rfl
            have hb1 : -100000000 ≤ z * 64 + (c.toNat : Int) - 128 := by omega
            have hb2 : z * 64 + (c.toNat : Int) - 128 ≤ 100000000 := by omega
            have HPN := Lib.hid hpn
            clear hpn hbd
            go_wp2
            go_round
            case rel => exact ⟨m + 1, _, by omega, by omega, by go_num, rfl, hb1, hb2, HPN.out⟩
            case measure => simp [intOf] <;> omega
          · have hmk2 : m = k := by omega
            have HZK := Lib.hid (show z = pn k B (k - 1) by rw [Hz.out, hmk2])
            have hput := Put_any z wr (by omega) (by omega)
            have hq : ((txt (put z)).toList == ((txt B).extract 0 k).toList) = decide (hit k B) := by
              rw [ext_upto, show (txt (put z)).toList = put z from ByteArray.toList_mk _, show (txt (B.take k)).toList = B.take k from ByteArray.toList_mk _]
              rw [Bool.eq_iff_iff]
              simp only [beq_iff_eq, decide_eq_true_eq]
              unfold hit
              rw [← HZK.out]
            obtain ⟨T, hT⟩ : ∃ T, T = txt (put z) := ⟨_, rfl⟩
            rw [← hT] at hput hq
            have HPUT := Lib.hid (fun w' : World => Put_any z w' (by omega) (by omega))
            rw [← hT] at HPUT
            clear hmk2 hput hT Hz
            by_cases hh : hit k B
            · rw [decide_eq_true hh] at hq
              have HH := Lib.hid hh
              clear hh
              go_wp2_with fail
              refine wp_region_noPanic ?_
              refine wp_region_held_drew (S := (fun _ => True)) (by kernel_rfl) ?_ (fun hHeld => ?_)
              · trivial
              refine tk 0 hHeld ?_
              refine tk 2 hHeld ?_
              refine tk 3 hHeld ?_
              refine tk 4 hHeld ?_
              refine rdo 1 (fun Kx hKx => ?_)
              go_simp
              refine (HPUT.out _).mono ?_
              rintro e w2 ⟨rfl, hf2⟩
              refine hKx.out _ _ ?_ (fun hHeld => ?_)
              · trivial
              clear hKx Kx
              refine tk 5 hHeld ?_
              refine tk 6 hHeld ?_
              refine tk 7 hHeld ?_
              refine tk 8 hHeld ?_
              refine tk 9 hHeld ?_
              refine wpAnyH_done (by kernel_rfl) ?_ _
              refine NoPanic.normal ?_
              all_goals go_wp2
              all_goals go_ret
              all_goals
                rw [nx_hits B k hk1 hk4 (by have := HN.out; omega) HH.out (fun j h1 h2 => Hno.out j h1 h2 (by have := HN.out; omega))]
                exact ⟨rfl, hfr.drew.trans hf2 (fun _ _ h => h)⟩
            · rw [decide_eq_false hh] at hq
              have HNO := Lib.hid (show ∀ j, 1 ≤ j → j < k + 1 → j ≤ B.length → ¬ hit j B by
                intro j h1 h2 h3
                by_cases hj : j = k
                · rw [hj]; exact hh
                · exact Hno.out j h1 (by omega) h3)
              clear hh
              go_wp2_with fail
              refine wp_region_noPanic ?_
              refine wp_region_held_drew (S := (fun _ => True)) (by kernel_rfl) ?_ (fun hHeld => ?_)
              · trivial
              refine tk 0 hHeld ?_
              refine tk 2 hHeld ?_
              refine tk 3 hHeld ?_
              refine tk 4 hHeld ?_
              refine rdo 1 (fun Kx hKx => ?_)
              go_simp
              refine (HPUT.out _).mono ?_
              rintro e w2 ⟨rfl, hf2⟩
              refine hKx.out _ _ ?_ (fun hHeld => ?_)
              · trivial
              clear hKx Kx
              refine tk 5 hHeld ?_
              refine tk 6 hHeld ?_
              refine wpAnyH_take (i := 7) (v := undef) rfl (by kernel_rfl) (by kernel_rfl) (by kernel_rfl) (fun _ _ _ h => h) (Or.inr ⟨by rfl, rfl⟩) hHeld ?_
              (try simp only [Act.put, List.setIfInBounds_toArray, List.set_cons_zero, List.set_cons_succ, List.getElem_toArray, List.getElem_cons_zero, List.getElem_cons_succ])
              refine wpAnyH_take (i := 8) (v := undef) rfl (by kernel_rfl) (by kernel_rfl) (by kernel_rfl) (fun _ _ _ h => h) (Or.inr ⟨by rfl, rfl⟩) hHeld ?_
              refine tk 9 hHeld ?_
              refine wpAnyH_done (by kernel_rfl) ?_ _
              refine NoPanic.normal ?_
              all_goals go_wp2
              all_goals go_roundw
              all_goals first
                | exact ⟨k + 1, by omega, by omega, by go_num, HNO.out, hfr.drew.trans hf2 (fun _ _ h => h)⟩
                | (simp [intOf] <;> omega)
      · have t2 : ((k : Int) == 2) = true := by simp; omega
        have t3 : ((k : Int) == 3) = false := by simp; omega
        have t4 : ((k : Int) == 4) = false := by simp; omega
        have HP0 := Lib.hid (show (a.toNat : Int) - 192 = pn k B (1 - 1) by rw [Nat.sub_self, ← hp0, hk]; simp [off])
        clear hp0 hk
        go_wp2_with fail
        go_loop [5, 6] (fun x i => ∃ (m : Nat) (z : Int), 1 ≤ m ∧ m ≤ k ∧ i = .int .i64 m ∧ x = .int .i64 z ∧ -100000000 ≤ z ∧ z ≤ 100000000 ∧ Hid (z = pn k B (m - 1))) (fun _ i => 5 - (intOf i).toNat)
        case atStart => exact ⟨1, _, by omega, hk1, rfl, rfl, by omega, by omega, HP0.out⟩
        case round =>
          obtain ⟨m, z, hm1, hmk, rfl, rfl, hz0, hz1, Hz⟩ := hrel
          by_cases hlt : m < k
          · have hms : m < (txt B).size := by rw [HSZ.out]; omega
            have hmI : (m : Int) < ((txt B).size : Int) := by omega
            obtain ⟨c, hc⟩ : ∃ c, (txt B)[m]'hms = c := ⟨_, rfl⟩
            have hc256 := c.toNat_lt
            have hbd := pn_bd k B m (by omega)
            have hpn : z * 64 + (c.toNat : Int) - 128 = pn k B m := by
              obtain ⟨j, rfl⟩ : ∃ j, m = j + 1 := ⟨m - 1, by omega⟩
              have hl : j + 1 < B.length := by have := HN.out; omega
              rw [Hz.out, ← hc, txt_get]
              show _ = pn k B j * 64 + ((B.getD (j + 1) 0).toNat : Int) - 128
              rw [List.getD_eq_getElem?_getD, List.getElem?_eq_getElem hl]
              rfl
            have hb1 : -100000000 ≤ z * 64 + (c.toNat : Int) - 128 := by omega
            have hb2 : z * 64 + (c.toNat : Int) - 128 ≤ 100000000 := by omega
            have HPN := Lib.hid hpn
            clear hpn hbd
            go_wp2
            go_round
            case rel => exact ⟨m + 1, _, by omega, by omega, by go_num, rfl, hb1, hb2, HPN.out⟩
            case measure => simp [intOf] <;> omega
          · have hmk2 : m = k := by omega
            have HZK := Lib.hid (show z = pn k B (k - 1) by rw [Hz.out, hmk2])
            have hput := Put_any z wr (by omega) (by omega)
            have hq : ((txt (put z)).toList == ((txt B).extract 0 k).toList) = decide (hit k B) := by
              rw [ext_upto, show (txt (put z)).toList = put z from ByteArray.toList_mk _, show (txt (B.take k)).toList = B.take k from ByteArray.toList_mk _]
              rw [Bool.eq_iff_iff]
              simp only [beq_iff_eq, decide_eq_true_eq]
              unfold hit
              rw [← HZK.out]
            obtain ⟨T, hT⟩ : ∃ T, T = txt (put z) := ⟨_, rfl⟩
            rw [← hT] at hput hq
            have HPUT := Lib.hid (fun w' : World => Put_any z w' (by omega) (by omega))
            rw [← hT] at HPUT
            clear hmk2 hput hT Hz
            by_cases hh : hit k B
            · rw [decide_eq_true hh] at hq
              have HH := Lib.hid hh
              clear hh
              go_wp2_with fail
              refine wp_region_noPanic ?_
              refine wp_region_held_drew (S := (fun _ => True)) (by kernel_rfl) ?_ (fun hHeld => ?_)
              · trivial
              refine tk 0 hHeld ?_
              refine tk 2 hHeld ?_
              refine tk 3 hHeld ?_
              refine tk 4 hHeld ?_
              refine rdo 1 (fun Kx hKx => ?_)
              go_simp
              refine (HPUT.out _).mono ?_
              rintro e w2 ⟨rfl, hf2⟩
              refine hKx.out _ _ ?_ (fun hHeld => ?_)
              · trivial
              clear hKx Kx
              refine tk 5 hHeld ?_
              refine tk 6 hHeld ?_
              refine tk 7 hHeld ?_
              refine tk 8 hHeld ?_
              refine tk 9 hHeld ?_
              refine wpAnyH_done (by kernel_rfl) ?_ _
              refine NoPanic.normal ?_
              all_goals go_wp2
              all_goals go_ret
              all_goals
                rw [nx_hits B k hk1 hk4 (by have := HN.out; omega) HH.out (fun j h1 h2 => Hno.out j h1 h2 (by have := HN.out; omega))]
                exact ⟨rfl, hfr.drew.trans hf2 (fun _ _ h => h)⟩
            · rw [decide_eq_false hh] at hq
              have HNO := Lib.hid (show ∀ j, 1 ≤ j → j < k + 1 → j ≤ B.length → ¬ hit j B by
                intro j h1 h2 h3
                by_cases hj : j = k
                · rw [hj]; exact hh
                · exact Hno.out j h1 (by omega) h3)
              clear hh
              go_wp2_with fail
              refine wp_region_noPanic ?_
              refine wp_region_held_drew (S := (fun _ => True)) (by kernel_rfl) ?_ (fun hHeld => ?_)
              · trivial
              refine tk 0 hHeld ?_
              refine tk 2 hHeld ?_
              refine tk 3 hHeld ?_
              refine tk 4 hHeld ?_
              refine rdo 1 (fun Kx hKx => ?_)
              go_simp
              refine (HPUT.out _).mono ?_
              rintro e w2 ⟨rfl, hf2⟩
              refine hKx.out _ _ ?_ (fun hHeld => ?_)
              · trivial
              clear hKx Kx
              refine tk 5 hHeld ?_
              refine tk 6 hHeld ?_
              refine wpAnyH_take (i := 7) (v := undef) rfl (by kernel_rfl) (by kernel_rfl) (by kernel_rfl) (fun _ _ _ h => h) (Or.inr ⟨by rfl, rfl⟩) hHeld ?_
              (try simp only [Act.put, List.setIfInBounds_toArray, List.set_cons_zero, List.set_cons_succ, List.getElem_toArray, List.getElem_cons_zero, List.getElem_cons_succ])
              refine wpAnyH_take (i := 8) (v := undef) rfl (by kernel_rfl) (by kernel_rfl) (by kernel_rfl) (fun _ _ _ h => h) (Or.inr ⟨by rfl, rfl⟩) hHeld ?_
              refine tk 9 hHeld ?_
              refine wpAnyH_done (by kernel_rfl) ?_ _
              refine NoPanic.normal ?_
              all_goals go_wp2
              all_goals go_roundw
              all_goals first
                | exact ⟨k + 1, by omega, by omega, by go_num, HNO.out, hfr.drew.trans hf2 (fun _ _ h => h)⟩
                | (simp [intOf] <;> omega)
      · have t2 : ((k : Int) == 2) = false := by simp; omega
        have t3 : ((k : Int) == 3) = true := by simp; omega
        have t4 : ((k : Int) == 4) = false := by simp; omega
        have HP0 := Lib.hid (show (a.toNat : Int) - 224 = pn k B (1 - 1) by rw [Nat.sub_self, ← hp0, hk]; simp [off])
        clear hp0 hk
        go_wp2_with fail
        go_loop [5, 6] (fun x i => ∃ (m : Nat) (z : Int), 1 ≤ m ∧ m ≤ k ∧ i = .int .i64 m ∧ x = .int .i64 z ∧ -100000000 ≤ z ∧ z ≤ 100000000 ∧ Hid (z = pn k B (m - 1))) (fun _ i => 5 - (intOf i).toNat)
        case atStart => exact ⟨1, _, by omega, hk1, rfl, rfl, by omega, by omega, HP0.out⟩
        case round =>
          obtain ⟨m, z, hm1, hmk, rfl, rfl, hz0, hz1, Hz⟩ := hrel
          by_cases hlt : m < k
          · have hms : m < (txt B).size := by rw [HSZ.out]; omega
            have hmI : (m : Int) < ((txt B).size : Int) := by omega
            obtain ⟨c, hc⟩ : ∃ c, (txt B)[m]'hms = c := ⟨_, rfl⟩
            have hc256 := c.toNat_lt
            have hbd := pn_bd k B m (by omega)
            have hpn : z * 64 + (c.toNat : Int) - 128 = pn k B m := by
              obtain ⟨j, rfl⟩ : ∃ j, m = j + 1 := ⟨m - 1, by omega⟩
              have hl : j + 1 < B.length := by have := HN.out; omega
              rw [Hz.out, ← hc, txt_get]
              show _ = pn k B j * 64 + ((B.getD (j + 1) 0).toNat : Int) - 128
              rw [List.getD_eq_getElem?_getD, List.getElem?_eq_getElem hl]
              rfl
            have hb1 : -100000000 ≤ z * 64 + (c.toNat : Int) - 128 := by omega
            have hb2 : z * 64 + (c.toNat : Int) - 128 ≤ 100000000 := by omega
            have HPN := Lib.hid hpn
            clear hpn hbd
            go_wp2
            go_round
            case rel => exact ⟨m + 1, _, by omega, by omega, by go_num, rfl, hb1, hb2, HPN.out⟩
            case measure => simp [intOf] <;> omega
          · have hmk2 : m = k := by omega
            have HZK := Lib.hid (show z = pn k B (k - 1) by rw [Hz.out, hmk2])
            have hput := Put_any z wr (by omega) (by omega)
            have hq : ((txt (put z)).toList == ((txt B).extract 0 k).toList) = decide (hit k B) := by
              rw [ext_upto, show (txt (put z)).toList = put z from ByteArray.toList_mk _, show (txt (B.take k)).toList = B.take k from ByteArray.toList_mk _]
              rw [Bool.eq_iff_iff]
              simp only [beq_iff_eq, decide_eq_true_eq]
              unfold hit
              rw [← HZK.out]
            obtain ⟨T, hT⟩ : ∃ T, T = txt (put z) := ⟨_, rfl⟩
            rw [← hT] at hput hq
            have HPUT := Lib.hid (fun w' : World => Put_any z w' (by omega) (by omega))
            rw [← hT] at HPUT
            clear hmk2 hput hT Hz
            by_cases hh : hit k B
            · rw [decide_eq_true hh] at hq
              have HH := Lib.hid hh
              clear hh
              go_wp2_with fail
              refine wp_region_noPanic ?_
              refine wp_region_held_drew (S := (fun _ => True)) (by kernel_rfl) ?_ (fun hHeld => ?_)
              · trivial
              refine tk 0 hHeld ?_
              refine tk 2 hHeld ?_
              refine tk 3 hHeld ?_
              refine tk 4 hHeld ?_
              refine rdo 1 (fun Kx hKx => ?_)
              go_simp
              refine (HPUT.out _).mono ?_
              rintro e w2 ⟨rfl, hf2⟩
              refine hKx.out _ _ ?_ (fun hHeld => ?_)
              · trivial
              clear hKx Kx
              refine tk 5 hHeld ?_
              refine tk 6 hHeld ?_
              refine tk 7 hHeld ?_
              refine tk 8 hHeld ?_
              refine tk 9 hHeld ?_
              refine wpAnyH_done (by kernel_rfl) ?_ _
              refine NoPanic.normal ?_
              all_goals go_wp2
              all_goals go_ret
              all_goals
                rw [nx_hits B k hk1 hk4 (by have := HN.out; omega) HH.out (fun j h1 h2 => Hno.out j h1 h2 (by have := HN.out; omega))]
                exact ⟨rfl, hfr.drew.trans hf2 (fun _ _ h => h)⟩
            · rw [decide_eq_false hh] at hq
              have HNO := Lib.hid (show ∀ j, 1 ≤ j → j < k + 1 → j ≤ B.length → ¬ hit j B by
                intro j h1 h2 h3
                by_cases hj : j = k
                · rw [hj]; exact hh
                · exact Hno.out j h1 (by omega) h3)
              clear hh
              go_wp2_with fail
              refine wp_region_noPanic ?_
              refine wp_region_held_drew (S := (fun _ => True)) (by kernel_rfl) ?_ (fun hHeld => ?_)
              · trivial
              refine tk 0 hHeld ?_
              refine tk 2 hHeld ?_
              refine tk 3 hHeld ?_
              refine tk 4 hHeld ?_
              refine rdo 1 (fun Kx hKx => ?_)
              go_simp
              refine (HPUT.out _).mono ?_
              rintro e w2 ⟨rfl, hf2⟩
              refine hKx.out _ _ ?_ (fun hHeld => ?_)
              · trivial
              clear hKx Kx
              refine tk 5 hHeld ?_
              refine tk 6 hHeld ?_
              refine wpAnyH_take (i := 7) (v := undef) rfl (by kernel_rfl) (by kernel_rfl) (by kernel_rfl) (fun _ _ _ h => h) (Or.inr ⟨by rfl, rfl⟩) hHeld ?_
              (try simp only [Act.put, List.setIfInBounds_toArray, List.set_cons_zero, List.set_cons_succ, List.getElem_toArray, List.getElem_cons_zero, List.getElem_cons_succ])
              refine wpAnyH_take (i := 8) (v := undef) rfl (by kernel_rfl) (by kernel_rfl) (by kernel_rfl) (fun _ _ _ h => h) (Or.inr ⟨by rfl, rfl⟩) hHeld ?_
              refine tk 9 hHeld ?_
              refine wpAnyH_done (by kernel_rfl) ?_ _
              refine NoPanic.normal ?_
              all_goals go_wp2
              all_goals go_roundw
              all_goals first
                | exact ⟨k + 1, by omega, by omega, by go_num, HNO.out, hfr.drew.trans hf2 (fun _ _ h => h)⟩
                | (simp [intOf] <;> omega)
      · have t2 : ((k : Int) == 2) = false := by simp; omega
        have t3 : ((k : Int) == 3) = false := by simp; omega
        have t4 : ((k : Int) == 4) = true := by simp; omega
        have HP0 := Lib.hid (show (a.toNat : Int) - 240 = pn k B (1 - 1) by rw [Nat.sub_self, ← hp0, hk]; simp [off])
        clear hp0 hk
        go_wp2_with fail
        go_loop [5, 6] (fun x i => ∃ (m : Nat) (z : Int), 1 ≤ m ∧ m ≤ k ∧ i = .int .i64 m ∧ x = .int .i64 z ∧ -100000000 ≤ z ∧ z ≤ 100000000 ∧ Hid (z = pn k B (m - 1))) (fun _ i => 5 - (intOf i).toNat)
        case atStart => exact ⟨1, _, by omega, hk1, rfl, rfl, by omega, by omega, HP0.out⟩
        case round =>
          obtain ⟨m, z, hm1, hmk, rfl, rfl, hz0, hz1, Hz⟩ := hrel
          by_cases hlt : m < k
          · have hms : m < (txt B).size := by rw [HSZ.out]; omega
            have hmI : (m : Int) < ((txt B).size : Int) := by omega
            obtain ⟨c, hc⟩ : ∃ c, (txt B)[m]'hms = c := ⟨_, rfl⟩
            have hc256 := c.toNat_lt
            have hbd := pn_bd k B m (by omega)
            have hpn : z * 64 + (c.toNat : Int) - 128 = pn k B m := by
              obtain ⟨j, rfl⟩ : ∃ j, m = j + 1 := ⟨m - 1, by omega⟩
              have hl : j + 1 < B.length := by have := HN.out; omega
              rw [Hz.out, ← hc, txt_get]
              show _ = pn k B j * 64 + ((B.getD (j + 1) 0).toNat : Int) - 128
              rw [List.getD_eq_getElem?_getD, List.getElem?_eq_getElem hl]
              rfl
            have hb1 : -100000000 ≤ z * 64 + (c.toNat : Int) - 128 := by omega
            have hb2 : z * 64 + (c.toNat : Int) - 128 ≤ 100000000 := by omega
            have HPN := Lib.hid hpn
            clear hpn hbd
            go_wp2
            go_round
            case rel => exact ⟨m + 1, _, by omega, by omega, by go_num, rfl, hb1, hb2, HPN.out⟩
            case measure => simp [intOf] <;> omega
          · have hmk2 : m = k := by omega
            have HZK := Lib.hid (show z = pn k B (k - 1) by rw [Hz.out, hmk2])
            have hput := Put_any z wr (by omega) (by omega)
            have hq : ((txt (put z)).toList == ((txt B).extract 0 k).toList) = decide (hit k B) := by
              rw [ext_upto, show (txt (put z)).toList = put z from ByteArray.toList_mk _, show (txt (B.take k)).toList = B.take k from ByteArray.toList_mk _]
              rw [Bool.eq_iff_iff]
              simp only [beq_iff_eq, decide_eq_true_eq]
              unfold hit
              rw [← HZK.out]
            obtain ⟨T, hT⟩ : ∃ T, T = txt (put z) := ⟨_, rfl⟩
            rw [← hT] at hput hq
            have HPUT := Lib.hid (fun w' : World => Put_any z w' (by omega) (by omega))
            rw [← hT] at HPUT
            clear hmk2 hput hT Hz
            by_cases hh : hit k B
            · rw [decide_eq_true hh] at hq
              have HH := Lib.hid hh
              clear hh
              go_wp2_with fail
              refine wp_region_noPanic ?_
              refine wp_region_held_drew (S := (fun _ => True)) (by kernel_rfl) ?_ (fun hHeld => ?_)
              · trivial
              refine tk 0 hHeld ?_
              refine tk 2 hHeld ?_
              refine tk 3 hHeld ?_
              refine tk 4 hHeld ?_
              refine rdo 1 (fun Kx hKx => ?_)
              go_simp
              refine (HPUT.out _).mono ?_
              rintro e w2 ⟨rfl, hf2⟩
              refine hKx.out _ _ ?_ (fun hHeld => ?_)
              · trivial
              clear hKx Kx
              refine tk 5 hHeld ?_
              refine tk 6 hHeld ?_
              refine tk 7 hHeld ?_
              refine tk 8 hHeld ?_
              refine tk 9 hHeld ?_
              refine wpAnyH_done (by kernel_rfl) ?_ _
              refine NoPanic.normal ?_
              all_goals go_wp2
              all_goals go_ret
              all_goals
                rw [nx_hits B k hk1 hk4 (by have := HN.out; omega) HH.out (fun j h1 h2 => Hno.out j h1 h2 (by have := HN.out; omega))]
                exact ⟨rfl, hfr.drew.trans hf2 (fun _ _ h => h)⟩
            · rw [decide_eq_false hh] at hq
              have HNO := Lib.hid (show ∀ j, 1 ≤ j → j < k + 1 → j ≤ B.length → ¬ hit j B by
                intro j h1 h2 h3
                by_cases hj : j = k
                · rw [hj]; exact hh
                · exact Hno.out j h1 (by omega) h3)
              clear hh
              go_wp2_with fail
              refine wp_region_noPanic ?_
              refine wp_region_held_drew (S := (fun _ => True)) (by kernel_rfl) ?_ (fun hHeld => ?_)
              · trivial
              refine tk 0 hHeld ?_
              refine tk 2 hHeld ?_
              refine tk 3 hHeld ?_
              refine tk 4 hHeld ?_
              refine rdo 1 (fun Kx hKx => ?_)
              go_simp
              refine (HPUT.out _).mono ?_
              rintro e w2 ⟨rfl, hf2⟩
              refine hKx.out _ _ ?_ (fun hHeld => ?_)
              · trivial
              clear hKx Kx
              refine tk 5 hHeld ?_
              refine tk 6 hHeld ?_
              refine wpAnyH_take (i := 7) (v := undef) rfl (by kernel_rfl) (by kernel_rfl) (by kernel_rfl) (fun _ _ _ h => h) (Or.inr ⟨by rfl, rfl⟩) hHeld ?_
              (try simp only [Act.put, List.setIfInBounds_toArray, List.set_cons_zero, List.set_cons_succ, List.getElem_toArray, List.getElem_cons_zero, List.getElem_cons_succ])
              refine wpAnyH_take (i := 8) (v := undef) rfl (by kernel_rfl) (by kernel_rfl) (by kernel_rfl) (fun _ _ _ h => h) (Or.inr ⟨by rfl, rfl⟩) hHeld ?_
              refine tk 9 hHeld ?_
              refine wpAnyH_done (by kernel_rfl) ?_ _
              refine NoPanic.normal ?_
              all_goals go_wp2
              all_goals go_roundw
              all_goals first
                | exact ⟨k + 1, by omega, by omega, by go_num, HNO.out, hfr.drew.trans hf2 (fun _ _ h => h)⟩
                | (simp [intOf] <;> omega)
    · have hnone : nx B = 0 := nx_none B (fun j h1 h2 h3 => Hno.out j h1 (by have := HN.out; omega) h3)
      have hdec : k ≤ 4 → ¬ (k : Int) ≤ ((txt B).size : Int) := by intro h; rw [HSZ.out]; omega
      have HNONE := Lib.hid hnone
      clear hnone
      by_cases h4 : k ≤ 4
      · have h5 := hdec h4
        clear hdec hgo
        go_wp2
        go_ret
        rw [HNONE.out]
        exact ⟨rfl, hfr⟩
      · clear hdec hgo
        go_wp2
        go_ret
        rw [HNONE.out]
        exact ⟨rfl, hfr⟩
end Go.Proofs.YtedmnkcoflbciaaGreat
