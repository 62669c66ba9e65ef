import Derived.Test.YtbabgnadgdidmaaGreatZm00
import Derived.Test.YtbabgnadgdidmaaGreatZm06
import Derived.Test.YtbabgnadgdidmaaGreatZm01
import Derived.Test.YtbabgnadgdidmaaGreatZm05
import Derived.Test.YtbabgnadgdidmaaGreatZm02
import Derived.Lib.PathFns
import Derived.BigRegion
import Derived.BigQuiet
import Derived.Deep.QuietTactic
import Derived.Deep.RegionWith
import Derived.StillTailTactics
import Derived.Deep.DeepMust
import Derived.Deep.DrawnRows
set_option maxRecDepth 100000
set_option maxHeartbeats 12800000
namespace Go.Proofs.YtbabgnadgdidmaaGreat
section
open Go.RowKit UtfM Mem Go.Lib
attribute [local go_sem ↓] Go.wp_at_zero Go.wp_at_succ
theorem str_cells {w : World} {k : Nat} (hk : k = w.heap.size) (B : List UInt8) (us : Array Value) (hu : us = (B.map bytec).toArray) (n : Nat) (hn : n = B.length) :
    (convert 34 9 (.slice (some ⟨k, 0, none⟩) n n)).run Tryz.prog (w.alloc (.cells us 5)) = .ok (.string (txt B)) (w.alloc (.cells us 5)) := by
 subst hu hn;have h := Rd.cells hk (B.map bytec) 5;rw [List.length_map] at h;exact str_rd h _
theorem Put_any (n : Int) (w : World) (h0 : -1000000000000 ≤ n) (h1 : n ≤ 1000000000000) :
    Calls Tryz.prog 118 #[.int .i64 n] w fun e w' => e = .returned (.string (txt (put n))) ∧ Fr (fun _ => False) w w' := by
 by_cases hbad : n < 0 ∨ 1114111 < n ∨ 55296 ≤ n ∧ n ≤ 57343
 · have hp : put n = [] := by unfold put; rw [if_pos hbad]
   rw [hp];rcases (show n < 0 ∨ ¬ n < 0 ∧ 1114111 < n ∨ ¬ n < 0 ∧ ¬ 1114111 < n ∧ 55296 ≤ n ∧ n ≤ 57343 by omega) with h | ⟨h, h'⟩ | ⟨h, h', h2, h3⟩
   all_goals
    clear hbad hp;go_enter Tryz.func118, Tryz.ntmps118
    go_wp2
    go_ret;exact ⟨rfl, Fr.refl _ _⟩
 · have hp : put n = if n < 128 then [UInt8.ofNat n.toNat] else
       if n < 2048 then [UInt8.ofNat (192 + n.toNat / 64), UInt8.ofNat (128 + n.toNat % 64)] else
       if n < 65536 then [UInt8.ofNat (224 + n.toNat / 4096), UInt8.ofNat (128 + n.toNat / 64 % 64), UInt8.ofNat (128 + n.toNat % 64)] else
       [UInt8.ofNat (240 + n.toNat / 262144), UInt8.ofNat (128 + n.toNat / 4096 % 64), UInt8.ofNat (128 + n.toNat / 64 % 64), UInt8.ofNat (128 + n.toNat % 64)] := by
    unfold put; rw [if_neg hbad]
   have g0 : 0 ≤ n := by omega
   have g1 : n ≤ 1114111 := by omega
   have g2 : decide (n < 0) = false := by simp; omega
   have g3 : decide (1114111 < n) = false := by simp; omega
   have g4 : decide (55296 ≤ n) = false ∨ decide (55296 ≤ n) = true ∧ decide (n ≤ 57343) = false := by
    by_cases h : 55296 ≤ n
    · right; exact ⟨by simpa using h, by simp; omega⟩
    · left; simpa using h
   have HP := hid hp;clear hp hbad;by_cases h128 : n < 128
   · have hp := HP.out;rw [if_pos h128] at hp;have hs := fun w => str_cells (w := w) rfl [UInt8.ofNat n.toNat] #[.int .u8 n] (by simp [bytec]; omega) 1 rfl;rw [hp];clear hp HP;rcases g4 with g4 | ⟨g4, g5⟩
     · go_enter Tryz.func118, Tryz.ntmps118
       go_wp2
       go_ret;exact ⟨rfl, (Fr.refl _ _).alloc _⟩
     · exfalso; simp at g4; omega
   · by_cases h2048 : n < 2048
     · have hp := HP.out;rw [if_neg h128, if_pos h2048] at hp;have hs := fun w => str_cells (w := w) rfl [UInt8.ofNat (192 + n.toNat / 64), UInt8.ofNat (128 + n.toNat % 64)] #[.int .u8 (192 + n / 64), .int .u8 (128 + n % 64)] (by simp only [List.map_cons, List.map_nil]; rw [bytec_ofNat (by omega), bytec_ofNat (by omega)]; simp; omega) 2 rfl;rw [hp];clear hp HP;rcases g4 with g4 | ⟨g4, g5⟩
       · go_enter Tryz.func118, Tryz.ntmps118
         go_wp2
         go_ret;exact ⟨rfl, (Fr.refl _ _).alloc _⟩
       · exfalso; simp at g4; omega
     · by_cases h65536 : n < 65536
       · have hp := HP.out;rw [if_neg h128, if_neg h2048, if_pos h65536] at hp;have hs := fun w => str_cells (w := w) rfl [UInt8.ofNat (224 + n.toNat / 4096), UInt8.ofNat (128 + n.toNat / 64 % 64), UInt8.ofNat (128 + n.toNat % 64)] #[.int .u8 (224 + n / 4096), .int .u8 (128 + n / 64 % 64), .int .u8 (128 + n % 64)] (by simp only [List.map_cons, List.map_nil]; rw [bytec_ofNat (by omega), bytec_ofNat (by omega), bytec_ofNat (by omega)]; simp; omega) 3 rfl;rw [hp];clear hp HP;rcases g4 with g4 | ⟨g4, g5⟩
         · go_enter Tryz.func118, Tryz.ntmps118
           go_wp2
           go_ret;exact ⟨rfl, (Fr.refl _ _).alloc _⟩
         · go_enter Tryz.func118, Tryz.ntmps118
           go_wp2
           go_ret;exact ⟨rfl, (Fr.refl _ _).alloc _⟩
       · have hp := HP.out;rw [if_neg h128, if_neg h2048, if_neg h65536] at hp;have hs := fun w => str_cells (w := w) rfl [UInt8.ofNat (240 + n.toNat / 262144), UInt8.ofNat (128 + n.toNat / 4096 % 64), UInt8.ofNat (128 + n.toNat / 64 % 64), UInt8.ofNat (128 + n.toNat % 64)] #[.int .u8 (240 + n / 262144), .int .u8 (128 + n / 4096 % 64), .int .u8 (128 + n / 64 % 64), .int .u8 (128 + n % 64)] (by simp only [List.map_cons, List.map_nil]; rw [bytec_ofNat (by omega), bytec_ofNat (by omega), bytec_ofNat (by omega), bytec_ofNat (by omega)]; simp; omega) 4 rfl;rw [hp];clear hp HP;rcases g4 with g4 | ⟨g4, g5⟩
         · exfalso; simp at g4; omega
         · go_enter Tryz.func118, Tryz.ntmps118
           go_wp2
           go_ret;exact ⟨rfl, (Fr.refl _ _).alloc _⟩
theorem txt_get (B : List UInt8) (i : Nat) (h : i < (txt B).size) : (txt B)[i] = B[i]'(by simpa [txt, ByteArray.size] using h) := by
 show (txt B).data[i] = _;simp [txt]
theorem txt_sz (B : List UInt8) : (txt B).size = B.length := by simp [txt, ByteArray.size]
theorem ext_from (B : List UInt8) (k : Nat) : (txt B).extract k (txt B).size = txt (B.drop k) := by rw [Pa.extract_from]; simp [txt]
theorem ext_upto (B : List UInt8) (k : Nat) : (txt B).extract 0 k = txt (B.take k) := by rw [Pa.extract_upto]; simp [txt]
theorem rNext_any (B : List UInt8) (w : World) (hl : B.length ≤ 1000000000) :
    Calls Tryz.prog 86 #[.string (txt B)] w fun e w' => e = .returned (.int .i64 (nx B : Int)) ∧ Fr (fun _ => False) w w' := by
 have hsz := txt_sz B;obtain ⟨n, hn⟩ : ∃ n, n = B.length := ⟨_, rfl⟩
 rw [← hn] at hsz hl;have HSZ := hid hsz;have HN := hid hn;clear hn hsz;go_enter Tryz.func86, Tryz.ntmps86
 go_wp2
 go_loopw [3] (fun i wr => ∃ k : Nat, 1 ≤ k ∧ k ≤ 5 ∧ i = .int .i64 k ∧ Hid (∀ j, 1 ≤ j → j < k → j ≤ B.length → ¬ hit j B) ∧ Fr (fun _ => False) w wr) (fun i _ => 5 - (intOf i).toNat)
 case atStart => exact ⟨1, by omega, by omega, rfl, fun j h1 h2 => by omega, Fr.refl _ _⟩
 case round =>
  obtain ⟨k, hk1, hk5, rfl, Hno, hfr⟩ := hrel;by_cases hgo : k ≤ 4 ∧ k ≤ n
  · obtain ⟨hk4, hkn⟩ := hgo;have hszI : (k : Int) ≤ ((txt B).size : Int) := by rw [HSZ.out]; omega
    have hsz0 : 0 < (txt B).size := by rw [HSZ.out]; omega
    have hkI0 : (0 : Int) ≤ (k : Int) := by omega
    have hkgt : decide (0 < (k : Int)) = true := by simp; omega
    obtain ⟨a, ha⟩ := nm_ ((txt B)[0]'hsz0);have ha256 := a.toNat_lt;have hp0 : (a.toNat : Int) - off k = pn k B 0 := by
     have hl : 0 < B.length := by have := HN.out; omega
     rw [← ha, txt_get];show _ = ((B.getD 0 0).toNat : Int) - off k;rw [List.getD_eq_getElem?_getD, List.getElem?_eq_getElem hl];rfl
    rcases (show k = 1 ∨ k = 2 ∨ k = 3 ∨ k = 4 by omega) with hk | hk | hk | hk
    · have t2 : ((k : Int) == 2) = false := by simp; omega
      have t3 : ((k : Int) == 3) = false := by simp; omega
      have t4 : ((k : Int) == 4) = false := by simp; omega
      have HP0 := hid (show (a.toNat : Int) = pn k B (1 - 1) by rw [Nat.sub_self, ← hp0, hk]; simp [off]);clear hp0 hk;go_wp2_with fail
      go_loop [5, 6] (fun x i => ∃ (m : Nat) (z : Int), 1 ≤ m ∧ m ≤ k ∧ i = .int .i64 m ∧ x = .int .i64 z ∧ -100000000 ≤ z ∧ z ≤ 100000000 ∧ Hid (z = pn k B (m - 1))) (fun _ i => 5 - (intOf i).toNat)
      case atStart => exact ⟨1, _, by omega, hk1, rfl, rfl, by omega, by omega, HP0.out⟩
      case round =>
       obtain ⟨m, z, hm1, hmk, rfl, rfl, hz0, hz1, Hz⟩ := hrel;by_cases hlt : m < k
       · have hms : m < (txt B).size := by rw [HSZ.out]; omega
         have hmI : (m : Int) < ((txt B).size : Int) := by omega
         obtain ⟨c, hc⟩ := nm_ ((txt B)[m]'hms);have hc256 := c.toNat_lt;have hbd := pn_bd k B m (by omega);have hpn : z * 64 + (c.toNat : Int) - 128 = pn k B m := by
          obtain ⟨j, rfl⟩ : ∃ j, m = j + 1 := ⟨m - 1, by omega⟩
          have hl : j + 1 < B.length := by have := HN.out; omega
          rw [Hz.out, ← hc, txt_get];show _ = pn k B j * 64 + ((B.getD (j + 1) 0).toNat : Int) - 128;rw [List.getD_eq_getElem?_getD, List.getElem?_eq_getElem hl];rfl
         have hb1 : -100000000 ≤ z * 64 + (c.toNat : Int) - 128 := by omega
         have hb2 : z * 64 + (c.toNat : Int) - 128 ≤ 100000000 := by omega
         have HPN := hid hpn;clear hpn hbd
         go_wp2
         go_round
         case rel => exact ⟨m + 1, _, by omega, by omega, by go_num, rfl, hb1, hb2, HPN.out⟩
         case measure => simp [intOf] <;> omega
       · have hmk2 : m = k := by omega
         have HZK := hid (show z = pn k B (k - 1) by rw [Hz.out, hmk2]);have hput := Put_any z wr (by omega) (by omega);have hq : ((txt (put z)).toList == ((txt B).extract 0 k).toList) = decide (hit k B) := by
          rw [ext_upto, show (txt (put z)).toList = put z from ByteArray.toList_mk _, show (txt (B.take k)).toList = B.take k from ByteArray.toList_mk _];rw [Bool.eq_iff_iff];simp only [beq_iff_eq, decide_eq_true_eq];unfold hit;rw [← HZK.out]
         obtain ⟨T, hT⟩ : ∃ T, T = txt (put z) := ⟨_, rfl⟩
         rw [← hT] at hput hq;have HPUT := hid (fun w' : World => Put_any z w' (by omega) (by omega));rw [← hT] at HPUT;clear hmk2 hput hT Hz;by_cases hh : hit k B
         · rw [decide_eq_true hh] at hq;have HH := hid hh;clear hh;go_wp2_with fail;refine wp_region_noPanic ?_;refine wp_region_held_drew (S := (fun _ => True)) (by kernel_rfl) ?_ (fun hHeld => ?_)
           · trivial
           refine tk 0 hHeld ?_;refine tk 2 hHeld ?_;refine tk 3 hHeld ?_;refine tk 4 hHeld ?_;refine rdo 1 (fun Kx hKx => ?_)
           go_simp
           refine (HPUT.out _).mono ?_;rintro e w2 ⟨rfl, hf2⟩;refine hKx.out _ _ ?_ (fun hHeld => ?_)
           · trivial
           clear hKx Kx;refine tk 5 hHeld ?_;refine tk 6 hHeld ?_;refine tk 7 hHeld ?_;refine tk 8 hHeld ?_;refine tk 9 hHeld ?_;refine wpAnyH_done (by kernel_rfl) ?_ _;refine NoPanic.normal ?_
           all_goals go_wp2
           all_goals go_ret
           all_goals
            rw [nx_hits B k hk1 hk4 (by have := HN.out; omega) HH.out (fun j h1 h2 => Hno.out j h1 h2 (by have := HN.out; omega))];exact ⟨rfl, hfr.drew.trans hf2 im_⟩
         · rw [decide_eq_false hh] at hq;have HNO := hid (show ∀ j, 1 ≤ j → j < k + 1 → j ≤ B.length → ¬ hit j B by
            intro j h1 h2 h3;by_cases hj : j = k
            · rw [hj]; exact hh
            · exact Hno.out j h1 (by omega) h3)
           clear hh;go_wp2_with fail;refine wp_region_noPanic ?_;refine wp_region_held_drew (S := (fun _ => True)) (by kernel_rfl) ?_ (fun hHeld => ?_)
           · trivial
           refine tk 0 hHeld ?_;refine tk 2 hHeld ?_;refine tk 3 hHeld ?_;refine tk 4 hHeld ?_;refine rdo 1 (fun Kx hKx => ?_)
           go_simp
           refine (HPUT.out _).mono ?_;rintro e w2 ⟨rfl, hf2⟩;refine hKx.out _ _ ?_ (fun hHeld => ?_)
           · trivial
           clear hKx Kx;refine tk 5 hHeld ?_;refine tk 6 hHeld ?_;refine wpAnyH_take (i := 7) (v := undef) rfl (by kernel_rfl) (by kernel_rfl) (by kernel_rfl) (fun _ _ _ h => h) (Or.inr ⟨by rfl, rfl⟩) hHeld ?_
           (try simp only [Act.put, List.setIfInBounds_toArray, List.set_cons_zero, List.set_cons_succ, List.getElem_toArray, List.getElem_cons_zero, List.getElem_cons_succ])
           refine wpAnyH_take (i := 8) (v := undef) rfl (by kernel_rfl) (by kernel_rfl) (by kernel_rfl) (fun _ _ _ h => h) (Or.inr ⟨by rfl, rfl⟩) hHeld ?_;refine tk 9 hHeld ?_;refine wpAnyH_done (by kernel_rfl) ?_ _;refine NoPanic.normal ?_
           all_goals go_wp2
           all_goals go_roundw
           all_goals first
            | exact ⟨k + 1, by omega, by omega, by go_num, HNO.out, hfr.drew.trans hf2 im_⟩
            | (simp [intOf] <;> omega)
    · have t2 : ((k : Int) == 2) = true := by simp; omega
      have t3 : ((k : Int) == 3) = false := by simp; omega
      have t4 : ((k : Int) == 4) = false := by simp; omega
      have HP0 := hid (show (a.toNat : Int) - 192 = pn k B (1 - 1) by rw [Nat.sub_self, ← hp0, hk]; simp [off]);clear hp0 hk;go_wp2_with fail
      go_loop [5, 6] (fun x i => ∃ (m : Nat) (z : Int), 1 ≤ m ∧ m ≤ k ∧ i = .int .i64 m ∧ x = .int .i64 z ∧ -100000000 ≤ z ∧ z ≤ 100000000 ∧ Hid (z = pn k B (m - 1))) (fun _ i => 5 - (intOf i).toNat)
      case atStart => exact ⟨1, _, by omega, hk1, rfl, rfl, by omega, by omega, HP0.out⟩
      case round =>
       obtain ⟨m, z, hm1, hmk, rfl, rfl, hz0, hz1, Hz⟩ := hrel;by_cases hlt : m < k
       · have hms : m < (txt B).size := by rw [HSZ.out]; omega
         have hmI : (m : Int) < ((txt B).size : Int) := by omega
         obtain ⟨c, hc⟩ := nm_ ((txt B)[m]'hms);have hc256 := c.toNat_lt;have hbd := pn_bd k B m (by omega);have hpn : z * 64 + (c.toNat : Int) - 128 = pn k B m := by
          obtain ⟨j, rfl⟩ : ∃ j, m = j + 1 := ⟨m - 1, by omega⟩
          have hl : j + 1 < B.length := by have := HN.out; omega
          rw [Hz.out, ← hc, txt_get];show _ = pn k B j * 64 + ((B.getD (j + 1) 0).toNat : Int) - 128;rw [List.getD_eq_getElem?_getD, List.getElem?_eq_getElem hl];rfl
         have hb1 : -100000000 ≤ z * 64 + (c.toNat : Int) - 128 := by omega
         have hb2 : z * 64 + (c.toNat : Int) - 128 ≤ 100000000 := by omega
         have HPN := hid hpn;clear hpn hbd
         go_wp2
         go_round
         case rel => exact ⟨m + 1, _, by omega, by omega, by go_num, rfl, hb1, hb2, HPN.out⟩
         case measure => simp [intOf] <;> omega
       · have hmk2 : m = k := by omega
         have HZK := hid (show z = pn k B (k - 1) by rw [Hz.out, hmk2]);have hput := Put_any z wr (by omega) (by omega);have hq : ((txt (put z)).toList == ((txt B).extract 0 k).toList) = decide (hit k B) := by
          rw [ext_upto, show (txt (put z)).toList = put z from ByteArray.toList_mk _, show (txt (B.take k)).toList = B.take k from ByteArray.toList_mk _];rw [Bool.eq_iff_iff];simp only [beq_iff_eq, decide_eq_true_eq];unfold hit;rw [← HZK.out]
         obtain ⟨T, hT⟩ : ∃ T, T = txt (put z) := ⟨_, rfl⟩
         rw [← hT] at hput hq;have HPUT := hid (fun w' : World => Put_any z w' (by omega) (by omega));rw [← hT] at HPUT;clear hmk2 hput hT Hz;by_cases hh : hit k B
         · rw [decide_eq_true hh] at hq;have HH := hid hh;clear hh;go_wp2_with fail;refine wp_region_noPanic ?_;refine wp_region_held_drew (S := (fun _ => True)) (by kernel_rfl) ?_ (fun hHeld => ?_)
           · trivial
           refine tk 0 hHeld ?_;refine tk 2 hHeld ?_;refine tk 3 hHeld ?_;refine tk 4 hHeld ?_;refine rdo 1 (fun Kx hKx => ?_)
           go_simp
           refine (HPUT.out _).mono ?_;rintro e w2 ⟨rfl, hf2⟩;refine hKx.out _ _ ?_ (fun hHeld => ?_)
           · trivial
           clear hKx Kx;refine tk 5 hHeld ?_;refine tk 6 hHeld ?_;refine tk 7 hHeld ?_;refine tk 8 hHeld ?_;refine tk 9 hHeld ?_;refine wpAnyH_done (by kernel_rfl) ?_ _;refine NoPanic.normal ?_
           all_goals go_wp2
           all_goals go_ret
           all_goals
            rw [nx_hits B k hk1 hk4 (by have := HN.out; omega) HH.out (fun j h1 h2 => Hno.out j h1 h2 (by have := HN.out; omega))];exact ⟨rfl, hfr.drew.trans hf2 im_⟩
         · rw [decide_eq_false hh] at hq;have HNO := hid (show ∀ j, 1 ≤ j → j < k + 1 → j ≤ B.length → ¬ hit j B by
            intro j h1 h2 h3;by_cases hj : j = k
            · rw [hj]; exact hh
            · exact Hno.out j h1 (by omega) h3)
           clear hh;go_wp2_with fail;refine wp_region_noPanic ?_;refine wp_region_held_drew (S := (fun _ => True)) (by kernel_rfl) ?_ (fun hHeld => ?_)
           · trivial
           refine tk 0 hHeld ?_;refine tk 2 hHeld ?_;refine tk 3 hHeld ?_;refine tk 4 hHeld ?_;refine rdo 1 (fun Kx hKx => ?_)
           go_simp
           refine (HPUT.out _).mono ?_;rintro e w2 ⟨rfl, hf2⟩;refine hKx.out _ _ ?_ (fun hHeld => ?_)
           · trivial
           clear hKx Kx;refine tk 5 hHeld ?_;refine tk 6 hHeld ?_;refine wpAnyH_take (i := 7) (v := undef) rfl (by kernel_rfl) (by kernel_rfl) (by kernel_rfl) (fun _ _ _ h => h) (Or.inr ⟨by rfl, rfl⟩) hHeld ?_
           (try simp only [Act.put, List.setIfInBounds_toArray, List.set_cons_zero, List.set_cons_succ, List.getElem_toArray, List.getElem_cons_zero, List.getElem_cons_succ])
           refine wpAnyH_take (i := 8) (v := undef) rfl (by kernel_rfl) (by kernel_rfl) (by kernel_rfl) (fun _ _ _ h => h) (Or.inr ⟨by rfl, rfl⟩) hHeld ?_;refine tk 9 hHeld ?_;refine wpAnyH_done (by kernel_rfl) ?_ _;refine NoPanic.normal ?_
           all_goals go_wp2
           all_goals go_roundw
           all_goals first
            | exact ⟨k + 1, by omega, by omega, by go_num, HNO.out, hfr.drew.trans hf2 im_⟩
            | (simp [intOf] <;> omega)
    · have t2 : ((k : Int) == 2) = false := by simp; omega
      have t3 : ((k : Int) == 3) = true := by simp; omega
      have t4 : ((k : Int) == 4) = false := by simp; omega
      have HP0 := hid (show (a.toNat : Int) - 224 = pn k B (1 - 1) by rw [Nat.sub_self, ← hp0, hk]; simp [off]);clear hp0 hk;go_wp2_with fail
      go_loop [5, 6] (fun x i => ∃ (m : Nat) (z : Int), 1 ≤ m ∧ m ≤ k ∧ i = .int .i64 m ∧ x = .int .i64 z ∧ -100000000 ≤ z ∧ z ≤ 100000000 ∧ Hid (z = pn k B (m - 1))) (fun _ i => 5 - (intOf i).toNat)
      case atStart => exact ⟨1, _, by omega, hk1, rfl, rfl, by omega, by omega, HP0.out⟩
      case round =>
       obtain ⟨m, z, hm1, hmk, rfl, rfl, hz0, hz1, Hz⟩ := hrel;by_cases hlt : m < k
       · have hms : m < (txt B).size := by rw [HSZ.out]; omega
         have hmI : (m : Int) < ((txt B).size : Int) := by omega
         obtain ⟨c, hc⟩ := nm_ ((txt B)[m]'hms);have hc256 := c.toNat_lt;have hbd := pn_bd k B m (by omega);have hpn : z * 64 + (c.toNat : Int) - 128 = pn k B m := by
          obtain ⟨j, rfl⟩ : ∃ j, m = j + 1 := ⟨m - 1, by omega⟩
          have hl : j + 1 < B.length := by have := HN.out; omega
          rw [Hz.out, ← hc, txt_get];show _ = pn k B j * 64 + ((B.getD (j + 1) 0).toNat : Int) - 128;rw [List.getD_eq_getElem?_getD, List.getElem?_eq_getElem hl];rfl
         have hb1 : -100000000 ≤ z * 64 + (c.toNat : Int) - 128 := by omega
         have hb2 : z * 64 + (c.toNat : Int) - 128 ≤ 100000000 := by omega
         have HPN := hid hpn;clear hpn hbd
         go_wp2
         go_round
         case rel => exact ⟨m + 1, _, by omega, by omega, by go_num, rfl, hb1, hb2, HPN.out⟩
         case measure => simp [intOf] <;> omega
       · have hmk2 : m = k := by omega
         have HZK := hid (show z = pn k B (k - 1) by rw [Hz.out, hmk2]);have hput := Put_any z wr (by omega) (by omega);have hq : ((txt (put z)).toList == ((txt B).extract 0 k).toList) = decide (hit k B) := by
          rw [ext_upto, show (txt (put z)).toList = put z from ByteArray.toList_mk _, show (txt (B.take k)).toList = B.take k from ByteArray.toList_mk _];rw [Bool.eq_iff_iff];simp only [beq_iff_eq, decide_eq_true_eq];unfold hit;rw [← HZK.out]
         obtain ⟨T, hT⟩ : ∃ T, T = txt (put z) := ⟨_, rfl⟩
         rw [← hT] at hput hq;have HPUT := hid (fun w' : World => Put_any z w' (by omega) (by omega));rw [← hT] at HPUT;clear hmk2 hput hT Hz;by_cases hh : hit k B
         · rw [decide_eq_true hh] at hq;have HH := hid hh;clear hh;go_wp2_with fail;refine wp_region_noPanic ?_;refine wp_region_held_drew (S := (fun _ => True)) (by kernel_rfl) ?_ (fun hHeld => ?_)
           · trivial
           refine tk 0 hHeld ?_;refine tk 2 hHeld ?_;refine tk 3 hHeld ?_;refine tk 4 hHeld ?_;refine rdo 1 (fun Kx hKx => ?_)
           go_simp
           refine (HPUT.out _).mono ?_;rintro e w2 ⟨rfl, hf2⟩;refine hKx.out _ _ ?_ (fun hHeld => ?_)
           · trivial
           clear hKx Kx;refine tk 5 hHeld ?_;refine tk 6 hHeld ?_;refine tk 7 hHeld ?_;refine tk 8 hHeld ?_;refine tk 9 hHeld ?_;refine wpAnyH_done (by kernel_rfl) ?_ _;refine NoPanic.normal ?_
           all_goals go_wp2
           all_goals go_ret
           all_goals
            rw [nx_hits B k hk1 hk4 (by have := HN.out; omega) HH.out (fun j h1 h2 => Hno.out j h1 h2 (by have := HN.out; omega))];exact ⟨rfl, hfr.drew.trans hf2 im_⟩
         · rw [decide_eq_false hh] at hq;have HNO := hid (show ∀ j, 1 ≤ j → j < k + 1 → j ≤ B.length → ¬ hit j B by
            intro j h1 h2 h3;by_cases hj : j = k
            · rw [hj]; exact hh
            · exact Hno.out j h1 (by omega) h3)
           clear hh;go_wp2_with fail;refine wp_region_noPanic ?_;refine wp_region_held_drew (S := (fun _ => True)) (by kernel_rfl) ?_ (fun hHeld => ?_)
           · trivial
           refine tk 0 hHeld ?_;refine tk 2 hHeld ?_;refine tk 3 hHeld ?_;refine tk 4 hHeld ?_;refine rdo 1 (fun Kx hKx => ?_)
           go_simp
           refine (HPUT.out _).mono ?_;rintro e w2 ⟨rfl, hf2⟩;refine hKx.out _ _ ?_ (fun hHeld => ?_)
           · trivial
           clear hKx Kx;refine tk 5 hHeld ?_;refine tk 6 hHeld ?_;refine wpAnyH_take (i := 7) (v := undef) rfl (by kernel_rfl) (by kernel_rfl) (by kernel_rfl) (fun _ _ _ h => h) (Or.inr ⟨by rfl, rfl⟩) hHeld ?_
           (try simp only [Act.put, List.setIfInBounds_toArray, List.set_cons_zero, List.set_cons_succ, List.getElem_toArray, List.getElem_cons_zero, List.getElem_cons_succ])
           refine wpAnyH_take (i := 8) (v := undef) rfl (by kernel_rfl) (by kernel_rfl) (by kernel_rfl) (fun _ _ _ h => h) (Or.inr ⟨by rfl, rfl⟩) hHeld ?_;refine tk 9 hHeld ?_;refine wpAnyH_done (by kernel_rfl) ?_ _;refine NoPanic.normal ?_
           all_goals go_wp2
           all_goals go_roundw
           all_goals first
            | exact ⟨k + 1, by omega, by omega, by go_num, HNO.out, hfr.drew.trans hf2 im_⟩
            | (simp [intOf] <;> omega)
    · have t2 : ((k : Int) == 2) = false := by simp; omega
      have t3 : ((k : Int) == 3) = false := by simp; omega
      have t4 : ((k : Int) == 4) = true := by simp; omega
      have HP0 := hid (show (a.toNat : Int) - 240 = pn k B (1 - 1) by rw [Nat.sub_self, ← hp0, hk]; simp [off]);clear hp0 hk;go_wp2_with fail
      go_loop [5, 6] (fun x i => ∃ (m : Nat) (z : Int), 1 ≤ m ∧ m ≤ k ∧ i = .int .i64 m ∧ x = .int .i64 z ∧ -100000000 ≤ z ∧ z ≤ 100000000 ∧ Hid (z = pn k B (m - 1))) (fun _ i => 5 - (intOf i).toNat)
      case atStart => exact ⟨1, _, by omega, hk1, rfl, rfl, by omega, by omega, HP0.out⟩
      case round =>
       obtain ⟨m, z, hm1, hmk, rfl, rfl, hz0, hz1, Hz⟩ := hrel;by_cases hlt : m < k
       · have hms : m < (txt B).size := by rw [HSZ.out]; omega
         have hmI : (m : Int) < ((txt B).size : Int) := by omega
         obtain ⟨c, hc⟩ := nm_ ((txt B)[m]'hms);have hc256 := c.toNat_lt;have hbd := pn_bd k B m (by omega);have hpn : z * 64 + (c.toNat : Int) - 128 = pn k B m := by
          obtain ⟨j, rfl⟩ : ∃ j, m = j + 1 := ⟨m - 1, by omega⟩
          have hl : j + 1 < B.length := by have := HN.out; omega
          rw [Hz.out, ← hc, txt_get];show _ = pn k B j * 64 + ((B.getD (j + 1) 0).toNat : Int) - 128;rw [List.getD_eq_getElem?_getD, List.getElem?_eq_getElem hl];rfl
         have hb1 : -100000000 ≤ z * 64 + (c.toNat : Int) - 128 := by omega
         have hb2 : z * 64 + (c.toNat : Int) - 128 ≤ 100000000 := by omega
         have HPN := hid hpn;clear hpn hbd
         go_wp2
         go_round
         case rel => exact ⟨m + 1, _, by omega, by omega, by go_num, rfl, hb1, hb2, HPN.out⟩
         case measure => simp [intOf] <;> omega
       · have hmk2 : m = k := by omega
         have HZK := hid (show z = pn k B (k - 1) by rw [Hz.out, hmk2]);have hput := Put_any z wr (by omega) (by omega);have hq : ((txt (put z)).toList == ((txt B).extract 0 k).toList) = decide (hit k B) := by
          rw [ext_upto, show (txt (put z)).toList = put z from ByteArray.toList_mk _, show (txt (B.take k)).toList = B.take k from ByteArray.toList_mk _];rw [Bool.eq_iff_iff];simp only [beq_iff_eq, decide_eq_true_eq];unfold hit;rw [← HZK.out]
         obtain ⟨T, hT⟩ : ∃ T, T = txt (put z) := ⟨_, rfl⟩
         rw [← hT] at hput hq;have HPUT := hid (fun w' : World => Put_any z w' (by omega) (by omega));rw [← hT] at HPUT;clear hmk2 hput hT Hz;by_cases hh : hit k B
         · rw [decide_eq_true hh] at hq;have HH := hid hh;clear hh;go_wp2_with fail;refine wp_region_noPanic ?_;refine wp_region_held_drew (S := (fun _ => True)) (by kernel_rfl) ?_ (fun hHeld => ?_)
           · trivial
           refine tk 0 hHeld ?_;refine tk 2 hHeld ?_;refine tk 3 hHeld ?_;refine tk 4 hHeld ?_;refine rdo 1 (fun Kx hKx => ?_)
           go_simp
           refine (HPUT.out _).mono ?_;rintro e w2 ⟨rfl, hf2⟩;refine hKx.out _ _ ?_ (fun hHeld => ?_)
           · trivial
           clear hKx Kx;refine tk 5 hHeld ?_;refine tk 6 hHeld ?_;refine tk 7 hHeld ?_;refine tk 8 hHeld ?_;refine tk 9 hHeld ?_;refine wpAnyH_done (by kernel_rfl) ?_ _;refine NoPanic.normal ?_
           all_goals go_wp2
           all_goals go_ret
           all_goals
            rw [nx_hits B k hk1 hk4 (by have := HN.out; omega) HH.out (fun j h1 h2 => Hno.out j h1 h2 (by have := HN.out; omega))];exact ⟨rfl, hfr.drew.trans hf2 im_⟩
         · rw [decide_eq_false hh] at hq;have HNO := hid (show ∀ j, 1 ≤ j → j < k + 1 → j ≤ B.length → ¬ hit j B by
            intro j h1 h2 h3;by_cases hj : j = k
            · rw [hj]; exact hh
            · exact Hno.out j h1 (by omega) h3)
           clear hh;go_wp2_with fail;refine wp_region_noPanic ?_;refine wp_region_held_drew (S := (fun _ => True)) (by kernel_rfl) ?_ (fun hHeld => ?_)
           · trivial
           refine tk 0 hHeld ?_;refine tk 2 hHeld ?_;refine tk 3 hHeld ?_;refine tk 4 hHeld ?_;refine rdo 1 (fun Kx hKx => ?_)
           go_simp
           refine (HPUT.out _).mono ?_;rintro e w2 ⟨rfl, hf2⟩;refine hKx.out _ _ ?_ (fun hHeld => ?_)
           · trivial
           clear hKx Kx;refine tk 5 hHeld ?_;refine tk 6 hHeld ?_;refine wpAnyH_take (i := 7) (v := undef) rfl (by kernel_rfl) (by kernel_rfl) (by kernel_rfl) (fun _ _ _ h => h) (Or.inr ⟨by rfl, rfl⟩) hHeld ?_
           (try simp only [Act.put, List.setIfInBounds_toArray, List.set_cons_zero, List.set_cons_succ, List.getElem_toArray, List.getElem_cons_zero, List.getElem_cons_succ])
           refine wpAnyH_take (i := 8) (v := undef) rfl (by kernel_rfl) (by kernel_rfl) (by kernel_rfl) (fun _ _ _ h => h) (Or.inr ⟨by rfl, rfl⟩) hHeld ?_;refine tk 9 hHeld ?_;refine wpAnyH_done (by kernel_rfl) ?_ _;refine NoPanic.normal ?_
           all_goals go_wp2
           all_goals go_roundw
           all_goals first
            | exact ⟨k + 1, by omega, by omega, by go_num, HNO.out, hfr.drew.trans hf2 im_⟩
            | (simp [intOf] <;> omega)
  · have hnone : nx B = 0 := nx_none B (fun j h1 h2 h3 => Hno.out j h1 (by have := HN.out; omega) h3);have hdec : k ≤ 4 → ¬ (k : Int) ≤ ((txt B).size : Int) := by intro h; rw [HSZ.out]; omega
    have HNONE := hid hnone;clear hnone;by_cases h4 : k ≤ 4
    · have h5 := hdec h4;clear hdec hgo
      go_wp2
      go_ret;rw [HNONE.out];exact ⟨rfl, hfr⟩
    · clear hdec hgo
      go_wp2
      go_ret;rw [HNONE.out];exact ⟨rfl, hfr⟩
end
section
open Go.RowKit UtfM Mem Go.Lib
theorem rWhere_any (B : List UInt8) (w : World) (hl : B.length ≤ 1000000000) :
    Calls Tryz.prog 44 #[.string (txt B)] w fun e w' => e = .returned (.int .i64 (wh B : Int)) ∧ Fr (fun _ => False) w w' := by
 have hsz := txt_sz B;obtain ⟨n, hn⟩ : ∃ n, n = B.length := ⟨_, rfl⟩
 rw [← hn] at hsz hl;have HSZ := hid hsz;have HN := hid hn;clear hn hsz;go_enter Tryz.func44, Tryz.ntmps44
 go_wp2
 go_loopw [3] (fun i wr => ∃ k : Nat, k ≤ n ∧ i = .int .i64 k ∧ Hid (k + wh (B.drop k) = wh B) ∧ Fr (fun _ => False) w wr) (fun i _ => n - (intOf i).toNat)
 case atStart => exact ⟨0, by omega, rfl, by show _ = _; simp, Fr.refl _ _⟩
 case round =>
  obtain ⟨k, hk, rfl, Hk, hfr⟩ := hrel;have hszI : (k : Int) ≤ ((txt B).size : Int) := by rw [HSZ.out]; omega
  have hkI : (0 : Int) ≤ (k : Int) := by omega
  by_cases hlt : k < n
  · have hltI : (k : Int) < ((txt B).size : Int) := by rw [HSZ.out]; omega
    obtain ⟨T, hT⟩ := nm_ ((txt B).extract k (txt B).size);have hT2 : T = txt (B.drop k) := by rw [← hT, ext_from]
    obtain ⟨q, hq⟩ : ∃ q, q = nx (B.drop k) := ⟨_, rfl⟩
    have hql := nx_le (B.drop k);rw [← hq, List.length_drop, ← HN.out] at hql;have hnx : ∀ w' : World, Calls Tryz.prog 86 #[.string T] w' fun e w'' => e = .returned (.int .i64 (q : Int)) ∧ Fr (fun _ => False) w' w'' := by
     intro w';rw [hT2, hq];exact rNext_any (B.drop k) w' (by rw [List.length_drop, ← HN.out]; omega)
    have HNX := hid hnx;have HQ := hid hq;clear hnx hT2 hq;by_cases hq0 : 0 < q
    · have hdec : decide (0 < (q : Int)) = true := by simp; omega
      have hnext : (k + q) + wh (B.drop (k + q)) = wh B := by
       rw [← Hk.out, wh_pos (B := B.drop k) (by rw [← HQ.out]; exact hq0), ← HQ.out, List.drop_drop];omega
      have HNEXT := hid hnext;clear hnext;go_wp2_with fail;refine (HNX.out _).mono ?_;rintro e w2 ⟨rfl, hf2⟩;go_wp2_with fail;refine (HNX.out _).mono ?_;rintro e w3 ⟨rfl, hf3⟩
      go_wp2
      go_roundw
      case rel => exact ⟨k + q, by omega, by go_num, HNEXT.out, (hfr.trans hf2 im_).trans hf3 im_⟩
      case measure => simp [intOf] <;> omega
    · have hdec : decide (0 < (q : Int)) = false := by simp; omega
      have hres : wh B = k := by rw [← Hk.out, wh_zero (B := B.drop k) (by rw [← HQ.out]; omega)]; omega
      have HRES := hid hres;clear hres;go_wp2_with fail;refine (HNX.out _).mono ?_;rintro e w2 ⟨rfl, hf2⟩
      go_wp2
      go_ret;rw [HRES.out];exact ⟨rfl, hfr.trans hf2 im_⟩
  · have hltI : ¬ (k : Int) < ((txt B).size : Int) := by rw [HSZ.out]; omega
    have hres : wh B = k := by rw [← Hk.out, List.drop_eq_nil_of_le (by have := HN.out; omega), wh_nil]; omega
    have HRES := hid hres;clear hres
    go_wp2
    go_ret;rw [HRES.out];exact ⟨rfl, hfr⟩
end
section
open Go.RowKit UtfM Mem Go.Lib
def strc (B : List UInt8) : Value := .string (txt B)
def okAll (l : List (List UInt8)) : Bool := l.all fun B => wh B == B.length
structure UtfP : Prop where
 next : ∀ (B : List UInt8) (w : World), B.length ≤ 1000000 → Calls Tryz.prog 186 #[.string (txt B)] w fun e w' => e = .returned (.int .i64 (nx B : Int)) ∧ Fr (fun _ => False) w w'
 where_ : ∀ (B : List UInt8) (w : World), B.length ≤ 1000000 → Calls Tryz.prog 169 #[.string (txt B)] w fun e w' => e = .returned (.int .i64 (wh B : Int)) ∧ Fr (fun _ => False) w w'
 valid : ∀ (A : Option Addr) (n c : Nat) (l : List (List UInt8)) (w : World), Rd w A n (l.map strc) → n ≤ c → n ≤ 1000 → (∀ B ∈ l, B.length ≤ 1000000) →
  Calls Tryz.prog 142 #[.slice A n c] w fun e w' => e = .returned (.bool (okAll l)) ∧ Fr (fun _ => False) w w'
theorem valid1 (K : UtfP) (B : List UInt8) (w : World) {k : Nat} (hk : k = w.heap.size) (hl : B.length ≤ 1000000) (v : Bool) (hv : (wh B == B.length) = v) :
    Calls Tryz.prog 142 #[.slice (some ⟨k, 0, none⟩) 1 1] (w.alloc (.cells #[.string (txt B)] 9)) fun e w' => e = .returned (.bool v) ∧ Fr (fun _ => False) w w' := by
 refine (K.valid (some ⟨k, 0, none⟩) 1 1 [B] _ (Rd.one' hk _ _) (Nat.le_refl _) (by omega) (by simpa using hl)).mono ?_;rintro e w' ⟨rfl, hf⟩;refine ⟨?_, ((Fr.refl _ _).alloc _).trans hf im_⟩;simp [okAll, hv]
end
section
open Go.RowKit UtfM Mem Go.Lib
theorem kind_any (a : UInt8) (w : World) :
    Calls Tryz.prog 187 #[.int .u8 (a.toNat : Int)] w fun e w' => e = .returned (.tuple #[.int .i64 (kc a.toNat : Int), .int .u8 (km a.toNat : Int), .int .i64 (kl a.toNat : Int)]) ∧ w = w' := by
 have ha := a.toNat_lt;have hk := kind_of a.toNat;rcases hk with ⟨h1, e1, e2, e3⟩ | ⟨h0, h1, e1, e2, e3⟩ | ⟨h0, h1, e1, e2, e3⟩ | ⟨h0, h1, e1, e2, e3⟩ | ⟨h0, h1, e1, e2, e3⟩ | ⟨h0, e1, e2, e3⟩
 all_goals
  rw [e1, e2, e3];clear e1 e2 e3;go_enter Tryz.func187, Tryz.ntmps187
  go_wp2
  first
   | exact bodyPost_ret (v := .tuple #[.int .i64 1, .int .u8 0, .int .i64 0]) (by simp [results, Tryz.results187, go_sem]) rfl ⟨rfl, rfl⟩
   | exact bodyPost_ret (v := .tuple #[.int .i64 0, .int .u8 0, .int .i64 0]) (by simp [results, Tryz.results187, go_sem]) rfl ⟨rfl, rfl⟩
   | exact bodyPost_ret (v := .tuple #[.int .i64 2, .int .u8 192, .int .i64 128]) (by simp [results, Tryz.results187, go_sem]) rfl ⟨rfl, rfl⟩
   | exact bodyPost_ret (v := .tuple #[.int .i64 3, .int .u8 224, .int .i64 2048]) (by simp [results, Tryz.results187, go_sem]) rfl ⟨rfl, rfl⟩
   | exact bodyPost_ret (v := .tuple #[.int .i64 4, .int .u8 240, .int .i64 65536]) (by simp [results, Tryz.results187, go_sem]) rfl ⟨rfl, rfl⟩
theorem isRest_any (b : UInt8) (w : World) :
    Calls Tryz.prog 188 #[.int .u8 (b.toNat : Int)] w fun e w' => e = .returned (.bool (contB b)) ∧ w = w' := by
 have hb := b.toNat_lt;rcases (show b.toNat < 128 ∨ 128 ≤ b.toNat ∧ b.toNat < 192 ∨ 192 ≤ b.toNat by omega) with h | ⟨h, h'⟩ | h
 · have e : contB b = false := by simp [contB]; omega
   rw [e];clear e;have t1 : decide (128 ≤ (b.toNat : Int)) = false := by simp; omega
   go_enter Tryz.func188, Tryz.ntmps188
   go_wp2
   go_ret;exact ⟨rfl, rfl⟩
 · have e : contB b = true := by simp [contB]; omega
   rw [e];clear e;have t1 : decide (128 ≤ (b.toNat : Int)) = true := by simp; omega
   have t2 : decide ((b.toNat : Int) < 192) = true := by simp; omega
   go_enter Tryz.func188, Tryz.ntmps188
   go_wp2
   go_ret;exact ⟨rfl, rfl⟩
 · have e : contB b = false := by simp [contB]; omega
   rw [e];clear e;have t1 : decide (128 ≤ (b.toNat : Int)) = true := by simp; omega
   have t2 : decide ((b.toNat : Int) < 192) = false := by simp; omega
   go_enter Tryz.func188, Tryz.ntmps188
   go_wp2
   go_ret;exact ⟨rfl, rfl⟩
theorem isCharacter_any (n : Nat) (w : World) (hn : n ≤ 100000000) :
    Calls Tryz.prog 189 #[.int .i64 (n : Int)] w fun e w' => e = .returned (.bool (isch n)) ∧ w = w' := by
 rcases (show n < 55296 ∨ (55296 ≤ n ∧ n ≤ 57343) ∨ (57343 < n ∧ n ≤ 1114111) ∨ 1114111 < n by omega) with h | ⟨h, h'⟩ | ⟨h, h'⟩ | h
 · have e : isch n = true := by simp [isch]; omega
   rw [e];clear e;have t1 : decide ((n : Int) ≤ 1114111) = true := by simp; omega
   have t2 : decide ((n : Int) < 55296) = true := by simp; omega
   go_enter Tryz.func189, Tryz.ntmps189
   go_wp2
   go_ret;exact ⟨rfl, rfl⟩
 · have e : isch n = false := by simp [isch]; omega
   rw [e];clear e;have t1 : decide ((n : Int) ≤ 1114111) = true := by simp; omega
   have t2 : decide ((n : Int) < 55296) = false := by simp; omega
   have t3 : decide (57343 < (n : Int)) = false := by simp; omega
   go_enter Tryz.func189, Tryz.ntmps189
   go_wp2
   go_ret;exact ⟨rfl, rfl⟩
 · have e : isch n = true := by simp [isch]; omega
   rw [e];clear e;have t1 : decide ((n : Int) ≤ 1114111) = true := by simp; omega
   have t2 : decide ((n : Int) < 55296) = false := by simp; omega
   have t3 : decide (57343 < (n : Int)) = true := by simp; omega
   go_enter Tryz.func189, Tryz.ntmps189
   go_wp2
   go_ret;exact ⟨rfl, rfl⟩
 · have e : isch n = false := by simp [isch]; omega
   rw [e];clear e;have t1 : decide ((n : Int) ≤ 1114111) = false := by simp; omega
   go_enter Tryz.func189, Tryz.ntmps189
   go_wp2
   go_ret;exact ⟨rfl, rfl⟩
theorem getD_txt {B : List UInt8} {i : Nat} (h : i < (txt B).size) : B.getD i 0 = (txt B)[i] := by
 have hl : i < B.length := by rw [txt_sz] at h; exact h
 rw [txt_get, List.getD_eq_getElem?_getD, List.getElem?_eq_getElem hl];rfl
theorem pNext_any (B : List UInt8) (w : World) (hl : B.length ≤ 1000000) :
    Calls Tryz.prog 186 #[.string (txt B)] w fun e w' => e = .returned (.int .i64 (nx B : Int)) ∧ w = w' := by
 cases B with
 | nil =>
  have e : nx [] = 0 := rfl;rw [e];clear e;have t : (txt []).toList.isEmpty = true := by rw [show (txt []).toList = [] from ByteArray.toList_mk _]; rfl
  go_enter Tryz.func186, Tryz.ntmps186
  go_wp2
  go_ret;exact ⟨rfl, rfl⟩
 | cons a r =>
  obtain ⟨n, hn⟩ : ∃ n, n = r.length + 1 := ⟨_, rfl⟩
  have hsz : (txt (a :: r)).size = n := by rw [txt_sz, hn]; rfl
  obtain ⟨B, hB⟩ : ∃ B, B = a :: r := ⟨_, rfl⟩
  have hl : n ≤ 1000000 := by rw [hn]; exact hl
  rw [← hB] at hsz ⊢;have hn1 : 1 ≤ n := by omega
  have hs0 : 0 < (txt B).size := by omega
  have ha : (txt B)[0]'hs0 = a := by rw [← getD_txt hs0, hB]; rfl
  have hne : (txt B).toList.isEmpty = false := by rw [hB, show (txt (a :: r)).toList = a :: r from ByteArray.toList_mk _]; rfl
  obtain ⟨c, hc⟩ : ∃ c, c = kc a.toNat := ⟨_, rfl⟩
  obtain ⟨m, hm⟩ : ∃ m, m = km a.toNat := ⟨_, rfl⟩
  obtain ⟨l, hlst⟩ : ∃ l, l = kl a.toNat := ⟨_, rfl⟩
  have hkind := fun w => kind_any a w;rw [← hc, ← hm, ← hlst] at hkind;have hma : m ≤ a.toNat := by rw [hm]; exact km_le _
  have hc4 : c ≤ 4 := by rw [hc]; exact kc_le _
  have hl6 : l ≤ 65536 := by rw [hlst]; exact kl_le _
  have ha256 := a.toNat_lt;have h0 : acc B 0 = a.toNat - m := by rw [hB, hm]; rfl
  have HK := hid hkind;have HSZ := hid hsz;have HN := hid hn;have HB := hid hB;have HC := hid hc;have HM := hid hm;have HL := hid hlst;have H0 := hid h0;clear hkind hsz hn hB hc hm hlst h0;by_cases hc0 : c = 0 ∨ n < c
  · have hz : nx B = 0 := by
     rw [HB.out];rcases hc0 with h | h
     · exact nx_k0 a r (by rw [← HC.out]; exact h)
     · exact nx_short a r (by rw [← HC.out, ← HN.out]; exact h)
    rw [hz];clear hz;have hszI : ((txt B).size : Int) = (n : Int) := by rw [HSZ.out]
    have t : ((c : Int) == 0) = true ∨ ((c : Int) == 0) = false ∧ (n : Int) < (c : Int) := by
     rcases hc0 with h | h
     · left; simp; omega
     · by_cases h0 : c = 0
       · left; simp; omega
       · right; exact ⟨by simp; omega, by omega⟩
    rcases t with t | ⟨t, t'⟩
    · clear hc0 hszI;go_enter Tryz.func186, Tryz.ntmps186;go_wp2_with fail;refine (HK.out _).mono ?_;rintro e w1 ⟨rfl, rfl⟩
      go_wp2
      go_ret;exact ⟨rfl, rfl⟩
    · have t2 : ((txt B).size : Int) < (c : Int) := by rw [hszI]; exact t'
      clear hc0 hszI t';go_enter Tryz.func186, Tryz.ntmps186;go_wp2_with fail;refine (HK.out _).mono ?_;rintro e w1 ⟨rfl, rfl⟩
      go_wp2
      go_ret;exact ⟨rfl, rfl⟩
  · have hc1 : 1 ≤ c := by omega
    have hcn : c ≤ n := by omega
    have t : ((c : Int) == 0) = false := by simp; omega
    have t2 : decide ((txt B).size < c) = false := by rw [HSZ.out]; simp; omega
    clear hc0;go_enter Tryz.func186, Tryz.ntmps186;go_wp2_with fail;refine (HK.out _).mono ?_;rintro e w1 ⟨rfl, rfl⟩;go_wp2_with fail
    go_loop [6, 7] (fun x i => ∃ k z : Nat, 1 ≤ k ∧ k ≤ c ∧ i = .int .i64 k ∧ x = .int .i64 z ∧ z ≤ 100000000 ∧ Hid (z = acc B (k - 1)) ∧ Hid (∀ j, 1 ≤ j → j < k → contB (B.getD j 0) = true)) (fun _ i => 5 - (intOf i).toNat)
    case atStart => exact ⟨1, a.toNat - m, by omega, hc1, rfl, by congr 1; omega, by omega, H0.out.symm, fun j h1 h2 => by omega⟩
    case round =>
     obtain ⟨k, z, hk1, hkc, rfl, rfl, hz, Hz, Hc⟩ := hrel;by_cases hlt : k < c
     · have hks : k < (txt B).size := by rw [HSZ.out]; omega
       have hkI : (k : Int) < ((txt B).size : Int) := by omega
       obtain ⟨b, hb⟩ := nm_ ((txt B)[k]'hks);have hb256 := b.toNat_lt;have hgb : B.getD k 0 = b := by rw [getD_txt hks, hb]
       have hacc : acc B k = z * 64 + (b.toNat - 128) := by
        obtain ⟨j, rfl⟩ : ∃ j, k = j + 1 := ⟨k - 1, by omega⟩
        show acc B j * 64 + ((B.getD (j + 1) 0).toNat - 128) = _;rw [hgb, Hz.out]; rfl
       have hbd := acc_bd B k (by omega);have HG := hid hgb;have HACC := hid hacc;have HBD := hid hbd;clear hgb hacc hbd;cases hcb : contB b with
       | true =>
        have h128 : 128 ≤ b.toNat := by have := (contB_iff b).1 hcb; unfold cont at this; omega
        have h128I : (128 : Int) ≤ (b.toNat : Int) := by omega
        have hrest := fun w => isRest_any b w;rw [hcb] at hrest;have HR := hid hrest;have HCB := hid hcb;clear hrest hcb;go_wp2_with fail;refine (HR.out _).mono ?_;rintro e w1 ⟨rfl, rfl⟩
        go_wp2
        go_round
        case rel =>
         refine ⟨k + 1, z * 64 + (b.toNat - 128), by omega, by omega, by go_num, by congr 1; omega, by rw [← HACC.out]; exact HBD.out, HACC.out.symm, fun j h1 h2 => ?_⟩;by_cases hj : j = k
         · rw [hj, HG.out]; exact HCB.out
         · exact Hc.out j h1 (by omega)
        case measure => simp [intOf] <;> omega
       | false =>
        have hz0 : nx B = 0 := by
         rw [HB.out];refine nx_stop a r k hk1 (by rw [← HC.out]; exact hlt) (by rw [← HC.out, ← HN.out]; exact hcn) ?_;rw [← HB.out, HG.out]; exact hcb
        have HZ0 := hid hz0;have hrest := fun w => isRest_any b w;rw [hcb] at hrest;have HR := hid hrest;clear hrest hcb hz0;go_wp2_with fail;refine (HR.out _).mono ?_;rintro e w1 ⟨rfl, rfl⟩
        go_wp2
        go_ret;rw [HZ0.out];exact ⟨rfl, rfl⟩
     · obtain rfl : k = c := by omega
       have hend := nx_end a r k HC.out (by omega) (by rw [← HN.out]; exact hcn) (by rw [← HB.out]; exact Hc.out);rw [← HB.out, ← HL.out, ← Hz.out] at hend;have hch := fun w => isCharacter_any z w hz;by_cases h1 : z < l
       · rw [if_neg (by omega)] at hend;have HE := hid hend;clear hend hch
         go_wp2
         go_ret;rw [HE.out];exact ⟨rfl, rfl⟩
       · cases hi : isch z with
         | true =>
          rw [if_pos ⟨by omega, hi⟩] at hend;rw [hi] at hch;have HE := hid hend;have HCH := hid hch;clear hend hch hi;go_wp2_with fail;refine (HCH.out _).mono ?_;rintro e w1 ⟨rfl, rfl⟩
          go_wp2
          go_ret;rw [HE.out];exact ⟨rfl, rfl⟩
         | false =>
          rw [if_neg (by rw [hi]; simp)] at hend;rw [hi] at hch;have HE := hid hend;have HCH := hid hch;clear hend hch hi;go_wp2_with fail;refine (HCH.out _).mono ?_;rintro e w1 ⟨rfl, rfl⟩
          go_wp2
          go_ret;rw [HE.out];exact ⟨rfl, rfl⟩
theorem pWhere_any (B : List UInt8) (w : World) (hl : B.length ≤ 1000000) :
    Calls Tryz.prog 169 #[.string (txt B)] w fun e w' => e = .returned (.int .i64 (wh B : Int)) ∧ w = w' := by
 have hsz := txt_sz B;obtain ⟨n, hn⟩ : ∃ n, n = B.length := ⟨_, rfl⟩
 rw [← hn] at hsz hl;have HSZ := hid hsz;have HN := hid hn;clear hn hsz;go_enter Tryz.func169, Tryz.ntmps169
 go_wp2
 go_loop [3] (fun i => ∃ k : Nat, k ≤ n ∧ i = .int .i64 k ∧ Hid (k + wh (B.drop k) = wh B)) (fun i => n - (intOf i).toNat)
 case atStart => exact ⟨0, by omega, rfl, by show _ = _; simp⟩
 case round =>
  obtain ⟨k, hk, rfl, Hk⟩ := hrel;have hszI : (k : Int) ≤ ((txt B).size : Int) := by rw [HSZ.out]; omega
  have hkI : (0 : Int) ≤ (k : Int) := by omega
  obtain ⟨T, hT⟩ := nm_ ((txt B).extract k (txt B).size);have hT2 : T = txt (B.drop k) := by rw [← hT, ext_from]
  obtain ⟨q, hq⟩ : ∃ q, q = nx (B.drop k) := ⟨_, rfl⟩
  have hql := nx_le (B.drop k);rw [← hq, List.length_drop, ← HN.out] at hql;have hnx : ∀ w' : World, Calls Tryz.prog 186 #[.string T] w' fun e w'' => e = .returned (.int .i64 (q : Int)) ∧ w' = w'' := by
   intro w';rw [hT2, hq];exact pNext_any (B.drop k) w' (by rw [List.length_drop, ← HN.out]; omega)
  have HNX := hid hnx;have HQ := hid hq;clear hnx hT2 hq;by_cases hq0 : 0 < q
  · have t : ((q : Int) == 0) = false := by simp; omega
    have hnext : (k + q) + wh (B.drop (k + q)) = wh B := by
     rw [← Hk.out, wh_pos (B := B.drop k) (by rw [← HQ.out]; exact hq0), ← HQ.out, List.drop_drop];omega
    have HNEXT := hid hnext;clear hnext;go_wp2_with fail;refine (HNX.out _).mono ?_;rintro e w2 ⟨rfl, rfl⟩
    go_wp2
    go_round
    case rel => exact ⟨k + q, by omega, by go_num, HNEXT.out⟩
    case measure => simp [intOf] <;> omega
  · have t : ((q : Int) == 0) = true := by simp; omega
    have hres : wh B = k := by rw [← Hk.out, wh_zero (B := B.drop k) (by rw [← HQ.out]; omega)]; omega
    have HRES := hid hres;clear hres;go_wp2_with fail;refine (HNX.out _).mono ?_;rintro e w2 ⟨rfl, rfl⟩
    go_wp2
    go_ret;rw [HRES.out];exact ⟨rfl, rfl⟩
theorem pValid_any (A : Option Addr) (n c : Nat) (l : List (List UInt8)) (w : World) (hr : Rd w A n (l.map strc)) (_ : n ≤ c) (hn : n ≤ 1000) (hb : ∀ B ∈ l, B.length ≤ 1000000) :
    Calls Tryz.prog 142 #[.slice A n c] w fun e w' => e = .returned (.bool (okAll l)) ∧ w = w' := by
 have hln : l.length = n := by simpa using hr.1
 have HR := hid hr;have HB := hid hb;have HLN := hid hln;clear hr hb hln;go_enter Tryz.func142, Tryz.ntmps142
 go_wp2
 go_loop [7] (fun i => ∃ k : Nat, k ≤ n ∧ i = .int .i64 k ∧ Hid (okAll (l.take k) = true)) (fun i => n - (intOf i).toNat)
 case atStart => exact ⟨0, by omega, rfl, by show _ = _; simp [okAll]⟩
 case round =>
  obtain ⟨k, hk, rfl, Hk⟩ := hrel;by_cases hlt : k < n
  · obtain ⟨ad, u, rfl, hu, hcell⟩ := HR.out.at_ hlt;obtain ⟨B, hB, rfl⟩ : ∃ B, l[k]? = some B ∧ strc B = u := by
     rw [List.getElem?_map] at hu;cases h : l[k]? with
     | none => rw [h] at hu; cases hu
     | some B => rw [h] at hu; injection hu with hu; exact ⟨B, rfl, hu⟩
    have hBl := HB.out B (List.mem_of_getElem? hB);change w.cell? (ad.add k) = some (.string (txt B)) at hcell;have htk : okAll (l.take (k + 1)) = (wh B == B.length) := by
     have h1 := Hk.out;unfold okAll at h1 ⊢;rw [List.take_add_one, hB, List.all_append, h1];simp
    obtain ⟨q, hq⟩ : ∃ q, q = wh B := ⟨_, rfl⟩
    have hql := wh_le B;have hsz := txt_sz B;have hw : ∀ w' : World, Calls Tryz.prog 169 #[.string (txt B)] w' fun e w'' => e = .returned (.int .i64 (q : Int)) ∧ w' = w'' := by
     intro w';rw [hq];exact pWhere_any B w' hBl
    rw [← hq, ← hsz] at htk hql;have HW := hid hw;clear hu hw hsz hBl;by_cases hlt2 : q < (txt B).size
    · have t : decide (q < (txt B).size) = true := by simpa using hlt2
      have hno : okAll l = false := by
       unfold okAll at htk ⊢;rw [← List.take_append_drop (k + 1) l, List.all_append, htk];have e : (q == (txt B).size) = false := by simp; omega
       rw [e]; rfl
      have HNO := hid hno;clear hno htk hB hq hlt2;go_wp2_with fail;refine (HW.out _).mono ?_;rintro e w2 ⟨rfl, rfl⟩
      go_wp2
      go_ret;rw [HNO.out];exact ⟨rfl, rfl⟩
    · have t : decide (q < (txt B).size) = false := by simpa using hlt2
      have hyes : okAll (l.take (k + 1)) = true := by
       rw [htk]; simp; omega
      have HY := hid hyes;clear hyes htk hB hq hlt2;go_wp2_with fail;refine (HW.out _).mono ?_;rintro e w2 ⟨rfl, rfl⟩
      go_wp2
      go_round
      case rel => exact ⟨k + 1, by omega, by go_num, HY.out⟩
      case measure => simp [intOf] <;> omega
  · have hall : okAll l = true := by
     have := Hk.out;rwa [List.take_of_length_le (by have := HLN.out; omega)] at this
    have HA := hid hall;clear hall
    go_wp2
    go_ret;rw [HA.out];exact ⟨rfl, rfl⟩
theorem utfP : UtfP where
 next B w hl := (pNext_any B w hl).mono fun _ _ ⟨he, hw⟩ => ⟨he, hw ▸ Fr.refl _ _⟩
 where_ B w hl := (pWhere_any B w hl).mono fun _ _ ⟨he, hw⟩ => ⟨he, hw ▸ Fr.refl _ _⟩
 valid A n c l w hr hc hn hb := (pValid_any A n c l w hr hc hn hb).mono fun _ _ ⟨he, hw⟩ => ⟨he, hw ▸ Fr.refl _ _⟩
end
end Go.Proofs.YtbabgnadgdidmaaGreat
