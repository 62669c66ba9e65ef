/-
  Contracts of layer 4's program: rotations, choices, words.
-/
import Derived.Test.YtjjeahijcibafaaDoorShqM
import Derived.Test.YtjjeahijcibafaaDoorShaF
import Derived.Test.YtjjeahijcibafaaDoorCut
import Derived.Deep.DrawnRows
import Derived.StillTailTactics
namespace Go.Proofs.YtjjeahijcibafaaDoor
open Go.RowKit ShaM Mem Go.Lib
attribute [local go_sem ↓] Go.wp_at_zero Go.wp_at_succ

theorem rot_facts (x n : Nat) (hx : x < 4294967296) (h1 : 1 ≤ n) (hn : n ≤ 31) : ∃ M s y z : Nat, IntKind.u64.wrap (-(n : Int)) = (M : Int) ∧ bits .and .u64 (M : Int) 31 = (s : Int) ∧ s < 32 ∧ IntKind.u32.wrap ((x : Int) * 2 ^ s) = (y : Int) ∧
    IntKind.u64.wrap (32 - (s : Int)) = (n : Int) ∧ (x : Int) / 2 ^ n = (z : Int) ∧ bits .or .u32 (y : Int) (z : Int) = (tr n x : Int) := by
  have hs : (18446744073709551616 - n) % 2 ^ 5 = 32 - n := by omega
  refine ⟨18446744073709551616 - n, 32 - n, x * 2 ^ (32 - n) % 4294967296, x / 2 ^ n, ?_, ?_, by omega, ?_, ?_, by simp, ?_⟩
  · rw [IntKind.wrap_u64]; omega
  · have h := u64_and_nat (18446744073709551616 - n) 31 (by omega) (by omega)
    rw [show (31 : Nat) = 2 ^ 5 - 1 from rfl, Nat.and_two_pow_sub_one_eq_mod, hs] at h
    exact h
  · rw [IntKind.wrap_u32]
    simp
  · rw [IntKind.wrap_u64]; omega
  · rw [u32_or_nat _ _ (Nat.mod_lt _ (by omega)) (Nat.lt_of_le_of_lt (Nat.div_le_self _ _) hx), tr_or n x h1 hn hx]
set_option maxHeartbeats 400000 in
theorem rotl_any (x n : Nat) (w : World) (hx : x < 4294967296) (h1 : 1 ≤ n) (hn : n ≤ 31) :
    Calls Tryd.prog 35 #[.int .u32 (x : Int), .int .i64 (-(n : Int))] w fun e w' => e = .returned (.int .u32 (tr n x : Int)) ∧ w = w' := by
  obtain ⟨M, s, y, z, e1, e2, hs, e3, e4, e5, e6⟩ := rot_facts x n hx h1 hn
  go_enter Tryd.func35, Tryd.ntmps35
  go_wp2_with fail
  go_ret
  exact ⟨rfl, rfl⟩
set_option maxHeartbeats 400000 in
theorem right_any (x n : Nat) (w : World) (hx : x < 4294967296) (h1 : 1 ≤ n) (hn : n ≤ 31) :
    Calls Tryd.prog 29 #[.int .u32 (x : Int), .int .i64 (n : Int)] w fun e w' => e = .returned (.int .u32 (tr n x : Int)) ∧ w = w' := by
  go_enter Tryd.func29, Tryd.ntmps29
  go_wp2_with fail
  refine (rotl_any x n _ hx h1 hn).mono ?_
  rintro e w2 ⟨rfl, rfl⟩
  go_wp2_with fail
  go_ret
  exact ⟨rfl, rfl⟩
theorem ri2 (x : Nat) (w : World) (hx : x < 4294967296) : Calls Tryd.prog 29 #[.int .u32 (x : Int), .int .i64 2] w fun e w' => e = .returned (.int .u32 (tr 2 x : Int)) ∧ w = w' := by exact right_any x 2 w hx (by omega) (by omega)
theorem ri6 (x : Nat) (w : World) (hx : x < 4294967296) : Calls Tryd.prog 29 #[.int .u32 (x : Int), .int .i64 6] w fun e w' => e = .returned (.int .u32 (tr 6 x : Int)) ∧ w = w' := by exact right_any x 6 w hx (by omega) (by omega)
theorem ri7 (x : Nat) (w : World) (hx : x < 4294967296) : Calls Tryd.prog 29 #[.int .u32 (x : Int), .int .i64 7] w fun e w' => e = .returned (.int .u32 (tr 7 x : Int)) ∧ w = w' := by exact right_any x 7 w hx (by omega) (by omega)
theorem ri11 (x : Nat) (w : World) (hx : x < 4294967296) : Calls Tryd.prog 29 #[.int .u32 (x : Int), .int .i64 11] w fun e w' => e = .returned (.int .u32 (tr 11 x : Int)) ∧ w = w' := by exact right_any x 11 w hx (by omega) (by omega)
theorem ri13 (x : Nat) (w : World) (hx : x < 4294967296) : Calls Tryd.prog 29 #[.int .u32 (x : Int), .int .i64 13] w fun e w' => e = .returned (.int .u32 (tr 13 x : Int)) ∧ w = w' := by exact right_any x 13 w hx (by omega) (by omega)
theorem ri17 (x : Nat) (w : World) (hx : x < 4294967296) : Calls Tryd.prog 29 #[.int .u32 (x : Int), .int .i64 17] w fun e w' => e = .returned (.int .u32 (tr 17 x : Int)) ∧ w = w' := by exact right_any x 17 w hx (by omega) (by omega)
theorem ri18 (x : Nat) (w : World) (hx : x < 4294967296) : Calls Tryd.prog 29 #[.int .u32 (x : Int), .int .i64 18] w fun e w' => e = .returned (.int .u32 (tr 18 x : Int)) ∧ w = w' := by exact right_any x 18 w hx (by omega) (by omega)
theorem ri19 (x : Nat) (w : World) (hx : x < 4294967296) : Calls Tryd.prog 29 #[.int .u32 (x : Int), .int .i64 19] w fun e w' => e = .returned (.int .u32 (tr 19 x : Int)) ∧ w = w' := by exact right_any x 19 w hx (by omega) (by omega)
theorem ri22 (x : Nat) (w : World) (hx : x < 4294967296) : Calls Tryd.prog 29 #[.int .u32 (x : Int), .int .i64 22] w fun e w' => e = .returned (.int .u32 (tr 22 x : Int)) ∧ w = w' := by exact right_any x 22 w hx (by omega) (by omega)
theorem ri25 (x : Nat) (w : World) (hx : x < 4294967296) : Calls Tryd.prog 29 #[.int .u32 (x : Int), .int .i64 25] w fun e w' => e = .returned (.int .u32 (tr 25 x : Int)) ∧ w = w' := by exact right_any x 25 w hx (by omega) (by omega)
theorem andNot_w (a b : Nat) (ha : a < 4294967296) (hb : b < 4294967296) : bits .andNot .u32 (a : Int) (b : Int) = (((4294967295 - b) &&& a : Nat) : Int) := by
  have hx : (4294967295 - b) &&& a < 2 ^ 32 := Nat.lt_of_le_of_lt Nat.and_le_left (by omega)
  show IntKind.u32.wrap ((BitVec.ofInt 32 (a : Int) &&& ~~~BitVec.ofInt 32 (b : Int)).toNat : Int) = _
  rw [BitVec.toNat_and, BitVec.toNat_not, ofInt_u32 a ha, ofInt_u32 b hb, IntKind.wrap_u32', Nat.and_comm]
  have e : 2 ^ 32 - 1 - b = 4294967295 - b := by omega
  rw [e]
  omega
set_option maxHeartbeats 400000 in
theorem choice_any (x y z : Nat) (w : World) (hx : x < 4294967296) (hy : y < 4294967296) (hz : z < 4294967296) :
    Calls Tryd.prog 30 #[.int .u32 (x : Int), .int .u32 (y : Int), .int .u32 (z : Int)] w fun e w' => e = .returned (.int .u32 (ch x y z : Int)) ∧ w = w' := by
  have e1 := and_w x y hx hy
  have e2 := andNot_w z x hz hx
  have e3 := or_w (x &&& y) ((4294967295 - x) &&& z) (and_lt hx) (and_lt (by omega))
  obtain ⟨p, hp⟩ : ∃ p, p = x &&& y := ⟨_, rfl⟩
  obtain ⟨q, hq⟩ : ∃ q, q = (4294967295 - x) &&& z := ⟨_, rfl⟩
  obtain ⟨r, hr⟩ : ∃ r, r = ch x y z := ⟨_, rfl⟩
  have hpq : p ||| q = r := by rw [hp, hq, hr]; rfl
  rw [← hp] at e1 e3
  rw [← hq] at e2 e3
  rw [hpq] at e3
  rw [← hr]
  clear hp hq hr hpq
  go_enter Tryd.func30, Tryd.ntmps30
  go_wp2_with fail
  go_ret
  exact ⟨rfl, rfl⟩
set_option maxHeartbeats 400000 in
theorem majority_any (x y z : Nat) (w : World) (hx : x < 4294967296) (hy : y < 4294967296) (hz : z < 4294967296) :
    Calls Tryd.prog 31 #[.int .u32 (x : Int), .int .u32 (y : Int), .int .u32 (z : Int)] w fun e w' => e = .returned (.int .u32 (mj x y z : Int)) ∧ w = w' := by
  have e1 := and_w x y hx hy
  have e2 := and_w x z hx hz
  have e4 := and_w y z hy hz
  have e3 := or_w (x &&& y) (x &&& z) (and_lt hx) (and_lt hx)
  have e5 := or_w ((x &&& y) ||| (x &&& z)) (y &&& z) (or_lt (and_lt hx) (and_lt hx)) (and_lt hy)
  obtain ⟨p, hp⟩ : ∃ p, p = x &&& y := ⟨_, rfl⟩
  obtain ⟨q, hq⟩ : ∃ q, q = x &&& z := ⟨_, rfl⟩
  obtain ⟨s, hs⟩ : ∃ s, s = y &&& z := ⟨_, rfl⟩
  obtain ⟨t, ht⟩ : ∃ t, t = p ||| q := ⟨_, rfl⟩
  obtain ⟨r, hr⟩ : ∃ r, r = mj x y z := ⟨_, rfl⟩
  have hpq : t ||| s = r := by rw [ht, hp, hq, hr, hs]; rfl
  rw [← hp] at e1 e3 e5
  rw [← hq] at e2 e3 e5
  rw [← ht] at e3 e5
  rw [← hs] at e4 e5
  rw [hpq] at e5
  rw [← hr]
  clear hp hq hr hpq ht hs
  go_enter Tryd.func31, Tryd.ntmps31
  go_wp2_with fail
  go_ret
  exact ⟨rfl, rfl⟩
set_option maxHeartbeats 400000 in
theorem s0_any (x : Nat) (w : World) (hx : x < 4294967296) :
    Calls Tryd.prog 33 #[.int .u32 (x : Int)] w fun e w' => e = .returned (.int .u32 (ShaM.s0 x : Int)) ∧ w = w' := by
  have e1 := xor_w (tr 7 x) (tr 18 x) (tr_lt _ _ hx) (tr_lt _ _ hx)
  have e2 := xor_w (tr 7 x ^^^ tr 18 x) (sh 3 x) (xor_lt (tr_lt _ _ hx) (tr_lt _ _ hx)) (sh_lt _ _ hx)
  have e3 : (x : Int) / 8 = (sh 3 x : Int) := by unfold sh; simp
  obtain ⟨p, hp⟩ : ∃ p, p = tr 7 x ^^^ tr 18 x := ⟨_, rfl⟩
  obtain ⟨q, hq⟩ : ∃ q, q = sh 3 x := ⟨_, rfl⟩
  obtain ⟨r, hr⟩ : ∃ r, r = ShaM.s0 x := ⟨_, rfl⟩
  have hpq : p ^^^ q = r := by rw [hp, hq, hr]; rfl
  rw [← hp] at e1 e2
  rw [← hq] at e2 e3
  rw [hpq] at e2
  rw [← hr]
  clear hp hq hr hpq
  go_enter Tryd.func33, Tryd.ntmps33
  go_wp2_with fail
  refine (ri7 x _ hx).mono ?_
  rintro e w2 ⟨rfl, rfl⟩
  go_wp2_with fail
  refine (ri18 x _ hx).mono ?_
  rintro e w2 ⟨rfl, rfl⟩
  go_wp2_with fail
  go_ret
  exact ⟨rfl, rfl⟩
set_option maxHeartbeats 400000 in
theorem s1_any (x : Nat) (w : World) (hx : x < 4294967296) :
    Calls Tryd.prog 34 #[.int .u32 (x : Int)] w fun e w' => e = .returned (.int .u32 (ShaM.s1 x : Int)) ∧ w = w' := by
  have e1 := xor_w (tr 17 x) (tr 19 x) (tr_lt _ _ hx) (tr_lt _ _ hx)
  have e2 := xor_w (tr 17 x ^^^ tr 19 x) (sh 10 x) (xor_lt (tr_lt _ _ hx) (tr_lt _ _ hx)) (sh_lt _ _ hx)
  have e3 : (x : Int) / 1024 = (sh 10 x : Int) := by unfold sh; simp
  obtain ⟨p, hp⟩ : ∃ p, p = tr 17 x ^^^ tr 19 x := ⟨_, rfl⟩
  obtain ⟨q, hq⟩ : ∃ q, q = sh 10 x := ⟨_, rfl⟩
  obtain ⟨r, hr⟩ : ∃ r, r = ShaM.s1 x := ⟨_, rfl⟩
  have hpq : p ^^^ q = r := by rw [hp, hq, hr]; rfl
  rw [← hp] at e1 e2
  rw [← hq] at e2 e3
  rw [hpq] at e2
  rw [← hr]
  clear hp hq hr hpq
  go_enter Tryd.func34, Tryd.ntmps34
  go_wp2_with fail
  refine (ri17 x _ hx).mono ?_
  rintro e w2 ⟨rfl, rfl⟩
  go_wp2_with fail
  refine (ri19 x _ hx).mono ?_
  rintro e w2 ⟨rfl, rfl⟩
  go_wp2_with fail
  go_ret
  exact ⟨rfl, rfl⟩
end Go.Proofs.YtjjeahijcibafaaDoor
