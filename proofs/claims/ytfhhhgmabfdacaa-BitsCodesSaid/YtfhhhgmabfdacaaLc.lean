/-
  The law BitsCodes: a code, put, is its bits turned about, put as a number; whatever the number, how many bits, and what was put ahead.
-/
import Derived.Test.YtfhhhgmabfdacaaE
import Derived.Deep.DeepMust
namespace Go.Proofs.Ytfhhhgmabfdacaa
open Go.RowKit BitsM Mem

/-- two Writers that share no block -/
structure Dj (ga : Nat) (A : Option Addr) (gb : Nat) (B : Option Addr) : Prop where
  g : ga ≠ gb
  a : bl A ≠ some gb
  b : bl B ≠ some ga
  ab : ∀ k, bl A = some k → bl B ≠ some k
theorem Dj.symm {ga gb : Nat} {A B : Option Addr} (h : Dj ga A gb B) : Dj gb B ga A := ⟨h.g.symm, h.b, h.a, fun k h1 h2 => h.ab k h2 h1⟩
theorem Dj.next {w : World} {ga gb c : Nat} {A A' B : Option Addr} {bs : List Bool} (h : Dj ga A gb B) (hb : Wr w gb B c bs) (hn : Nx w A A') : Dj ga A' gb B := by
  refine ⟨h.g, fun e => ?_, h.b, fun k h1 h2 => ?_⟩
  · rcases hn with hn | ⟨k, hn, hk⟩
    · exact h.a (hn ▸ e)
    · rw [hn] at e
      injection e with e
      have := hb.lt.1
      omega
  · rcases hn with hn | ⟨k', hn, hk⟩
    · exact h.ab k (hn ▸ h1) h2
    · rw [hn] at h1
      injection h1 with h1
      have := hb.lt.2 k h2
      omega
theorem Dj.keep {w w' : World} {ga gb c : Nat} {A B : Option Addr} {bs : List Bool} (h : Dj ga A gb B) (hb : Wr w gb B c bs) (hf : Fr (Ft ga A) w w') : Wr w' gb B c bs :=
  hb.fr hf (fun e => by rcases e with e | e; exact h.g e.symm; exact h.a e) (fun k hk e => by rcases e with e | e; exact h.b (e ▸ hk); exact h.ab k e hk)

theorem rev_step (x m : Nat) : num (low x (m + 1)).reverse = 2 * num (low x m).reverse + (x.testBit m).toNat := by
  rw [low_succ, List.reverse_append]
  simp [num]
  omega
theorem and_one_facts (x m : Nat) (hx : x < 18446744073709551616) : bits .and .u64 ((x : Int) / 2 ^ m) 1 = (((x.testBit m).toNat : Nat) : Int) := by
  have h := u64_and_nat (x / 2 ^ m) 1 (Nat.lt_of_le_of_lt (Nat.div_le_self _ _) hx) (by omega)
  rw [nat_mask1] at h
  rw [show ((x : Int) / 2 ^ m) = ((x / 2 ^ m : Nat) : Int) from by simp]
  refine h.trans ?_
  rw [Nat.testBit_eq_decide_div_mod_eq]
  rcases Nat.mod_two_eq_zero_or_one (x / 2 ^ m) with h | h <;> simp [h]

set_option maxHeartbeats 1600000 in
theorem codes_law (n x ah : Nat) (w : World) (hn : n < 256) (hx : x < 18446744073709551616) (hah : ah < 256) :
    Calls Try.prog 6 #[.int .u8 (n : Int), .int .u64 (x : Int), .int .u8 (ah : Int)] w fun e w' => e = .returned (.bool true) ∧ Fr (fun _ => False) w w' := by
  obtain ⟨k, hk⟩ : ∃ k, k = n % 65 := ⟨_, rfl⟩
  obtain ⟨m, hm⟩ : ∃ m, m = ah % 9 := ⟨_, rfl⟩
  have hk1 : ((n : Int) % 65) = (k : Int) := by omega
  have hm1 : ((ah : Int) % 9) = (m : Int) := by omega
  have hk64 : k ≤ 64 := by omega
  have hm8 : m ≤ 8 := by omega
  clear hk hm
  go_enter Try.func6, Try.ntmps6
  go_wp2_with fail
  refine (awake_any _).mono ?_
  rintro e w1 ⟨rfl, hfr1⟩
  go_wp2_with fail
  rw [hk1, hm1]
  have ha0 := (wr_zero w1).alloc (.cells #[.slice none 0 0, .int .i64 0] 27)
  have hb0 := wr_zero' (w := w1.alloc (.cells #[.slice none 0 0, .int .i64 0] 27)) (g := w1.heap.size + 1) (by simp)
  obtain ⟨ga, hga⟩ : ∃ ga, ga = w1.heap.size := ⟨_, rfl⟩
  have hdj0 : Dj ga none (ga + 1) none := ⟨by omega, by simp [bl], by simp [bl], fun k h => by simp [bl] at h⟩
  have hfr2 : Fr (fun _ => False) w ((w1.alloc (.cells #[.slice none 0 0, .int .i64 0] 27)).alloc (.cells #[.slice none 0 0, .int .i64 0] 27)) := (hfr1.alloc _).alloc _
  have hsz1 := hfr1.size
  have hia0 : Hi w.heap.size ga none := Hi.none_ (by omega)
  have hib0 : Hi w.heap.size (ga + 1) none := Hi.none_ (by omega)
  obtain ⟨gb, hgb⟩ : ∃ gb, gb = ga + 1 := ⟨_, rfl⟩
  rw [← hga, ← hgb] at hb0 ⊢
  rw [← hga] at ha0
  rw [← hgb] at hdj0 hib0
  -- a: the bits ahead
  refine (put_any ga 0 none (some ⟨gb + 1, 0, none⟩) 1 1 m [] [x] _ (ha0.alloc _) (by simp) (Rd.one' (by simp [hgb, hga]) _ _) (by simp; omega) (by omega) (new_ft ha0 (by simp [hgb, hga]))).mono ?_
  rintro e w3 ⟨rfl, A1, c1, ha1, hfa, hna⟩
  have HB1 := Lib.hid (hdj0.keep (hb0.alloc _) hfa)
  have HD1 := Lib.hid (hdj0.next (hb0.alloc _) hna)
  have hfw3 := hia0.fr (hfr2.alloc (.cells #[.int .u64 (x : Int)] 28)) hfa
  have hia1 := hia0.next hna (by simp; omega)
  have HA1 := Lib.hid ha1
  have hsz3 := hfw3.size
  clear ha0 hb0 hdj0 ha1 hfr2 hfa hna hfr1 hga hgb hia0 hsz1
  -- b: the bits ahead
  go_wp2_with fail
  rw [hm1]
  refine (put_any gb 0 none (some ⟨w3.heap.size, 0, none⟩) 1 1 m [] [x] _ (HB1.out.alloc _) (by simp) (Rd.one' rfl _ _) (by simp; omega) (by omega) (new_ft HB1.out (by simp))).mono ?_
  rintro e w4 ⟨rfl, B1, d1, hb2, hfb, hnb⟩
  have ha2 := HD1.out.symm.keep (HA1.out.alloc _) hfb
  have HD2 := Lib.hid (HD1.out.symm.next (HA1.out.alloc _) hnb).symm
  have hfw4 := hib0.fr (hfw3.alloc (.cells #[.int .u64 (x : Int)] 28)) hfb
  have hib1 := hib0.next hnb (by simp; omega)
  obtain ⟨L, hL⟩ : ∃ L, L = [] ++ List.flatMap (low · (min (m : Int).toNat 64)) [x] := ⟨_, rfl⟩
  rw [← hL] at ha2 hb2
  have hLl : L.length ≤ 64 := by rw [hL]; simp [low_length]; omega
  have HA2 := Lib.hid ha2
  have HB2 := Lib.hid hb2
  have hsz4 := hfw4.size
  clear ha2 hb2 hfb hnb hfw3 HA1 HB1 HD1 hL hsz3 hib0
  -- a: the code
  go_wp2_with fail
  refine (code_any ga c1 A1 k x L _ HA2.out (by omega) hx).mono ?_
  rintro e w5 ⟨rfl, A2, c2, ha3, hfa, hna⟩
  have HB3 := Lib.hid (HD2.out.keep HB2.out hfa)
  have HD3 := Lib.hid (HD2.out.next HB2.out hna)
  have hfw5 := hia1.fr hfw4 hfa
  have hia2 := hia1.next hna hsz4
  have hR : L ++ (low x (min (k : Int).toNat 64)).reverse = L ++ (low x k).reverse := by rw [show min (k : Int).toNat 64 = k from by omega]
  rw [hR] at ha3
  have HA3 := Lib.hid ha3
  have hsz5 := hfw5.size
  clear ha3 hfa hna hfw4 HA2 HB2 HD2 hsz4 hia1 hR
  -- the number whose bits are turned
  go_wp2_with fail
  go_loop [10, 11] (fun y i => ∃ j z : Nat, j ≤ k ∧ i = .int .i64 j ∧ y = .int .u64 (z : Int) ∧ z < 2 ^ j ∧ Hid (z = num (low x j).reverse)) (fun _ i => k - (intOf i).toNat)
  case atStart => exact ⟨0, 0, by omega, rfl, rfl, by simp, rfl⟩
  case round =>
    obtain ⟨j, z, hj, rfl, rfl, hz, Hz⟩ := hrel
    by_cases hlt : j < k
    · have ha := and_one_facts x j hx
      obtain ⟨b, hb⟩ : ∃ b, b = (x.testBit j).toNat := ⟨_, rfl⟩
      rw [← hb] at ha
      have hb1 : b ≤ 1 := by rw [hb]; cases x.testBit j <;> simp
      have h63 : 2 ^ j ≤ 9223372036854775808 := Nat.pow_le_pow_right (show 0 < 2 by omega) (show j ≤ 63 by omega)
      have hz63 : z < 9223372036854775808 := by omega
      have hz2 : 2 * z + b < 2 ^ (j + 1) := by rw [Nat.pow_succ]; omega
      have HB := Lib.hid hb
      clear hb h63
      go_wp2
      go_round
      case rel =>
        refine ⟨j + 1, 2 * z + b, by omega, by go_num, by congr 1, hz2, ?_⟩
        show _ = _
        rw [rev_step, ← Hz.out, HB.out]
      case measure => simp [intOf] <;> omega
    · obtain rfl : j = k := by omega
      have hz64 : z < 18446744073709551616 := Nat.lt_of_lt_of_le hz (Nat.pow_le_pow_right (show 0 < 2 by omega) (show j ≤ 64 by omega))
      go_wp2_with fail
      refine (put_any gb d1 B1 (some ⟨w5.heap.size, 0, none⟩) 1 1 j L [z] _ (HB3.out.alloc _) (by omega) (Rd.one' rfl _ _) (by simpa using hz64) (by omega) (new_ft HB3.out (by simp))).mono ?_
      rintro e w6 ⟨rfl, B2, d2, hb4, hfb, hnb⟩
      have ha4 := HD3.out.symm.keep (HA3.out.alloc _) hfb
      have hfw6 := hib1.fr (hfw5.alloc (.cells #[.int .u64 (z : Int)] 28)) hfb
      obtain ⟨R, hR⟩ : ∃ R, R = L ++ (low x j).reverse := ⟨_, rfl⟩
      have hRb : L ++ List.flatMap (low · (min (j : Int).toNat 64)) [z] = R := by
        rw [hR, show min (j : Int).toNat 64 = j from by omega]
        have h := low_num (low x j).reverse
        rw [← Hz.out, List.length_reverse, low_length] at h
        simp [h]
      rw [hRb] at hb4
      rw [← hR] at ha4
      have hRl : R.length ≤ 1099511627776 := by rw [hR, List.length_append, List.length_reverse, low_length]; omega
      have HA4 := Lib.hid ha4
      have HB4 := Lib.hid hb4
      have hsz6 := hfw6.size
      have hst : ∀ (W : World) (A : Option Addr) (c : Nat), W.ownsRow 0 5 1 (.slice A (pack R).length c) (pack R).length ((pack R).map bytec) → (convert 25 9 (.slice A (pack R).length c)).run Try.prog W = .ok (.string ⟨(pack R).toArray⟩) W :=
        fun W A c h => run_str (Rd.of_own h) 25 9 5 Try.underlying25 Try.underlying5 Try.underlying9 c
      have HST := Lib.hid hst
      clear ha4 hb4 hfb hnb hRb hR HA3 HB3 HD3 hst hfw5 hia2 hib1 Hz hz64 hz
      go_wp2_with fail
      go_region_with (first
        | (go_at_call_of 19 (Value.pointer (some ⟨ga, 0, none⟩))
           go_must (refine (wbytes_any ga c2 A2 R _ HA4.out.drew hRl).mono ?_
                    rintro e w7 ⟨A3, c3, rfl, hown3, hfr3⟩
                    have HF7 := Lib.hid (hfw6.drew.trans hfr3 (fun _ _ h => h))
                    have hs3 := HST.out _ _ _ (own_base hown3 (Nat.zero_le _))
                    have HA5 := Lib.hid (HA4.out.drew.fr hfr3 (fun h => h) (fun _ _ h => h))
                    have HB5 := Lib.hid (HB4.out.drew.fr hfr3 (fun h => h) (fun _ _ h => h))))
        | (go_at_call_of 19 (Value.pointer (some ⟨gb, 0, none⟩))
           go_must (refine (wbytes_any gb d2 B2 R _ HB5.out hRl).mono ?_
                    rintro e w8 ⟨A4, c4, rfl, hown4, hfr4⟩
                    have HF8 := Lib.hid (HF7.out.trans hfr4 (fun _ _ h => h))
                    have hs4 := HST.out _ _ _ (own_base hown4 (Nat.zero_le _))
                    have hs5 := HST.out _ _ _ (own_base (hfr4.own hown3 (fun _ _ h => h)) (Nat.zero_le _))
                    have HA6 := Lib.hid (HA5.out.fr hfr4 (fun h => h) (fun _ _ h => h))
                    have HB6 := Lib.hid (HB5.out.fr hfr4 (fun h => h) (fun _ _ h => h))))
        | (go_at_call_of 18 (Value.pointer (some ⟨ga, 0, none⟩))
           go_must (refine (len_any ga c2 A2 R _ HA6.out).mono ?_
                    rintro e w9 ⟨rfl, rfl⟩))
        | (go_at_call_of 18 (Value.pointer (some ⟨gb, 0, none⟩))
           go_must (refine (len_any gb d2 B2 R _ HB6.out).mono ?_
                    rintro e w10 ⟨rfl, rfl⟩))
        | fail)
      all_goals (try go_wp2)
      all_goals go_ret
      all_goals exact ⟨rfl, HF8.out⟩
end Go.Proofs.Ytfhhhgmabfdacaa
