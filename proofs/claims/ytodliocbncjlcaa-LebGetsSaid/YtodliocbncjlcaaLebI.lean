/-
  The law LebGets: any bytes are read as a number just if they begin with its bytes.
-/
import Derived.Test.YtodliocbncjlcaaLebN
import Derived.Test.YtodliocbncjlcaaLebW
import Derived.Test.YtodliocbncjlcaaLebB
import Derived.Deep.DrawnRows
namespace Go.Proofs.Ytodliocbncjlcaa
open Go.RowKit LebM Mem Go.Lib
attribute [local go_sem ↓] Go.wp_at_zero Go.wp_at_succ

set_option maxRecDepth 100000 in
theorem bit6_all : ∀ a : Fin 256, ((a.val &&& 64) = 0 ↔ a.val % 128 < 64) := by decide
theorem bit6 (a : Nat) (h : a < 256) : ∃ q : Nat, bits .and .u8 (a : Int) 64 = (q : Int) ∧ (q = 0 ↔ a % 128 < 64) :=
  ⟨a &&& 64, u8_and_nat a 64 h (by omega), bit6_all ⟨a, h⟩⟩

/-- what the law wants to know of bytes that have a last one -/
structure Seen (B : List UInt8) (p : Nat) (L : List UInt8) (N : Nat) (M : Int) (v a : Nat) : Prop where
  hL : L = B.take (p + 1)
  hlen : p + 1 ≤ B.length
  p9 : p ≤ 9
  hK : spanK B = p + 1
  hE : spanE B = 0
  hgu : gu B = if u N = L then (N, p + 1, 0) else (0, 0, 3)
  hgs : gs B = if s M = L then (M, p + 1, 0) else (0, 0, 3)
  hN : N < 18446744073709551616
  hM0 : -9223372036854775808 ≤ M
  hM1 : M < 9223372036854775808
  hv : v < 128
  ha : a < 256
  lastv : B[p]? = some (UInt8.ofNat v)
  aheada : 0 < p → B[p - 1]? = some (UInt8.ofNat a)
  hu : u N = L ↔ p = 0 ∨ v ≠ 0 ∧ (p < 9 ∨ v = 1)
  hs : s M = L ↔ p = 0 ∨ ¬ (v = 0 ∧ a % 128 < 64 ∨ v = 127 ∧ 64 ≤ a % 128) ∧ (p < 9 ∨ v = 0 ∨ v = 127)
theorem seen {B : List UInt8} (h : spanE B = 0) : ∃ p L N M v a, Seen B p L N M v a := by
  have hf : fst B < min B.length 10 := by
    unfold spanE at h
    split at h
    · assumption
    · split at h <;> omega
  have hK : spanK B = fst B + 1 := by unfold spanK; rw [if_pos hf]
  have hform := form_of (B := B) (by omega)
  obtain ⟨L, hL⟩ : ∃ L, L = B.take (fst B + 1) := ⟨_, rfl⟩
  have hlen : L.length = fst B + 1 := by rw [hL, List.length_take]; omega
  rw [← hL] at hform
  have hv := last_get (form_ne hform)
  have hu := u_ok hform (by omega)
  have hs := s_ok hform (by omega)
  have hsg := sgn_sval L hform (by omega)
  rw [hlen] at hv hu hs hsg
  refine ⟨fst B, L, val L % 18446744073709551616, wrap64 (sval L), last L, LebM.ahead L, hL, by omega, by omega, hK, h, ?_, ?_, Nat.mod_lt _ (by omega), by unfold wrap64; omega, by unfold wrap64; omega, last_lt hform, ahead_lt L, ?_, ?_, ?_, ?_⟩
  · unfold gu
    rw [hK, ← hL, if_neg (by omega)]
  · unfold gs
    rw [hK, ← hL, if_neg (by omega), hsg]
  · rw [← hv, hL, List.getElem?_take, if_pos (by omega)]; rfl
  · intro hp
    have ha := ahead_get (l := L) (by omega)
    rw [hlen] at ha
    rw [← ha, hL, List.getElem?_take, if_pos (by omega)]
    congr 1
  · rw [hu]; omega
  · rw [hs]; unfold bad; omega

set_option maxRecDepth 100000 in
set_option maxHeartbeats 6400000 in
theorem gets_short (A : Option Addr) (n c : Nat) (B : List UInt8) (w : World) (hr : Rd w A n (B.map bytec)) (_hmc : n ≤ c) (_hcm : c ≤ maxLen) (h : 500 < n ∨ spanE B ≠ 0) :
    Calls Try.prog 4 #[.slice A n c] w fun e w' => e = .returned (.bool true) ∧ Fr (fun _ => False) w w' := by
  have HR := Lib.hid hr
  unfold maxLen at _hcm
  clear hr
  by_cases hbig : 500 < n
  · go_enter Try.func4, Try.ntmps4
    go_wp2_with fail
    refine (awake_any _).mono ?_
    rintro e w1 ⟨rfl, hfr1⟩
    go_wp2_with fail
    refine (awake_any _).mono ?_
    rintro e w2 ⟨rfl, hfr2⟩
    go_wp2
    go_ret
    exact ⟨rfl, hfr1.trans hfr2 (fun _ _ h => h)⟩
  · have hE : spanE B ≠ 0 := by omega
    obtain ⟨E, he⟩ : ∃ E, E = spanE B := ⟨_, rfl⟩
    obtain ⟨k, hk⟩ : ∃ k, k = spanK B := ⟨_, rfl⟩
    have hel := spanE_le B
    have g1 : gu B = (0, 0, E) := by unfold gu; rw [if_pos hE, he]
    have g2 : gs B = (0, 0, E) := by unfold gs; rw [if_pos hE, he]
    rw [← he] at hel hE
    have H1 := Lib.hid (fun w' (h : Fr (fun _ => False) w w') => GetU_any A n c B w' (HR.out.fr h (fun _ _ h => h)) _hmc)
    have H2 := Lib.hid (fun w' (h : Fr (fun _ => False) w w') => GetS_any A n c B w' (HR.out.fr h (fun _ _ h => h)) _hmc)
    have H3 := Lib.hid (fun w' (h : Fr (fun _ => False) w w') => rspan_any A n c B w' (HR.out.fr h (fun _ _ h => h)))
    rw [g1] at H1
    rw [g2] at H2
    rw [← he, ← hk] at H3
    have t : ((E : Int) != 0) = true := by simp; omega
    clear g1 g2 he hk h hE
    go_enter Try.func4, Try.ntmps4
    go_wp2_with fail
    refine (awake_any _).mono ?_
    rintro e w1 ⟨rfl, hfr1⟩
    go_wp2_with fail
    refine (H1.out _ hfr1).mono ?_
    rintro e w2 ⟨rfl, hfr2⟩
    have hF2 := hfr1.trans hfr2 (fun _ _ h => h)
    go_wp2_with fail
    refine (H2.out _ hF2).mono ?_
    rintro e w3 ⟨rfl, hfr3⟩
    have hF3 := hF2.trans hfr3 (fun _ _ h => h)
    go_wp2_with fail
    refine (H3.out _ hF3).mono ?_
    rintro e w4 ⟨rfl, rfl⟩
    go_wp2
    go_ret
    exact ⟨rfl, hF3⟩

end Go.Proofs.Ytodliocbncjlcaa
