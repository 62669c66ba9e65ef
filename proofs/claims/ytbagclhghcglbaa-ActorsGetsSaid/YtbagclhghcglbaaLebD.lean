/-
  Contracts of layer 2: GetU, GetS.
-/
import Derived.Test.YtbagclhghcglbaaLebC
import Derived.Deep.DeepMust
namespace Go.Proofs.Ytbagclhghcglbaa
open Go.RowKit LebM Mem Go.Lib

/-- what is read of bytes: the number, how many bytes, the error -/
def gu (B : List UInt8) : Nat × Nat × Nat :=
  if spanE B ≠ 0 then (0, 0, spanE B) else
  if u (val (B.take (spanK B)) % 18446744073709551616) = B.take (spanK B) then (val (B.take (spanK B)) % 18446744073709551616, spanK B, 0) else (0, 0, 3)
def gs (B : List UInt8) : Int × Nat × Nat :=
  if spanE B ≠ 0 then (0, 0, spanE B) else
  if s (sgn (val (B.take (spanK B)) % 18446744073709551616) (spanK B)) = B.take (spanK B) then (sgn (val (B.take (spanK B)) % 18446744073709551616) (spanK B), spanK B, 0) else (0, 0, 3)

theorem spanK_le (B : List UInt8) : spanK B ≤ B.length ∧ spanK B ≤ 10 := by unfold spanK; split <;> omega
theorem spanE_le (B : List UInt8) : spanE B ≤ 3 := by unfold spanE; split <;> (try split) <;> omega

set_option maxRecDepth 100000 in
set_option maxHeartbeats 800000 in
theorem GetU_any (A : Option Addr) (n c : Nat) (B : List UInt8) (w : World) (hr : Rd w A n (B.map bytec)) (hc : n ≤ c) :
    Calls Try.prog 29 #[.slice A n c] w fun e w' => e = .returned (.tuple #[.int .u64 ((gu B).1 : Int), .int .i64 ((gu B).2.1 : Int), .int .i64 ((gu B).2.2 : Int)]) ∧ Fr (fun _ => False) w w' := by
  have hBn : B.length = n := by simpa using hr.1
  obtain ⟨k, hk⟩ : ∃ k, k = spanK B := ⟨_, rfl⟩
  obtain ⟨E, hE⟩ : ∃ E, E = spanE B := ⟨_, rfl⟩
  have hsp := span_any A n c B w hr hc
  have hkl := spanK_le B
  have hel := spanE_le B
  rw [← hk, ← hE] at hsp
  rw [← hk, hBn] at hkl
  rw [← hE] at hel
  obtain ⟨hkn, hk10⟩ := hkl
  have HS := Lib.hid hsp
  by_cases he : E = 0
  · have hg : gu B = if u (val (B.take k) % 18446744073709551616) = B.take k then (val (B.take k) % 18446744073709551616, k, 0) else (0, 0, 3) := by
      unfold gu
      rw [← hk, ← hE, if_neg (by omega)]
    obtain ⟨L, hL⟩ : ∃ L, L = B.take k := ⟨_, rfl⟩
    rw [← hL] at hg
    obtain ⟨N, hN⟩ : ∃ N, N = val L % 18446744073709551616 := ⟨_, rfl⟩
    rw [← hN] at hg
    have hN64 : N < 18446744073709551616 := by rw [hN]; exact Nat.mod_lt _ (by omega)
    have hrk : ∀ w', Fr (fun _ => False) w w' → Rd w' A k (L.map bytec) := by
      intro w' hf
      have h := Rd.cut (hr.fr hf (fun _ _ h => h)) (k := 0) (m := k) (cap := c) (by omega) hkn hc
      have e : (if c = 0 then A else A.map (·.add 0)) = A := by
        split
        · rfl
        · cases A with
          | none => rfl
          | some ad => simp [Addr.add]
      rw [e, ← List.map_take, List.drop_zero, ← hL] at h
      exact h
    have hj := join_any A k c L w (hrk w (Fr.refl _ _)) hk10
    rw [← hN] at hj
    have HJ := Lib.hid hj
    have HK := Lib.hid hrk
    have t : ((E : Int) != 0) = false := by simp; omega
    obtain ⟨q, hq⟩ : ∃ q, decide (u N = L) = q := ⟨_, rfl⟩
    have hg2 : gu B = if q = true then (N, k, 0) else (0, 0, 3) := by rw [hg, ← hq]; simp
    have heq := fun A A' n c n' c' w h h' => equal_any A A' n c n' c' (u N) L w h h'
    rw [hq] at heq
    have HQ := Lib.hid heq
    have HG := Lib.hid hg2
    clear hg hg2 heq hq hsp hE hk hBn hr hj hrk hN hL he
    cases q
    all_goals
      go_enter Try.func29, Try.ntmps29
      go_wp2_with fail
      refine HS.out.mono ?_
      rintro e w1 ⟨rfl, rfl⟩
      go_wp2_with fail
      refine HJ.out.mono ?_
      rintro e w1 ⟨rfl, rfl⟩
      go_wp2_with fail
      go_region_with (first
        | (go_at_call 27
           go_must (refine (U_any N _ hN64).mono ?_
                    rintro e w2 ⟨A2, c2, rfl, hown2, hfr2⟩
                    have H2 := Lib.hid hown2
                    have HF2 := Lib.hid ((Fr.refl (fun _ => False) w).drew.trans hfr2 (fun _ _ h => h))
                    have HR2 := Lib.hid (HK.out _ HF2.out)
                    clear hown2))
        | (go_at_call 41
           go_must (refine (HQ.out _ _ _ _ _ _ _ H2.out.rd HR2.out).mono ?_
                    rintro e w3 ⟨rfl, rfl⟩))
        | fail)
      all_goals go_wp2
      all_goals rw [HG.out]
      all_goals first
        | exact bodyPost_ret (v := .tuple #[.int .u64 0, .int .i64 0, .int .i64 3]) (by simp [results, Try.results29, go_sem]) rfl ⟨rfl, HF2.out⟩
        | exact bodyPost_ret (v := .tuple #[.int .u64 N, .int .i64 k, .int .i64 0]) (by simp [results, Try.results29, go_sem]) rfl ⟨rfl, HF2.out⟩
  · have hg : gu B = (0, 0, E) := by unfold gu; rw [← hE, if_pos he]
    rw [hg]
    have t : ((E : Int) != 0) = true := by simp; omega
    clear hg hsp hE hk hBn hr he
    go_enter Try.func29, Try.ntmps29
    go_wp2_with fail
    refine HS.out.mono ?_
    rintro e w1 ⟨rfl, rfl⟩
    go_wp2
    refine bodyPost_ret (v := .tuple #[.int .u64 0, .int .i64 0, .int .i64 E]) (by simp [results, Try.results29, go_sem]) rfl ⟨rfl, Fr.refl _ _⟩
theorem sgn_bd (N k : Nat) : -9223372036854775808 ≤ sgn N k ∧ sgn N k < 9223372036854775808 := by
  have hp : (0 : Int) < 2 ^ (64 - 7 * k) := Int.pow_pos (by omega)
  unfold sgn
  obtain ⟨x, hx⟩ : ∃ x, x = wrap64 ((N * 2 ^ (64 - 7 * k) % 18446744073709551616 : Nat) : Int) := ⟨_, rfl⟩
  rw [← hx]
  have h1 : -9223372036854775808 ≤ x ∧ x < 9223372036854775808 := by rw [hx]; unfold wrap64; omega
  constructor
  · have h := Int.ediv_le_ediv hp h1.1
    refine Int.le_trans ?_ h
    exact Int.le_ediv_of_mul_le hp (by omega)
  · exact Int.ediv_lt_of_lt_mul hp (by omega)

end Go.Proofs.Ytbagclhghcglbaa
