/-
  Layer 20, the reference: text.
-/
import Derived.Test.YtbnkahjmeobblaaHeT
namespace Go.Proofs.Ytbnkahjmeobblaa
open Go.RowKit Mem Go.Lib LebM UtfM AcM OpM HeM
attribute [local go_sem ↓] Go.wp_at_zero Go.wp_at_succ
set_option linter.unusedVariables false

theorem mid_map (B : List UInt8) (p K M : Nat) : ((B.map bytec).take (p + K + M)).drop (p + K) = (((B.drop p).drop K).take M).map bytec := by
  rw [List.drop_take, Nat.add_sub_cancel_left, ← List.map_drop, ← List.map_take, List.drop_drop]
set_option maxRecDepth 100000 in
set_option maxHeartbeats 6400000 in
theorem rText20_any (A : Option Addr) (n c : Nat) (B : List UInt8) (p lo hi : Nat) (w : World) (hr : Rd w A n (B.map bytec)) (hc : n ≤ c) (hn : n ≤ 1000000) (hp : p ≤ n) (hlo : lo ≤ 1) (hhi : hi ≤ 1000) :
    Calls Try.prog 42 #[.slice A n c, .int .i64 (p : Int), .int .u64 (lo : Int), .int .u64 (hi : Int)] w fun e w' => e = .returned (.tuple #[.string (txt (textH lo hi (B.drop p)).1), .int .i64 (if (textH lo hi (B.drop p)).2.2 = 0 then ((p + (textH lo hi (B.drop p)).2.1 : Nat) : Int) else 0), .int .i64 ((textH lo hi (B.drop p)).2.2 : Int)]) ∧ Fr (fun _ => False) w w' := by
  have hBn : B.length = n := by simpa using hr.1
  have hnum := rNum20_any A n c B p lo hi w hr hc hn hp hlo (by omega)
  have hle := numH_le lo hi (B.drop p)
  have hL : (B.drop p).length = n - p := by rw [List.length_drop, hBn]
  rw [hL] at hle
  obtain ⟨X, hX⟩ : ∃ X, textH lo hi (B.drop p) = X := ⟨_, rfl⟩
  have hX2 := hX
  unfold textH at hX2
  rw [hL] at hX2
  obtain ⟨M, hM⟩ : ∃ M, (numH lo hi (B.drop p)).1 = M := ⟨_, rfl⟩
  obtain ⟨K, hK⟩ : ∃ K, (numH lo hi (B.drop p)).2.1 = K := ⟨_, rfl⟩
  obtain ⟨E, hE⟩ : ∃ E, (numH lo hi (B.drop p)).2.2 = E := ⟨_, rfl⟩
  rw [hM, hK, hE] at hnum hle
  rw [hM, hK, hE] at hX2
  rw [hX]
  have HG := Lib.hid hnum
  have HRD := Lib.hid hr
  clear hnum hr hBn hL hX hM hK hE
  by_cases h1 : E ≠ 0
  · rw [if_pos h1] at hX2
    subst hX2
    have t1 : ((E : Int) != 0) = true := by simp; omega
    simp only
    rw [if_neg h1] at HG ⊢
    clear hle
    go_enter Try.func42, Try.ntmps42
    go_wp2_with fail
    refine HG.out.mono ?_
    rintro e w1 ⟨rfl, hf⟩
    have HF := Lib.hid hf
    clear hf
    go_wp2_with fail
    exact bodyPost_ret (v := .tuple #[.string ⟨#[]⟩, .int .i64 0, .int .i64 (E : Int)]) (by simp [results, Try.results42, go_sem]) rfl ⟨rfl, HF.out⟩
  · rw [if_neg h1] at hX2
    have hE0 : E = 0 := by omega
    subst hE0
    rw [if_pos rfl] at HG
    have t1 : (((0 : Nat) : Int) != 0) = false := by simp
    obtain ⟨q, hq⟩ : ∃ q, p + K = q := ⟨_, rfl⟩
    rw [hq] at HG
    have r1 : IntKind.i64.wrap ((q : Int) + (M : Int)) = ((q + M : Nat) : Int) := by rw [IntKind.wrap_i64]; omega
    by_cases h2 : n - p < K + M
    · rw [if_pos h2] at hX2
      subst hX2
      have t2 : decide ((n : Int) < ((q + M : Nat) : Int)) = true := decide_eq_true (by omega)
      have t2' : decide ((n : Int) < (q : Int) + (M : Int)) = true := decide_eq_true (by omega)
      simp only
      rw [if_neg (by omega : ¬ (2 = 0))]
      clear hle hq
      go_enter Try.func42, Try.ntmps42
      go_wp2_with fail
      refine HG.out.mono ?_
      rintro e w1 ⟨rfl, hf⟩
      have HF := Lib.hid hf
      clear hf
      go_wp2_with fail
      exact bodyPost_ret (v := .tuple #[.string ⟨#[]⟩, .int .i64 0, .int .i64 2]) (by simp [results, Try.results42, go_sem]) rfl ⟨rfl, HF.out⟩
    · rw [if_neg h2] at hX2
      subst hX2
      have t2 : decide ((n : Int) < ((q + M : Nat) : Int)) = false := decide_eq_false (by omega)
      have t2' : decide ((n : Int) < (q : Int) + (M : Int)) = false := decide_eq_false (by omega)
      have t2n : decide (n < q + M) = false := decide_eq_false (by omega)
      have hcut := fun w' => run_cutB A n c q (q + M) (by omega) (by omega) hc (q : Int) ((q + M : Nat) : Int) rfl rfl w'
      have hs := fun w' (hf : Fr (fun _ => False) w w') => str_rd (n := q + M - q) (B := ((B.drop p).drop K).take M) (by rw [← mid_map, hq]; exact rd_cut (HRD.out.fr hf (fun _ _ h => h)) (f := q) (y := q + M) (by omega) (by omega) hc) (c - q)
      have eq : p + (K + M) = q + M := by omega
      simp only
      rw [if_pos trivial, eq]
      obtain ⟨T, hT⟩ : ∃ T, ((B.drop p).drop K).take M = T := ⟨_, rfl⟩
      rw [hT] at hs ⊢
      obtain ⟨A3, hA3⟩ : ∃ A3, cutAt A c q = A3 := ⟨_, rfl⟩
      obtain ⟨n3, hn3⟩ : ∃ n3, q + M - q = n3 := ⟨_, rfl⟩
      obtain ⟨c3, hc3⟩ : ∃ c3, c - q = c3 := ⟨_, rfl⟩
      rw [hA3, hn3, hc3] at hcut
      rw [hA3, hn3, hc3] at hs
      obtain ⟨z, hz⟩ : ∃ z, q + M = z := ⟨_, rfl⟩
      rw [hz] at hcut r1 ⊢
      rw [hz] at t2 t2n
      have HS := Lib.hid hs
      clear hle hq hs hT hA3 hn3 hc3 eq
      go_enter Try.func42, Try.ntmps42
      go_wp2_with fail
      refine HG.out.mono ?_
      rintro e w1 ⟨rfl, hf⟩
      have hs := HS.out w1 hf
      have HF := Lib.hid hf
      clear hf
      go_wp2_with fail
      exact bodyPost_ret (v := .tuple #[.string (txt T), .int .i64 (z : Int), .int .i64 0]) (by simp [results, Try.results42, go_sem]) rfl ⟨rfl, HF.out⟩
end Go.Proofs.Ytbnkahjmeobblaa
