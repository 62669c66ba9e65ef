/-
  Layer 14, the reference: Get (written by gen_rget.py).
-/
import Derived.Test.YtomhljpnpphbcaaVab
namespace Go.Proofs.Ytomhljpnpphbcaa
open Go.RowKit Mem Go.Lib VaM LebM UtfM
attribute [local go_sem ↓] Go.wp_at_zero Go.wp_at_succ
set_option linter.unusedVariables false


set_option maxRecDepth 100000 in
set_option maxHeartbeats 6400000 in
theorem rgetS2_any (k : Int) (A : Option Addr) (n c : Nat) (B : List UInt8) (w : World) (hk : -9223372036854775808 ≤ k ∧ k < 9223372036854775808) (hr : Rd w A n (B.map bytec)) (hc : n ≤ c) (hn : n ≤ 1000000) (h : cl k = 2) (hs : spanE B ≠ 0 ∨ spanK B ≠ B.length) :
    Calls Try.prog 14 #[.int .i64 k, .slice A n c] w fun e w' => e = .returned (getR (getV k B)) ∧ Fr (fun _ => False) w w' := by
  have hBn : B.length = n := by simpa using hr.1
  obtain ⟨ans, hans⟩ : ∃ ans, getV k B = ans := ⟨_, rfl⟩
  rw [hans]
  obtain ⟨g, hg⟩ : ∃ g, w.heap.size = g := ⟨_, rfl⟩
  obtain ⟨w1, hw1⟩ : ∃ w1, w.alloc (.cells #[.int .i64 0, .int .u64 0, .int .i64 0, .string ⟨#[]⟩] 24) = w1 := ⟨_, rfl⟩
  have hf1 : Fr (fun _ => False) w w1 := by rw [← hw1]; exact (Fr.refl _ _).alloc _
  have hr1 : RowV w1 g zeroV := by rw [← hw1, ← hg]; exact RowV.new w zeroV
  obtain ⟨p, hp⟩ : ∃ p, w1.heap.size = p := ⟨_, rfl⟩
  obtain ⟨w2, hw2⟩ : ∃ w2, w1.alloc (.cells #[.int .i64 0, .int .u64 0, .int .i64 0, .string ⟨#[]⟩] 24) = w2 := ⟨_, rfl⟩
  have hf2 : Fr (fun _ => False) w1 w2 := by rw [← hw2]; exact (Fr.refl _ _).alloc _
  have hp2 : RowV w2 p zeroV := by rw [← hw2, ← hp]; exact RowV.new w1 zeroV
  have HR2 := Lib.hid (hr1.fr hf2 (fun h => h))
  have HP2 := Lib.hid hp2
  have HGP : Hid (g ≠ p ∧ w.heap.size ≤ p ∧ w.heap.size = g) := Lib.hid (by have h1 := hr1.lt; have h2 := hf1.size; omega)
  have HF2 := Lib.hid (hf1.trans hf2 (fun _ _ h => h))
  have HRD := Lib.hid hr
  have HBN := Lib.hid hBn
  have HKB := Lib.hid hk
  obtain ⟨E, hE⟩ : ∃ E, spanE B = E := ⟨_, rfl⟩
  obtain ⟨K, hK⟩ : ∃ K, spanK B = K := ⟨_, rfl⟩
  have hsp := fun w' (hf : Fr (fun _ => False) w w') => rspan_any A n c B w' (hr.fr hf (fun _ _ h => h))
  have hkl := spanK_le B
  have hel := spanE_le B
  rw [hK] at hkl
  rw [hE] at hel
  rw [hE, hK] at hsp
  rw [hBn] at hkl
  have han := get_short (Or.inr h) hs
  rw [hans] at han
  have HAN := Lib.hid han.symm
  rw [hE, hK, hBn] at hs
  obtain ⟨q, hq⟩ : ∃ q, ((E : Int) != 0) = q := ⟨_, rfl⟩
  have t2 : q = false → ((K : Int) != (n : Int)) = true := by
    intro hqf
    rw [hqf] at hq
    simp at hq ⊢
    omega
  have T2 := Lib.hid t2
  have HSP := Lib.hid hsp
  clear han t2 hs hE hK hsp
  clear hf1 hr1 hf2 hp2 hans hk hr hBn
  rcases cl2 h with e | e | e
  all_goals (first | (have t3 : (k == 3) = false := (by simp; omega); have t4 : (k == 4) = true := (by simp; omega)) | (have t3 : (k == 3) = false := (by simp; omega); have t4 : (k == 4) = false := (by simp; omega); have t7 : (k == 7) = true := (by simp; omega)) | (have t3 : (k == 3) = false := (by simp; omega); have t4 : (k == 4) = false := (by simp; omega); have t7 : (k == 7) = false := (by simp; omega); have t8 : (k == 8) = true := (by simp; omega)))
  all_goals clear e h
  all_goals cases q
  all_goals (try have t9 := T2.out rfl)
  all_goals
    go_enter Try.func14, Try.ntmps14
    go_upto_region 2 with (refine store_st vSz rfl (.tmp 6) (.tmp 15) rfl p (by rfl) (vls ⟨k, 0, 0, []⟩) (by rfl) _ _ HP2.out rfl rfl (v_one _) ?_)
    intro w3 hr3 hf3
    clear hw1 hw2 hg hp
    have HP3 : Hid (RowV w3 p ⟨k, 0, 0, []⟩) := Lib.hid hr3
    have HG3 := Lib.hid (HR2.out.fr hf3 HGP.out.1)
    have HF3 := Lib.hid (HF2.out.trans hf3 (fun b hb h => by have := HGP.out.2; omega))
    clear hr3 hf3
    go_wp2_with fail
    refine (HSP.out w3 HF3.out).mono ?_
    rintro e w4 ⟨rfl, rfl⟩
    go_wp2_with (refine store_st vSz rfl (.tmp 4) (.tmp 67) rfl g (by rfl) (vls zeroV) (by rfl) _ _ HG3.out rfl rfl (v_one _) ?_)
    intro w8 hr8 hf8
    have HR8 : Hid (RowV w8 g zeroV) := Lib.hid hr8
    have HF8 := Lib.hid (HF3.out.trans hf8 (fun b hb h => by have := HGP.out; omega))
    have d0 := HR8.out.c0
    have d1 := HR8.out.c1
    have d2 := HR8.out.c2
    have d3 := HR8.out.c3
    clear hr8 hf8
    go_wp2_with fail
    refine bodyPost_ret (v := getR (zeroV, false)) (by simp [results, getR, valc, d0, d1, d2, d3, Try.results14, go_sem]) rfl ⟨by rw [← HAN.out], HF8.out⟩

/-- the reference's Get -/
theorem rvGet_any (k : Int) (A : Option Addr) (n c : Nat) (B : List UInt8) (w : World) (hk : -9223372036854775808 ≤ k ∧ k < 9223372036854775808) (hr : Rd w A n (B.map bytec)) (hc : n ≤ c) (hn : n ≤ 1000000) :
    Calls Try.prog 14 #[.int .i64 k, .slice A n c] w fun e w' => e = .returned (getR (getV k B)) ∧ Fr (fun _ => False) w w' := by
  have hl := cl_le k
  rcases (show cl k = 0 ∨ cl k = 1 ∨ cl k = 2 ∨ cl k = 3 ∨ cl k = 4 ∨ cl k = 5 by omega) with e | e | e | e | e | e
  · exact rgetO0_any k A n c B w hk hr hc hn e
  · by_cases h0 : spanE B = 0
    · by_cases h1 : spanK B = B.length
      · exact rgetF1_any k A n c B w hk hr hc hn e h0 h1
      · exact rgetS1_any k A n c B w hk hr hc hn e (Or.inr h1)
    · exact rgetS1_any k A n c B w hk hr hc hn e (Or.inl h0)
  · by_cases h0 : spanE B = 0
    · by_cases h1 : spanK B = B.length
      · by_cases h2 : B.length < 10 ∧ 64 ≤ LebM.last B
        · exact rgetF2a_any k A n c B w hk hr hc hn e h0 h1 h2
        · by_cases h3 : B.length < 10
          · exact rgetF2c_any k A n c B w hk hr hc hn e h0 h1 ⟨h2, h3⟩
          · exact rgetF2b_any k A n c B w hk hr hc hn e h0 h1 ⟨h2, by omega⟩
      · exact rgetS2_any k A n c B w hk hr hc hn e (Or.inr h1)
    · exact rgetS2_any k A n c B w hk hr hc hn e (Or.inl h0)
  · exact rgetO3_any k A n c B w hk hr hc hn e
  · exact rgetO4_any k A n c B w hk hr hc hn e
  · exact rgetO5_any k A n c B w hk hr hc hn e
end Go.Proofs.Ytomhljpnpphbcaa
