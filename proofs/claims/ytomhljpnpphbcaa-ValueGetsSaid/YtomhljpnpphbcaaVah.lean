/-
  Layer 14, the law ValueGets (written by gen_laws14.py).
-/
import Derived.Test.YtomhljpnpphbcaaVad
import Derived.Test.YtomhljpnpphbcaaVac
namespace Go.Proofs.Ytomhljpnpphbcaa
open Go.RowKit Mem Go.Lib VaM LebM UtfM
attribute [local go_sem ↓] Go.wp_at_zero Go.wp_at_succ
set_option linter.unusedVariables false


set_option maxRecDepth 100000 in
set_option maxHeartbeats 6400000 in
theorem vgets_law (K : VaC) (k : Int) (A : Option Addr) (n c : Nat) (B : List UInt8) (w : World) (hk : -9223372036854775808 ≤ k ∧ k < 9223372036854775808) (hr : Rd w A n (B.map bytec)) (hc : n ≤ c) (hm : n ≤ maxLen) : Calls Try.prog 4 #[.int .i64 k, .slice A n c] w fun e w' => e = .returned (.bool true) ∧ Fr (fun _ => False) w w' := by
  have hx : n ≤ 9223372036854775807 := hm
  have haw := fun w => awake14_any K w
  have HAW := Lib.hid haw
  have HRD := Lib.hid hr
  clear haw hr
  by_cases hbig : 5000 < n
  · have tn : decide ((5000 : Int) < (n : Int)) = true := by simp; omega
    have un : decide (5000 < n) = true := by simp; omega
    go_enter Try.func4, Try.ntmps4
    go_wp2_with fail
    refine (HAW.out _).mono ?_
    rintro e w2 ⟨rfl, hf⟩
    have HFw2 := Lib.hid (hf)
    clear hf
    go_wp2_with fail
    refine (HAW.out _).mono ?_
    rintro e w3 ⟨rfl, hf⟩
    have HFw3 := Lib.hid (HFw2.out.trans hf (fun _ _ h => h))
    clear hf
    go_wp2_with fail
    go_ret
    exact ⟨rfl, HFw3.out⟩
  · have tn : decide ((5000 : Int) < (n : Int)) = false := by simp; omega
    have un : decide (5000 < n) = false := by simp; omega
    obtain ⟨x, ok, hx2⟩ : ∃ x ok, getV k B = (x, ok) := ⟨_, _, rfl⟩
    obtain ⟨E, hE⟩ : ∃ E : Int, (if ok = true then 0 else 3) = E := ⟨_, rfl⟩
    have hpg := fun w' (hf : Fr (fun _ => False) w w') => K.get k A n c B w' (HRD.out.fr hf (fun _ _ h => h)) hc (by omega)
    have hrg := fun w' (hf : Fr (fun _ => False) w w') => rvGet_any k A n c B w' hk (HRD.out.fr hf (fun _ _ h => h)) hc (by omega)
    simp only [hx2, getR, valc, hE] at hpg hrg
    have HPG := Lib.hid hpg
    have HRG := Lib.hid hrg
    obtain ⟨q1, q2⟩ := v_eql x x
    rw [eqV_self] at q2
    have hee : (E == E) = true := by simp
    clear hpg hrg hx2 hE hk
    go_enter Try.func4, Try.ntmps4
    go_wp2_with fail
    refine (HAW.out _).mono ?_
    rintro e w2 ⟨rfl, hf⟩
    have HFw2 := Lib.hid (hf)
    clear hf
    go_wp2_with fail
    refine (HPG.out w2 HFw2.out).mono ?_
    rintro e w3 ⟨rfl, hf⟩
    have HFw3 := Lib.hid (HFw2.out.trans hf (fun _ _ h => h))
    clear hf
    obtain ⟨p, hp⟩ : ∃ p, w3.heap.size = p := ⟨_, rfl⟩
    obtain ⟨wa, hwa⟩ : ∃ w', w3.alloc (.cells #[.int .i64 0, .int .u64 0, .int .i64 0, .string ⟨#[]⟩] 24) = w' := ⟨_, rfl⟩
    have hfa : Fr (fun _ => False) w3 wa := by rw [← hwa]; exact (Fr.refl _ _).alloc _
    have hpa : RowV wa p zeroV := by rw [← hwa, ← hp]; exact RowV.new w3 zeroV
    have HPAp := Lib.hid hpa
    have HPp := Lib.hid hp
    have HFAp := Lib.hid hfa
    clear hfa hpa
    go_upto_region 4 with (refine store_st vSz rfl (.tmp 5) (.tmp 21) rfl p (by rfl) (vls x) (by rfl) _ _ HPAp.out rfl rfl (v_one _) ?_)
    intro w4 hrn hfn
    have HXp : Hid (RowV w4 p x) := Lib.hid hrn
    have HFNp : Hid (Fr (fun _ => False) w3 w4) := Lib.hid (HFAp.out.trans hfn (fun b hb h => by have := HPp.out; omega))
    clear hrn hfn hwa hp
    have HFw4 := Lib.hid (HFw3.out.trans HFNp.out (fun _ _ h => h))
    go_wp2_with fail
    refine (HRG.out w4 HFw4.out).mono ?_
    rintro e w5 ⟨rfl, hf⟩
    have HFw5 := Lib.hid (HFw4.out.trans hf (fun _ _ h => h))
    have HX5 := Lib.hid (HXp.out.fr hf (fun h => h))
    clear hf
    obtain ⟨r, hp⟩ : ∃ p, w5.heap.size = p := ⟨_, rfl⟩
    obtain ⟨wb, hwa⟩ : ∃ w', w5.alloc (.cells #[.int .i64 0, .int .u64 0, .int .i64 0, .string ⟨#[]⟩] 24) = w' := ⟨_, rfl⟩
    have hfa : Fr (fun _ => False) w5 wb := by rw [← hwa]; exact (Fr.refl _ _).alloc _
    have hpa : RowV wb r zeroV := by rw [← hwa, ← hp]; exact RowV.new w5 zeroV
    have HPAr := Lib.hid hpa
    have HPr := Lib.hid hp
    have HFAr := Lib.hid hfa
    clear hfa hpa
    go_upto_region 5 with (refine store_st vSz rfl (.tmp 7) (.tmp 27) rfl r (by rfl) (vls x) (by rfl) _ _ HPAr.out rfl rfl (v_one _) ?_)
    intro w6 hrn hfn
    have HXr : Hid (RowV w6 r x) := Lib.hid hrn
    have HFNr : Hid (Fr (fun _ => False) w5 w6) := Lib.hid (HFAr.out.trans hfn (fun b hb h => by have := HPr.out; omega))
    clear hrn hfn hwa hp
    have HFw6 := Lib.hid (HFw5.out.trans HFNr.out (fun _ _ h => h))
    obtain ⟨c0, c1, c2, c3⟩ := HXr.out.cells
    obtain ⟨d0, d1, d2, d3⟩ := (HX5.out.fr HFNr.out (fun h => h)).cells
    go_wp2_with fail
    go_ret
    exact ⟨rfl, HFw6.out⟩
end Go.Proofs.Ytomhljpnpphbcaa
