/-
  The law LebPuts: any number's bytes are the document's, alone, and in a row.
-/
import Derived.Test.YtodliocbncjlcaaLebW
import Derived.Test.YtodliocbncjlcaaLebB
import Derived.Test.YtodliocbncjlcaaLebC
import Derived.Deep.DrawnRows
namespace Go.Proofs.Ytodliocbncjlcaa
open Go.RowKit LebM Mem Go.Lib
attribute [local go_sem ↓] Go.wp_at_zero Go.wp_at_succ

theorem txt_size (B : List UInt8) : (txt B).size = B.length := by simp [txt, ByteArray.size]
theorem txt_app (B C : List UInt8) : txt B ++ txt C = txt (B ++ C) := by
  apply ByteArray.ext
  simp [txt]

set_option maxRecDepth 100000 in
set_option maxHeartbeats 6400000 in
theorem puts_law (n : Nat) (A : Option Addr) (m c : Nat) (l : List Nat) (w : World) (hn : n < 18446744073709551616) (hr : Rd w A m (l.map numc)) (hl : ∀ x ∈ l, x < 18446744073709551616) (_hmc : m ≤ c) (_hcm : c ≤ maxLen) :
    Calls Try.prog 3 #[.int .u64 (n : Int), .slice A m c] w fun e w' => e = .returned (.bool true) ∧ Fr (fun _ => False) w w' := by
  have hml : l.length = m := by simpa using hr.1
  obtain ⟨M, hM⟩ : ∃ M, wrap64 (n : Int) = M := ⟨_, rfl⟩
  have hM0 : -9223372036854775808 ≤ M := by rw [← hM]; unfold wrap64; omega
  have hM1 : M < 9223372036854775808 := by rw [← hM]; unfold wrap64; omega
  have HML := Lib.hid hml
  have HR := Lib.hid hr
  have HL := Lib.hid hl
  unfold maxLen at _hcm
  clear hml hr hl
  by_cases hbig : 500 < m
  · go_enter Try.func3, Try.ntmps3
    go_wp2_with fail
    refine (awake_any _).mono ?_
    rintro e w1 ⟨rfl, hfr1⟩
    go_wp2_with fail
    refine (awake_any _).mono ?_
    rintro e w2 ⟨rfl, hfr2⟩
    go_wp2
    go_ret
    exact ⟨rfl, hfr1.trans hfr2 (fun _ _ h => h)⟩
  · go_enter Try.func3, Try.ntmps3
    go_wp2_with fail
    refine (awake_any _).mono ?_
    rintro e w1 ⟨rfl, hfr1⟩
    go_wp2_with fail
    go_loopw [5, 6] (fun t i wr => ∃ (k : Nat) (D : List UInt8), k ≤ m ∧ i = .int .i64 k ∧ Hid (D = (l.take k).flatMap u) ∧ t = .string (txt D) ∧ D.length ≤ 10 * k ∧ Fr (fun _ => False) w wr)
      (fun _ i _ => m - (intOf i).toNat)
    case atStart => exact ⟨0, [], by omega, rfl, rfl, rfl, by simp, hfr1⟩
    case round =>
      obtain ⟨k, D, hk, rfl, HD, rfl, hDk, hfr⟩ := hrel
      by_cases hlt : k < m
      · obtain ⟨ad, v, rfl, hv, hcell⟩ := (HR.out.fr hfr (fun _ _ h => h)).at_ hlt
        obtain ⟨x, hx⟩ : ∃ x, l[k]? = some x := ⟨l[k]'(by have := HML.out; omega), List.getElem?_eq_getElem _⟩
        obtain rfl : numc x = v := by simpa [hx] using hv
        unfold numc at hcell
        have hx64 := HL.out x (List.mem_of_getElem? hx)
        have HX := Lib.hid hx
        have hu10 := u_len10 hx64
        clear hv hx
        go_wp2_with fail
        refine (rU_any x _ hx64).mono ?_
        rintro e w2 ⟨A2, c2, rfl, hown2, hfr2⟩
        have hs2 := hown2.str
        have hcat : ¬ 9223372036854775807 < (txt D).size + (txt (u x)).size := by rw [txt_size, txt_size]; omega
        clear hown2
        go_wp2
        go_roundw
        case rel =>
          refine ⟨k + 1, D ++ u x, by omega, by go_num, ?_, by rw [txt_app], by rw [List.length_append]; omega, hfr.trans hfr2 (fun _ _ h => h)⟩
          show _ = _
          rw [HD.out, List.take_add_one, HX.out]
          simp
        case measure => simp [intOf] <;> omega
      · have hkm : k = m := by omega
        have hDl : l.flatMap u = D := by rw [HD.out, List.take_of_length_le (by have := HML.out; omega)]
        have hAll := fun w' h => All_any A m c l w' h HL.out (by omega)
        rw [hDl] at hAll
        have HALL := Lib.hid hAll
        clear hAll hDl
        have HKM := Lib.hid hkm
        clear hkm HD hfr1
        have hM2 : IntKind.i64.wrap (n : Int) = M := by rw [IntWalk.i64_left]; exact hM
        have HFR := Lib.hid hfr
        have HR2 := Lib.hid (HR.out.fr hfr (fun _ _ h => h))
        clear hfr
        go_wp2_with fail
        go_region_with (first
          | (go_at_call 10
             go_must (refine (U_any n _ hn).mono ?_
                      rintro e w2 ⟨A1, c1, rfl, hown1, hf2⟩
                      have HF2 := Lib.hid (HFR.out.drew.trans hf2 (fun _ _ h => h))
                      have hs1 := hown1.str
                      have HO1 := Lib.hid hown1
                      clear hown1 hf2))
          | (go_at_call 9
             go_must (refine (rU_any n _ hn).mono ?_
                      rintro e w3 ⟨A2, c2, rfl, hown2, hf3⟩
                      have HF3 := Lib.hid (HF2.out.trans hf3 (fun _ _ h => h))
                      have hs2 := (HO1.out.fr hf3).str
                      have hs3 := hown2.str
                      clear hown2 hf3))
          | (go_at_call 11
             go_must (with_reducible refine (S_any M _ hM0 hM1).mono ?_
                      rintro e w4 ⟨A3, c3, rfl, hown3, hf4⟩
                      have HF4 := Lib.hid (HF3.out.trans hf4 (fun _ _ h => h))
                      have hs4 := hown3.str
                      have HO3 := Lib.hid hown3
                      clear hown3 hf4))
          | (go_at_call 12
             go_must (with_reducible refine (rS_any M _ hM0 hM1).mono ?_
                      rintro e w5 ⟨A4, c4, rfl, hown4, hf5⟩
                      have HF5 := Lib.hid (HF4.out.trans hf5 (fun _ _ h => h))
                      have hs5 := (HO3.out.fr hf5).str
                      have hs6 := hown4.str
                      clear hown4 hf5))
          | (go_at_call 13
             go_must (refine (HALL.out _ (HR.out.fr HF5.out (fun _ _ h => h))).mono ?_
                      rintro e w6 ⟨A5, c5, rfl, hown5, hf6⟩
                      have HF6 := Lib.hid (HF5.out.trans hf6 (fun _ _ h => h))
                      have hs7 := hown5.str
                      clear hown5 hf6))
          | fail)
        all_goals (try go_wp2)
        all_goals go_ret
        all_goals exact ⟨rfl, HF6.out⟩
end Go.Proofs.Ytodliocbncjlcaa
