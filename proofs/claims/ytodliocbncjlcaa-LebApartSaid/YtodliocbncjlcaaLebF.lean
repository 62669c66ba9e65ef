/-
  The law LebApart: two numbers have the same bytes just if they are the same.
-/
import Derived.Test.YtodliocbncjlcaaLebW
namespace Go.Proofs.Ytodliocbncjlcaa
open Go.RowKit LebM Mem Go.Lib

theorem rd_front {w : World} {base c k : Nat} {A : Option Addr} {B : List UInt8} (h : Own w base A c B) (hk : k ≤ B.length) : Rd w A k ((B.take k).map bytec) := by
  have h := Rd.cut h.rd (k := 0) (m := k) (cap := c) (by omega) hk h.cap.1
  have e : (if c = 0 then A else A.map (·.add 0)) = A := by
    split
    · rfl
    · cases A with
      | none => rfl
      | some ad => simp [Addr.add]
  rw [e, ← List.map_take, List.drop_zero] at h
  exact h

theorem front_facts {w : World} {b1 b2 c1 c2 k : Nat} {A1 A2 : Option Addr} {P Q : List UInt8} (h1 : Own w b1 A1 c1 P) (h2 : Own w b2 A2 c2 Q) (k1 : k ≤ P.length) (k2 : k ≤ Q.length) (hne : P.take k ≠ Q.take k) :
    ∃ T1 T2 : ByteArray, (convert 25 9 (.slice A1 k c1)).run Try.prog w.drew = .ok (.string T1) w.drew ∧ (convert 25 9 (.slice A2 k c2)).run Try.prog w.drew = .ok (.string T2) w.drew ∧
      (T1.toList == T2.toList) = false := by
  refine ⟨txt (P.take k), txt (Q.take k), str_rd (rd_front h1 k1).drew c1, str_rd (rd_front h2 k2).drew c2, ?_⟩
  rw [show (txt (P.take k)).toList = P.take k from ByteArray.toList_mk _, show (txt (Q.take k)).toList = Q.take k from ByteArray.toList_mk _]
  simpa using hne

set_option maxRecDepth 100000 in
set_option maxHeartbeats 1600000 in
theorem apart_law (m n : Nat) (w : World) (hm : m < 18446744073709551616) (hn : n < 18446744073709551616) :
    Calls Try.prog 6 #[.int .u64 (m : Int), .int .u64 (n : Int)] w fun e w' => e = .returned (.bool true) ∧ Fr (fun _ => False) w w' := by
  obtain ⟨M, hM⟩ : ∃ M, wrap64 (m : Int) = M := ⟨_, rfl⟩
  obtain ⟨N, hN⟩ : ∃ N, wrap64 (n : Int) = N := ⟨_, rfl⟩
  have hM0 : -9223372036854775808 ≤ M := by rw [← hM]; unfold wrap64; omega
  have hM1 : M < 9223372036854775808 := by rw [← hM]; unfold wrap64; omega
  have hN0 : -9223372036854775808 ≤ N := by rw [← hN]; unfold wrap64; omega
  have hN1 : N < 9223372036854775808 := by rw [← hN]; unfold wrap64; omega
  have hMN : m ≠ n → M ≠ N := by rw [← hM, ← hN]; unfold wrap64; omega
  have HMN := Lib.hid hMN
  have H1 := Lib.hid (U_any m · hm)
  have H2 := Lib.hid (U_any n · hn)
  have H3 := Lib.hid (S_any M · hM0 hM1)
  have H4 := Lib.hid (S_any N · hN0 hN1)
  clear hMN
  by_cases he : m = n
  · subst he
    obtain rfl : M = N := hM.symm.trans hN
    clear hN
    go_enter Try.func6, Try.ntmps6
    go_wp2_with fail
    refine (awake_any _).mono ?_
    rintro e w1 ⟨rfl, hfr1⟩
    go_wp2_with fail
    refine (H1.out _).mono ?_
    rintro e w2 ⟨A1, c1, rfl, hown1, hfr2⟩
    go_wp2_with fail
    refine (H2.out _).mono ?_
    rintro e w3 ⟨A2, c2, rfl, hown2, hfr3⟩
    go_wp2_with fail
    refine (H3.out _).mono ?_
    rintro e w4 ⟨A3, c3, rfl, hown3, hfr4⟩
    go_wp2_with fail
    refine (H4.out _).mono ?_
    rintro e w5 ⟨A4, c4, rfl, hown4, hfr5⟩
    have hs1 := (((hown1.fr hfr3).fr hfr4).fr hfr5).str
    have hs2 := ((hown2.fr hfr4).fr hfr5).str
    have hs3 := (hown3.fr hfr5).str
    have hs4 := hown4.str
    have HF := Lib.hid ((((hfr1.trans hfr2 (fun _ _ h => h)).trans hfr3 (fun _ _ h => h)).trans hfr4 (fun _ _ h => h)).trans hfr5 (fun _ _ h => h))
    clear hown1 hown2 hown3 hown4 hfr1 hfr2 hfr3 hfr4 hfr5
    go_wp2
    go_ret
    exact ⟨rfl, HF.out⟩
  · have hne := he
    have hu : (u m).take (min (u m).length (u n).length) ≠ (u n).take (min (u m).length (u n).length) := fun h => he (u_inj (take_apart (u_form m) (u_form n) h))
    have hs : (s M).take (min (s M).length (s N).length) ≠ (s N).take (min (s M).length (s N).length) := fun h => HMN.out he (s_inj (take_apart (s_form M) (s_form N) h))
    have t : ((m : Int) != (n : Int)) = true := by simp; omega
    have HU := Lib.hid hu
    have HS := Lib.hid hs
    clear hu hs hne he
    go_enter Try.func6, Try.ntmps6
    go_wp2_with fail
    refine (awake_any _).mono ?_
    rintro e w1 ⟨rfl, hfr1⟩
    go_wp2_with fail
    refine (H1.out _).mono ?_
    rintro e w2 ⟨A1, c1, rfl, hown1, hfr2⟩
    go_wp2_with fail
    refine (H2.out _).mono ?_
    rintro e w3 ⟨A2, c2, rfl, hown2, hfr3⟩
    go_wp2_with fail
    refine (H3.out _).mono ?_
    rintro e w4 ⟨A3, c3, rfl, hown3, hfr4⟩
    go_wp2_with fail
    refine (H4.out _).mono ?_
    rintro e w5 ⟨A4, c4, rfl, hown4, hfr5⟩
    have HO1 := Lib.hid (((hown1.fr hfr3).fr hfr4).fr hfr5)
    have HO2 := Lib.hid ((hown2.fr hfr4).fr hfr5)
    have HO3 := Lib.hid (hown3.fr hfr5)
    have HO4 := Lib.hid hown4
    have HF := Lib.hid ((((hfr1.trans hfr2 (fun _ _ h => h)).trans hfr3 (fun _ _ h => h)).trans hfr4 (fun _ _ h => h)).trans hfr5 (fun _ _ h => h))
    clear hown1 hown2 hown3 hown4 hfr1 hfr2 hfr3 hfr4 hfr5
    have hc1 := HO1.out.cap.1
    have hc2 := HO2.out.cap.1
    have hc3 := HO3.out.cap.1
    have hc4 := HO4.out.cap.1
    have hu := HU.out
    have hs := HS.out
    rcases Nat.lt_or_ge (u n).length (u m).length with hl1 | hl1 <;> rcases Nat.lt_or_ge (s N).length (s M).length with hl2 | hl2
    · rw [Nat.min_eq_right (by omega)] at hu hs
      obtain ⟨X1, X2, x1, x2, x3⟩ := front_facts HO1.out HO2.out (by omega) (by omega) hu
      obtain ⟨Y1, Y2, y1, y2, y3⟩ := front_facts HO3.out HO4.out (by omega) (by omega) hs
      have k1 : (u n).length ≤ c1 := by omega
      have k2 : (u n).length ≤ c2 := by omega
      have k3 : (s N).length ≤ c3 := by omega
      have k4 : (s N).length ≤ c4 := by omega
      clear hu hs
      go_wp2_with fail
      go_still (by kernel_rfl)
      go_wp2
      go_ret
      exact ⟨rfl, HF.out.drew⟩
    · rw [Nat.min_eq_right (by omega)] at hu
      rw [Nat.min_eq_left (by omega)] at hs
      obtain ⟨X1, X2, x1, x2, x3⟩ := front_facts HO1.out HO2.out (by omega) (by omega) hu
      obtain ⟨Y1, Y2, y1, y2, y3⟩ := front_facts HO3.out HO4.out (by omega) (by omega) hs
      have k1 : (u n).length ≤ c1 := by omega
      have k2 : (u n).length ≤ c2 := by omega
      have k3 : (s M).length ≤ c3 := by omega
      have k4 : (s M).length ≤ c4 := by omega
      clear hu hs
      go_wp2_with fail
      go_still (by kernel_rfl)
      go_wp2
      go_ret
      exact ⟨rfl, HF.out.drew⟩
    · rw [Nat.min_eq_left (by omega)] at hu
      rw [Nat.min_eq_right (by omega)] at hs
      obtain ⟨X1, X2, x1, x2, x3⟩ := front_facts HO1.out HO2.out (by omega) (by omega) hu
      obtain ⟨Y1, Y2, y1, y2, y3⟩ := front_facts HO3.out HO4.out (by omega) (by omega) hs
      have k1 : (u m).length ≤ c1 := by omega
      have k2 : (u m).length ≤ c2 := by omega
      have k3 : (s N).length ≤ c3 := by omega
      have k4 : (s N).length ≤ c4 := by omega
      clear hu hs
      go_wp2_with fail
      go_still (by kernel_rfl)
      go_wp2
      go_ret
      exact ⟨rfl, HF.out.drew⟩
    · rw [Nat.min_eq_left (by omega)] at hu hs
      obtain ⟨X1, X2, x1, x2, x3⟩ := front_facts HO1.out HO2.out (by omega) (by omega) hu
      obtain ⟨Y1, Y2, y1, y2, y3⟩ := front_facts HO3.out HO4.out (by omega) (by omega) hs
      have k1 : (u m).length ≤ c1 := by omega
      have k2 : (u m).length ≤ c2 := by omega
      have k3 : (s M).length ≤ c3 := by omega
      have k4 : (s M).length ≤ c4 := by omega
      clear hu hs
      go_wp2_with fail
      go_still (by kernel_rfl)
      go_wp2
      go_ret
      exact ⟨rfl, HF.out.drew⟩
end Go.Proofs.Ytodliocbncjlcaa
