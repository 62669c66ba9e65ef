/-
  The law LebBack: what is put is read as it was, whatever stands behind; each front is too short.
-/
import Derived.Test.YtodliocbncjlcaaLebN
import Derived.Test.YtodliocbncjlcaaLebW
namespace Go.Proofs.Ytodliocbncjlcaa
open Go.RowKit LebM Mem Go.Lib

theorem rd_front' {w : World} {base c k : Nat} {A : Option Addr} {B : List UInt8} (h : Own w base A c B) (hk : k ≤ B.length) : Rd w A k ((B.take k).map bytec) := by
  have h := Rd.cut h.rd (k := 0) (m := k) (cap := c) (by omega) hk h.cap.1
  have e : (if c = 0 then A else A.map (·.add 0)) = A := by
    split
    · rfl
    · cases A with
      | none => rfl
      | some ad => simp [Addr.add]
  rw [e, ← List.map_take, List.drop_zero] at h
  exact h

set_option maxRecDepth 100000 in
set_option maxHeartbeats 6400000 in
theorem back_law (n : Nat) (A : Option Addr) (m c : Nat) (B : List UInt8) (cut : Nat) (w : World) (hn : n < 18446744073709551616) (hr : Rd w A m (B.map bytec)) (hcut : cut < 256) (_hmc : m ≤ c) (_hcm : c ≤ maxLen) :
    Calls Try.prog 5 #[.int .u64 (n : Int), .slice A m c, .int .u8 (cut : Int)] w fun e w' => e = .returned (.bool true) ∧ Fr (fun _ => False) w w' := by
  have hml : B.length = m := by simpa using hr.1
  obtain ⟨M, hM⟩ : ∃ M, wrap64 (n : Int) = M := ⟨_, rfl⟩
  have hM0 : -9223372036854775808 ≤ M := by rw [← hM]; unfold wrap64; omega
  have hM1 : M < 9223372036854775808 := by rw [← hM]; unfold wrap64; omega
  have HML := Lib.hid hml
  have HR := Lib.hid hr
  unfold maxLen at _hcm
  clear hml hr
  by_cases hbig : 500 < m
  · go_enter Try.func5, Try.ntmps5
    go_wp2_with fail
    refine (awake_any _).mono ?_
    rintro e w1 ⟨rfl, hfr1⟩
    go_wp2_with fail
    refine (awake_any _).mono ?_
    rintro e w2 ⟨rfl, hfr2⟩
    go_wp2
    go_ret
    exact ⟨rfl, hfr1.trans hfr2 (fun _ _ h => h)⟩
  · have hu10 := u_len10 hn
    have hs10 := s_len10 hM0 hM1
    have hup := u_pos n
    have hsp := s_pos M
    obtain ⟨j, hj⟩ : ∃ j, j = cut % (u n).length := ⟨_, rfl⟩
    obtain ⟨i, hi⟩ : ∃ i, i = cut % (s M).length := ⟨_, rfl⟩
    have hju : j < (u n).length := by rw [hj]; exact Nat.mod_lt _ hup
    have his : i < (s M).length := by rw [hi]; exact Nat.mod_lt _ hsp
    have hj2 : (cut : Int) % ((u n).length : Int) = (j : Int) := by rw [hj]; rfl
    have hi2 : (cut : Int) % ((s M).length : Int) = (i : Int) := by rw [hi]; rfl
    obtain ⟨K, hK⟩ : ∃ K, K = (u n).length + m := ⟨_, rfl⟩
    obtain ⟨L, hL⟩ : ∃ L, L = (s M).length + m := ⟨_, rfl⟩
    have hK5 : K ≤ 510 := by omega
    have hL5 : L ≤ 510 := by omega
    have HK := Lib.hid hK
    have HL := Lib.hid hL
    clear hj hi hK hL
    go_enter Try.func5, Try.ntmps5
    go_wp2_with fail
    refine (awake_any _).mono ?_
    rintro e w1 ⟨rfl, hf1⟩
    go_wp2_with fail
    refine (U_any n _ hn).mono ?_
    rintro e w2 ⟨A1, c1, rfl, hown1, hf2⟩
    have hF2 := hf1.trans hf2 (fun _ _ h => h)
    clear hf1 hf2
    go_wp2_with fail
    refine (S_any M _ hM0 hM1).mono ?_
    rintro e w3 ⟨A2, c2, rfl, hown2, hf3⟩
    have hF3 := hF2.trans hf3 (fun _ _ h => h)
    have HO1 := Lib.hid (hown1.fr hf3)
    have HO2 := Lib.hid hown2
    have hc1 := hown1.cap.1
    have hc2 := hown2.cap.1
    clear hF2 hf3 hown1 hown2
    have HF3 := Lib.hid hF3
    clear hF3
    have hF4 := HF3.out.alloc (.cells #[] 5)
    have h0 := World.ownsRow_made (e := 5) (size := 1) w3 #[] 0 (Nat.le_refl _) (Nat.zero_le _) rfl
    have hr1 := (HO1.out.fr ((Fr.refl (fun _ => False) w3).alloc (.cells #[] 5))).rd
    go_wp2_with (at_builtin; refine wpList_appN u8T _ rfl _ _ rfl w3.heap.size _ _ _ rfl h0 _ _ _ _ rfl hr1 (bytec_one _) (u n).length (by omega) (by unfold maxLen; omega) (by omega) (by simp) ?_)
    intro A4 c4 w4 _ _ hown4 hfr4 _
    have hfr4 : Fr (fun _ => False) w3 w4 := ((Fr.refl _ w3).alloc _).trans hfr4 (fun b hb h => by simp [Value.ownBlock] at h; omega)
    have HF4 := Lib.hid (HF3.out.trans hfr4 (fun _ _ h => h))
    have hr2 := HR.out.fr HF4.out (fun _ _ h => h)
    have hsz4 := hfr4.size
    have HFX := Lib.hid hfr4
    clear h0 hr1 hF4 hfr4
    go_wp2_with (at_builtin; refine wpList_appN u8T _ rfl _ _ rfl w3.heap.size _ _ _ rfl hown4 _ _ _ _ rfl hr2 (bytec_one _) K HK.out (by unfold maxLen; omega) (by omega) (by omega) ?_)
    intro A5 c5 w5 hKc _ hown5 hfr5 _
    have hF5 := HFX.out.trans hfr5 (fun b hb h => by have := hown4.lt _ h; omega)
    have hr5 : Rd w5 A5 K ((u n ++ B).map bytec) := by rw [List.map_append]; exact Rd.of_own hown5
    have HF5 := Lib.hid hF5
    have HR5 := Lib.hid hr5
    clear hown4 hr2 hown5 hfr5 hF5 hr5 hsz4 HFX HF4
    go_wp2_with fail
    refine (GetU_back A5 K c5 n _ B _ hn rfl HR5.out hKc).mono ?_
    rintro e w6 ⟨rfl, hf6⟩
    have HF6 := Lib.hid (HF5.out.trans hf6 (fun _ _ h => h))
    clear hf6 HF5 HR5 hKc
    have h0 := World.ownsRow_made (e := 5) (size := 1) w6 #[] 0 (Nat.le_refl _) (Nat.zero_le _) rfl
    have hr1 := ((HO2.out.fr HF6.out).fr ((Fr.refl (fun _ => False) w6).alloc (.cells #[] 5))).rd
    go_wp2_with (at_builtin; refine wpList_appN u8T _ rfl _ _ rfl w6.heap.size _ _ _ rfl h0 _ _ _ _ rfl hr1 (bytec_one _) (s M).length (by omega) (by unfold maxLen; omega) (by omega) (by simp) ?_)
    intro A7 c7 w7 _ _ hown7 hfr7 _
    have hfr7 : Fr (fun _ => False) w6 w7 := ((Fr.refl _ w6).alloc _).trans hfr7 (fun b hb h => by simp [Value.ownBlock] at h; omega)
    have hr2 := HR.out.fr ((HF3.out.trans HF6.out (fun _ _ h => h)).trans hfr7 (fun _ _ h => h)) (fun _ _ h => h)
    have hsz7 := hfr7.size
    have HFX := Lib.hid hfr7
    clear h0 hr1 hfr7
    go_wp2_with (at_builtin; refine wpList_appN u8T _ rfl _ _ rfl w6.heap.size _ _ _ rfl hown7 _ _ _ _ rfl hr2 (bytec_one _) L HL.out (by unfold maxLen; omega) (by omega) (by omega) ?_)
    intro A8 c8 w8 hLc _ hown8 hfr8 _
    have hF8 := HFX.out.trans hfr8 (fun b hb h => by have := hown7.lt _ h; omega)
    have hr8 : Rd w8 A8 L ((s M ++ B).map bytec) := by rw [List.map_append]; exact Rd.of_own hown8
    have HF8 := Lib.hid (HF6.out.trans hF8 (fun _ _ h => h))
    have HR8 := Lib.hid hr8
    clear hown7 hr2 hown8 hfr8 hF8 hr8 hsz7 HFX
    go_wp2_with fail
    refine (GetS_back A8 L c8 M _ B _ hM0 hM1 rfl HR8.out hLc).mono ?_
    rintro e w9 ⟨rfl, hf9⟩
    have HF9 := Lib.hid (HF8.out.trans hf9 (fun _ _ h => h))
    clear hf9 HF8 HR8 hLc HF6
    have hjc : j ≤ c1 := by omega
    have hic : i ≤ c2 := by omega
    go_wp2_with fail
    refine (GetU_front A1 j c1 (u n) _ (u_form n) hu10 hju (rd_front' (HO1.out.fr HF9.out) (by omega)) hjc).mono ?_
    rintro e w10 ⟨rfl, hf10⟩
    have HF10 := Lib.hid (HF9.out.trans hf10 (fun _ _ h => h))
    clear hf10 HF9
    go_wp2_with fail
    refine (GetS_front A2 i c2 (s M) _ (s_form M) hs10 his (rd_front' (HO2.out.fr HF10.out) (by omega)) hic).mono ?_
    rintro e w11 ⟨rfl, hf11⟩
    have HF11 := Lib.hid ((HF3.out.trans HF10.out (fun _ _ h => h)).trans hf11 (fun _ _ h => h))
    clear hf11 HF10
    have tl : decide (((s M).length : Int) ≤ 10) = true := by simp; omega
    go_wp2
    go_ret
    exact ⟨rfl, HF11.out⟩
end Go.Proofs.Ytodliocbncjlcaa
