/-
  Layer 18, the reference: Put (written by gen_rput.py).
  Layer 20, the reference: Put (written by gen_rput.py).
-/
import Derived.Test.YtbnkahjmeobblaaZm30
import Derived.Test.YtbnkahjmeobblaaZm39
import Derived.Test.YtbnkahjmeobblaaHeN
import Derived.Test.YtbnkahjmeobblaaZm34
import Derived.Test.YtbnkahjmeobblaaZm35
import Derived.Test.YtbnkahjmeobblaaAcE
namespace Go.Proofs.Ytbnkahjmeobblaa
open Go.RowKit Mem Go.Lib LebM UtfM VaM OpM AcM
attribute [local go_sem ↓] Go.wp_at_zero Go.wp_at_succ
set_option linter.unusedVariables false

theorem run_max18 (n k m : Int) (h : m = max n k) (w : World) : (Builtin.max_ #[3, 3] 3 #[.int .i64 n, .int .i64 k]).run Try.prog w = .ok (.int .i64 m) w := by
  rw [h]
  go_simp
  try (split <;> omega)
theorem putR_step {L : List Tx} {k : Nat} {x : Tx} (h : L[k]? = some x) (hk : 1 ≤ k) : ((L.take (k + 1)).drop 1).flatMap oneA = ((L.take k).drop 1).flatMap oneA ++ oneA x := by
  have hl := (List.getElem?_eq_some_iff.1 h).1
  rw [List.take_add_one, h, List.drop_append_of_le_length (by rw [List.length_take]; omega), List.flatMap_append]
  simp
set_option maxRecDepth 100000 in
set_option maxHeartbeats 3200000 in
/-- THE CONTRACT of the reference's Put -/
theorem racPut_any (A : Option Addr) (n c : Nat) (L : List Tx) (w : World) (hL : Rd w A n (L.map tc)) (hn : n ≤ 100000) (hx : ∀ x ∈ L, x.length ≤ 1000000) :
    Calls Try.prog 38 #[.slice A n c] w fun e w' => Gives w (putA L) e w' := by
  have hln : L.length = n := by simpa using hL.1
  obtain ⟨M, hM⟩ : ∃ M, max n 1 = M := ⟨_, rfl⟩
  obtain ⟨m, hm⟩ : ∃ m, M - 1 = m := ⟨_, rfl⟩
  have hput : putA L = u m ++ (L.drop 1).flatMap oneA := by unfold putA; rw [show L.length - 1 = m by omega]
  have hmax := run_max18 (n : Int) 1 (M : Int) (by omega)
  have e0 : IntKind.i64.wrap ((M : Int) - 1) = (m : Int) := by rw [IntKind.wrap_i64]; omega
  have e1 : IntKind.u64.wrap (m : Int) = (m : Int) := by rw [IntKind.wrap_u64]; omega
  have hml : m ≤ 100000 := by omega
  have hU := fun w => rU_any m w (show m < 18446744073709551616 by omega)
  obtain ⟨base, hbase⟩ : ∃ b, w.heap.size = b := ⟨_, rfl⟩
  unfold Gives
  rw [hbase]
  obtain ⟨R, hR⟩ : ∃ R, putA L = R := ⟨_, rfl⟩
  rw [hR] at hput ⊢
  have HP := Lib.hid hput
  have HRD := Lib.hid hL
  have HXD := Lib.hid hx
  have HDL := Lib.hid hln
  have HB := Lib.hid hbase
  have HU := Lib.hid hU
  clear hL hx hln hM hm hput hU hR hbase
  go_enter Try.func38, Try.ntmps38
  go_wp2_with fail
  clear hmax e0 e1
  refine (HU.out _).mono ?_
  rintro e w1 ⟨A1, c1, rfl, ho1, hf1⟩
  rw [HB.out] at ho1
  obtain ⟨B1, hB1⟩ : ∃ B, u m = B := ⟨_, rfl⟩
  rw [hB1] at ho1 ⊢
  have HB1 := Lib.hid hB1
  have HO1 := Lib.hid ho1
  have HF1 := Lib.hid hf1
  clear ho1 hf1 hB1
  go_wp2_with fail
  go_loopw [3, 4] (fun b v wr => ∃ k : Nat, 1 ≤ k ∧ k ≤ n + 1 ∧ v = .int .i64 (k : Int) ∧ ∃ A1 c1 B, b = .slice A1 B.length c1 ∧ Hid (B = u m ++ ((L.take k).drop 1).flatMap oneA) ∧ Hid (Own wr base A1 c1 B) ∧ Hid (Fr (fun _ => False) w wr)) (fun _ v _ => n - (intOf v).toNat)
  case atStart => exact ⟨1, Nat.le_refl _, by omega, rfl, A1, c1, B1, rfl, Lib.hid (by rw [HB1.out, List.drop_eq_nil_of_le (by rw [List.length_take]; omega)]; simp), HO1, HF1⟩
  case round =>
    obtain ⟨k, hk1, hk, rfl, A3, c3, B, rfl, HBE, HO, HF⟩ := hrel
    rename World => wr
    by_cases hlt : k < n
    · obtain ⟨ad, x, rfl, hx, hcell⟩ := rd_tx (HRD.out.fr HF.out (fun _ _ => id)) hlt
      have HXK := Lib.hid hx
      have hxl := HXD.out x (List.mem_of_getElem? hx)
      have hsz := txt_sz x
      obtain ⟨l, hl⟩ : ∃ l, x.length = l := ⟨_, rfl⟩
      rw [hl] at hxl hsz
      have e2 : IntKind.u64.wrap (l : Int) = (l : Int) := by rw [IntKind.wrap_u64]; omega
      have hU := fun w => rU_any l w (show l < 18446744073709551616 by omega)
      have hul := u_pos l
      have hul2 := u_len10 (show l < 18446744073709551616 by omega)
      obtain ⟨C, hC⟩ : ∃ C, u l = C := ⟨_, rfl⟩
      rw [hC] at hul hul2
      simp only [hC] at hU
      obtain ⟨B2, hB2⟩ : ∃ B2, B2 = B ++ C := ⟨_, rfl⟩
      obtain ⟨B3, hB3⟩ : ∃ B3, B3 = B2 ++ x := ⟨_, rfl⟩
      have hnext : B3 = u m ++ ((L.take (k + 1)).drop 1).flatMap oneA := by
        rw [putR_step hx hk1, hB3, hB2, HBE.out]
        simp [oneA, ← hC, hl]
      have hbl : B3.length ≤ 1000000000000 := by
        have h1 := put_len ((L.take (k + 1)).drop 1) (fun y hy => HXD.out y (List.mem_of_mem_take (List.mem_of_mem_drop hy)))
        have h2 := u_len10 (show m < 18446744073709551616 by omega)
        rw [List.length_drop, List.length_take] at h1
        rw [hnext, List.length_append]
        omega
      have hbl2 : B2.length ≤ B3.length := by rw [hB3, List.length_append]; omega
      have HU2 := Lib.hid hU
      have HC := Lib.hid hul
      have HB2 := Lib.hid hB2
      have HB3 := Lib.hid hB3
      have HN := Lib.hid hnext
      have HBL : Hid (B3.length ≤ 1000000000000 ∧ B2.length ≤ 1000000000000) := Lib.hid ⟨hbl, by omega⟩
      clear hx hl hU hul hul2 hC hB2 hB3 hnext hbl hbl2
      go_wp2_with fail
      refine (HU2.out _).mono ?_
      rintro e w2 ⟨A4, c4, rfl, ho4, hf4⟩
      have HO2 := Lib.hid (HO.out.fr hf4)
      have HR4 := Lib.hid ho4.rd
      have HF2 := Lib.hid (HF.out.trans hf4 (fun _ _ h => h))
      have HS2 : Hid (base ≤ w2.heap.size) := Lib.hid (by rw [← HB.out]; exact HF2.out.size)
      clear ho4 hf4
      go_wp2_with (at_builtin; refine wpList_appB _ rfl _ _ rfl base _ _ B rfl HO2.out _ _ _ C rfl HR4.out HC.out B2 HB2.out HBL.out.2 HS2.out ?_)
      intro A5 c5 w5 ho5 hf5 _
      have HO5 := Lib.hid ho5
      have HF5 : Hid (Fr (fun _ => False) w w5) := Lib.hid (HF2.out.trans hf5 (fun b hb h => by have := (HO2.out.lt b h).1; have := HB.out; omega))
      have HS5 : Hid (base ≤ w5.heap.size) := Lib.hid (by rw [← HB.out]; exact HF5.out.size)
      obtain ⟨ad5, x5, e5, hx5, hcell5⟩ := rd_tx (HRD.out.fr HF5.out (fun _ _ => id)) hlt
      injection e5 with e5
      subst e5
      obtain rfl : x = x5 := by
        have h := HXK.out
        rw [hx5] at h
        injection h with h
        exact h.symm
      clear ho5 hf5 hx5
      go_wp2_with (at_builtin; refine wpList_appX _ rfl _ _ rfl base _ _ B2 x rfl HO5.out rfl B3 HB3.out HBL.out.1 HS5.out ?_)
      intro A6 c6 w6 ho6 hf6
      have HO6 := Lib.hid ho6
      have HF6 : Hid (Fr (fun _ => False) w w6) := Lib.hid (HF5.out.trans hf6 (fun b hb h => by have := (HO5.out.lt b h).1; have := HB.out; omega))
      clear ho6 hf6
      go_wp2_with fail
      go_roundw
      case rel => exact ⟨k + 1, by omega, by omega, by go_num, A6, c6, B3, by rfl, HN, HO6, HF6⟩
      case measure => simp [intOf] <;> omega
    · have HX : Hid (R = B) := Lib.hid (by
        rw [HP.out, HBE.out, List.take_of_length_le (by have := HDL.out; omega)])
      go_wp2_with fail
      go_ret
      rw [HX.out]
      exact ⟨A3, c3, rfl, HO.out, HF.out⟩
end Go.Proofs.Ytbnkahjmeobblaa
namespace Go.Proofs.Ytbnkahjmeobblaa
open Go.RowKit Mem Go.Lib LebM UtfM AcM OpM HeM
attribute [local go_sem ↓] Go.wp_at_zero Go.wp_at_succ
set_option linter.unusedVariables false

set_option maxRecDepth 100000 in
set_option maxHeartbeats 12800000 in
theorem rPut20_any (ch : Ch) (A : Option Addr) (k : Nat) (A6 : Option Addr) (n6 k6 : Nat) (L : List Om) (w : World) (hd : Hsh w A ch.d.length ch.d) (hr : rightH ch = true) (ht0 : -9223372036854775808 ≤ ch.t) (ht1 : ch.t < 9223372036854775808)
    (hL : Ops w A6 n6 L) (hn6 : n6 ≤ 1000) (hok : ∀ x ∈ L, x.short ∧ x.o.pr.length ≤ 1000) (hTn : (tabA ch.a (namesM L)).length ≤ 100000) (hTx : ∀ x ∈ tabA ch.a (namesM L), x.length ≤ 1000000) (hTp : (putA (tabA ch.a (namesM L))).length ≤ 100000000) :
    Calls Try.prog 14 #[chc ch A k A6 n6 k6] w fun e w' => ∃ A' c', e = .returned (.slice A' (putH ch (tabA ch.a (namesM L))).length c') ∧ Own w' w.heap.size A' c' (putH ch (tabA ch.a (namesM L))) ∧ Fr (fun _ => False) w w' := by
  obtain ⟨⟨a0, a1⟩, ⟨q0, q1⟩, ⟨s0, s1⟩, m1, mw, d1, dr⟩ := right_parts hr
  obtain ⟨a, q, s, t, m, d⟩ := ch
  simp only at *
  obtain ⟨Q, rfl⟩ := Int.eq_ofNat_of_zero_le (show 0 ≤ q by omega)
  obtain ⟨ST, rfl⟩ := Int.eq_ofNat_of_zero_le (show 0 ≤ s by omega)
  obtain ⟨T, hT⟩ : ∃ T, tabA a (namesM L) = T := ⟨_, rfl⟩
  have htb := fun (w' : World) (hf : Fr (fun _ => False) w w') => racTable_any a A6 n6 k6 L w' (hL.fr hf) hn6 (by omega) hok
  rw [hT] at hTn hTx hTp ⊢
  simp only [hT] at htb
  obtain ⟨nt, hnt⟩ : ∃ nt, T.length = nt := ⟨_, rfl⟩
  obtain ⟨R, hR⟩ : ∃ R, putH ⟨a, (Q : Int), (ST : Int), t, m, d⟩ T = R := ⟨_, rfl⟩
  have hRE : R = ((((((((u d.length ++ d.flatten) ++ u a.length) ++ a) ++ u Q) ++ u ST) ++ LebM.s t) ++ u m.length) ++ m) ++ putA T := by rw [← hR]; unfold putH headT; simp
  obtain ⟨na, hna⟩ : ∃ n, a.length = n := ⟨_, rfl⟩
  obtain ⟨nm, hnm⟩ : ∃ n, m.length = n := ⟨_, rfl⟩
  obtain ⟨nd, hnd⟩ : ∃ n, d.length = n := ⟨_, rfl⟩
  have hsa := txt_sz a
  have hsm := txt_sz m
  rw [hna] at hRE hsa a0 a1
  rw [hnm] at hRE hsm m1
  rw [hnd] at hRE hd d1
  have hUd := fun w' => rU_any nd w' (show nd < 18446744073709551616 by omega)
  have hUa := fun w' => rU_any na w' (show na < 18446744073709551616 by omega)
  have hUq := fun w' => rU_any Q w' (show Q < 18446744073709551616 by omega)
  have hUs := fun w' => rU_any ST w' (show ST < 18446744073709551616 by omega)
  have hUm := fun w' => rU_any nm w' (show nm < 18446744073709551616 by omega)
  have hSt := fun w' => rS_any t w' ht0 ht1
  have gd := u_len10 (show nd < 18446744073709551616 by omega)
  have ga := u_len10 (show na < 18446744073709551616 by omega)
  have gq := u_len10 (show Q < 18446744073709551616 by omega)
  have gs := u_len10 (show ST < 18446744073709551616 by omega)
  have gm := u_len10 (show nm < 18446744073709551616 by omega)
  have gt := s_len10 ht0 ht1
  have pa := u_pos na
  have pq := u_pos Q
  have ps := u_pos ST
  have pm := u_pos nm
  have pt := s_pos t
  have gf := flat_len32 d hd.2.1
  obtain ⟨Cd, hCd⟩ : ∃ C, u nd = C := ⟨_, rfl⟩
  obtain ⟨Ca, hCa⟩ : ∃ C, u na = C := ⟨_, rfl⟩
  obtain ⟨Cq, hCq⟩ : ∃ C, u Q = C := ⟨_, rfl⟩
  obtain ⟨Cs, hCs⟩ : ∃ C, u ST = C := ⟨_, rfl⟩
  obtain ⟨Cm, hCm⟩ : ∃ C, u nm = C := ⟨_, rfl⟩
  obtain ⟨Ct, hCt⟩ : ∃ C, LebM.s t = C := ⟨_, rfl⟩
  obtain ⟨Cp, hCp⟩ : ∃ C, putA T = C := ⟨_, rfl⟩
  simp only [hCd] at hUd hRE gd
  simp only [hCa] at hUa hRE ga pa
  simp only [hCq] at hUq hRE gq pq
  simp only [hCs] at hUs hRE gs ps
  simp only [hCm] at hUm hRE gm pm
  simp only [hCt] at hSt hRE gt pt
  rw [hCp] at hRE hTp
  have hpp : 0 < Cp.length := by rw [← hCp]; unfold putA; have := u_pos (T.length - 1); rw [List.length_append]; omega
  obtain ⟨B0, hB0⟩ : ∃ B, B = Cd ++ d.flatten := ⟨_, rfl⟩
  obtain ⟨B1, hB1⟩ : ∃ B, B = B0 ++ Ca := ⟨_, rfl⟩
  obtain ⟨B2, hB2⟩ : ∃ B, B = B1 ++ a := ⟨_, rfl⟩
  obtain ⟨B3, hB3⟩ : ∃ B, B = B2 ++ Cq := ⟨_, rfl⟩
  obtain ⟨B4, hB4⟩ : ∃ B, B = B3 ++ Cs := ⟨_, rfl⟩
  obtain ⟨B5, hB5⟩ : ∃ B, B = B4 ++ Ct := ⟨_, rfl⟩
  obtain ⟨B6, hB6⟩ : ∃ B, B = B5 ++ Cm := ⟨_, rfl⟩
  obtain ⟨B7, hB7⟩ : ∃ B, B = B6 ++ m := ⟨_, rfl⟩
  rw [← hB0, ← hB1, ← hB2, ← hB3, ← hB4, ← hB5, ← hB6, ← hB7] at hRE
  have l0 : B0.length ≤ 1000 := by rw [hB0, List.length_append]; omega
  have l1 : B1.length ≤ 1010 := by rw [hB1, List.length_append]; omega
  have l2 : B2.length ≤ 1030 := by rw [hB2, List.length_append]; omega
  have l3 : B3.length ≤ 1040 := by rw [hB3, List.length_append]; omega
  have l4 : B4.length ≤ 1050 := by rw [hB4, List.length_append]; omega
  have l5 : B5.length ≤ 1060 := by rw [hB5, List.length_append]; omega
  have l6 : B6.length ≤ 1070 := by rw [hB6, List.length_append]; omega
  have l7 : B7.length ≤ 3000 := by rw [hB7, List.length_append]; omega
  have l8 : R.length ≤ 1000000000 := by rw [hRE, List.length_append]; omega
  rw [hR]
  have hpu := fun (A : Option Addr) (c : Nat) (w' : World) (ho : Rd w' A nt (T.map tc)) => racPut_any A nt c T w' ho (by omega) hTx
  simp only [hCp] at hpu
  rw [hnt] at hTn
  simp only [hnt] at htb
  obtain ⟨la, hla⟩ : ∃ n, Ca.length = n := ⟨_, rfl⟩
  obtain ⟨lq, hlq⟩ : ∃ n, Cq.length = n := ⟨_, rfl⟩
  obtain ⟨ls, hls⟩ : ∃ n, Cs.length = n := ⟨_, rfl⟩
  obtain ⟨lm, hlm⟩ : ∃ n, Cm.length = n := ⟨_, rfl⟩
  obtain ⟨lt, hlt⟩ : ∃ n, Ct.length = n := ⟨_, rfl⟩
  obtain ⟨lp, hlp⟩ : ∃ n, Cp.length = n := ⟨_, rfl⟩
  have Ca_pos : Hid (0 < la) := Lib.hid (by omega)
  have Cq_pos : Hid (0 < lq) := Lib.hid (by omega)
  have Cs_pos : Hid (0 < ls) := Lib.hid (by omega)
  have Cm_pos : Hid (0 < lm) := Lib.hid (by omega)
  have Ct_pos : Hid (0 < lt) := Lib.hid (by omega)
  have Cp_pos : Hid (0 < lp) := Lib.hid (by omega)
  unfold chc
  simp only
  rw [hnd]
  obtain ⟨g, hg⟩ : ∃ g, w.heap.size = g := ⟨_, rfl⟩
  obtain ⟨w1, hw1⟩ : ∃ w1, w.alloc (.cells [.string (txt a), .int .i64 (Q : Int), .int .i64 (ST : Int), .int .i64 t, .string (txt m), .slice A nd k, .slice A6 n6 k6].toArray 25) = w1 := ⟨_, rfl⟩
  have HR1 : Hid (Row w1 g 25 [.string (txt a), .int .i64 (Q : Int), .int .i64 (ST : Int), .int .i64 t, .string (txt m), .slice A nd k, .slice A6 n6 k6]) := Lib.hid (by rw [← hw1, ← hg]; exact Row.new _ _ _)
  have HF1 : Hid (Fr (fun _ => False) w w1) := Lib.hid (by rw [← hw1]; exact (Fr.refl _ _).alloc _)
  have HBX1 : Hid (∀ w', Fr (fun _ => False) w1 w' → w'.cell? ⟨g, 0, none⟩ = some (.string (txt a)) ∧ w'.cell? ⟨g, 1, none⟩ = some (.int .i64 (Q : Int)) ∧ w'.cell? ⟨g, 2, none⟩ = some (.int .i64 (ST : Int)) ∧ w'.cell? ⟨g, 3, none⟩ = some (.int .i64 t) ∧ w'.cell? ⟨g, 4, none⟩ = some (.string (txt m)) ∧ w'.cell? ⟨g, 5, none⟩ = some (.slice A nd k) ∧ w'.cell? ⟨g, 6, none⟩ = some (.slice A6 n6 k6)) :=
    Lib.hid (fun w' hf => by
      have h := HR1.out.fr hf (fun h => h)
      exact ⟨h.cell rfl, h.cell rfl, h.cell rfl, h.cell rfl, h.cell rfl, h.cell rfl, h.cell rfl⟩)
  have eD : IntKind.u64.wrap (nd : Int) = (nd : Int) := by rw [IntKind.wrap_u64]; omega
  have eA : IntKind.u64.wrap (na : Int) = (na : Int) := by rw [IntKind.wrap_u64]; omega
  have eM : IntKind.u64.wrap (nm : Int) = (nm : Int) := by rw [IntKind.wrap_u64]; omega
  have eQ : IntKind.u64.wrap (Q : Int) = (Q : Int) := by rw [IntKind.wrap_u64]; omega
  have eST : IntKind.u64.wrap (ST : Int) = (ST : Int) := by rw [IntKind.wrap_u64]; omega
  have HDD := Lib.hid hd
  have HND := Lib.hid hnd
  have HUd := Lib.hid hUd
  have HUa := Lib.hid hUa
  have HUq := Lib.hid hUq
  have HUs := Lib.hid hUs
  have HUm := Lib.hid hUm
  have HSt := Lib.hid hSt
  have HTB := Lib.hid htb
  have HPU := Lib.hid hpu
  have HLa := Lib.hid hla
  have HLq := Lib.hid hlq
  have HLs := Lib.hid hls
  have HLm := Lib.hid hlm
  have HLt := Lib.hid hlt
  have HLp := Lib.hid hlp
  have HNT := Lib.hid hnt
  have HB0 := Lib.hid hB0
  have HB1 := Lib.hid hB1
  have HB2 := Lib.hid hB2
  have HB3 := Lib.hid hB3
  have HB4 := Lib.hid hB4
  have HB5 := Lib.hid hB5
  have HB6 := Lib.hid hB6
  have HB7 := Lib.hid hB7
  have HB8 := Lib.hid hRE
  have HBL0 : Hid (B0.length ≤ 1000) := Lib.hid l0
  have HBL1 : Hid (B1.length ≤ 1000000000000) := Lib.hid (by omega)
  have HBL2 : Hid (B2.length ≤ 1000000000000) := Lib.hid (by omega)
  have HBL3 : Hid (B3.length ≤ 1000000000000) := Lib.hid (by omega)
  have HBL4 : Hid (B4.length ≤ 1000000000000) := Lib.hid (by omega)
  have HBL5 : Hid (B5.length ≤ 1000000000000) := Lib.hid (by omega)
  have HBL6 : Hid (B6.length ≤ 1000000000000) := Lib.hid (by omega)
  have HBL7 : Hid (B7.length ≤ 1000000000000) := Lib.hid (by omega)
  have HBL8 : Hid (R.length ≤ 1000000000000) := Lib.hid (by omega)
  clear hd hr hL hok hTn hTx hTp htb hR hRE hnd hna hnm hUd hUa hUq hUs hUm hSt gd ga gq gs gm gt pa pq ps pm pt gf hCd hCa hCq hCs hCm hCt hCp hpp hB0 hB1 hB2 hB3 hB4 hB5 hB6 hB7 l0 l1 l2 l3 l4 l5 l6 l7 l8 hpu hnt hT hla hlq hls hlm hlt hlp a0 a1 q0 q1 s0 s1 m1 mw dr ht0 ht1
  obtain ⟨bs, hbs⟩ : ∃ b, w1.heap.size = b := ⟨_, rfl⟩
  have HBS : Hid (g < bs ∧ w.heap.size ≤ bs ∧ w1.heap.size = bs) := Lib.hid (by have h1 := HR1.out.lt; have h2 := HF1.out.size; omega)
  clear hbs
  have HBX : Hid (∀ w', Fr (fun k => bs ≤ k) w1 w' → w'.cell? ⟨g, 0, none⟩ = some (.string (txt a)) ∧ w'.cell? ⟨g, 1, none⟩ = some (.int .i64 (Q : Int)) ∧ w'.cell? ⟨g, 2, none⟩ = some (.int .i64 (ST : Int)) ∧ w'.cell? ⟨g, 3, none⟩ = some (.int .i64 t) ∧ w'.cell? ⟨g, 4, none⟩ = some (.string (txt m)) ∧ w'.cell? ⟨g, 5, none⟩ = some (.slice A nd k) ∧ w'.cell? ⟨g, 6, none⟩ = some (.slice A6 n6 k6)) :=
    Lib.hid (fun w' hf => by
      have h := HR1.out.fr hf (fun h => by have h1 : bs ≤ g := h; have := HBS.out; omega)
      exact ⟨h.cell rfl, h.cell rfl, h.cell rfl, h.cell rfl, h.cell rfl, h.cell rfl, h.cell rfl⟩)
  have HFE : Hid (∀ w', Fr (fun k => bs ≤ k) w1 w' → Fr (fun _ => False) w w') := Lib.hid (fun w' hf => HF1.out.trans hf (fun k hk h => by have h1 : bs ≤ k := h; have := HBS.out; omega))
  have HDX : Hid (∀ w', Fr (fun k => bs ≤ k) w1 w' → Hsh w' A nd d) := Lib.hid (fun w' hf => HDD.out.fr (HFE.out w' hf))
  have HTB : Hid (∀ w', Fr (fun k => bs ≤ k) w1 w' → Calls Try.prog 19 #[.string (txt a), .slice A6 n6 k6] w' fun e w'' => ∃ A' c', e = .returned (.slice A' nt c') ∧ OwT w'' w'.heap.size A' c' T ∧ Fr (fun _ => False) w' w'') := Lib.hid (fun w' hf => HTB.out w' (HFE.out w' hf))
  obtain ⟨b0, b1, b2, b3, b4, b5, b6⟩ := HBX.out w1 (Fr.refl _ _)
  go_enter Try.func14, Try.ntmps14
  go_wp2_with fail
  clear hw1 hg
  refine (HUd.out _).mono ?_
  rintro e w2 ⟨A2, c2, rfl, ho2, hf2⟩
  have HF2 : Hid (Fr (fun k => bs ≤ k) w1 w2) := Lib.hid (hf2.mono (fun _ _ h => h.elim))
  have HO2 : Hid (Own w2 bs A2 c2 Cd) := Lib.hid (ho2.base (by have := HBS.out; omega))
  clear ho2 hf2 b0 b1 b2 b3 b4 b5 b6
  go_wp2_with fail
  go_loopw [3, 4] (fun b v wr => ∃ i : Nat, i ≤ nd ∧ v = .int .i64 (i : Int) ∧ ∃ A1 c1 B, b = .slice A1 B.length c1 ∧ Hid (B = Cd ++ (d.take i).flatten) ∧ Hid (Own wr bs A1 c1 B) ∧ Hid (Fr (fun k => bs ≤ k) w1 wr)) (fun _ v _ => nd - (intOf v).toNat)
  case atStart => exact ⟨0, Nat.zero_le _, rfl, A2, c2, Cd, rfl, Lib.hid (by simp), HO2, HF2⟩
  case round =>
    obtain ⟨i, hi, rfl, A3, c3, B, rfl, HBE, HO, HF⟩ := hrel
    rename World => wr
    obtain ⟨b0, b1, b2, b3, b4, b5, b6⟩ := HBX.out wr HF.out
    by_cases hlt : i < nd
    · have t1 : decide ((i : Int) < (nd : Int)) = true := decide_eq_true (by omega)
      obtain ⟨x, hx⟩ : ∃ x, d[i]? = some x := ⟨_, List.getElem?_eq_getElem (by have := HND.out; omega)⟩
      have hx32 := (HDX.out wr HF.out).2.1 x (List.mem_of_getElem? hx)
      obtain ⟨gg, oo, hA, _, _⟩ := (HDX.out wr HF.out).2.2 i x hx
      subst hA
      have HBB : Hid (B.length ≤ 1000) := Lib.hid (by
        have h1 := flat_len32 (d.take i) (fun y hy => (HDX.out wr HF.out).2.1 y (List.mem_of_mem_take hy))
        have h2 := HBL0.out
        have h3 := congrArg List.length HB0.out
        have h4 : (d.take i).flatten.length ≤ d.flatten.length := by
          have h5 := flat_len32 d (HDX.out wr HF.out).2.1
          rw [h1, h5, List.length_take]
          omega
        rw [HBE.out, List.length_append]
        rw [List.length_append] at h3
        omega)
      have HX := Lib.hid hx
      have HX32 := Lib.hid hx32
      clear hx hx32
      go_wp2_with fail
      clear b0 b1 b2 b3 b4 b5 b6
      go_loopw [3, 5] (fun b v wq => ∃ j : Nat, j ≤ 32 ∧ v = .int .i64 (j : Int) ∧ ∃ A1 c1 Y, b = .slice A1 Y.length c1 ∧ Hid (Y = B ++ x.take j) ∧ Hid (Own wq bs A1 c1 Y) ∧ Hid (Fr (fun k => bs ≤ k) w1 wq)) (fun _ v _ => 32 - (intOf v).toNat)
      case atStart => exact ⟨0, Nat.zero_le _, rfl, A3, c3, B, rfl, Lib.hid (by simp), HO, HF⟩
      case round =>
        obtain ⟨j, hj, rfl, A5, c5, Y, rfl, HYE, HOY, HFY⟩ := hrel
        rename World => wq
        by_cases hjl : j < 32
        · have t2 : decide ((j : Int) < 32) = true := decide_eq_true (by omega)
          have hj32 : (j : Int) < 32 := by omega
          obtain ⟨y, hy⟩ : ∃ y, x[j]? = some y := ⟨_, List.getElem?_eq_getElem (by have := HX32.out; omega)⟩
          obtain ⟨gg2, oo2, hA, _, hrx⟩ := (HDX.out wq HFY.out).2.2 i x HX.out
          injection hA with hA
          injection hA with hA1 hA2
          rw [← hA1, ← hA2] at hrx
          clear hA1 hA2
          have hcy : wq.cell? ⟨gg, oo + i * 32 + j, none⟩ = some (.int .u8 (y.toNat : Int)) := hrx j (bytec y) (by rw [List.getElem?_map, hy]; rfl)
          obtain ⟨b0, b1, b2, b3, b4, b5, b6⟩ := HBX.out wq HFY.out
          have hin : (i : Int) < (nd : Int) := by omega
          obtain ⟨Y2, hY2⟩ : ∃ Y2, Y2 = Y ++ [y] := ⟨_, rfl⟩
          have HY2 := Lib.hid hY2
          have HYL : Hid (Y2.length ≤ 1000000000000) := Lib.hid (by
            rw [hY2, HYE.out, List.length_append, List.length_append, List.length_take]
            have := HBB.out
            have e1 : [y].length = 1 := rfl
            omega)
          have HYN : Hid (Y2 = B ++ x.take (j + 1)) := Lib.hid (by rw [hY2, HYE.out, List.take_add_one, hy, List.append_assoc]; rfl)
          obtain ⟨pq, hpq⟩ : ∃ p, wq.heap.size = p := ⟨_, rfl⟩
          obtain ⟨v1, hv1⟩ : ∃ v, wq.alloc (.cells #[.int .u8 (y.toNat : Int)] 5) = v := ⟨_, rfl⟩
          have HOV : Hid (Own v1 bs A5 c5 Y) := Lib.hid (by rw [← hv1]; exact HOY.out.fr ((Fr.refl _ _).alloc _))
          have HRV : Hid (Rd v1 (some ⟨pq, 0, none⟩) 1 ([y].map bytec)) := Lib.hid (by rw [← hv1]; exact Rd.one' hpq.symm (bytec y) _)
          have HFV : Hid (Fr (fun k => bs ≤ k) w1 v1) := Lib.hid (by rw [← hv1]; exact HFY.out.alloc _)
          have HSV : Hid (bs ≤ v1.heap.size) := Lib.hid (by have := HFV.out.size; have := HBS.out; omega)
          clear hy hrx hY2
          go_wp2_with (at_builtin; refine wpList_appB _ rfl (.tmp 22) (.tmp 30) rfl bs A5 c5 Y rfl HOV.out (some ⟨pq, 0, none⟩) 1 1 [y] rfl HRV.out (by omega) Y2 HY2.out HYL.out HSV.out ?_)
          intro A7 c7 v2 ho7 hf7 _
          have HO7 := Lib.hid ho7
          have HF7 : Hid (Fr (fun k => bs ≤ k) w1 v2) := Lib.hid (HFV.out.trans hf7 (fun k hk h => (HOV.out.lt k h).1))
          clear ho7 hf7 b0 b1 b2 b3 b4 b5 b6 hv1 hpq hcy
          go_wp2_with fail
          exact ⟨⟨j + 1, by omega, rfl, A7, c7, Y2, rfl, HYN, HO7, HF7⟩, by show 32 - ((j : Int) + 1).toNat < 32 - (j : Int).toNat; omega⟩
        · have t2 : decide ((j : Int) < 32) = false := decide_eq_false (by omega)
          have hj32 : j = 32 := by omega
          have HYN : Hid (Y = Cd ++ (d.take (i + 1)).flatten) := Lib.hid (by
            rw [HYE.out, hj32, List.take_of_length_le (by have := HX32.out; omega), HBE.out, List.take_add_one, HX.out, List.flatten_append]
            simp)
          go_wp2_with fail
          exact ⟨⟨i + 1, by omega, rfl, A5, c5, Y, rfl, HYN, HOY, HFY⟩, by show nd - ((i : Int) + 1).toNat < nd - (i : Int).toNat; omega⟩
    · have t1 : decide ((i : Int) < (nd : Int)) = false := decide_eq_false (by omega)
      have HBN : Hid (B = B0) := Lib.hid (by rw [HBE.out, HB0.out, List.take_of_length_le (by have := HND.out; omega)])
      have hbn := HBN.out.symm
      subst hbn
      have HO0 := HO
      have HF0 := HF
      go_wp2_with fail
      clear b0 b1 b2 b3 b4 b5 b6
      refine (HUa.out _).mono ?_
      rintro e y1 ⟨Ac1, cc1, rfl, hoc, hfc⟩
      rw [HLa.out]
      have HRDX := Lib.hid (show Rd y1 Ac1 la (Ca.map bytec) by have h := hoc.rd; rwa [HLa.out] at h)
      have HO0c := Lib.hid (HO0.out.fr hfc)
      have HF0c : Hid (Fr (fun k => bs ≤ k) w1 y1) := Lib.hid (HF0.out.trans hfc (fun _ _ h => h.elim))
      clear hoc hfc
      obtain ⟨b0, b1, b2, b3, b4, b5, b6⟩ := HBX.out y1 HF0c.out
      have HS0 : Hid (bs ≤ y1.heap.size) := Lib.hid (by have := HF0c.out.size; have := HBS.out; omega)
      go_wp2_with (at_builtin; refine wpList_appB _ rfl (.tmp 32) (.tmp 37) rfl bs A3 c3 B0 rfl HO0c.out Ac1 la cc1 Ca rfl HRDX.out (by have := Ca_pos.out; omega) B1 HB1.out HBL1.out HS0.out ?_)
      intro Az1 cz1 z1 ho hf _
      have HO1 := Lib.hid ho
      have HF1 : Hid (Fr (fun k => bs ≤ k) w1 z1) := Lib.hid (HF0c.out.trans hf (fun k hk h => (HO0c.out.lt k h).1))
      clear ho hf b0 b1 b2 b3 b4 b5 b6
      obtain ⟨b0, b1, b2, b3, b4, b5, b6⟩ := HBX.out z1 HF1.out
      have HS1 : Hid (bs ≤ z1.heap.size) := Lib.hid (by have := HF1.out.size; have := HBS.out; omega)
      go_wp2_with (at_builtin; refine wpList_appX _ rfl (.tmp 39) (.tmp 41) rfl bs Az1 cz1 B1 a rfl HO1.out rfl B2 HB2.out HBL2.out HS1.out ?_)
      intro Az2 cz2 z2 ho hf
      have HO2 := Lib.hid ho
      have HF2 : Hid (Fr (fun k => bs ≤ k) w1 z2) := Lib.hid (HF1.out.trans hf (fun k hk h => (HO1.out.lt k h).1))
      clear ho hf b0 b1 b2 b3 b4 b5 b6
      obtain ⟨b0, b1, b2, b3, b4, b5, b6⟩ := HBX.out z2 HF2.out
      go_wp2_with fail
      clear b0 b1 b2 b3 b4 b5 b6
      refine (HUq.out _).mono ?_
      rintro e y3 ⟨Ac3, cc3, rfl, hoc, hfc⟩
      rw [HLq.out]
      have HRDX := Lib.hid (show Rd y3 Ac3 lq (Cq.map bytec) by have h := hoc.rd; rwa [HLq.out] at h)
      have HO2c := Lib.hid (HO2.out.fr hfc)
      have HF2c : Hid (Fr (fun k => bs ≤ k) w1 y3) := Lib.hid (HF2.out.trans hfc (fun _ _ h => h.elim))
      clear hoc hfc
      obtain ⟨b0, b1, b2, b3, b4, b5, b6⟩ := HBX.out y3 HF2c.out
      have HS2 : Hid (bs ≤ y3.heap.size) := Lib.hid (by have := HF2c.out.size; have := HBS.out; omega)
      go_wp2_with (at_builtin; refine wpList_appB _ rfl (.tmp 43) (.tmp 47) rfl bs Az2 cz2 B2 rfl HO2c.out Ac3 lq cc3 Cq rfl HRDX.out (by have := Cq_pos.out; omega) B3 HB3.out HBL3.out HS2.out ?_)
      intro Az3 cz3 z3 ho hf _
      have HO3 := Lib.hid ho
      have HF3 : Hid (Fr (fun k => bs ≤ k) w1 z3) := Lib.hid (HF2c.out.trans hf (fun k hk h => (HO2c.out.lt k h).1))
      clear ho hf b0 b1 b2 b3 b4 b5 b6
      obtain ⟨b0, b1, b2, b3, b4, b5, b6⟩ := HBX.out z3 HF3.out
      go_wp2_with fail
      clear b0 b1 b2 b3 b4 b5 b6
      refine (HUs.out _).mono ?_
      rintro e y4 ⟨Ac4, cc4, rfl, hoc, hfc⟩
      rw [HLs.out]
      have HRDX := Lib.hid (show Rd y4 Ac4 ls (Cs.map bytec) by have h := hoc.rd; rwa [HLs.out] at h)
      have HO3c := Lib.hid (HO3.out.fr hfc)
      have HF3c : Hid (Fr (fun k => bs ≤ k) w1 y4) := Lib.hid (HF3.out.trans hfc (fun _ _ h => h.elim))
      clear hoc hfc
      obtain ⟨b0, b1, b2, b3, b4, b5, b6⟩ := HBX.out y4 HF3c.out
      have HS3 : Hid (bs ≤ y4.heap.size) := Lib.hid (by have := HF3c.out.size; have := HBS.out; omega)
      go_wp2_with (at_builtin; refine wpList_appB _ rfl (.tmp 49) (.tmp 53) rfl bs Az3 cz3 B3 rfl HO3c.out Ac4 ls cc4 Cs rfl HRDX.out (by have := Cs_pos.out; omega) B4 HB4.out HBL4.out HS3.out ?_)
      intro Az4 cz4 z4 ho hf _
      have HO4 := Lib.hid ho
      have HF4 : Hid (Fr (fun k => bs ≤ k) w1 z4) := Lib.hid (HF3c.out.trans hf (fun k hk h => (HO3c.out.lt k h).1))
      clear ho hf b0 b1 b2 b3 b4 b5 b6
      obtain ⟨b0, b1, b2, b3, b4, b5, b6⟩ := HBX.out z4 HF4.out
      go_wp2_with fail
      clear b0 b1 b2 b3 b4 b5 b6
      refine (HSt.out _).mono ?_
      rintro e y5 ⟨Ac5, cc5, rfl, hoc, hfc⟩
      rw [HLt.out]
      have HRDX := Lib.hid (show Rd y5 Ac5 lt (Ct.map bytec) by have h := hoc.rd; rwa [HLt.out] at h)
      have HO4c := Lib.hid (HO4.out.fr hfc)
      have HF4c : Hid (Fr (fun k => bs ≤ k) w1 y5) := Lib.hid (HF4.out.trans hfc (fun _ _ h => h.elim))
      clear hoc hfc
      obtain ⟨b0, b1, b2, b3, b4, b5, b6⟩ := HBX.out y5 HF4c.out
      have HS4 : Hid (bs ≤ y5.heap.size) := Lib.hid (by have := HF4c.out.size; have := HBS.out; omega)
      go_wp2_with (at_builtin; refine wpList_appB _ rfl (.tmp 55) (.tmp 58) rfl bs Az4 cz4 B4 rfl HO4c.out Ac5 lt cc5 Ct rfl HRDX.out (by have := Ct_pos.out; omega) B5 HB5.out HBL5.out HS4.out ?_)
      intro Az5 cz5 z5 ho hf _
      have HO5 := Lib.hid ho
      have HF5 : Hid (Fr (fun k => bs ≤ k) w1 z5) := Lib.hid (HF4c.out.trans hf (fun k hk h => (HO4c.out.lt k h).1))
      clear ho hf b0 b1 b2 b3 b4 b5 b6
      obtain ⟨b0, b1, b2, b3, b4, b5, b6⟩ := HBX.out z5 HF5.out
      go_wp2_with fail
      clear b0 b1 b2 b3 b4 b5 b6
      refine (HUm.out _).mono ?_
      rintro e y6 ⟨Ac6, cc6, rfl, hoc, hfc⟩
      rw [HLm.out]
      have HRDX := Lib.hid (show Rd y6 Ac6 lm (Cm.map bytec) by have h := hoc.rd; rwa [HLm.out] at h)
      have HO5c := Lib.hid (HO5.out.fr hfc)
      have HF5c : Hid (Fr (fun k => bs ≤ k) w1 y6) := Lib.hid (HF5.out.trans hfc (fun _ _ h => h.elim))
      clear hoc hfc
      obtain ⟨b0, b1, b2, b3, b4, b5, b6⟩ := HBX.out y6 HF5c.out
      have HS5 : Hid (bs ≤ y6.heap.size) := Lib.hid (by have := HF5c.out.size; have := HBS.out; omega)
      go_wp2_with (at_builtin; refine wpList_appB _ rfl (.tmp 60) (.tmp 65) rfl bs Az5 cz5 B5 rfl HO5c.out Ac6 lm cc6 Cm rfl HRDX.out (by have := Cm_pos.out; omega) B6 HB6.out HBL6.out HS5.out ?_)
      intro Az6 cz6 z6 ho hf _
      have HO6 := Lib.hid ho
      have HF6 : Hid (Fr (fun k => bs ≤ k) w1 z6) := Lib.hid (HF5c.out.trans hf (fun k hk h => (HO5c.out.lt k h).1))
      clear ho hf b0 b1 b2 b3 b4 b5 b6
      obtain ⟨b0, b1, b2, b3, b4, b5, b6⟩ := HBX.out z6 HF6.out
      have HS6 : Hid (bs ≤ z6.heap.size) := Lib.hid (by have := HF6.out.size; have := HBS.out; omega)
      go_wp2_with (at_builtin; refine wpList_appX _ rfl (.tmp 67) (.tmp 69) rfl bs Az6 cz6 B6 m rfl HO6.out rfl B7 HB7.out HBL7.out HS6.out ?_)
      intro Az7 cz7 z7 ho hf
      have HO7 := Lib.hid ho
      have HF7 : Hid (Fr (fun k => bs ≤ k) w1 z7) := Lib.hid (HF6.out.trans hf (fun k hk h => (HO6.out.lt k h).1))
      clear ho hf b0 b1 b2 b3 b4 b5 b6
      obtain ⟨b0, b1, b2, b3, b4, b5, b6⟩ := HBX.out z7 HF7.out
      go_wp2_with fail
      clear b0 b1 b2 b3 b4 b5 b6
      refine (HTB.out _ HF7.out).mono ?_
      rintro e y8 ⟨At, ct, rfl, hot, hft⟩
      have HO7c := Lib.hid (HO7.out.fr hft)
      have HF7c : Hid (Fr (fun k => bs ≤ k) w1 y8) := Lib.hid (HF7.out.trans hft (fun _ _ h => h.elim))
      have hpu := HPU.out At ct y8 (by have h := hot.rd; rwa [HNT.out] at h)
      have HPUU := Lib.hid hpu
      clear hot hft hpu
      go_wp2_with fail
      refine HPUU.out.mono ?_
      rintro e y9 ⟨Ac8, cc8, rfl, hoc, hfc⟩
      rw [HLp.out]
      have HRDX := Lib.hid (show Rd y9 Ac8 lp (Cp.map bytec) by have h := hoc.rd; rwa [HLp.out] at h)
      have HO7d := Lib.hid (HO7c.out.fr hfc)
      have HF7d : Hid (Fr (fun k => bs ≤ k) w1 y9) := Lib.hid (HF7c.out.trans hfc (fun _ _ h => h.elim))
      clear hoc hfc
      obtain ⟨b0, b1, b2, b3, b4, b5, b6⟩ := HBX.out y9 HF7d.out
      have HS7 : Hid (bs ≤ y9.heap.size) := Lib.hid (by have := HF7d.out.size; have := HBS.out; omega)
      go_wp2_with (at_builtin; refine wpList_appB _ rfl (.tmp 71) (.tmp 77) rfl bs Az7 cz7 B7 rfl HO7d.out Ac8 lp cc8 Cp rfl HRDX.out (by have := Cp_pos.out; omega) R HB8.out HBL8.out HS7.out ?_)
      intro Az8 cz8 z8 ho hf _
      have HO8 := Lib.hid ho
      have HF8 : Hid (Fr (fun k => bs ≤ k) w1 z8) := Lib.hid (HF7d.out.trans hf (fun k hk h => (HO7d.out.lt k h).1))
      clear ho hf b0 b1 b2 b3 b4 b5 b6
      obtain ⟨zz, hzz⟩ : ∃ z, R.length = z := ⟨_, rfl⟩
      have HZZ := Lib.hid hzz
      rw [hzz]
      clear hzz
      go_wp2_with fail
      go_ret
      exact ⟨Az8, cz8, by rw [HZZ.out]; rfl, HO8.out.base (by have := HBS.out; omega), HFE.out _ HF8.out⟩
end Go.Proofs.Ytbnkahjmeobblaa
