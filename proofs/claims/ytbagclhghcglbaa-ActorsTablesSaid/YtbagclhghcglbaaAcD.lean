/-
  Layer 18, the reference: Put (written by gen_rput.py).
-/
import Derived.Test.YtbagclhghcglbaaAcC
import Derived.Test.YtbagclhghcglbaaLebB
namespace Go.Proofs.Ytbagclhghcglbaa
open Go.RowKit Mem Go.Lib LebM UtfM VaM OpM AcM
attribute [local go_sem ↓] Go.wp_at_zero Go.wp_at_succ
set_option linter.unusedVariables false

theorem run_max18 (n k m : Int) (h : m = max n k) (w : World) : (Builtin.max_ #[3, 3] 3 #[.int .i64 n, .int .i64 k]).run Try.prog w = .ok (.int .i64 m) w := by
  rw [h]
  go_simp
  split <;> omega
theorem putR_step {L : List Tx} {k : Nat} {x : Tx} (h : L[k]? = some x) (hk : 1 ≤ k) : ((L.take (k + 1)).drop 1).flatMap oneA = ((L.take k).drop 1).flatMap oneA ++ oneA x := by
  have hl := (List.getElem?_eq_some_iff.1 h).1
  rw [List.take_add_one, h, List.drop_append_of_le_length (by rw [List.length_take]; omega), List.flatMap_append]
  simp
set_option maxRecDepth 100000 in
set_option maxHeartbeats 3200000 in
/-- THE CONTRACT of the reference's Put -/
theorem racPut_any (A : Option Addr) (n c : Nat) (L : List Tx) (w : World) (hL : Rd w A n (L.map tc)) (hn : n ≤ 100000) (hx : ∀ x ∈ L, x.length ≤ 1000000) :
    Calls Try.prog 16 #[.slice A n c] w fun e w' => Gives w (putA L) e w' := by
  have hln : L.length = n := by simpa using hL.1
  obtain ⟨M, hM⟩ : ∃ M, max n 1 = M := ⟨_, rfl⟩
  obtain ⟨m, hm⟩ : ∃ m, M - 1 = m := ⟨_, rfl⟩
  have hput : putA L = u m ++ (L.drop 1).flatMap oneA := by unfold putA; rw [show L.length - 1 = m by omega]
  have hmax := run_max18 (n : Int) 1 (M : Int) (by omega)
  have e0 : IntKind.i64.wrap ((M : Int) - 1) = (m : Int) := by rw [IntKind.wrap_i64]; omega
  have e1 : IntKind.u64.wrap (m : Int) = (m : Int) := by rw [IntKind.wrap_u64]; omega
  have hml : m ≤ 100000 := by omega
  have hU := fun w => rU_any m w (show m < 18446744073709551616 by omega)
  obtain ⟨base, hbase⟩ : ∃ b, w.heap.size = b := ⟨_, rfl⟩
  unfold Gives
  rw [hbase]
  obtain ⟨R, hR⟩ : ∃ R, putA L = R := ⟨_, rfl⟩
  rw [hR] at hput ⊢
  have HP := Lib.hid hput
  have HRD := Lib.hid hL
  have HXD := Lib.hid hx
  have HDL := Lib.hid hln
  have HB := Lib.hid hbase
  have HU := Lib.hid hU
  clear hL hx hln hM hm hput hU hR hbase
  go_enter Try.func16, Try.ntmps16
  go_wp2_with fail
  clear hmax e0 e1
  refine (HU.out _).mono ?_
  rintro e w1 ⟨A1, c1, rfl, ho1, hf1⟩
  rw [HB.out] at ho1
  obtain ⟨B1, hB1⟩ : ∃ B, u m = B := ⟨_, rfl⟩
  rw [hB1] at ho1 ⊢
  have HB1 := Lib.hid hB1
  have HO1 := Lib.hid ho1
  have HF1 := Lib.hid hf1
  clear ho1 hf1 hB1
  go_wp2_with fail
  go_loopw [3, 4] (fun b v wr => ∃ k : Nat, 1 ≤ k ∧ k ≤ n + 1 ∧ v = .int .i64 (k : Int) ∧ ∃ A1 c1 B, b = .slice A1 B.length c1 ∧ Hid (B = u m ++ ((L.take k).drop 1).flatMap oneA) ∧ Hid (Own wr base A1 c1 B) ∧ Hid (Fr (fun _ => False) w wr)) (fun _ v _ => n - (intOf v).toNat)
  case atStart => exact ⟨1, Nat.le_refl _, by omega, rfl, A1, c1, B1, rfl, Lib.hid (by rw [HB1.out, List.drop_eq_nil_of_le (by rw [List.length_take]; omega)]; simp), HO1, HF1⟩
  case round =>
    obtain ⟨k, hk1, hk, rfl, A3, c3, B, rfl, HBE, HO, HF⟩ := hrel
    rename World => wr
    by_cases hlt : k < n
    · obtain ⟨ad, x, rfl, hx, hcell⟩ := rd_tx (HRD.out.fr HF.out (fun _ _ => id)) hlt
      have HXK := Lib.hid hx
      have hxl := HXD.out x (List.mem_of_getElem? hx)
      have hsz := txt_sz x
      obtain ⟨l, hl⟩ : ∃ l, x.length = l := ⟨_, rfl⟩
      rw [hl] at hxl hsz
      have e2 : IntKind.u64.wrap (l : Int) = (l : Int) := by rw [IntKind.wrap_u64]; omega
      have hU := fun w => rU_any l w (show l < 18446744073709551616 by omega)
      have hul := u_pos l
      have hul2 := u_len10 (show l < 18446744073709551616 by omega)
      obtain ⟨C, hC⟩ : ∃ C, u l = C := ⟨_, rfl⟩
      rw [hC] at hul hul2
      simp only [hC] at hU
      obtain ⟨B2, hB2⟩ : ∃ B2, B2 = B ++ C := ⟨_, rfl⟩
      obtain ⟨B3, hB3⟩ : ∃ B3, B3 = B2 ++ x := ⟨_, rfl⟩
      have hnext : B3 = u m ++ ((L.take (k + 1)).drop 1).flatMap oneA := by
        rw [putR_step hx hk1, hB3, hB2, HBE.out]
        simp [oneA, ← hC, hl]
      have hbl : B3.length ≤ 1000000000000 := by
        have h1 := put_len ((L.take (k + 1)).drop 1) (fun y hy => HXD.out y (List.mem_of_mem_take (List.mem_of_mem_drop hy)))
        have h2 := u_len10 (show m < 18446744073709551616 by omega)
        rw [List.length_drop, List.length_take] at h1
        rw [hnext, List.length_append]
        omega
      have hbl2 : B2.length ≤ B3.length := by rw [hB3, List.length_append]; omega
      have HU2 := Lib.hid hU
      have HC := Lib.hid hul
      have HB2 := Lib.hid hB2
      have HB3 := Lib.hid hB3
      have HN := Lib.hid hnext
      have HBL : Hid (B3.length ≤ 1000000000000 ∧ B2.length ≤ 1000000000000) := Lib.hid ⟨hbl, by omega⟩
      clear hx hl hU hul hul2 hC hB2 hB3 hnext hbl hbl2
      go_wp2_with fail
      refine (HU2.out _).mono ?_
      rintro e w2 ⟨A4, c4, rfl, ho4, hf4⟩
      have HO2 := Lib.hid (HO.out.fr hf4)
      have HR4 := Lib.hid ho4.rd
      have HF2 := Lib.hid (HF.out.trans hf4 (fun _ _ h => h))
      have HS2 : Hid (base ≤ w2.heap.size) := Lib.hid (by rw [← HB.out]; exact HF2.out.size)
      clear ho4 hf4
      go_wp2_with (at_builtin; refine wpList_appB _ rfl _ _ rfl base _ _ B rfl HO2.out _ _ _ C rfl HR4.out HC.out B2 HB2.out HBL.out.2 HS2.out ?_)
      intro A5 c5 w5 ho5 hf5 _
      have HO5 := Lib.hid ho5
      have HF5 : Hid (Fr (fun _ => False) w w5) := Lib.hid (HF2.out.trans hf5 (fun b hb h => by have := (HO2.out.lt b h).1; have := HB.out; omega))
      have HS5 : Hid (base ≤ w5.heap.size) := Lib.hid (by rw [← HB.out]; exact HF5.out.size)
      obtain ⟨ad5, x5, e5, hx5, hcell5⟩ := rd_tx (HRD.out.fr HF5.out (fun _ _ => id)) hlt
      injection e5 with e5
      subst e5
      obtain rfl : x = x5 := by
        have h := HXK.out
        rw [hx5] at h
        injection h with h
        exact h.symm
      clear ho5 hf5 hx5
      go_wp2_with (at_builtin; refine wpList_appX _ rfl _ _ rfl base _ _ B2 x rfl HO5.out rfl B3 HB3.out HBL.out.1 HS5.out ?_)
      intro A6 c6 w6 ho6 hf6
      have HO6 := Lib.hid ho6
      have HF6 : Hid (Fr (fun _ => False) w w6) := Lib.hid (HF5.out.trans hf6 (fun b hb h => by have := (HO5.out.lt b h).1; have := HB.out; omega))
      clear ho6 hf6
      go_wp2_with fail
      go_roundw
      case rel => exact ⟨k + 1, by omega, by omega, by go_num, A6, c6, B3, by rfl, HN, HO6, HF6⟩
      case measure => simp [intOf] <;> omega
    · have HX : Hid (R = B) := Lib.hid (by
        rw [HP.out, HBE.out, List.take_of_length_le (by have := HDL.out; omega)])
      go_wp2_with fail
      go_ret
      rw [HX.out]
      exact ⟨A3, c3, rfl, HO.out, HF.out⟩
end Go.Proofs.Ytbagclhghcglbaa
