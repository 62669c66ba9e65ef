/-
  Layer 18, the reference: Num (written by gen_rnum.py).
-/
import Derived.Test.YtbnkahjmeobblaaZm01
import Derived.Test.YtbnkahjmeobblaaZm34
import Derived.Test.YtbnkahjmeobblaaZm03
import Derived.Test.YtbnkahjmeobblaaZm10
import Derived.Deep.DeepCutAuto
import Derived.Deep.CutRange
namespace Go.Proofs.Ytbnkahjmeobblaa
open Go.RowKit Mem Go.Lib LebM
attribute [local go_sem ↓] Go.wp_at_zero Go.wp_at_succ
set_option linter.unusedVariables false

theorem val_drop18 {B : List UInt8} {j : Nat} {b : UInt8} (h : B[j]? = some b) : val (B.drop j) = b.toNat % 128 + 128 * val (B.drop (j + 1)) := by
  obtain ⟨hj, rfl⟩ := List.getElem?_eq_some_iff.1 h
  rw [List.drop_eq_getElem_cons hj]
  rfl
/-- what is reckoned of the bytes from j on -/
def vd18 (B : List UInt8) (j : Nat) : Nat := val (B.drop j) % 18446744073709551616
theorem vd18_lt (B : List UInt8) (j : Nat) : vd18 B j < 18446744073709551616 := Nat.mod_lt _ (by omega)
theorem vd18_end {B : List UInt8} {j : Nat} (h : B.length ≤ j) : vd18 B j = 0 := by unfold vd18; rw [List.drop_eq_nil_of_le h]; rfl
theorem vd18_step {B : List UInt8} {j : Nat} {b : UInt8} (h : B[j]? = some b) : vd18 B j = (vd18 B (j + 1) * 128 % 18446744073709551616 + b.toNat % 128) % 18446744073709551616 := by
  unfold vd18
  rw [val_drop18 h]
  omega
set_option maxRecDepth 100000 in
set_option maxHeartbeats 6400000 in
theorem racNum_any (A : Option Addr) (n c : Nat) (B : List UInt8) (w : World) (hr : Rd w A n (B.map bytec)) (hc : n ≤ c) :
    Calls Try.prog 63 #[.slice A n c] w fun e w' => e = .returned (.tuple #[.int .u64 ((gu B).1 : Int), .int .i64 ((gu B).2.1 : Int), .int .i64 ((gu B).2.2 : Int)]) ∧ Fr (fun _ => False) w w' := by
  have hBn : B.length = n := by simpa using hr.1
  have hsp := rspan_any A n c B w hr
  have hkl := spanK_le B
  obtain ⟨K, hK⟩ : ∃ K, K = spanK B := ⟨_, rfl⟩
  obtain ⟨E, hE⟩ : ∃ E, E = spanE B := ⟨_, rfl⟩
  rw [← hK] at hkl
  rw [← hK, ← hE] at hsp
  by_cases he : E ≠ 0
  · have hnum : gu B = (0, 0, E) := by unfold gu; rw [← hE, if_pos he]
    rw [hnum]
    have t0 : ((E : Int) != 0) = true := by simp; omega
    have t0' : (E != 0) = true := by simp; omega
    have HSP := Lib.hid hsp
    have HE := Lib.hid he
    clear hr hBn hsp hkl hK hE he hnum
    go_enter Try.func63, Try.ntmps63
    go_wp2_with fail
    refine HSP.out.mono ?_
    rintro e w1 ⟨rfl, rfl⟩
    go_wp2_with fail
    refine bodyPost_ret (v := .tuple #[.int .u64 0, .int .i64 0, .int .i64 (E : Int)]) (by simp [results, Try.results63, go_sem]) rfl ?_
    exact ⟨rfl, Fr.refl _ _⟩
  · have he0 : E = 0 := by omega
    subst he0
    have t0 : (((0 : Nat) : Int) != 0) = false := rfl
    obtain ⟨T, hT⟩ : ∃ T, T = B.take K := ⟨_, rfl⟩
    have hTl : T.length = K := by rw [hT, List.length_take]; omega
    have hgu : gu B = if u (vd18 T 0) = T then (vd18 T 0, K, 0) else (0, 0, 3) := by
      unfold gu
      rw [← hE, if_neg (by simp), ← hK, ← hT]
      rfl
    have hKn : K ≤ n := by omega
    have hK10 : K ≤ 10 := hkl.2
    have hKc : K ≤ c := by omega
    have HRD := Lib.hid hr
    have HBN := Lib.hid hBn
    have HSP := Lib.hid hsp
    have HT := Lib.hid hT
    have HTL := Lib.hid hTl
    have HGU := Lib.hid hgu
    clear hr hBn hsp hkl hK hE hT hTl hgu he
    go_enter Try.func63, Try.ntmps63
    go_wp2_with fail
    refine HSP.out.mono ?_
    rintro e w1 ⟨rfl, rfl⟩
    have r0 : IntKind.i64.wrap ((K : Int) - 1) = (K : Int) - 1 := by rw [IntKind.wrap_i64]; omega
    go_wp2_with fail
    go_loopw [7, 8] (fun v i wr => ∃ (x : Int) (N : Nat), -1 ≤ x ∧ x < K ∧ i = .int .i64 x ∧ v = .int .u64 (N : Int) ∧ Hid (N = vd18 T (x + 1).toNat) ∧ w = wr) (fun _ i _ => (intOf i + 1).toNat)
    case atStart => exact ⟨(K : Int) - 1, 0, by omega, by omega, rfl, rfl, Lib.hid (by rw [show ((K : Int) - 1 + 1).toNat = K by omega, vd18_end (by have := HTL.out; omega)]), rfl⟩
    case round =>
      obtain ⟨x, N, hx0, hx1, rfl, rfl, HN, rfl⟩ := hrel
      by_cases h0 : 0 ≤ x
      · obtain ⟨j, rfl⟩ := Int.eq_ofNat_of_zero_le h0
        have hjn : j < n := by omega
        rw [show ((j : Int) + 1).toNat = j + 1 by omega] at HN
        obtain ⟨ad, v, rfl, hv, hcell⟩ := HRD.out.at_ hjn
        obtain ⟨b, hb⟩ : ∃ b, B[j]? = some b := ⟨B[j]'(by have := HBN.out; omega), List.getElem?_eq_getElem _⟩
        obtain rfl : bytec b = v := by simpa [hb] using hv
        unfold bytec at hcell
        have hb256 := b.toNat_lt
        have hbt : T[j]? = some b := by rw [HT.out, List.getElem?_take, if_pos (by omega)]; exact hb
        have hst := vd18_step hbt
        have hUl := vd18_lt T (j + 1)
        rw [← HN.out] at hst hUl
        obtain ⟨X, hX⟩ : ∃ X, N * 128 % 18446744073709551616 = X := ⟨_, rfl⟩
        obtain ⟨y, hy⟩ : ∃ y, b.toNat % 128 = y := ⟨_, rfl⟩
        rw [hX, hy] at hst
        obtain ⟨Z, hZ⟩ : ∃ Z, vd18 T j = Z := ⟨_, rfl⟩
        rw [hZ] at hst
        have r1 : IntKind.u64.wrap ((N : Int) * 128) = (X : Int) := by rw [IntKind.wrap_u64]; omega
        have r2 : (b.toNat : Int).tmod 128 = (y : Int) := by rw [Int.tmod_eq_emod_of_nonneg (by omega)]; omega
        have r3 : IntKind.u64.wrap (y : Int) = (y : Int) := by rw [IntKind.wrap_u64]; omega
        have r4 : IntKind.u64.wrap ((X : Int) + (y : Int)) = (Z : Int) := by rw [IntKind.wrap_u64]; omega
        have r5 : IntKind.i64.wrap ((j : Int) - 1) = (j : Int) - 1 := by rw [IntKind.wrap_i64]; omega
        have HZ := Lib.hid hZ
        clear hst hX hy hv hb hbt hZ hUl hb256 HN
        go_wp2_with fail
        go_roundw
        case rel => exact ⟨(j : Int) - 1, Z, by omega, by omega, by rfl, by rfl, Lib.hid (by rw [show ((j : Int) - 1 + 1).toNat = j by omega]; exact HZ.out.symm), trivial⟩
        case measure => simp [intOf] <;> omega
      · obtain rfl : x = -1 := by omega
        have hN0 : N = vd18 T 0 := HN.out
        have hN64 : N < 18446744073709551616 := by rw [hN0]; exact vd18_lt _ _
        have hgu := HGU.out
        rw [← hN0] at hgu
        have htk := rd_take HRD.out hKn
        rw [← List.map_take, ← HT.out] at htk
        have HTK := Lib.hid htk
        clear HGU HN hN0 htk h0 hx0 hx1
        go_upto_region 9 with fail
        by_cases hq : u N = T
        · rw [if_pos hq] at hgu
          have HNUM := Lib.hid hgu
          have HQ := Lib.hid hq
          clear hgu
          rw [← hq] at HTK
          clear hq
          obtain ⟨Y, hY⟩ : ∃ Y, u N = Y := ⟨_, rfl⟩
          have hrU := fun w => rU_any N w hN64
          rw [hY] at hrU HTK
          refine wp_region_held_drew (S := fun w' => Fr (fun _ => False) w w') (by kernel_rfl) ?_ (fun hHeld => ?_)
          · exact (Fr.refl _ _).drew
          refine wpAnyH_take (i := 0) (v := ?vz10) rfl (by kernel_rfl) (by kernel_rfl) (by kernel_rfl) (fun _ _ _ h => h) (Or.inl ⟨by rfl, ?hyz10⟩) hHeld ?restz10
          case hyz10 => intro w hSw; (try dsimp only at hSw); go_simp; try (with_reducible rfl)
          (try simp only [Act.put, List.setIfInBounds_toArray, List.set_cons_zero, List.set_cons_succ, List.getElem_toArray, List.getElem_cons_zero])
          refine wpAnyH_take (i := 3) (v := ?vz13) rfl (by kernel_rfl) (by kernel_rfl) (by kernel_rfl) (fun _ _ _ h => h) (Or.inl ⟨by rfl, ?hyz13⟩) hHeld ?restz13
          case hyz13 => intro w hSw; (try dsimp only at hSw); go_simp; try (with_reducible rfl)
          (try simp only [Act.put, List.setIfInBounds_toArray, List.set_cons_zero, List.set_cons_succ, List.getElem_toArray, List.getElem_cons_zero, List.getElem_cons_succ])
          refine wpAnyH_take (i := 4) (v := ?vz14) rfl (by kernel_rfl) (by kernel_rfl) (by kernel_rfl) (fun _ _ _ h => h) (Or.inl ⟨by rfl, ?hyz14⟩) hHeld ?restz14
          case hyz14 => intro w hSw; (try dsimp only at hSw); go_simp; try (with_reducible rfl)
          (try simp only [Act.put, List.setIfInBounds_toArray, List.set_cons_zero, List.set_cons_succ, List.getElem_toArray, List.getElem_cons_zero, List.getElem_cons_succ])
          refine wpAnyH_take (i := 5) (v := ?vz15) rfl (by kernel_rfl) (by kernel_rfl) (by kernel_rfl) (fun _ _ _ h => h) (Or.inl ⟨by rfl, ?hyz15⟩) hHeld ?restz15
          case hyz15 => intro w hSw; (try dsimp only at hSw); go_simp; try (with_reducible rfl)
          (try simp only [Act.put, List.setIfInBounds_toArray, List.set_cons_zero, List.set_cons_succ, List.getElem_toArray, List.getElem_cons_zero, List.getElem_cons_succ])
          refine wpAnyH_take (i := 6) (v := ?vz16) rfl (by kernel_rfl) (by kernel_rfl) (by kernel_rfl) (fun _ _ _ h => h) (Or.inl ⟨by rfl, ?hyz16⟩) hHeld ?restz16
          case hyz16 => intro w hSw; (try dsimp only at hSw); have hcw := str_rd (HTK.out.fr hSw (fun _ _ h => h)) c; go_simp; try (with_reducible rfl)
          (try simp only [Act.put, List.setIfInBounds_toArray, List.set_cons_zero, List.set_cons_succ, List.getElem_toArray, List.getElem_cons_zero, List.getElem_cons_succ])
          refine wpAnyH_ready (rs := [1]) (by kernel_rfl) (by simp) ?_
          refine AllReadyH.cons rfl (fun Kx hKx => ?_) AllReadyH.nil
          go_simp
          have hcon := hrU w.drew
          with_reducible refine hcon.mono ?_
          clear hcon
          rintro e' wu ⟨A2, c2, rfl, ho2, hff⟩
          have HFwu : Hid (Fr (fun _ => False) w wu) := Lib.hid ((Fr.refl _ _).drew.trans hff (fun _ _ h => h))
          have HO2 := Lib.hid ho2
          clear ho2
          refine hKx.out _ _ ?_ (fun hHeld => ?_)
          · exact HFwu.out
          clear hKx Kx hff
          (try simp only [Act.put, List.setIfInBounds_toArray, List.set_cons_zero, List.set_cons_succ, List.getElem_toArray, List.getElem_cons_zero, List.getElem_cons_succ])
          refine wpAnyH_more (fun w' => Fr (fun _ => False) wu w') (fun _ h => HFwu.out.trans h (fun _ _ h => h)) ?_ (fun hHeld => ?_)
          · exact Fr.refl _ _
          refine wpAnyH_take (i := 2) (v := ?vz12) rfl (by kernel_rfl) (by kernel_rfl) (by kernel_rfl) (fun _ _ _ h => h) (Or.inl ⟨by rfl, ?hyz12⟩) hHeld ?restz12
          case hyz12 => intro w hSw; (try dsimp only at hSw); have hcv := (HO2.out.fr hSw).str; go_simp; try (with_reducible rfl)
          (try simp only [Act.put, List.setIfInBounds_toArray, List.set_cons_zero, List.set_cons_succ, List.getElem_toArray, List.getElem_cons_zero, List.getElem_cons_succ])
          refine wpAnyH_take (i := 7) (v := ?vz17) rfl (by kernel_rfl) (by kernel_rfl) (by kernel_rfl) (fun _ _ _ h => h) (Or.inl ⟨by rfl, ?hyz17⟩) hHeld ?restz17
          case hyz17 => intro w hSw; (try dsimp only at hSw); go_simp; try (with_reducible rfl)
          (try simp only [Act.put, List.setIfInBounds_toArray, List.set_cons_zero, List.set_cons_succ, List.getElem_toArray, List.getElem_cons_zero, List.getElem_cons_succ])
          refine wpAnyH_done (by kernel_rfl) ?_ _
          clear hrU
          clear hY
          go_wp2_with fail
          refine bodyPost_ret (v := .tuple #[.int .u64 (N : Int), .int .i64 (K : Int), .int .i64 0]) (by simp [results, Try.results63, go_sem]) rfl ?_
          rw [HNUM.out]
          exact ⟨rfl, HFwu.out⟩
        · rw [if_neg hq] at hgu
          have HNUM := Lib.hid hgu
          have hne : ((txt (u N)).toList == (txt T).toList) = false := by rw [beq_txt]; simp [hq]
          clear hgu hq
          obtain ⟨Y, hY⟩ : ∃ Y, u N = Y := ⟨_, rfl⟩
          rw [hY] at hne
          have hrU := fun w => rU_any N w hN64
          rw [hY] at hrU
          refine wp_region_held_drew (S := fun w' => Fr (fun _ => False) w w') (by kernel_rfl) ?_ (fun hHeld => ?_)
          · exact (Fr.refl _ _).drew
          refine wpAnyH_take (i := 0) (v := ?vz20) rfl (by kernel_rfl) (by kernel_rfl) (by kernel_rfl) (fun _ _ _ h => h) (Or.inl ⟨by rfl, ?hyz20⟩) hHeld ?restz20
          case hyz20 => intro w hSw; (try dsimp only at hSw); go_simp; try (with_reducible rfl)
          (try simp only [Act.put, List.setIfInBounds_toArray, List.set_cons_zero, List.set_cons_succ, List.getElem_toArray, List.getElem_cons_zero])
          refine wpAnyH_take (i := 3) (v := ?vz23) rfl (by kernel_rfl) (by kernel_rfl) (by kernel_rfl) (fun _ _ _ h => h) (Or.inl ⟨by rfl, ?hyz23⟩) hHeld ?restz23
          case hyz23 => intro w hSw; (try dsimp only at hSw); go_simp; try (with_reducible rfl)
          (try simp only [Act.put, List.setIfInBounds_toArray, List.set_cons_zero, List.set_cons_succ, List.getElem_toArray, List.getElem_cons_zero, List.getElem_cons_succ])
          refine wpAnyH_take (i := 4) (v := ?vz24) rfl (by kernel_rfl) (by kernel_rfl) (by kernel_rfl) (fun _ _ _ h => h) (Or.inl ⟨by rfl, ?hyz24⟩) hHeld ?restz24
          case hyz24 => intro w hSw; (try dsimp only at hSw); go_simp; try (with_reducible rfl)
          (try simp only [Act.put, List.setIfInBounds_toArray, List.set_cons_zero, List.set_cons_succ, List.getElem_toArray, List.getElem_cons_zero, List.getElem_cons_succ])
          refine wpAnyH_take (i := 5) (v := ?vz25) rfl (by kernel_rfl) (by kernel_rfl) (by kernel_rfl) (fun _ _ _ h => h) (Or.inl ⟨by rfl, ?hyz25⟩) hHeld ?restz25
          case hyz25 => intro w hSw; (try dsimp only at hSw); go_simp; try (with_reducible rfl)
          (try simp only [Act.put, List.setIfInBounds_toArray, List.set_cons_zero, List.set_cons_succ, List.getElem_toArray, List.getElem_cons_zero, List.getElem_cons_succ])
          refine wpAnyH_take (i := 6) (v := ?vz26) rfl (by kernel_rfl) (by kernel_rfl) (by kernel_rfl) (fun _ _ _ h => h) (Or.inl ⟨by rfl, ?hyz26⟩) hHeld ?restz26
          case hyz26 => intro w hSw; (try dsimp only at hSw); have hcw := str_rd (HTK.out.fr hSw (fun _ _ h => h)) c; go_simp; try (with_reducible rfl)
          (try simp only [Act.put, List.setIfInBounds_toArray, List.set_cons_zero, List.set_cons_succ, List.getElem_toArray, List.getElem_cons_zero, List.getElem_cons_succ])
          refine wpAnyH_ready (rs := [1]) (by kernel_rfl) (by simp) ?_
          refine AllReadyH.cons rfl (fun Kx hKx => ?_) AllReadyH.nil
          go_simp
          have hcon := hrU w.drew
          with_reducible refine hcon.mono ?_
          clear hcon
          rintro e' wu ⟨A2, c2, rfl, ho2, hff⟩
          have HFwu : Hid (Fr (fun _ => False) w wu) := Lib.hid ((Fr.refl _ _).drew.trans hff (fun _ _ h => h))
          have HO2 := Lib.hid ho2
          clear ho2
          refine hKx.out _ _ ?_ (fun hHeld => ?_)
          · exact HFwu.out
          clear hKx Kx hff
          (try simp only [Act.put, List.setIfInBounds_toArray, List.set_cons_zero, List.set_cons_succ, List.getElem_toArray, List.getElem_cons_zero, List.getElem_cons_succ])
          refine wpAnyH_more (fun w' => Fr (fun _ => False) wu w') (fun _ h => HFwu.out.trans h (fun _ _ h => h)) ?_ (fun hHeld => ?_)
          · exact Fr.refl _ _
          refine wpAnyH_take (i := 2) (v := ?vz22) rfl (by kernel_rfl) (by kernel_rfl) (by kernel_rfl) (fun _ _ _ h => h) (Or.inl ⟨by rfl, ?hyz22⟩) hHeld ?restz22
          case hyz22 => intro w hSw; (try dsimp only at hSw); have hcv := (HO2.out.fr hSw).str; go_simp; try (with_reducible rfl)
          (try simp only [Act.put, List.setIfInBounds_toArray, List.set_cons_zero, List.set_cons_succ, List.getElem_toArray, List.getElem_cons_zero, List.getElem_cons_succ])
          refine wpAnyH_take (i := 7) (v := ?vz27) rfl (by kernel_rfl) (by kernel_rfl) (by kernel_rfl) (fun _ _ _ h => h) (Or.inl ⟨by rfl, ?hyz27⟩) hHeld ?restz27
          case hyz27 => intro w hSw; (try dsimp only at hSw); go_simp; try (with_reducible rfl)
          (try simp only [Act.put, List.setIfInBounds_toArray, List.set_cons_zero, List.set_cons_succ, List.getElem_toArray, List.getElem_cons_zero, List.getElem_cons_succ])
          refine wpAnyH_done (by kernel_rfl) ?_ _
          clear hrU
          clear hY
          go_wp2_with fail
          refine bodyPost_ret (v := .tuple #[.int .u64 0, .int .i64 0, .int .i64 3]) (by simp [results, Try.results63, go_sem]) rfl ?_
          rw [HNUM.out]
          exact ⟨rfl, HFwu.out⟩
end Go.Proofs.Ytbnkahjmeobblaa
