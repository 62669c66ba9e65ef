/-
  The law BoolsOnce, over what Put and Get must keep (written by gen_laws13.py).
-/
import Derived.Test.YthioijbifmfhlaaBooG
import Derived.Test.YthioijbifmfhlaaReg
import Derived.Deep.DeepCutAuto
import Derived.Deep.CutRange
namespace Go.Proofs.Ythioijbifmfhlaa
open Go.RowKit Mem Go.Lib BooM LebM
attribute [local go_sem ↓] Go.wp_at_zero Go.wp_at_succ
set_option linter.unusedVariables false

set_option maxRecDepth 100000 in
set_option maxHeartbeats 6400000 in
theorem bonce_law (K : BooC) (A : Option Addr) (n c : Nat) (B : List UInt8) (w : World) (hB : Rd w A n (B.map bytec)) (hc : n ≤ c) (hcm : c ≤ maxLen) :
    Calls Try.prog 4 #[.slice A n c] w fun e w' => e = .returned (.bool true) ∧ Fr (fun _ => False) w w' := by
  have HR := Lib.hid hB
  have hln : B.length = n := by simpa using hB.1
  have HLN := Lib.hid hln
  have hnm : n ≤ 9223372036854775807 := Nat.le_trans hc hcm
  clear hB hcm hln
  by_cases hbig : 1000 < n
  · have t0 : decide ((1000 : Int) < (n : Int)) = true := by simp; omega
    have t0' : decide (1000 < n) = true := by simp; omega
    go_enter Try.func4, Try.ntmps4
    go_wp2_with fail
    refine (awake13_any K w).mono ?_
    rintro e w2 ⟨rfl, hf2⟩
    have HF2 := Lib.hid hf2
    clear hf2
    go_wp2_with fail
    refine (awake13_any K w2).mono ?_
    rintro e w9 ⟨rfl, hf9⟩
    have HF9 := Lib.hid (HF2.out.trans hf9 (fun _ _ h => h))
    clear hf9
    go_wp2_with fail
    go_ret
    exact ⟨rfl, HF9.out⟩
  · have t0 : decide ((1000 : Int) < (n : Int)) = false := by simp; omega
    have t0' : decide (1000 < n) = false := by simp; omega
    have hn6 : n ≤ 1000 := by omega
    clear hbig
    obtain ⟨x, E, hX⟩ : ∃ x E, getB 3000 B = (x, E) := ⟨_, _, rfl⟩
    obtain ⟨m, hm⟩ : ∃ m, m = x.length := ⟨_, rfl⟩
    have HGC : Hid (∀ w', Fr (fun _ => False) w w' → Calls Try.prog 8 #[.slice A n c, .int .i64 3000] w' fun e w'' => ∃ A' c', e = .returned (.tuple #[.slice A' m c', .int .i64 (E : Nat)]) ∧ OwB w'' w'.heap.size A' c' x ∧ Fr (fun _ => False) w' w'') := Lib.hid (fun w' hf => by
      have h := K.get A n c B 3000 w' (HR.out.fr hf (fun _ _ h => h)) hc (by omega) (by omega) (by omega)
      rw [hX] at h
      simp only at h
      rw [← hm] at h
      exact h)
    have hE : E ≠ 0 → x = [] ∧ 0 < n := by
      intro h
      have h1 := get_nil 3000 B (by rw [hX]; exact h)
      rw [hX] at h1
      refine ⟨h1, ?_⟩
      rcases Nat.eq_zero_or_pos n with h0 | h0
      · exfalso
        have hb : B = [] := List.length_eq_zero_iff.1 (by rw [HLN.out, h0])
        rw [hb, get_zero] at hX
        injection hX with _ h2
        exact h h2.symm
      · exact h0
    have hO : E = 0 → putB x = B ∧ (true ∈ x ↔ B ≠ []) ∧ m ≤ 3000 := by
      intro h
      have h1 := put_get 3000 B (by rw [hX]; exact h)
      rw [hX] at h1
      refine ⟨h1.1, h1.2.1, ?_⟩
      have := h1.2.2
      rw [hm]
      simp only at this
      omega
    have hE4 : E ≤ 4 := by have h := get_le 3000 B; rw [hX] at h; exact h
    have HM := Lib.hid hm
    have HO := Lib.hid hO
    by_cases he : E = 0
    · obtain ⟨h1, h2, h3⟩ := hO he
      subst he
      have HPB := Lib.hid h1
      have HIFF := Lib.hid h2
      clear hX hm hE hO HO h1 h2 hE4
      go_enter Try.func4, Try.ntmps4
      go_wp2_with fail
      refine (awake13_any K w).mono ?_
      rintro e w2 ⟨rfl, hf2⟩
      have HF2 := Lib.hid hf2
      clear hf2
      go_wp2_with fail
      refine (HGC.out w2 HF2.out).mono ?_
      rintro e w4 ⟨A4, c4, rfl, hO4, hf4⟩
      have HX4 := Lib.hid hO4
      have HF4 := Lib.hid (HF2.out.trans hf4 (fun _ _ h => h))
      have HRX : Hid (Rd w4 A4 m (x.map boc)) := Lib.hid (by have h := hO4.rd; rw [← HM.out] at h; exact h)
      clear hO4 hf4
      go_wp2_with fail
      go_loopw [5, 6] (fun s v wr => ∃ (j : Nat) (y : Bool), j ≤ m ∧ v = .int .i64 (j : Int) ∧ s = .bool y ∧ Hid (y = decide (true ∈ x.take j)) ∧ Hid (Fr (fun _ => False) w4 wr)) (fun _ v _ => m - (intOf v).toNat)
      case atStart => exact ⟨0, false, Nat.zero_le _, rfl, rfl, (by simp : false = decide (true ∈ x.take 0)), Fr.refl _ _⟩
      case round =>
        obtain ⟨j, y, hj, rfl, rfl, HY, HF⟩ := hrel
        rename World => wr
        by_cases hlt : j < m
        · obtain ⟨ad, v, rfl, hv, hcell⟩ := (HRX.out.fr HF.out (fun _ _ h => h)).at_ hlt
          obtain ⟨x0, hx⟩ : ∃ x0, x[j]? = some x0 := ⟨x[j]'(by have := HM.out; omega), List.getElem?_eq_getElem _⟩
          obtain rfl : boc x0 = v := by simpa [hx] using hv
          unfold boc at hcell
          have hy2 := mem_step hx HY.out
          have HY2 := Lib.hid hy2
          clear hv hx hy2
          cases y with
          | true =>
            go_wp2_with fail
            exact ⟨⟨j + 1, true, by omega, by go_num, rfl, HY2.out, HF.out⟩, by simp [intOf]; omega⟩
          | false =>
            rw [Bool.false_or] at HY2
            go_wp2_with fail
            exact ⟨⟨j + 1, x0, by omega, by go_num, rfl, HY2.out, HF.out⟩, by simp [intOf]; omega⟩
        · obtain rfl : j = m := by omega
          have hy := HY.out
          rw [List.take_of_length_le (by have := HM.out; omega)] at hy
          have HF5 := Lib.hid (HF4.out.trans HF.out (fun _ _ h => h))
          have HRX5 := Lib.hid (HRX.out.fr HF.out (fun _ _ h => h))
          have HRB := Lib.hid (HR.out.fr HF5.out (fun _ _ h => h))
          have hy3 : decide (0 < n) = y := by
            rw [hy]
            refine decide_eq_decide.2 ?_
            rw [HIFF.out]
            constructor
            · intro h hb
              subst hb
              have := HLN.out
              simp at this
              omega
            · intro h
              rcases Nat.eq_zero_or_pos n with h0 | h0
              · exact absurd (List.length_eq_zero_iff.1 (by rw [HLN.out, h0])) h
              · exact h0
          have hy3' : decide ((0 : Int) < (n : Int)) = y := by rw [← hy3]; exact decide_eq_decide.2 (by omega)
          have HPC : Hid (∀ w', Fr (fun _ => False) wr w' → Calls Try.prog 7 #[.slice A4 j c4] w' (Gives w' B)) := Lib.hid (fun w' hf => by
            have h := K.put A4 j c4 x w' (HRX5.out.fr hf (fun _ _ h => h)) (by omega)
            rw [HPB.out] at h
            exact h)
          clear hy
          go_upto_region 11 with fail
          refine wp_region_held_drew (S := fun w' => Fr (fun _ => False) wr w') (by kernel_rfl) ?_ (fun hHeld => ?_)
          · exact (Fr.refl _ _).drew
          refine wpAnyH_take (i := 0) (v := ?vz10) rfl (by kernel_rfl) (by kernel_rfl) (by kernel_rfl) (fun _ _ _ h => h) (Or.inl ⟨by rfl, ?hyz10⟩) hHeld ?restz10
          case hyz10 => intro w hSw; (try dsimp only at hSw); go_simp; try (with_reducible rfl)
          (try simp only [Act.put, List.setIfInBounds_toArray, List.set_cons_zero, List.set_cons_succ, List.getElem_toArray, List.getElem_cons_zero])
          refine wpAnyH_take (i := 3) (v := ?vz13) rfl (by kernel_rfl) (by kernel_rfl) (by kernel_rfl) (fun _ _ _ h => h) (Or.inl ⟨by rfl, ?hyz13⟩) hHeld ?restz13
          case hyz13 => intro w hSw; (try dsimp only at hSw); go_simp; try (with_reducible rfl)
          (try simp only [Act.put, List.setIfInBounds_toArray, List.set_cons_zero, List.set_cons_succ, List.getElem_toArray, List.getElem_cons_zero, List.getElem_cons_succ])
          refine wpAnyH_take (i := 4) (v := ?vz14) rfl (by kernel_rfl) (by kernel_rfl) (by kernel_rfl) (fun _ _ _ h => h) (Or.inl ⟨by rfl, ?hyz14⟩) hHeld ?restz14
          case hyz14 => intro w hSw; (try dsimp only at hSw); have hcv := (str_rd (HRB.out.fr hSw (fun _ _ h => h)) c); go_simp; try (with_reducible rfl)
          (try simp only [Act.put, List.setIfInBounds_toArray, List.set_cons_zero, List.set_cons_succ, List.getElem_toArray, List.getElem_cons_zero, List.getElem_cons_succ])
          refine wpAnyH_ready (rs := [1]) (by kernel_rfl) (by simp) ?_
          refine AllReadyH.cons rfl (fun Kx hKx => ?_) AllReadyH.nil
          go_simp
          have hcon := HPC.out wr.drew (Fr.refl _ _).drew
          with_reducible refine hcon.mono ?_
          clear hcon
          rintro e' x1 ⟨Z1, z1, rfl, ho, hff⟩
          have HFx1 : Hid (Fr (fun _ => False) wr x1) := Lib.hid ((Fr.refl _ _).drew.trans hff (fun _ _ h => h))
          have HZ1 := Lib.hid ho
          clear ho
          refine hKx.out _ _ ?_ (fun hHeld => ?_)
          · exact HFx1.out
          clear hKx Kx hff
          (try simp only [Act.put, List.setIfInBounds_toArray, List.set_cons_zero, List.set_cons_succ, List.getElem_toArray, List.getElem_cons_zero, List.getElem_cons_succ])
          refine wpAnyH_more (fun w' => Fr (fun _ => False) x1 w') (fun _ h => HFx1.out.trans h (fun _ _ h => h)) ?_ (fun hHeld => ?_)
          · exact Fr.refl _ _
          refine wpAnyH_take (i := 2) (v := ?vz12) rfl (by kernel_rfl) (by kernel_rfl) (by kernel_rfl) (fun _ _ _ h => h) (Or.inl ⟨by rfl, ?hyz12⟩) hHeld ?restz12
          case hyz12 => intro w hSw; (try dsimp only at hSw); have hcv := (HZ1.out.fr hSw).str; go_simp; try (with_reducible rfl)
          (try simp only [Act.put, List.setIfInBounds_toArray, List.set_cons_zero, List.set_cons_succ, List.getElem_toArray, List.getElem_cons_zero, List.getElem_cons_succ])
          refine wpAnyH_take (i := 5) (v := ?vz15) rfl (by kernel_rfl) (by kernel_rfl) (by kernel_rfl) (fun _ _ _ h => h) (Or.inl ⟨by rfl, ?hyz15⟩) hHeld ?restz15
          case hyz15 => intro w hSw; (try dsimp only at hSw); go_simp; try (with_reducible rfl)
          (try simp only [Act.put, List.setIfInBounds_toArray, List.set_cons_zero, List.set_cons_succ, List.getElem_toArray, List.getElem_cons_zero, List.getElem_cons_succ])
          refine wpAnyH_take (i := 6) (v := ?vz16) rfl (by kernel_rfl) (by kernel_rfl) (by kernel_rfl) (fun _ _ _ h => h) (Or.inl ⟨by rfl, ?hyz16⟩) hHeld ?restz16
          case hyz16 => intro w hSw; (try dsimp only at hSw); go_simp; try (with_reducible rfl)
          (try simp only [Act.put, List.setIfInBounds_toArray, List.set_cons_zero, List.set_cons_succ, List.getElem_toArray, List.getElem_cons_zero, List.getElem_cons_succ])
          refine wpAnyH_take (i := 7) (v := ?vz17) rfl (by kernel_rfl) (by kernel_rfl) (by kernel_rfl) (fun _ _ _ h => h) (Or.inl ⟨by rfl, ?hyz17⟩) hHeld ?restz17
          case hyz17 => intro w hSw; (try dsimp only at hSw); go_simp; try (with_reducible rfl)
          (try simp only [Act.put, List.setIfInBounds_toArray, List.set_cons_zero, List.set_cons_succ, List.getElem_toArray, List.getElem_cons_zero, List.getElem_cons_succ])
          refine wpAnyH_take (i := 8) (v := ?vz18) rfl (by kernel_rfl) (by kernel_rfl) (by kernel_rfl) (fun _ _ _ h => h) (Or.inl ⟨by rfl, ?hyz18⟩) hHeld ?restz18
          case hyz18 => intro w hSw; (try dsimp only at hSw); go_simp; try (with_reducible rfl)
          (try simp only [Act.put, List.setIfInBounds_toArray, List.set_cons_zero, List.set_cons_succ, List.getElem_toArray, List.getElem_cons_zero, List.getElem_cons_succ])
          refine wpAnyH_take (i := 9) (v := ?vz19) rfl (by kernel_rfl) (by kernel_rfl) (by kernel_rfl) (fun _ _ _ h => h) (Or.inl ⟨by rfl, ?hyz19⟩) hHeld ?restz19
          case hyz19 => intro w hSw; (try dsimp only at hSw); go_simp; try (with_reducible rfl)
          (try simp only [Act.put, List.setIfInBounds_toArray, List.set_cons_zero, List.set_cons_succ, List.getElem_toArray, List.getElem_cons_zero, List.getElem_cons_succ])
          refine wpAnyH_take (i := 10) (v := ?vz110) rfl (by kernel_rfl) (by kernel_rfl) (by kernel_rfl) (fun _ _ _ h => h) (Or.inl ⟨by rfl, ?hyz110⟩) hHeld ?restz110
          case hyz110 => intro w hSw; (try dsimp only at hSw); go_simp; try (with_reducible rfl)
          (try simp only [Act.put, List.setIfInBounds_toArray, List.set_cons_zero, List.set_cons_succ, List.getElem_toArray, List.getElem_cons_zero, List.getElem_cons_succ])
          refine wpAnyH_take (i := 11) (v := ?vz111) rfl (by kernel_rfl) (by kernel_rfl) (by kernel_rfl) (fun _ _ _ h => h) (Or.inl ⟨by rfl, ?hyz111⟩) hHeld ?restz111
          case hyz111 => intro w hSw; (try dsimp only at hSw); go_simp; try (with_reducible rfl)
          (try simp only [Act.put, List.setIfInBounds_toArray, List.set_cons_zero, List.set_cons_succ, List.getElem_toArray, List.getElem_cons_zero, List.getElem_cons_succ])
          refine wpAnyH_take (i := 12) (v := ?vz112) rfl (by kernel_rfl) (by kernel_rfl) (by kernel_rfl) (fun _ _ _ h => h) (Or.inl ⟨by rfl, ?hyz112⟩) hHeld ?restz112
          case hyz112 => intro w hSw; (try dsimp only at hSw); go_simp; try (with_reducible rfl)
          (try simp only [Act.put, List.setIfInBounds_toArray, List.set_cons_zero, List.set_cons_succ, List.getElem_toArray, List.getElem_cons_zero, List.getElem_cons_succ])
          refine wpAnyH_ready (rs := [13]) (by kernel_rfl) (by simp) ?_
          refine AllReadyH.cons rfl (fun Kx hKx => ?_) AllReadyH.nil
          go_simp
          refine hKx.out _ _ ?_ (fun hHeld => ?_)
          · exact Fr.refl _ _
          clear hKx Kx
          (try simp only [Act.put, List.setIfInBounds_toArray, List.set_cons_zero, List.set_cons_succ, List.getElem_toArray, List.getElem_cons_zero, List.getElem_cons_succ])
          refine wpAnyH_done (by kernel_rfl) ?_ _
          have HFE := Lib.hid (HF5.out.trans HFx1.out (fun _ _ h => h))
          go_wp2_with fail
          go_ret
          exact ⟨rfl, HFE.out⟩
    · obtain ⟨h1, h2⟩ := hE he
      have hm0 : m = 0 := by rw [hm, h1]; rfl
      subst hm0
      have t1 : ((E : Int) == 0) = false := by simp; omega
      have t1' : (E == 0) = false := by simp; omega
      have t2 : decide ((0 : Int) < (n : Int)) = true := by simp; omega
      have t2' : decide (0 < n) = true := by simp; omega
      clear hX hm hE hO HO h1 h2
      go_enter Try.func4, Try.ntmps4
      go_wp2_with fail
      refine (awake13_any K w).mono ?_
      rintro e w2 ⟨rfl, hf2⟩
      have HF2 := Lib.hid hf2
      clear hf2
      go_wp2_with fail
      refine (HGC.out w2 HF2.out).mono ?_
      rintro e w4 ⟨A4, c4, rfl, hO4, hf4⟩
      have HF4 := Lib.hid (HF2.out.trans hf4 (fun _ _ h => h))
      clear hO4 hf4
      go_wp2_with fail
      go_ret
      exact ⟨rfl, HF4.out⟩
end Go.Proofs.Ythioijbifmfhlaa
