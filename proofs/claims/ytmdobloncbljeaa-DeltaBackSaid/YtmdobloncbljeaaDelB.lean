/-
  The law DeltaBack, over what Put and Get must keep.
-/
import Derived.Test.YtmdobloncbljeaaDelK
import Derived.Test.YtmdobloncbljeaaRleLb
import Derived.Test.YtmdobloncbljeaaRleX
import Derived.Test.YtmdobloncbljeaaRleY
namespace Go.Proofs.Ytmdobloncbljeaa
open Go.RowKit Mem Go.Lib RleM LebM
attribute [local go_sem ↓] Go.wp_at_zero Go.wp_at_succ
set_option linter.unusedVariables false

set_option maxRecDepth 100000 in
set_option maxHeartbeats 6400000 in
theorem dback_law (K : DelC) (A : Option Addr) (n c : Nat) (L : List (Bool × Int)) (w : World) (hL : Cls nv w A n L) (hn : n ≤ maxLen) (hrng : ∀ (k : Nat) (t : Bool × Int), L[k]? = some t → -9223372036854775808 ≤ t.2 ∧ t.2 < 9223372036854775808) :
    Calls Try.prog 4 #[.slice A n c] w fun e w' => e = .returned (.bool true) ∧ Fr (fun _ => False) w w' := by
  have HL := Lib.hid hL
  have HLN := Lib.hid hL.1
  have HRNG := Lib.hid hrng
  have hnm : n ≤ 9223372036854775807 := hn
  clear hL hrng hn
  by_cases hbig : 600 < n
  · have t0 : decide ((600 : Int) < (n : Int)) = true := by simp; omega
    have t0' : decide (600 < n) = true := by simp; omega
    go_enter Try.func4, Try.ntmps4
    go_wp2_with fail
    refine (awake12_any K w).mono ?_
    rintro e w2 ⟨rfl, hf2⟩
    have HF2 := Lib.hid hf2
    clear hf2
    go_wp2_with fail
    refine (awake12_any K w2).mono ?_
    rintro e w9 ⟨rfl, hf9⟩
    have HF9 := Lib.hid (HF2.out.trans hf9 (fun _ _ h => h))
    clear hf9
    go_wp2_with fail
    go_ret
    exact ⟨rfl, HF9.out⟩
  · have t0 : decide ((600 : Int) < (n : Int)) = false := by simp; omega
    have t0' : decide (600 < n) = false := by simp; omega
    have hn6 : n ≤ 600 := by omega
    clear hbig
    obtain ⟨b, hb⟩ : ∃ b, b = L.map (cellS true) := ⟨_, rfl⟩
    have hmb : ∀ x ∈ b, mayS x := by
      intro x hx
      rw [hb] at hx
      obtain ⟨y, hy, rfl⟩ := List.mem_map.1 hx
      obtain ⟨k, hk⟩ := List.getElem?_of_mem hy
      exact may_cellS (HRNG.out k y hk).1 (HRNG.out k y hk).2
    have hbl : b.length = n := by rw [hb, List.length_map, HLN.out]
    obtain ⟨S, hS⟩ : ∃ S, S = b.any (·.1) := ⟨_, rfl⟩
    obtain ⟨D, hD⟩ : ∃ D, D = stepsF 0 b := ⟨_, rfl⟩
    have hdl : D.length = n := by rw [hD, steps_len, hbl]
    have hmd : ∀ x ∈ D, mayS x := by rw [hD]; exact steps_may 0 b hmb
    have hsd : (S = true → ∃ c ∈ D, c.1 = true) ∧ (S = false → ∀ c ∈ D, c = kS.zero) := by
      constructor
      · intro h
        rw [h, ← steps_some 0 b, ← hD] at hS
        obtain ⟨c, hc, hx⟩ := List.any_eq_true.1 hS.symm
        exact ⟨c, hc, hx⟩
      · intro h c hc
        rw [h] at hS
        have hall : ∀ c ∈ b, c.1 = false := fun c hc => by have := List.any_eq_false.1 hS.symm c hc; simpa using this
        rw [hD, steps_none 0 b hall] at hc
        have h1 := hall c hc
        have h2 := (hmb c hc).1 h1
        obtain ⟨i, x⟩ := c
        simp only at h1 h2
        rw [h1, h2]
        rfl
    obtain ⟨P, hP⟩ : ∃ P, P = tellW kS (gatherG D) := ⟨_, rfl⟩
    have hPl : P.length ≤ 18000 := by rw [hP]; exact RleM.lenS (by omega) hmd
    obtain ⟨y, hx, hy, hz⟩ := back_cases backS hmd hsd (by omega)
    rw [← hP, hdl] at hx
    obtain ⟨z, hzz⟩ : ∃ z, z = sumsF 0 y := ⟨_, rfl⟩
    have hz1 : S = true → z = b := fun h => by rw [hzz, hy h, hD]; exact sums_steps 0 b (fun c hc => (hmb c hc).2)
    have hz0 : S = false → z = [] := fun h => by rw [hzz, hz h]; rfl
    obtain ⟨n1, hn1'⟩ : ∃ n1, n1 = n - 1 := ⟨_, rfl⟩
    have hn1 : S = true → n1 + 1 = n := by
      intro h
      obtain ⟨c, hc, _⟩ := hsd.1 h
      have h1 : 0 < D.length := by cases D with | nil => cases hc | cons x y => simp
      omega
    have HPC : Hid (∀ w' A' c', Cls nv w' A' n b → Calls Try.prog 9 #[.slice A' n c'] w' (Gives w' P)) := Lib.hid (fun w' A' c' h => by
      have h1 := K.put A' n c' b w' h (by omega) hmb
      rw [← hD, ← hP] at h1
      exact h1)
    have HGC : Hid (∀ w' base A c, Own w' base A c P → Calls Try.prog 11 #[.slice A P.length c, .int .i64 (n : Int)] w' fun e w'' => ∃ A' c', e = .returned (.tuple #[.slice A' z.length c', .int .i64 0]) ∧ OwnC nv 30 w'' w'.heap.size A' c' z ∧ Fr (fun _ => False) w' w'') := Lib.hid (fun w' base A c ho => by
      have h := K.get A P.length c P (n : Int) w' ho.rd ho.cap.1 (by omega) (by omega) (by omega)
      rw [hx] at h
      simp only at h
      rw [← hzz] at h
      exact h)
    have HGD : Hid (S = true → ∀ w' base A c, Own w' base A c P → Calls Try.prog 11 #[.slice A P.length c, .int .i64 (n1 : Int)] w' fun e w'' => ∃ A' c', e = .returned (.tuple #[.slice A' 0 c', .int .i64 4]) ∧ Fr (fun _ => False) w' w'') := Lib.hid (fun hs w' base A c ho => by
      have hc := back_short backS hmd (hsd.1 hs) (by omega)
      rw [← hP, hdl] at hc
      have h := K.get A P.length c P (n1 : Int) w' ho.rd ho.cap.1 (by omega) (by omega) (by omega)
      rw [show ((n1 : Nat) : Int) = (n : Int) - 1 by have := hn1 hs; omega, hc] at h
      rw [show ((n1 : Nat) : Int) = (n : Int) - 1 by have := hn1 hs; omega]
      refine h.mono ?_
      rintro e w'' ⟨A', c', rfl, _, hf⟩
      exact ⟨A', c', rfl, hf⟩)
    have HP0 : Hid (S = false → P = []) := Lib.hid (fun h => by rw [hP]; exact told_none (hsd.2 h))
    have HN1 := Lib.hid hn1
    have HBL := Lib.hid hbl
    have HBe := Lib.hid hb
    have HS := Lib.hid hS
    have HZ1 := Lib.hid hz1
    have HZ0 := Lib.hid hz0
    have hzl : z.length ≤ 600 := by
      cases hs : S with
      | true => rw [hz1 hs, hbl]; omega
      | false => rw [hz0 hs]; simp
    clear hb hmb hbl hS hD hdl hmd hsd hP hx hy hz hzz hz1 hz0 hn1' hn1
    go_enter Try.func4, Try.ntmps4
    go_wp2_with fail
    refine (awake12_any K w).mono ?_
    rintro e w2 ⟨rfl, hf2⟩
    have HF2 := Lib.hid hf2
    clear hf2
    go_wp2_with fail
    refine (rCells_any A n c true L w2 (HL.out.fr HF2.out (fun _ _ h => h)) (by omega) HRNG.out).mono ?_
    rintro e w4 ⟨Ab, cb, rfl, hO4, hf4⟩
    rw [← HBe.out] at hO4 ⊢
    rw [HBL.out]
    have HCB : Hid (Cls nv w4 Ab n b) := Lib.hid (by have h := hO4.cls; rw [HBL.out] at h; exact h)
    have HF4 := Lib.hid (HF2.out.trans hf4 (fun _ _ h => h))
    clear hO4 hf4
    go_wp2_with fail
    go_loopw [4, 5] (fun q v wr => ∃ k : Nat, k ≤ n ∧ v = .int .i64 (k : Int) ∧ q = .bool ((b.take k).any (·.1)) ∧ Hid (Fr (fun _ => False) w4 wr)) (fun _ v _ => n - (intOf v).toNat)
    case atStart => exact ⟨0, Nat.zero_le _, rfl, by simp, Fr.refl _ _⟩
    case round =>
      obtain ⟨k, hk, rfl, rfl, HFw⟩ := hrel
      rename World => w5
      by_cases hlt : k < n
      · obtain ⟨t, ht⟩ : ∃ t, b[k]? = some t := ⟨_, List.getElem?_eq_getElem (by have := HBL.out; omega)⟩
        obtain ⟨g, o, hA', hg, h1, h2⟩ := (HCB.out.fr HFw.out (fun _ _ => id)).2 k t ht
        subst hA'
        obtain ⟨i, x⟩ := t
        simp only at h1
        have hnx : (b.take (k + 1)).any (·.1) = ((b.take k).any (·.1) || i) := by rw [List.take_add_one, ht]; simp
        obtain ⟨q, hq⟩ : ∃ q, q = (b.take k).any (·.1) := ⟨_, rfl⟩
        rw [← hq] at hnx ⊢
        have HNX := Lib.hid hnx
        clear ht h2 hnx hq
        cases q with
        | true =>
          go_wp2_with fail
          exact ⟨⟨k + 1, by omega, by go_num, by rw [HNX.out]; rfl, HFw.out⟩, by simp [intOf]; omega⟩
        | false =>
          go_wp2_with fail
          exact ⟨⟨k + 1, by omega, by go_num, by rw [HNX.out]; rfl, HFw.out⟩, by simp [intOf]; omega⟩
      · obtain rfl : n = k := by omega
        have hall : (b.take n).any (·.1) = S := by rw [List.take_of_length_le (by have := HBL.out; omega), ← HS.out]
        rw [hall]
        clear hall hlt
        go_wp2_with fail
        refine (HPC.out w5 Ab cb (HCB.out.fr HFw.out (fun _ _ h => h))).mono ?_
        rintro e w6 ⟨B6, b6, rfl, ho, hf⟩
        have HF6 := Lib.hid (HFw.out.trans hf (fun _ _ h => h))
        have HO6 := Lib.hid ho
        clear ho hf HFw
        go_wp2_with fail
        refine (HGC.out w6 _ B6 b6 HO6.out).mono ?_
        rintro e w7 ⟨X7, y7, rfl, ho, hf⟩
        have HF7 := Lib.hid (HF6.out.trans hf (fun _ _ h => h))
        have HX7 := Lib.hid ho
        have HO7 := Lib.hid (hf.own HO6.out (fun _ _ h => h))
        clear ho hf HO6 HF6
        cases S with
        | false =>
          have t1 : ((z.length : Int) == 0) = true := by rw [HZ0.out rfl]; rfl
          have t2 : ((P.length : Int) == 0) = true := by rw [HP0.out rfl]; rfl
          clear HGD HZ1 HN1
          go_wp2_with fail
          go_ret
          exact ⟨rfl, HF4.out.trans HF7.out (fun _ _ h => h)⟩
        | true =>
          have HGE := Lib.hid (HGD.out rfl)
          have r1 : IntKind.i64.wrap ((n : Int) - 1) = (n1 : Int) := by rw [IntKind.wrap_i64]; have := HN1.out rfl; omega
          obtain rfl : z = b := HZ1.out rfl
          clear HGD HZ1 HN1 HZ0 HP0
          have HX8 : Hid (Cls nv w7 X7 n z) := Lib.hid (by have h := HX7.out.cls; rw [HBL.out] at h; exact h)
          rw [HBL.out]
          go_wp2_with fail
          refine (HGE.out w7 _ B6 b6 HO7.out).mono ?_
          rintro e w8 ⟨X8, y8, rfl, hf⟩
          have HF8 := Lib.hid (HF7.out.trans hf (fun _ _ h => h))
          have hsame := rsameC_any X7 n y7 z Ab n cb z w8 (HX8.out.fr hf (fun _ _ h => h)) (HCB.out.fr HF8.out (fun _ _ h => h)) (by omega) (by omega)
          rw [decide_eq_true rfl] at hsame
          have HSM := Lib.hid hsame
          clear hsame hf
          go_wp2_with fail
          refine HSM.out.mono ?_
          rintro e w9 ⟨rfl, hf⟩
          have HF9 := Lib.hid (HF4.out.trans (HF8.out.trans hf (fun _ _ h => h)) (fun _ _ h => h))
          clear hf
          go_wp2_with fail
          go_ret
          exact ⟨rfl, HF9.out⟩
end Go.Proofs.Ytmdobloncbljeaa
