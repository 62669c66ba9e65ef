/-
  Layer 17, the program: slices.Equal of names, Same (written by gen_same.py).
-/
import Derived.Test.YtmiofhoojahpjaaOpE
import Derived.BigQuiet
namespace Go.Proofs.Ytmiofhoojahpjaa
open Go.RowKit Mem Go.Lib LebM UtfM VaM OpM
attribute [local go_sem ↓] Go.wp_at_zero Go.wp_at_succ
set_option linter.unusedVariables false

set_option maxRecDepth 100000 in
set_option maxHeartbeats 3200000 in
theorem nequal_any (A : Option Addr) (n c : Nat) (L : List Nm) (A' : Option Addr) (n' c' : Nat) (M : List Nm) (w : World) (hL : Nms w A n L) (hM : Nms w A' n' M) (hn : n ≤ 1000000) (hn' : n' ≤ 1000000) :
    Calls Try.prog 29 #[.slice A n c, .slice A' n' c'] w fun e w' => e = .returned (.bool (eqNs L M)) ∧ Fr (fun _ => False) w w' := by
  obtain ⟨r, hr⟩ : ∃ r, eqNs L M = r := ⟨_, rfl⟩
  rw [hr]
  have HR := Lib.hid hr
  have HL := Lib.hid hL
  have HM := Lib.hid hM
  have HLN := Lib.hid hL.1
  have HMN := Lib.hid hM.1
  clear hL hM hr
  by_cases hnn : n = n'
  · subst hnn
    have t0 : ((n : Int) != (n : Int)) = false := by simp
    go_enter Try.func29, Try.ntmps29
    go_wp2_with fail
    go_loopw [13] (fun v wr => ∃ k : Nat, k ≤ n ∧ v = .int .i64 (k : Int) ∧ Hid (L.take k = M.take k) ∧ Hid (Fr (fun _ => False) w wr)) (fun v _ => n - (intOf v).toNat)
    case atStart => exact ⟨0, Nat.zero_le _, rfl, (by simp : L.take 0 = M.take 0), Fr.refl _ _⟩
    case round =>
      obtain ⟨k, hk, rfl, HE, HF⟩ := hrel
      rename World => wr
      by_cases hlt : k < n
      · obtain ⟨x, hx⟩ : ∃ x, L[k]? = some x := ⟨_, List.getElem?_eq_getElem (by have := HLN.out; omega)⟩
        obtain ⟨y, hy⟩ : ∃ y, M[k]? = some y := ⟨_, List.getElem?_eq_getElem (by have := HMN.out; omega)⟩
        obtain ⟨g, o, rfl, hg, h0, h1⟩ := (HL.out.fr HF.out (fun _ _ => id)).2 k x hx
        obtain ⟨g', o', rfl, hg', k0, k1⟩ := (HM.out.fr HF.out (fun _ _ => id)).2 k y hy
        simp only [ncc, nac] at h0 h1 k0 k1
        obtain ⟨q1, q2⟩ := n_neq x y
        obtain ⟨q, hq⟩ : ∃ q, eqN x y = q := ⟨_, rfl⟩
        rw [hq] at q2
        have HQ := Lib.hid hq
        have HX := Lib.hid hx
        have HY := Lib.hid hy
        clear hx hy hq
        cases q with
        | true =>
          have HN2 : Hid (L.take (k + 1) = M.take (k + 1)) := Lib.hid (by rw [List.take_add_one, List.take_add_one, HE.out, HX.out, HY.out, (eqN_iff x y).1 HQ.out])
          go_wp2_with fail
          go_quiet (fail)
          have HF2 := Lib.hid (HF.out.drewN nq)
          clear h0 h1 k0 k1 q1 q2
          go_wp2_with fail
          exact ⟨⟨k + 1, by omega, by go_num, HN2, HF2⟩, by simp [intOf]; omega⟩
        | false =>
          have HX2 : Hid (r = false) := Lib.hid (by
            cases r with
            | false => rfl
            | true =>
              have e := (eqNs_iff L M).1 HR.out
              have h1 := HX.out
              rw [e, HY.out] at h1
              injection h1 with h1
              have h2 := HQ.out
              rw [← h1, eqN_self] at h2
              cases h2)
          go_wp2_with fail
          go_quiet (fail)
          have HF2 := Lib.hid (HF.out.drewN nq)
          clear h0 h1 k0 k1 q1 q2
          go_wp2_with fail
          go_ret
          rw [HX2.out]
          exact ⟨rfl, HF2.out⟩
      · obtain rfl : k = n := by omega
        have HX2 : Hid (r = true) := Lib.hid (by
          rw [← HR.out, eqNs_iff]
          have h := HE.out
          rwa [List.take_of_length_le (by have := HLN.out; omega), List.take_of_length_le (by have := HMN.out; omega)] at h)
        go_wp2_with fail
        go_ret
        rw [HX2.out]
        exact ⟨rfl, HF.out⟩
  · have t0 : ((n : Int) != (n' : Int)) = true := by simp; omega
    have HX2 : Hid (r = false) := Lib.hid (by
      cases r with
      | false => rfl
      | true =>
        have e := (eqNs_iff L M).1 HR.out
        have h1 := HLN.out
        rw [e, HMN.out] at h1
        omega)
    clear hnn
    go_enter Try.func29, Try.ntmps29
    go_wp2_with fail
    go_ret
    rw [HX2.out]
    exact ⟨rfl, Fr.refl _ _⟩
set_option maxRecDepth 100000 in
set_option maxHeartbeats 6400000 in
theorem same_any (x y : Om) (w : World) (hx : Prd w x) (hy : Prd w y) (hnx : x.o.pr.length ≤ 1000000) (hny : y.o.pr.length ≤ 1000000) : Calls Try.prog 22 #[opc x, opc y] w fun e w' => e = .returned (.bool (eqO x.o y.o)) ∧ Fr (fun _ => False) w w' := by
  obtain ⟨g, w1, hg, hw1, hr1, hf1⟩ := new_ols w x
  obtain ⟨g2, w2, hg2, hw2, hr2, hf2⟩ := new_ols w1 y
  obtain ⟨c0, c1, c2, c3, c4, c5, c6, c7, c8, c9, c10, c11, c12⟩ := (hr1.fr hf2 (fun h => h)).cells
  obtain ⟨d0, d1, d2, d3, d4, d5, d6, d7, d8, d9, d10, d11, d12⟩ := hr2.cells
  have hfw := hf1.trans hf2 (fun _ _ h => h)
  have hq := nequal_any x.A x.o.pr.length x.c x.o.pr y.A y.o.pr.length y.c y.o.pr w2 (hx.fr0 hfw).1 (hy.fr0 hfw).1 hnx hny
  have he : eqO x.o y.o = (eqN x.o.obj y.o.obj && decide (x.o.key = y.o.key) && (x.o.keyed == y.o.keyed) && eqN x.o.elem y.o.elem && (x.o.ins == y.o.ins) && decide (x.o.act = y.o.act) && eqV x.o.val y.o.val && eqNs x.o.pr y.o.pr) := rfl
  rw [he]
  obtain ⟨q1a, q1b⟩ := n_eql x.o.obj y.o.obj
  obtain ⟨q4a, q4b⟩ := n_eql x.o.elem y.o.elem
  obtain ⟨q7a, q7b⟩ := v_eql x.o.val y.o.val
  have t2 := beq_txt x.o.key y.o.key
  have t6 : (x.o.act == y.o.act) = decide (x.o.act = y.o.act) := rfl
  obtain ⟨b1, hb1⟩ : ∃ b, eqN x.o.obj y.o.obj = b := ⟨_, rfl⟩
  obtain ⟨b2, hb2⟩ : ∃ b, decide (x.o.key = y.o.key) = b := ⟨_, rfl⟩
  obtain ⟨b3, t3⟩ : ∃ b, (x.o.keyed == y.o.keyed) = b := ⟨_, rfl⟩
  obtain ⟨b4, hb4⟩ : ∃ b, eqN x.o.elem y.o.elem = b := ⟨_, rfl⟩
  obtain ⟨b5, t5⟩ : ∃ b, (x.o.ins == y.o.ins) = b := ⟨_, rfl⟩
  obtain ⟨b6, hb6⟩ : ∃ b, decide (x.o.act = y.o.act) = b := ⟨_, rfl⟩
  obtain ⟨b7, hb7⟩ : ∃ b, eqV x.o.val y.o.val = b := ⟨_, rfl⟩
  obtain ⟨b8, hb8⟩ : ∃ b, eqNs x.o.pr y.o.pr = b := ⟨_, rfl⟩
  rw [hb1, hb2, t3, hb4, t5, hb6, hb7, hb8]
  rw [hb1] at q1b
  rw [hb2] at t2
  rw [hb4] at q4b
  rw [hb6] at t6
  rw [hb7] at q7b
  rw [hb8] at hq
  have HQ := Lib.hid hq
  have HF2 := Lib.hid hfw
  unfold opc
  clear hf1 hf2 hr1 hr2 hfw hq he hb1 hb2 hb4 hb6 hb7 hb8 hx hy hnx hny
  cases b1 with
  | false =>
    go_enter Try.func22, Try.ntmps22
    go_wp2_with fail
    go_ret
    exact ⟨rfl, HF2.out⟩
  | true =>
    cases b2 with
    | false =>
      go_enter Try.func22, Try.ntmps22
      go_wp2_with fail
      go_ret
      exact ⟨rfl, HF2.out⟩
    | true =>
      cases b3 with
      | false =>
        go_enter Try.func22, Try.ntmps22
        go_wp2_with fail
        go_ret
        exact ⟨rfl, HF2.out⟩
      | true =>
        cases b4 with
        | false =>
          go_enter Try.func22, Try.ntmps22
          go_wp2_with fail
          go_ret
          exact ⟨rfl, HF2.out⟩
        | true =>
          cases b5 with
          | false =>
            go_enter Try.func22, Try.ntmps22
            go_wp2_with fail
            go_ret
            exact ⟨rfl, HF2.out⟩
          | true =>
            cases b6 with
            | false =>
              go_enter Try.func22, Try.ntmps22
              go_wp2_with fail
              go_ret
              exact ⟨rfl, HF2.out⟩
            | true =>
              cases b7 with
              | false =>
                go_enter Try.func22, Try.ntmps22
                go_wp2_with fail
                go_ret
                exact ⟨rfl, HF2.out⟩
              | true =>
                go_enter Try.func22, Try.ntmps22
                go_wp2_with fail
                clear hw1 hw2 hg hg2
                refine HQ.out.mono ?_
                rintro e w3 ⟨rfl, hf⟩
                have HF3 := Lib.hid (HF2.out.trans hf (fun _ _ h => h))
                clear hf
                go_wp2_with fail
                go_ret
                exact ⟨rfl, HF3.out⟩
end Go.Proofs.Ytmiofhoojahpjaa
