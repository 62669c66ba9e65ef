/-
  Layer 17, the reference: Few (written by gen_few.py).
-/
import Derived.Test.YtedmnkcoflbciaaGreatZm13
namespace Go.Proofs.YtedmnkcoflbciaaGreat
open Go.RowKit Mem Go.Lib LebM UtfM VaM OpM
attribute [local go_sem ↓] Go.wp_at_zero Go.wp_at_succ
set_option linter.unusedVariables false

def fewB (L : List Om) : Bool := L.all fun x => fewO x.o
set_option maxRecDepth 100000 in
set_option maxHeartbeats 3200000 in
theorem rfew_any (A : Option Addr) (n c : Nat) (L : List Om) (m : Nat) (w : World) (hL : Ops w A n L) (hn : n ≤ 9223372036854775807) (hm : m ≤ 1000) (hok : ∀ x ∈ L, x.o.obj.a.length ≤ 9223372036854775807 ∧ x.o.elem.a.length ≤ 9223372036854775807 ∧ x.o.key.length ≤ 9223372036854775807 ∧ x.o.val.s.length ≤ 9223372036854775807 ∧ x.o.pr.length ≤ 9223372036854775807 ∧ ∀ y ∈ x.o.pr, y.a.length ≤ 9223372036854775807) :
    Calls Tryz.prog 7 #[.slice A n c, .int .i64 (m : Int)] w fun e w' => e = .returned (.bool (decide (n ≤ m) && fewB L)) ∧ w = w' := by
  have hln := hL.len
  by_cases hnm : m < n
  · have t1 : decide ((m : Int) < (n : Int)) = true := decide_eq_true (by omega)
    have t1' : decide (m < n) = true := decide_eq_true (by omega)
    rw [decide_eq_false (show ¬ n ≤ m by omega), Bool.false_and]
    clear hL hln hok
    go_enter Tryz.func7, Tryz.ntmps7
    go_wp2_with fail
    go_ret
    exact ⟨rfl, rfl⟩
  · have t1 : decide ((m : Int) < (n : Int)) = false := decide_eq_false (by omega)
    have t1' : decide (m < n) = false := decide_eq_false (by omega)
    rw [decide_eq_true (show n ≤ m by omega), Bool.true_and]
    obtain ⟨r, hr⟩ : ∃ r, fewB L = r := ⟨_, rfl⟩
    rw [hr]
    have HR := Lib.hid hr
    have HL := Lib.hid hL
    have HLN := Lib.hid hln
    have HOK := Lib.hid hok
    have hn1 : n ≤ 1000 := by omega
    have HN1 := Lib.hid hn1
    clear hL hln hok hr hn hnm
    go_enter Tryz.func7, Tryz.ntmps7
    go_wp2_with fail
    go_loop [5] (fun i => ∃ k : Nat, k ≤ n ∧ i = .int .i64 (k : Int) ∧ Hid (fewB (L.take k) = true)) (fun i => n - (intOf i).toNat)
    case atStart => exact ⟨0, Nat.zero_le _, rfl, (rfl : fewB (L.take 0) = true)⟩
    case round =>
      obtain ⟨k, hk, rfl, HA⟩ := hrel
      by_cases hlt : k < n
      · obtain ⟨x, hx⟩ : ∃ x, L[k]? = some x := ⟨_, List.getElem?_eq_getElem (by have := HLN.out; omega)⟩
        obtain ⟨b, o, rfl, hb, hat⟩ := HL.out.1.2 k x hx
        obtain ⟨k0, k1, k2, k3, k4, k5, k6, k7, k8, k9, k10, k11, k12⟩ := hat
        have hpr := HL.out.2 x (List.mem_of_getElem? hx)
        obtain ⟨b1, b2, b3, b4, b5, b6⟩ := HOK.out x (List.mem_of_getElem? hx)
        have hnext : fewB (L.take (k + 1)) = fewO x.o := by
          have h := HA.out
          unfold fewB at h ⊢
          rw [List.take_add_one, hx, List.all_append, h, Option.toList_some]
          simp
        have hbad : fewO x.o = false → false = r := fun h => by
          rw [← HR.out]
          rw [h] at hnext
          unfold fewB at hnext ⊢
          rw [← List.take_append_drop (k + 1) L, List.all_append, hnext, Bool.false_and]
        have HNX := Lib.hid hnext
        have hs1 := txt_sz x.o.key
        have hs2 := txt_sz x.o.val.s
        have hs3 := txt_sz x.o.obj.a
        have hs4 := txt_sz x.o.elem.a
        obtain ⟨l1, hl1⟩ : ∃ l, l = x.o.key.length := ⟨_, rfl⟩
        obtain ⟨l2, hl2⟩ : ∃ l, l = x.o.val.s.length := ⟨_, rfl⟩
        obtain ⟨l3, hl3⟩ : ∃ l, l = x.o.obj.a.length := ⟨_, rfl⟩
        obtain ⟨l4, hl4⟩ : ∃ l, l = x.o.elem.a.length := ⟨_, rfl⟩
        obtain ⟨l5, hl5⟩ : ∃ l, l = x.o.pr.length := ⟨_, rfl⟩
        rw [← hl1] at hs1 b3
        rw [← hl2] at hs2 b4
        rw [← hl3] at hs3 b1
        rw [← hl4] at hs4 b2
        rw [← hl5] at b5 k12
        have HX := Lib.hid hx
        have hfe : fewO x.o = (decide (l5 ≤ 40) && decide (l1 ≤ 5000) && decide (l2 ≤ 5000) && decide (l3 ≤ 100) && decide (l4 ≤ 100) && x.o.pr.all fun x => decide (x.a.length ≤ 100)) := by unfold fewO; rw [hl1, hl2, hl3, hl4, hl5]
        have HL5 := Lib.hid hl5
        have HPR := Lib.hid hpr
        have HB6 := Lib.hid b6
        rw [hfe] at hbad
        have HFE := Lib.hid hfe
        clear hx hnext hl1 hl2 hl3 hl4 hl5 hpr hfe b6
        by_cases g0 : 40 < l5
        · have s0 : decide ((40 : Int) < (l5 : Int)) = true := decide_eq_true (by omega)
          have s0' : decide (40 < l5) = true := decide_eq_true (by omega)
          have hrf : false = r := hbad (by rw [decide_eq_false (show ¬ l5 ≤ 40 by omega)]; simp)
          have HRF := Lib.hid hrf
          clear hrf hbad
          go_wp2_with fail
          go_ret
          exact ⟨by rw [← HRF.out]; rfl, rfl⟩
        · have s0 : decide ((40 : Int) < (l5 : Int)) = false := decide_eq_false (by omega)
          have s0' : decide (40 < l5) = false := decide_eq_false (by omega)
          by_cases g1 : 5000 < l1
          · have s1 : decide ((5000 : Int) < (l1 : Int)) = true := decide_eq_true (by omega)
            have s1' : decide (5000 < l1) = true := decide_eq_true (by omega)
            have hrf : false = r := hbad (by rw [decide_eq_false (show ¬ l1 ≤ 5000 by omega)]; simp)
            have HRF := Lib.hid hrf
            clear hrf hbad
            go_wp2_with fail
            go_ret
            exact ⟨by rw [← HRF.out]; rfl, rfl⟩
          · have s1 : decide ((5000 : Int) < (l1 : Int)) = false := decide_eq_false (by omega)
            have s1' : decide (5000 < l1) = false := decide_eq_false (by omega)
            by_cases g2 : 5000 < l2
            · have s2 : decide ((5000 : Int) < (l2 : Int)) = true := decide_eq_true (by omega)
              have s2' : decide (5000 < l2) = true := decide_eq_true (by omega)
              have hrf : false = r := hbad (by rw [decide_eq_false (show ¬ l2 ≤ 5000 by omega)]; simp)
              have HRF := Lib.hid hrf
              clear hrf hbad
              go_wp2_with fail
              go_ret
              exact ⟨by rw [← HRF.out]; rfl, rfl⟩
            · have s2 : decide ((5000 : Int) < (l2 : Int)) = false := decide_eq_false (by omega)
              have s2' : decide (5000 < l2) = false := decide_eq_false (by omega)
              by_cases g3 : 100 < l3
              · have s3 : decide ((100 : Int) < (l3 : Int)) = true := decide_eq_true (by omega)
                have s3' : decide (100 < l3) = true := decide_eq_true (by omega)
                have hrf : false = r := hbad (by rw [decide_eq_false (show ¬ l3 ≤ 100 by omega)]; simp)
                have HRF := Lib.hid hrf
                clear hrf hbad
                go_wp2_with fail
                go_ret
                exact ⟨by rw [← HRF.out]; rfl, rfl⟩
              · have s3 : decide ((100 : Int) < (l3 : Int)) = false := decide_eq_false (by omega)
                have s3' : decide (100 < l3) = false := decide_eq_false (by omega)
                by_cases g4 : 100 < l4
                · have s4 : decide ((100 : Int) < (l4 : Int)) = true := decide_eq_true (by omega)
                  have s4' : decide (100 < l4) = true := decide_eq_true (by omega)
                  have hrf : false = r := hbad (by rw [decide_eq_false (show ¬ l4 ≤ 100 by omega)]; simp)
                  have HRF := Lib.hid hrf
                  clear hrf hbad
                  go_wp2_with fail
                  go_ret
                  exact ⟨by rw [← HRF.out]; rfl, rfl⟩
                · have s4 : decide ((100 : Int) < (l4 : Int)) = false := decide_eq_false (by omega)
                  have s4' : decide (100 < l4) = false := decide_eq_false (by omega)
                  clear hbad
                  go_wp2_with fail
                  clear k0 k1 k2 k3 k4 k5 k6 k7 k8 k9 k10 k11
                  go_loop [6] (fun i => ∃ j : Nat, j ≤ l5 ∧ i = .int .i64 (j : Int) ∧ Hid ((x.o.pr.take j).all (fun x => decide (x.a.length ≤ 100)) = true)) (fun i => l5 - (intOf i).toNat)
                  case atStart => exact ⟨0, Nat.zero_le _, rfl, (rfl : (x.o.pr.take 0).all (fun x => decide (x.a.length ≤ 100)) = true)⟩
                  case round =>
                    obtain ⟨j, hj, rfl, HB⟩ := hrel
                    by_cases hlt2 : j < l5
                    · obtain ⟨y, hy⟩ : ∃ y, x.o.pr[j]? = some y := ⟨_, List.getElem?_eq_getElem (by have := HL5.out; omega)⟩
                      obtain ⟨g, q, hA, hg, n0, n1⟩ := HPR.out.1.2 j y hy
                      simp only [ncc, nac] at n0 n1
                      rw [hA] at k12
                      have hby := HB6.out y (List.mem_of_getElem? hy)
                      have hs := txt_sz y.a
                      obtain ⟨z, hz⟩ : ∃ z, z = y.a.length := ⟨_, rfl⟩
                      rw [← hz] at hs hby
                      have HZ := Lib.hid hz
                      have HY := Lib.hid hy
                      clear hy hA hz
                      by_cases h : 100 < z
                      · have t2 : decide ((100 : Int) < (z : Int)) = true := decide_eq_true (by omega)
                        have t2' : decide (100 < z) = true := decide_eq_true (by omega)
                        have hal : (x.o.pr.all fun x => decide (x.a.length ≤ 100)) = false := by
                          rw [List.all_eq_false]
                          exact ⟨y, List.mem_of_getElem? HY.out, by have := HZ.out; simp; omega⟩
                        have hrf : false = r := by
                          have h := HNX.out
                          rw [HFE.out, hal, Bool.and_false] at h
                          rw [← HR.out]
                          unfold fewB at h ⊢
                          rw [← List.take_append_drop (k + 1) L, List.all_append, h, Bool.false_and]
                        have HRF := Lib.hid hrf
                        clear hrf hal
                        go_wp2_with fail
                        go_ret
                        exact ⟨by rw [← HRF.out]; rfl, rfl⟩
                      · have t2 : decide ((100 : Int) < (z : Int)) = false := decide_eq_false (by omega)
                        have t2' : decide (100 < z) = false := decide_eq_false (by omega)
                        have HB2 : Hid ((x.o.pr.take (j + 1)).all (fun x => decide (x.a.length ≤ 100)) = true) := Lib.hid (by
                          have h := HB.out
                          rw [List.take_add_one, HY.out, List.all_append, h, Option.toList_some]
                          have := HZ.out
                          simp
                          omega)
                        go_wp2_with fail
                        go_round
                        case rel => exact ⟨j + 1, by omega, by go_num, HB2⟩
                        case measure => simp [intOf]; omega
                    · obtain rfl : j = l5 := by omega
                      have HA2 : Hid (fewB (L.take (k + 1)) = true) := Lib.hid (by
                        have h := HB.out
                        rw [List.take_of_length_le (by have := HL5.out; omega)] at h
                        rw [HNX.out, HFE.out, h]
                        simp
                        omega)
                      go_wp2_with fail
                      go_round
                      case rel => exact ⟨k + 1, by omega, by go_num, HA2⟩
                      case measure => simp [intOf]; omega
      · obtain rfl : k = n := by omega
        have hrf : true = r := by
          rw [← HR.out]
          have := HA.out
          rw [List.take_of_length_le (by have := HLN.out; omega)] at this
          exact this.symm
        have HRF := Lib.hid hrf
        clear hrf
        go_wp2_with fail
        go_ret
        exact ⟨by rw [← HRF.out]; rfl, rfl⟩
end Go.Proofs.YtedmnkcoflbciaaGreat
