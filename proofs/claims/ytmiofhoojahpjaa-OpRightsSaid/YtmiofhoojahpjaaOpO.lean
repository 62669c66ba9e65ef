/-
  Layer 17, the law OpRights.
-/
import Derived.Test.YtmiofhoojahpjaaOpJ
namespace Go.Proofs.Ytmiofhoojahpjaa
open Go.RowKit Mem Go.Lib LebM UtfM VaM OpM
attribute [local go_sem ↓] Go.wp_at_zero Go.wp_at_succ
set_option linter.unusedVariables false

set_option maxRecDepth 100000 in
set_option maxHeartbeats 6400000 in
theorem oprights_law (A : Option Addr) (n c : Nat) (L : List Om) (w : World) (hL : Ops w A n L) (hn : n ≤ 9223372036854775807) (hlen : ∀ x ∈ L, x.lens) (hv : ∀ x ∈ L, x.o.val.ok) :
    Calls Try.prog 3 #[.slice A n c] w fun e w' => e = .returned (.bool true) ∧ Fr (fun _ => False) w w' := by
  have hln := hL.len
  have haw := fun w' => awake17_any w'
  have hfw := fun w' (hf : Fr (fun _ => False) w w') => rfew_any A n c L 60 w' (hL.fr hf) hn (by omega) hlen
  obtain ⟨b, hb⟩ : ∃ b, (decide (n ≤ 60) && fewB L) = b := ⟨_, rfl⟩
  simp only [hb] at hfw
  have hfw2 : ∀ w' (hf : Fr (fun _ => False) w w'), Calls Try.prog 10 #[.slice A n c, .int .i64 60] w' fun e w'' => e = .returned (.bool b) ∧ w' = w'' := hfw
  have HAW := Lib.hid haw
  have HFW := Lib.hid hfw2
  have HL := Lib.hid hL
  have HLN := Lib.hid hln
  have HV := Lib.hid hv
  cases b with
  | false =>
    clear hL hln hn hlen hv haw hfw hfw2 hb
    go_enter Try.func3, Try.ntmps3
    go_wp2_with fail
    refine (HAW.out _).mono ?_
    rintro e w1 ⟨rfl, hf⟩
    have HF1 := Lib.hid hf
    clear hf
    go_wp2_with fail
    refine (HFW.out _ HF1.out).mono ?_
    rintro e w2 ⟨rfl, rfl⟩
    go_wp2_with fail
    refine (HAW.out _).mono ?_
    rintro e w3 ⟨rfl, hf⟩
    have HF3 := Lib.hid (HF1.out.trans hf (fun _ _ h => h))
    clear hf
    go_wp2_with fail
    go_ret
    exact ⟨rfl, HF3.out⟩
  | true =>
    rw [Bool.and_eq_true, decide_eq_true_eq] at hb
    have hn60 := hb.1
    have HSH := Lib.hid (few_short hb.2)
    clear hL hln hn hlen hv haw hfw hfw2 hb
    go_enter Try.func3, Try.ntmps3
    go_wp2_with fail
    refine (HAW.out _).mono ?_
    rintro e w1 ⟨rfl, hf⟩
    have HF1 := Lib.hid hf
    clear hf
    go_wp2_with fail
    refine (HFW.out _ HF1.out).mono ?_
    rintro e w2 ⟨rfl, rfl⟩
    go_wp2_with fail
    go_loopw [3, 4] (fun v i wr => ∃ k : Nat, k ≤ n ∧ i = .int .i64 (k : Int) ∧ v = .bool (rightsB (L.take k)) ∧ Hid (Fr (fun _ => False) w wr)) (fun _ i _ => n - (intOf i).toNat)
    case atStart => exact ⟨0, Nat.zero_le _, rfl, rfl, HF1⟩
    case round =>
      obtain ⟨k, hk, rfl, rfl, HF⟩ := hrel
      rename World => wr
      by_cases hlt : k < n
      · obtain ⟨x, hx⟩ : ∃ x, L[k]? = some x := ⟨_, List.getElem?_eq_getElem (by have := HLN.out; omega)⟩
        obtain ⟨g, o, hA, _, _⟩ := HL.out.1.2 k x hx
        have HAT : Hid (∀ w', Fr (fun _ => False) w w' → Oat w' g (o + k * 13) x) := Lib.hid (fun w' hf => by
          obtain ⟨b', o', e, _, hat⟩ := HL.out.1.2 k x hx
          rw [hA] at e
          injection e with e
          injection e with e1 e2
          subst e1 e2
          exact hat.fr hf (fun h => h))
        subst hA
        have hmem := List.mem_of_getElem? hx
        have hpr := HL.out.2 x hmem
        have hxs := (HSH.out x hmem).1
        have hxv := HV.out x hmem
        obtain ⟨q, hq⟩ : ∃ q, rightO x.o = q := ⟨_, rfl⟩
        obtain ⟨a, ha⟩ : ∃ a, rightsB (L.take k) = a := ⟨_, rfl⟩
        have hnext : rightsB (L.take (k + 1)) = (a && q) := by
          unfold rightsB at ha ⊢
          rw [List.take_add_one, hx, List.all_append, ha, Option.toList_some]
          simp [hq]
        have hr1 := fun w' (hf : Fr (fun _ => False) w w') => roRight_any x w' hxs hxv (hpr.fr0 hf)
        have hr2 := fun w' (hf : Fr (fun _ => False) w w') => oright1 x w' rfl hxs hxv (hpr.fr0 hf)
        simp only [hq, opc] at hr1
        simp only [hq] at hr2
        have HR1 := Lib.hid hr1
        have HR2 := Lib.hid hr2
        have HNX := Lib.hid hnext
        rw [ha]
        obtain ⟨k0, k1, k2, k3, k4, k5, k6, k7, k8, k9, k10, k11, k12⟩ := HAT.out wr HF.out
        clear hx hmem hpr hxs hxv hq ha hnext hr1 hr2
        go_wp2_with fail
        refine (HR1.out _ HF.out).mono ?_
        rintro e w4 ⟨rfl, hf⟩
        have HF4 := Lib.hid (HF.out.trans hf (fun _ _ h => h))
        clear hf k0 k1 k2 k3 k4 k5 k6 k7 k8 k9 k10 k11 k12
        obtain ⟨k0, k1, k2, k3, k4, k5, k6, k7, k8, k9, k10, k11, k12⟩ := HAT.out w4 HF4.out
        have tq : (q != q) = false := by simp
        cases a with
        | true =>
          have HN2 : Hid (rightsB (L.take (k + 1)) = q) := Lib.hid (by rw [HNX.out, Bool.true_and])
          go_wp2_with fail
          refine (HR2.out _ HF4.out).mono ?_
          rintro e w5 ⟨rfl, hf⟩
          have HF5 := Lib.hid (HF4.out.trans hf (fun _ _ h => h))
          clear hf k0 k1 k2 k3 k4 k5 k6 k7 k8 k9 k10 k11 k12
          go_wp2_with fail
          exact ⟨⟨k + 1, by omega, by go_num, by rw [HN2.out], HF5⟩, by simp [intOf]; omega⟩
        | false =>
          have HN2 : Hid (rightsB (L.take (k + 1)) = false) := Lib.hid (by rw [HNX.out, Bool.false_and])
          go_wp2_with fail
          refine (HR2.out _ HF4.out).mono ?_
          rintro e w5 ⟨rfl, hf⟩
          have HF5 := Lib.hid (HF4.out.trans hf (fun _ _ h => h))
          clear hf k0 k1 k2 k3 k4 k5 k6 k7 k8 k9 k10 k11 k12
          go_wp2_with fail
          exact ⟨⟨k + 1, by omega, by go_num, by rw [HN2.out], HF5⟩, by simp [intOf]; omega⟩
      · obtain rfl : k = n := by omega
        obtain ⟨r, hr⟩ : ∃ r, rightsB L = r := ⟨_, rfl⟩
        have e : rightsB (L.take k) = r := by rw [List.take_of_length_le (by have := HLN.out; omega), hr]
        rw [e]
        have hro := fun w' (hf : Fr (fun _ => False) w w') => oRight_any A k c L w' (HL.out.fr hf) (by omega) (fun x hx => ⟨(HSH.out x hx).1, HV.out x hx⟩)
        simp only [hr] at hro
        have HRO := Lib.hid hro
        have tq : (r == r) = true := by simp
        clear e hr hro
        go_wp2_with fail
        refine (HRO.out _ HF.out).mono ?_
        rintro e w5 ⟨rfl, hf⟩
        have HF5 := Lib.hid (HF.out.trans hf (fun _ _ h => h))
        clear hf
        go_wp2_with fail
        go_ret
        exact ⟨rfl, HF5.out⟩
end Go.Proofs.Ytmiofhoojahpjaa
