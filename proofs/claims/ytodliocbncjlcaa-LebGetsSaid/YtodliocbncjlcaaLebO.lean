/-
  LebGets, where bytes have a last one.
-/
import Derived.Test.YtodliocbncjlcaaLebI
import Derived.Deep.DeepMust
import Derived.Deep.RegionHeld3
import Derived.Deep.CutRange
import Derived.Deep.DeepCutAuto
namespace Go.Proofs.Ytodliocbncjlcaa
open Go.RowKit LebM Mem Go.Lib
attribute [local go_sem ↓] Go.wp_at_zero Go.wp_at_succ
set_option linter.unusedVariables false

set_option maxRecDepth 100000 in
set_option maxHeartbeats 3200000 in
theorem gets_ff (A : Option Addr) (n c : Nat) (B : List UInt8) (w : World) (hr : Rd w A n (B.map bytec)) (_hmc : n ≤ c) (_hcm : c ≤ maxLen) (hbig : ¬ 500 < n) (p : Nat) (L : List UInt8) (N : Nat) (M : Int) (v a : Nat) (hS : Seen B p L N M v a) (bu : ¬ u N = L) (bs : ¬ s M = L) :
    Calls Try.prog 4 #[.slice A n c] w fun e w' => e = .returned (.bool true) ∧ Fr (fun _ => False) w w' := by
  have hBn : B.length = n := by simpa using hr.1
  have hpn : p + 1 ≤ n := by have := hS.hlen; omega
  have hN64 := hS.hN
  have hM0 := hS.hM0
  have hM1 := hS.hM1
  have hp9 := hS.p9
  have hv := hS.hv
  have ha := hS.ha
  unfold maxLen at _hcm
  -- the contracts
  have K1 := fun w' (h : Fr (fun _ => False) w w') => GetU_any A n c B w' (hr.fr h (fun _ _ h => h)) _hmc
  have K2 := fun w' (h : Fr (fun _ => False) w w') => GetS_any A n c B w' (hr.fr h (fun _ _ h => h)) _hmc
  have K3 := fun w' (h : Fr (fun _ => False) w w') => rspan_any A n c B w' (hr.fr h (fun _ _ h => h))
  rw [hS.hgu] at K1
  rw [hS.hgs] at K2
  rw [hS.hE, hS.hK] at K3
  have hcut : ∀ w', Fr (fun _ => False) w w' → (convert 25 9 (.slice A (p + 1) c)).run Try.prog w' = .ok (.string (txt L)) w' := by
    intro w' hf
    have h := Rd.cut (hr.fr hf (fun _ _ h => h)) (k := 0) (m := p + 1) (cap := c) (by omega) hpn _hmc
    have e : (if c = 0 then A else A.map (·.add 0)) = A := by
      split
      · rfl
      · cases A with
        | none => rfl
        | some ad => simp [Addr.add]
    rw [e, ← List.map_take, List.drop_zero, ← hS.hL] at h
    exact str_rd h c
  obtain ⟨ad, y, hA, hy, _⟩ := hr.at_ (show p < n by omega)
  have hyv : y = .int .u8 (v : Int) := by
    rw [List.getElem?_map, hS.lastv] at hy
    rw [← bytec_ofNat (by omega)]
    exact (Option.some.inj hy).symm
  have hcell1 : ∀ w', Fr (fun _ => False) w w' → w'.cell? (ad.add p) = some (.int .u8 (v : Int)) := by
    intro w' hf
    obtain ⟨ad', y', hA', hy', hc'⟩ := (hr.fr hf (fun _ _ h => h)).at_ (show p < n by omega)
    rw [hA] at hA'
    injection hA' with hA'
    subst hA'
    rw [hy] at hy'
    injection hy' with hy'
    rw [hc', ← hy', hyv]
  have hcell2 : ∀ w', 0 < p → Fr (fun _ => False) w w' → w'.cell? (ad.add (p - 1)) = some (.int .u8 (a : Int)) := by
    intro w' hp hf
    obtain ⟨ad', y', hA', hy', hc'⟩ := (hr.fr hf (fun _ _ h => h)).at_ (show p - 1 < n by omega)
    rw [hA] at hA'
    injection hA' with hA'
    subst hA'
    rw [List.getElem?_map, hS.aheada hp] at hy'
    rw [hc', ← (Option.some.inj hy'), bytec_ofNat (by omega)]
  have hu := hS.hu
  have hs := hS.hs
  subst hA
  have HK3 := Lib.hid K3
  have HCUT := Lib.hid hcut
  have HC1 := Lib.hid hcell1
  have HC2 := Lib.hid hcell2
  clear hyv hy K3 hcut hcell1 hcell2 hS hr hBn
  rw [if_neg bu] at K1
  rw [if_neg bs] at K2
  have HK1 := Lib.hid K1
  have HK2 := Lib.hid K2
  have HU := Lib.hid (show ¬ (p = 0 ∨ v ≠ 0 ∧ (p < 9 ∨ v = 1)) from fun h => bu (hu.2 h))
  have HS := Lib.hid (show ¬ (p = 0 ∨ ¬ (v = 0 ∧ a % 128 < 64 ∨ v = 127 ∧ 64 ≤ a % 128) ∧ (p < 9 ∨ v = 0 ∨ v = 127)) from fun h => bs (hs.2 h))
  clear K1 K2 hu hs bu bs
  go_enter Try.func4, Try.ntmps4
  go_wp2_with fail
  refine (awake_any _).mono ?_
  rintro e w1 ⟨rfl, hfr1⟩
  go_wp2_with fail
  refine (HK1.out _ hfr1).mono ?_
  rintro e w2 ⟨rfl, hfr2⟩
  have hF2 := hfr1.trans hfr2 (fun _ _ h => h)
  go_wp2_with fail
  refine (HK2.out _ hF2).mono ?_
  rintro e w3 ⟨rfl, hfr3⟩
  have hF3 := hF2.trans hfr3 (fun _ _ h => h)
  go_wp2_with fail
  refine (HK3.out _ hF3).mono ?_
  rintro e w4 ⟨rfl, rfl⟩
  have HF3 := Lib.hid hF3
  clear hfr1 hfr2 hfr3 hF2 hF3
  have hpc : ((p : Int) + 1) ≤ (c : Int) := by omega
  have hpc0 : (0 : Int) ≤ (p : Int) + 1 := by omega
  have hb0 := HCUT.out w3.drew HF3.out.drew
  go_upto_region 8 with fail
  go_cut [101] (fun v wx => v = .bool false ∧ Fr (fun _ => False) w wx)
  case first =>
    refine wp_region_noPanic ?_
    refine wp_region_held_drew (S := (fun w' => (convert 25 9 (.slice (some ad) (p + 1) c)).run Try.prog w' = .ok (.string (txt L)) w')) (by kernel_rfl) ?_ (fun hHeld => ?_)
    · exact HCUT.out _ HF3.out.drew
    refine wpAnyH_take (i := 0) (v := ?v0) rfl (by kernel_rfl) (by kernel_rfl) (by kernel_rfl) (fun _ _ _ h => h) (Or.inl ⟨by rfl, ?hy0⟩) hHeld ?rest0
    case hy0 => intro w hSw; (try dsimp only at hSw); go_simp; try (with_reducible rfl)
    (try simp only [Act.put, List.setIfInBounds_toArray, List.set_cons_zero, List.set_cons_succ, List.getElem_toArray, List.getElem_cons_zero])
    refine wpAnyH_take (i := 1) (v := ?v1) rfl (by kernel_rfl) (by kernel_rfl) (by kernel_rfl) (fun _ _ _ h => h) (Or.inl ⟨by rfl, ?hy1⟩) hHeld ?rest1
    case hy1 => intro w hSw; (try dsimp only at hSw); go_simp; try (with_reducible rfl)
    (try simp only [Act.put, List.setIfInBounds_toArray, List.set_cons_zero, List.set_cons_succ, List.getElem_toArray, List.getElem_cons_zero, List.getElem_cons_succ])
    refine wpAnyH_take (i := 2) (v := ?v2) rfl (by kernel_rfl) (by kernel_rfl) (by kernel_rfl) (fun _ _ _ h => h) (Or.inl ⟨by rfl, ?hy2⟩) hHeld ?rest2
    case hy2 => intro w hSw; (try dsimp only at hSw); go_simp; try (with_reducible rfl)
    (try simp only [Act.put, List.setIfInBounds_toArray, List.set_cons_zero, List.set_cons_succ, List.getElem_toArray, List.getElem_cons_zero, List.getElem_cons_succ])
    refine wpAnyH_take (i := 3) (v := undef) rfl (by kernel_rfl) (by kernel_rfl) (by kernel_rfl) (fun _ _ _ h => h) (Or.inr ⟨by rfl, rfl⟩) hHeld ?_
    (try simp only [Act.put, List.setIfInBounds_toArray, List.set_cons_zero, List.set_cons_succ, List.getElem_toArray, List.getElem_cons_zero, List.getElem_cons_succ])
    refine wpAnyH_take (i := 4) (v := undef) rfl (by kernel_rfl) (by kernel_rfl) (by kernel_rfl) (fun _ _ _ h => h) (Or.inr ⟨by rfl, rfl⟩) hHeld ?_
    (try simp only [Act.put, List.setIfInBounds_toArray, List.set_cons_zero, List.set_cons_succ, List.getElem_toArray, List.getElem_cons_zero, List.getElem_cons_succ])
    refine wpAnyH_take (i := 5) (v := undef) rfl (by kernel_rfl) (by kernel_rfl) (by kernel_rfl) (fun _ _ _ h => h) (Or.inr ⟨by rfl, rfl⟩) hHeld ?_
    (try simp only [Act.put, List.setIfInBounds_toArray, List.set_cons_zero, List.set_cons_succ, List.getElem_toArray, List.getElem_cons_zero, List.getElem_cons_succ])
    refine wpAnyH_take (i := 6) (v := undef) rfl (by kernel_rfl) (by kernel_rfl) (by kernel_rfl) (fun _ _ _ h => h) (Or.inr ⟨by rfl, rfl⟩) hHeld ?_
    (try simp only [Act.put, List.setIfInBounds_toArray, List.set_cons_zero, List.set_cons_succ, List.getElem_toArray, List.getElem_cons_zero, List.getElem_cons_succ])
    refine wpAnyH_take (i := 7) (v := undef) rfl (by kernel_rfl) (by kernel_rfl) (by kernel_rfl) (fun _ _ _ h => h) (Or.inr ⟨by rfl, rfl⟩) hHeld ?_
    (try simp only [Act.put, List.setIfInBounds_toArray, List.set_cons_zero, List.set_cons_succ, List.getElem_toArray, List.getElem_cons_zero, List.getElem_cons_succ])
    refine wpAnyH_take (i := 8) (v := undef) rfl (by kernel_rfl) (by kernel_rfl) (by kernel_rfl) (fun _ _ _ h => h) (Or.inr ⟨by rfl, rfl⟩) hHeld ?_
    (try simp only [Act.put, List.setIfInBounds_toArray, List.set_cons_zero, List.set_cons_succ, List.getElem_toArray, List.getElem_cons_zero, List.getElem_cons_succ])
    refine wpAnyH_take (i := 9) (v := undef) rfl (by kernel_rfl) (by kernel_rfl) (by kernel_rfl) (fun _ _ _ h => h) (Or.inr ⟨by rfl, rfl⟩) hHeld ?_
    (try simp only [Act.put, List.setIfInBounds_toArray, List.set_cons_zero, List.set_cons_succ, List.getElem_toArray, List.getElem_cons_zero, List.getElem_cons_succ])
    refine wpAnyH_take (i := 10) (v := undef) rfl (by kernel_rfl) (by kernel_rfl) (by kernel_rfl) (fun _ _ _ h => h) (Or.inr ⟨by rfl, rfl⟩) hHeld ?_
    (try simp only [Act.put, List.setIfInBounds_toArray, List.set_cons_zero, List.set_cons_succ, List.getElem_toArray, List.getElem_cons_zero, List.getElem_cons_succ])
    refine wpAnyH_take (i := 11) (v := undef) rfl (by kernel_rfl) (by kernel_rfl) (by kernel_rfl) (fun _ _ _ h => h) (Or.inr ⟨by rfl, rfl⟩) hHeld ?_
    (try simp only [Act.put, List.setIfInBounds_toArray, List.set_cons_zero, List.set_cons_succ, List.getElem_toArray, List.getElem_cons_zero, List.getElem_cons_succ])
    refine wpAnyH_take (i := 12) (v := undef) rfl (by kernel_rfl) (by kernel_rfl) (by kernel_rfl) (fun _ _ _ h => h) (Or.inr ⟨by rfl, rfl⟩) hHeld ?_
    (try simp only [Act.put, List.setIfInBounds_toArray, List.set_cons_zero, List.set_cons_succ, List.getElem_toArray, List.getElem_cons_zero, List.getElem_cons_succ])
    refine wpAnyH_take (i := 13) (v := undef) rfl (by kernel_rfl) (by kernel_rfl) (by kernel_rfl) (fun _ _ _ h => h) (Or.inr ⟨by rfl, rfl⟩) hHeld ?_
    (try simp only [Act.put, List.setIfInBounds_toArray, List.set_cons_zero, List.set_cons_succ, List.getElem_toArray, List.getElem_cons_zero, List.getElem_cons_succ])
    refine wpAnyH_take (i := 14) (v := undef) rfl (by kernel_rfl) (by kernel_rfl) (by kernel_rfl) (fun _ _ _ h => h) (Or.inr ⟨by rfl, rfl⟩) hHeld ?_
    (try simp only [Act.put, List.setIfInBounds_toArray, List.set_cons_zero, List.set_cons_succ, List.getElem_toArray, List.getElem_cons_zero, List.getElem_cons_succ])
    refine wpAnyH_take (i := 15) (v := undef) rfl (by kernel_rfl) (by kernel_rfl) (by kernel_rfl) (fun _ _ _ h => h) (Or.inr ⟨by rfl, rfl⟩) hHeld ?_
    (try simp only [Act.put, List.setIfInBounds_toArray, List.set_cons_zero, List.set_cons_succ, List.getElem_toArray, List.getElem_cons_zero, List.getElem_cons_succ])
    refine wpAnyH_take (i := 16) (v := ?v16) rfl (by kernel_rfl) (by kernel_rfl) (by kernel_rfl) (fun _ _ _ h => h) (Or.inl ⟨by rfl, ?hy16⟩) hHeld ?rest16
    case hy16 => intro w hSw; (try dsimp only at hSw); go_simp; try (with_reducible rfl)
    (try simp only [Act.put, List.setIfInBounds_toArray, List.set_cons_zero, List.set_cons_succ, List.getElem_toArray, List.getElem_cons_zero, List.getElem_cons_succ])
    refine wpAnyH_take (i := 17) (v := ?v17) rfl (by kernel_rfl) (by kernel_rfl) (by kernel_rfl) (fun _ _ _ h => h) (Or.inl ⟨by rfl, ?hy17⟩) hHeld ?rest17
    case hy17 => intro w hSw; (try dsimp only at hSw); go_simp; try (with_reducible rfl)
    (try simp only [Act.put, List.setIfInBounds_toArray, List.set_cons_zero, List.set_cons_succ, List.getElem_toArray, List.getElem_cons_zero, List.getElem_cons_succ])
    refine wpAnyH_take (i := 18) (v := ?v18) rfl (by kernel_rfl) (by kernel_rfl) (by kernel_rfl) (fun _ _ _ h => h) (Or.inl ⟨by rfl, ?hy18⟩) hHeld ?rest18
    case hy18 => intro w hSw; (try dsimp only at hSw); go_simp; try (with_reducible rfl)
    (try simp only [Act.put, List.setIfInBounds_toArray, List.set_cons_zero, List.set_cons_succ, List.getElem_toArray, List.getElem_cons_zero, List.getElem_cons_succ])
    refine wpAnyH_take (i := 19) (v := ?v19) rfl (by kernel_rfl) (by kernel_rfl) (by kernel_rfl) (fun _ _ _ h => h) (Or.inl ⟨by rfl, ?hy19⟩) hHeld ?rest19
    case hy19 => intro w hSw; (try dsimp only at hSw); go_simp; try (with_reducible rfl)
    (try simp only [Act.put, List.setIfInBounds_toArray, List.set_cons_zero, List.set_cons_succ, List.getElem_toArray, List.getElem_cons_zero, List.getElem_cons_succ])
    refine wpAnyH_take (i := 20) (v := ?v20) rfl (by kernel_rfl) (by kernel_rfl) (by kernel_rfl) (fun _ _ _ h => h) (Or.inl ⟨by rfl, ?hy20⟩) hHeld ?rest20
    case hy20 => intro w hSw; (try dsimp only at hSw); go_simp; try (with_reducible rfl)
    (try simp only [Act.put, List.setIfInBounds_toArray, List.set_cons_zero, List.set_cons_succ, List.getElem_toArray, List.getElem_cons_zero, List.getElem_cons_succ])
    refine wpAnyH_take (i := 21) (v := undef) rfl (by kernel_rfl) (by kernel_rfl) (by kernel_rfl) (fun _ _ _ h => h) (Or.inr ⟨by rfl, rfl⟩) hHeld ?_
    (try simp only [Act.put, List.setIfInBounds_toArray, List.set_cons_zero, List.set_cons_succ, List.getElem_toArray, List.getElem_cons_zero, List.getElem_cons_succ])
    refine wpAnyH_take (i := 22) (v := undef) rfl (by kernel_rfl) (by kernel_rfl) (by kernel_rfl) (fun _ _ _ h => h) (Or.inr ⟨by rfl, rfl⟩) hHeld ?_
    (try simp only [Act.put, List.setIfInBounds_toArray, List.set_cons_zero, List.set_cons_succ, List.getElem_toArray, List.getElem_cons_zero, List.getElem_cons_succ])
    refine wpAnyH_take (i := 23) (v := undef) rfl (by kernel_rfl) (by kernel_rfl) (by kernel_rfl) (fun _ _ _ h => h) (Or.inr ⟨by rfl, rfl⟩) hHeld ?_
    (try simp only [Act.put, List.setIfInBounds_toArray, List.set_cons_zero, List.set_cons_succ, List.getElem_toArray, List.getElem_cons_zero, List.getElem_cons_succ])
    refine wpAnyH_take (i := 24) (v := undef) rfl (by kernel_rfl) (by kernel_rfl) (by kernel_rfl) (fun _ _ _ h => h) (Or.inr ⟨by rfl, rfl⟩) hHeld ?_
    (try simp only [Act.put, List.setIfInBounds_toArray, List.set_cons_zero, List.set_cons_succ, List.getElem_toArray, List.getElem_cons_zero, List.getElem_cons_succ])
    refine wpAnyH_take (i := 25) (v := undef) rfl (by kernel_rfl) (by kernel_rfl) (by kernel_rfl) (fun _ _ _ h => h) (Or.inr ⟨by rfl, rfl⟩) hHeld ?_
    (try simp only [Act.put, List.setIfInBounds_toArray, List.set_cons_zero, List.set_cons_succ, List.getElem_toArray, List.getElem_cons_zero, List.getElem_cons_succ])
    refine wpAnyH_take (i := 26) (v := undef) rfl (by kernel_rfl) (by kernel_rfl) (by kernel_rfl) (fun _ _ _ h => h) (Or.inr ⟨by rfl, rfl⟩) hHeld ?_
    (try simp only [Act.put, List.setIfInBounds_toArray, List.set_cons_zero, List.set_cons_succ, List.getElem_toArray, List.getElem_cons_zero, List.getElem_cons_succ])
    refine wpAnyH_take (i := 27) (v := undef) rfl (by kernel_rfl) (by kernel_rfl) (by kernel_rfl) (fun _ _ _ h => h) (Or.inr ⟨by rfl, rfl⟩) hHeld ?_
    (try simp only [Act.put, List.setIfInBounds_toArray, List.set_cons_zero, List.set_cons_succ, List.getElem_toArray, List.getElem_cons_zero, List.getElem_cons_succ])
    refine wpAnyH_take (i := 28) (v := undef) rfl (by kernel_rfl) (by kernel_rfl) (by kernel_rfl) (fun _ _ _ h => h) (Or.inr ⟨by rfl, rfl⟩) hHeld ?_
    (try simp only [Act.put, List.setIfInBounds_toArray, List.set_cons_zero, List.set_cons_succ, List.getElem_toArray, List.getElem_cons_zero, List.getElem_cons_succ])
    refine wpAnyH_take (i := 29) (v := undef) rfl (by kernel_rfl) (by kernel_rfl) (by kernel_rfl) (fun _ _ _ h => h) (Or.inr ⟨by rfl, rfl⟩) hHeld ?_
    (try simp only [Act.put, List.setIfInBounds_toArray, List.set_cons_zero, List.set_cons_succ, List.getElem_toArray, List.getElem_cons_zero, List.getElem_cons_succ])
    refine wpAnyH_take (i := 30) (v := undef) rfl (by kernel_rfl) (by kernel_rfl) (by kernel_rfl) (fun _ _ _ h => h) (Or.inr ⟨by rfl, rfl⟩) hHeld ?_
    (try simp only [Act.put, List.setIfInBounds_toArray, List.set_cons_zero, List.set_cons_succ, List.getElem_toArray, List.getElem_cons_zero, List.getElem_cons_succ])
    refine wpAnyH_take (i := 31) (v := undef) rfl (by kernel_rfl) (by kernel_rfl) (by kernel_rfl) (fun _ _ _ h => h) (Or.inr ⟨by rfl, rfl⟩) hHeld ?_
    (try simp only [Act.put, List.setIfInBounds_toArray, List.set_cons_zero, List.set_cons_succ, List.getElem_toArray, List.getElem_cons_zero, List.getElem_cons_succ])
    refine wpAnyH_take (i := 32) (v := undef) rfl (by kernel_rfl) (by kernel_rfl) (by kernel_rfl) (fun _ _ _ h => h) (Or.inr ⟨by rfl, rfl⟩) hHeld ?_
    (try simp only [Act.put, List.setIfInBounds_toArray, List.set_cons_zero, List.set_cons_succ, List.getElem_toArray, List.getElem_cons_zero, List.getElem_cons_succ])
    refine wpAnyH_take (i := 33) (v := undef) rfl (by kernel_rfl) (by kernel_rfl) (by kernel_rfl) (fun _ _ _ h => h) (Or.inr ⟨by rfl, rfl⟩) hHeld ?_
    (try simp only [Act.put, List.setIfInBounds_toArray, List.set_cons_zero, List.set_cons_succ, List.getElem_toArray, List.getElem_cons_zero, List.getElem_cons_succ])
    refine wpAnyH_take (i := 34) (v := ?v34) rfl (by kernel_rfl) (by kernel_rfl) (by kernel_rfl) (fun _ _ _ h => h) (Or.inl ⟨by rfl, ?hy34⟩) hHeld ?rest34
    case hy34 => intro w hSw; (try dsimp only at hSw); go_simp; try (with_reducible rfl)
    (try simp only [Act.put, List.setIfInBounds_toArray, List.set_cons_zero, List.set_cons_succ, List.getElem_toArray, List.getElem_cons_zero, List.getElem_cons_succ])
    refine wpAnyH_take (i := 35) (v := ?v35) rfl (by kernel_rfl) (by kernel_rfl) (by kernel_rfl) (fun _ _ _ h => h) (Or.inl ⟨by rfl, ?hy35⟩) hHeld ?rest35
    case hy35 => intro w hSw; (try dsimp only at hSw); go_simp; try (with_reducible rfl)
    (try simp only [Act.put, List.setIfInBounds_toArray, List.set_cons_zero, List.set_cons_succ, List.getElem_toArray, List.getElem_cons_zero, List.getElem_cons_succ])
    refine wpAnyH_done (by kernel_rfl) ?_ _
    refine NoPanic.normal ?_
    go_wp2_with fail
    go_meet
    exact ⟨rfl, HF3.out.drew⟩
  case rest =>
    obtain ⟨rfl, hF⟩ := hcut
    have HFX := Lib.hid hF
    have hx1 := HC1.out _ HFX.out
    clear hF
    rcases (show p = 0 ∨ 0 < p by omega) with hp | hp
    · exfalso; have hu := HU.out; have hs := HS.out; omega
    · have hx2 := HC2.out _ hp HFX.out
      obtain ⟨q, hq, hq0⟩ := bit6 a ha
      have t1 : (((p : Int) + 1) == 1) = false := by simp; omega
      rcases (show v = 0 ∨ v = 1 ∨ v = 127 ∨ (v ≠ 0 ∧ v ≠ 1 ∧ v ≠ 127) by omega) with hv0 | hv0 | hv0 | hv0 <;> rcases (show p < 9 ∨ p = 9 by omega) with hp8 | hp8 <;> rcases (show a % 128 < 64 ∨ 64 ≤ a % 128 by omega) with ha6 | ha6
      · have v0 : ((v : Int) == 0) = true := by simp; omega
        have n0 : ((v : Int) != 0) = false := by simp; omega
        have v1 : ((v : Int) == 1) = false := by simp; omega
        have n1 : ((v : Int) != 1) = true := by simp; omega
        have v127 : ((v : Int) == 127) = false := by simp; omega
        have n127 : ((v : Int) != 127) = true := by simp; omega
        have q1 : ((q : Int) == 0) = true := by simp; omega
        have q2 : ((q : Int) != 0) = false := by simp; omega
        have p1 : decide ((p : Int) + 1 < 10) = true := by simp; omega
        clear hv0 hp8 ha6 hq0
        go_wp2
        all_goals go_ret
        all_goals exact ⟨rfl, HFX.out⟩
      · exfalso; have hu := HU.out; have hs := HS.out; omega
      · have v0 : ((v : Int) == 0) = true := by simp; omega
        have n0 : ((v : Int) != 0) = false := by simp; omega
        have v1 : ((v : Int) == 1) = false := by simp; omega
        have n1 : ((v : Int) != 1) = true := by simp; omega
        have v127 : ((v : Int) == 127) = false := by simp; omega
        have n127 : ((v : Int) != 127) = true := by simp; omega
        have q1 : ((q : Int) == 0) = true := by simp; omega
        have q2 : ((q : Int) != 0) = false := by simp; omega
        have p1 : decide ((p : Int) + 1 < 10) = false := by simp; omega
        clear hv0 hp8 ha6 hq0
        go_wp2
        all_goals go_ret
        all_goals exact ⟨rfl, HFX.out⟩
      · exfalso; have hu := HU.out; have hs := HS.out; omega
      · exfalso; have hu := HU.out; have hs := HS.out; omega
      · exfalso; have hu := HU.out; have hs := HS.out; omega
      · exfalso; have hu := HU.out; have hs := HS.out; omega
      · exfalso; have hu := HU.out; have hs := HS.out; omega
      · exfalso; have hu := HU.out; have hs := HS.out; omega
      · exfalso; have hu := HU.out; have hs := HS.out; omega
      · exfalso; have hu := HU.out; have hs := HS.out; omega
      · have v0 : ((v : Int) == 0) = false := by simp; omega
        have n0 : ((v : Int) != 0) = true := by simp; omega
        have v1 : ((v : Int) == 1) = false := by simp; omega
        have n1 : ((v : Int) != 1) = true := by simp; omega
        have v127 : ((v : Int) == 127) = true := by simp; omega
        have n127 : ((v : Int) != 127) = false := by simp; omega
        have q1 : ((q : Int) == 0) = false := by simp; omega
        have q2 : ((q : Int) != 0) = true := by simp; omega
        have p1 : decide ((p : Int) + 1 < 10) = false := by simp; omega
        clear hv0 hp8 ha6 hq0
        go_wp2
        all_goals go_ret
        all_goals exact ⟨rfl, HFX.out⟩
      · exfalso; have hu := HU.out; have hs := HS.out; omega
      · exfalso; have hu := HU.out; have hs := HS.out; omega
      · have v0 : ((v : Int) == 0) = false := by simp; omega
        have n0 : ((v : Int) != 0) = true := by simp; omega
        have v1 : ((v : Int) == 1) = false := by simp; omega
        have n1 : ((v : Int) != 1) = true := by simp; omega
        have v127 : ((v : Int) == 127) = false := by simp; omega
        have n127 : ((v : Int) != 127) = true := by simp; omega
        have q1 : ((q : Int) == 0) = true := by simp; omega
        have q2 : ((q : Int) != 0) = false := by simp; omega
        have p1 : decide ((p : Int) + 1 < 10) = false := by simp; omega
        clear hv0 hp8 ha6 hq0
        go_wp2
        all_goals go_ret
        all_goals exact ⟨rfl, HFX.out⟩
      · have v0 : ((v : Int) == 0) = false := by simp; omega
        have n0 : ((v : Int) != 0) = true := by simp; omega
        have v1 : ((v : Int) == 1) = false := by simp; omega
        have n1 : ((v : Int) != 1) = true := by simp; omega
        have v127 : ((v : Int) == 127) = false := by simp; omega
        have n127 : ((v : Int) != 127) = true := by simp; omega
        have q1 : ((q : Int) == 0) = false := by simp; omega
        have q2 : ((q : Int) != 0) = true := by simp; omega
        have p1 : decide ((p : Int) + 1 < 10) = false := by simp; omega
        clear hv0 hp8 ha6 hq0
        go_wp2
        all_goals go_ret
        all_goals exact ⟨rfl, HFX.out⟩

end Go.Proofs.Ytodliocbncjlcaa
