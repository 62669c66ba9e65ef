/-
  Layer 13, the program: read.
-/
import Derived.Test.YthioijbifmfhlaaBooC
namespace Go.Proofs.Ythioijbifmfhlaa
open Go.RowKit Mem Go.Lib BooM LebM
attribute [local go_sem ↓] Go.wp_at_zero Go.wp_at_succ
set_option linter.unusedVariables false

def slen : Value → Nat
  | .slice _ n _ => n
  | _ => 0
theorem scan_end {most : Int} {f : Nat} {l : List Nat} {c : Nat} {B : List UInt8} (h : B = []) : scan most f l c B = (l, c, 0) := by subst h; exact scan_nil most f l c
theorem scan_bad {most : Int} {f : Nat} {l : List Nat} {c : Nat} {B : List UInt8} (hB : B ≠ []) (hf : B.length ≤ f) (he : (gu B).2.2 ≠ 0) : scan most f l c B = ([], 0, (gu B).2.2) := by
  cases f with
  | zero => exact absurd (List.length_eq_zero_iff.1 (by omega)) hB
  | succ f => rw [scan, if_neg hB, if_pos he]
theorem scan_over {most : Int} {f : Nat} {l : List Nat} {c : Nat} {B : List UInt8} (hB : B ≠ []) (hf : B.length ≤ f) (he : (gu B).2.2 = 0) (hm : most < (c : Int) + ((gu B).1 : Nat)) : scan most f l c B = ([], 0, 4) := by
  cases f with
  | zero => exact absurd (List.length_eq_zero_iff.1 (by omega)) hB
  | succ f => rw [scan, if_neg hB, if_neg (by omega), if_pos hm]
theorem scan_more {most : Int} {f : Nat} {l : List Nat} {c : Nat} {B : List UInt8} (hB : B ≠ []) (hf : B.length ≤ f) (he : (gu B).2.2 = 0) (hm : ¬ most < (c : Int) + ((gu B).1 : Nat)) :
    scan most f l c B = scan most (f - 1) (l ++ [(gu B).1]) (c + (gu B).1) (B.drop (gu B).2.1) := by
  cases f with
  | zero => exact absurd (List.length_eq_zero_iff.1 (by omega)) hB
  | succ f => rw [scan, if_neg hB, if_neg (by omega), if_neg hm]; rfl

set_option maxRecDepth 100000 in
set_option maxHeartbeats 3200000 in
theorem read_any (A : Option Addr) (n c : Nat) (B : List UInt8) (most : Int) (w : World) (hL : Rd w A n (B.map bytec)) (hc : n ≤ c) (hn : n ≤ 1000000) (h0 : -9223372036854775808 ≤ most) (h1 : most ≤ 100000000) :
    Calls Try.prog 12 #[.slice A n c, .int .i64 most] w fun e w' => ∃ A' c', e = .returned (.tuple #[.slice A' (readB most B).1.length c', .int .i64 ((readB most B).2.1 : Nat), .int .i64 ((readB most B).2.2 : Nat)]) ∧ OwU w' w.heap.size A' c' (readB most B).1 ∧ Fr (fun _ => False) w w' := by
  have HL := Lib.hid hL
  have hln : B.length = n := by simpa using hL.1
  have HLN := Lib.hid hln
  obtain ⟨base, hbase⟩ : ∃ base, base = w.heap.size := ⟨_, rfl⟩
  have HB := Lib.hid hbase
  rw [← hbase]
  obtain ⟨Rl, Rc, Re, hR⟩ : ∃ Rl Rc Re, readB most B = (Rl, Rc, Re) := ⟨_, _, _, rfl⟩
  rw [hR]
  have HR := Lib.hid hR
  obtain ⟨M0, hM0⟩ : ∃ M0, M0 = max most 0 := ⟨_, rfl⟩
  have hM1 : M0 ≤ 100000000 := by omega
  have hM2 : 0 ≤ M0 := by omega
  have HM0 := Lib.hid hM0
  clear hL hln hbase hR hM0
  go_enter Try.func12, Try.ntmps12
  go_wp2_with fail
  go_loopw [0, 7, 8] (fun b s v wr => ∃ (f : Nat) (D : List UInt8) (l : List Nat) (cnt m p : Nat) (A1 : Option Addr) (c1 : Nat) (A2 : Option Addr) (c2 : Nat), b = .slice A1 m c1 ∧ m ≤ c1 ∧ s = .slice A2 p c2 ∧ v = .int .i64 (cnt : Int) ∧ p + m ≤ n ∧ m ≤ f ∧ (cnt : Int) ≤ M0 ∧
    Hid (l.length = p) ∧ Hid (Rd wr A1 m (D.map bytec)) ∧ Hid (0 < m → ∀ ad, A1 = some ad → ad.block < base) ∧ Hid (OwU wr base A2 c2 l) ∧ Hid (scan most f l cnt D = (Rl, Rc, Re)) ∧ Hid (Fr (fun _ => False) w wr)) (fun b _ _ _ => slen b)
  case atStart => exact ⟨B.length, B, [], 0, n, 0, A, c, none, 0, rfl, hc, rfl, rfl, by omega, by have := HLN.out; omega, by omega, rfl, HL.out, (fun h ad e => by rw [HB.out]; exact HL.out.lt h ad e), OwU.nil _ _, HR.out, Fr.refl _ _⟩
  case round =>
    obtain ⟨f, D, l, cnt, m, p, A1, c1, A2, c2, rfl, hmc, rfl, rfl, hpm, hmf, hcm, HLP, HRD, HAB, HO, HSC, HF⟩ := hrel
    rename World => wr
    have hDl : D.length = m := by simpa using HRD.out.1
    have HDL := Lib.hid hDl
    by_cases hz : m = 0
    · have hs := HSC.out
      rw [scan_end (List.length_eq_zero_iff.1 (by omega))] at hs
      injection hs with e1 hs
      injection hs with e2 e3
      have HE1 := Lib.hid e1
      have HE2 := Lib.hid e2
      have HE3 := Lib.hid e3
      subst hz
      clear e1 e2 e3 hDl
      go_wp2_with fail
      refine bodyPost_ret (v := .tuple #[.slice A2 p c2, .int .i64 (cnt : Int), .int .i64 0]) (by simp [results, Try.results12, go_sem]) rfl ⟨A2, c2, ?_, ?_, HF.out⟩
      · rw [← HE1.out, ← HE2.out, ← HE3.out, HLP.out]; rfl
      · rw [← HE1.out]; exact HO.out
    · have hne : D ≠ [] := by intro h; subst h; simp at hDl; omega
      have hg := GetU_any A1 m c1 D wr HRD.out hmc
      obtain ⟨z, hz1⟩ : ∃ z, z = (gu D).1 := ⟨_, rfl⟩
      obtain ⟨k, hk1⟩ : ∃ k, k = (gu D).2.1 := ⟨_, rfl⟩
      obtain ⟨E, hE1⟩ : ∃ E, E = (gu D).2.2 := ⟨_, rfl⟩
      rw [← hz1, ← hk1, ← hE1] at hg
      have HG := Lib.hid hg
      have hlt : decide (0 < (m : Int)) = true := by simp; omega
      have hlt' : decide (0 < m) = true := by simp; omega
      by_cases he : E = 0
      · have hok := gu_ok (hE1 ▸ he : (gu D).2.2 = 0)
        rw [← hz1, ← hk1] at hok
        obtain ⟨hz64, -, hk0, hkm⟩ := hok
        rw [hDl] at hkm
        by_cases hover : most < (cnt : Int) + (z : Nat)
        · have hs := HSC.out
          rw [scan_over hne (by omega) (by omega) (by rw [← hz1]; exact hover)] at hs
          injection hs with e1 hs
          injection hs with e2 e3
          subst e1 e2 e3 he
          by_cases hcmost : most < (cnt : Int)
          · clear hg hz1 hk1 hE1 hne hDl
            have t1 : decide (most < (cnt : Int)) = true := by simpa using hcmost
            go_wp2_with fail
            refine HG.out.mono ?_
            rintro e w2 ⟨rfl, hf2⟩
            have HF2 := Lib.hid (HF.out.trans hf2 (fun _ _ h => h))
            clear hf2
            go_wp2_with fail
            exact bodyPost_ret (v := .tuple #[.slice none 0 0, .int .i64 0, .int .i64 4]) (by simp [results, Try.results12, go_sem]) rfl ⟨none, 0, rfl, OwU.nil _ _, HF2.out⟩
          · obtain ⟨q, hq⟩ : ∃ q : Nat, most - (cnt : Int) = (q : Int) := ⟨(most - cnt).toNat, by omega⟩
            have t1 : decide (most < (cnt : Int)) = false := by simpa using hcmost
            have r1 : IntKind.i64.wrap (most - (cnt : Int)) = (q : Int) := by rw [IntKind.wrap_i64]; omega
            have r2 : IntKind.u64.wrap (q : Int) = (q : Int) := by rw [IntKind.wrap_u64]; omega
            have t2 : decide ((q : Int) < (z : Int)) = true := by simp; omega
            have t2' : decide (q < z) = true := by simp; omega
            clear hg hz1 hk1 hE1 hne hDl hq
            go_wp2_with fail
            refine HG.out.mono ?_
            rintro e w2 ⟨rfl, hf2⟩
            have HF2 := Lib.hid (HF.out.trans hf2 (fun _ _ h => h))
            clear hf2
            go_wp2_with fail
            exact bodyPost_ret (v := .tuple #[.slice none 0 0, .int .i64 0, .int .i64 4]) (by simp [results, Try.results12, go_sem]) rfl ⟨none, 0, rfl, OwU.nil _ _, HF2.out⟩
        · have hs := HSC.out
          rw [scan_more hne (by omega) (by omega) (by rw [← hz1]; exact hover), ← hz1, ← hk1] at hs
          have HS2 := Lib.hid hs
          obtain ⟨q, hq⟩ : ∃ q : Nat, most - (cnt : Int) = (q : Int) := ⟨(most - cnt).toNat, by omega⟩
          have t1 : decide (most < (cnt : Int)) = false := by simp; omega
          have r1 : IntKind.i64.wrap (most - (cnt : Int)) = (q : Int) := by rw [IntKind.wrap_i64]; omega
          have r2 : IntKind.u64.wrap (q : Int) = (q : Int) := by rw [IntKind.wrap_u64]; omega
          have t2 : decide ((q : Int) < (z : Int)) = false := by simp; omega
          have t2' : decide (q < z) = false := by simp; omega
          have r3 : IntKind.i64.wrap (z : Int) = (z : Int) := by rw [IntKind.wrap_i64]; omega
          have r4 : IntKind.i64.wrap ((cnt : Int) + (z : Int)) = ((cnt + z : Nat) : Int) := by rw [IntKind.wrap_i64]; omega
          have hcz : ((cnt + z : Nat) : Int) ≤ M0 := by have := HM0.out; omega
          have hpn : p ≤ 1000000 := by omega
          have hbs : base ≤ wr.heap.size := by have := HB.out; have := HF.out.size; omega
          subst he
          clear hg hs hz1 hk1 hE1 hne hDl hq hover
          go_wp2_with fail
          refine HG.out.mono ?_
          rintro e w2 ⟨rfl, hf2⟩
          have HF2 := Lib.hid (HF.out.trans hf2 (fun _ _ h => h))
          have ho2 := HO.out.fr hf2
          unfold OwU at ho2
          rw [HLP.out] at ho2
          obtain ⟨XS, hXS⟩ : ∃ XS, XS = l.map numc := ⟨_, rfl⟩
          rw [← hXS] at ho2
          have HXS := Lib.hid hXS
          have HO2 := Lib.hid ho2
          have hrd2 := HRD.out.fr hf2 (fun _ _ => id)
          have HRD2 := Lib.hid hrd2
          have hb2 : base ≤ w2.heap.size := Nat.le_trans hbs hf2.size
          clear hf2 ho2 hXS hrd2
          go_wp2_with (at_builtin; refine wpList_app uT13 _ rfl _ _ rfl base _ _ _ rfl (HO2.out.alloc _) _ _ _ _ rfl (Rd.one _ _ _) (one_one _ _) (by unfold maxLen; omega) (by omega) (by simp; omega) ?_)
          intro A' c' w' _ _ hown' hfr' _
          rw [HXS.out] at hown'
          have HO3 : Hid (OwU w' base A' c' (l ++ [z])) := Lib.hid (OwU.snoc HLP.out hown')
          have hf3 : Fr (fun b => base ≤ b) w2 w' := ((Fr.refl _ _).alloc _).trans hfr' (fun b hb h => (HO2.out.lt b h).1)
          have hrd3 := (HRD2.out.frp hf3 (fun hm ad e h => by have := HAB.out hm ad e; omega)).cut (k := k) (m := m) (cap := c1) hkm (Nat.le_refl _) hmc
          have hab3 : 0 < m - k → ∀ ad, (if c1 = k then A1 else A1.map (·.add k)) = some ad → ad.block < base := by
            intro hm ad e
            rw [if_neg (by omega)] at e
            cases A1 with
            | none => cases e
            | some a1 =>
              injection e with e
              subst e
              dsimp only
              rw [add_block]
              exact HAB.out (by omega) a1 rfl
          have HAB3 := Lib.hid hab3
          rw [List.take_of_length_le (by have := HDL.out; simp; omega), ← List.map_drop] at hrd3
          have HRD3 := Lib.hid hrd3
          have HF3 := Lib.hid (HF2.out.trans hf3 (fun b hb h => by have := HB.out; omega))
          clear hown' hfr' hf3 hrd3 hab3
          go_wp2_with fail
          exact ⟨⟨f - 1, D.drop k, l ++ [z], cnt + z, m - k, p + 1, _, c1 - k, A', c', rfl, by omega, rfl, by go_num, by omega, by omega, hcz, (by rw [List.length_append, HLP.out]; rfl : (l ++ [z]).length = p + 1), HRD3.out, HAB3.out, HO3.out, HS2.out, HF3.out⟩, by simp [slen]; omega⟩
      · have hs := HSC.out
        rw [scan_bad hne (by omega) (by rw [← hE1]; exact he), ← hE1] at hs
        injection hs with e1 hs
        injection hs with e2 e3
        subst e1 e2 e3
        have t1 : ((E : Int) == 0) = false := by simp; omega
        have t1' : (E == 0) = false := by simp; omega
        clear hg hz1 hk1 hE1 hne hDl
        go_wp2_with fail
        refine HG.out.mono ?_
        rintro e w2 ⟨rfl, hf2⟩
        have HF2 := Lib.hid (HF.out.trans hf2 (fun _ _ h => h))
        clear hf2
        go_wp2_with fail
        exact bodyPost_ret (v := .tuple #[.slice none 0 0, .int .i64 0, .int .i64 (E : Int)]) (by simp [results, Try.results12, go_sem]) rfl ⟨none, 0, rfl, OwU.nil _ _, HF2.out⟩
end Go.Proofs.Ythioijbifmfhlaa
