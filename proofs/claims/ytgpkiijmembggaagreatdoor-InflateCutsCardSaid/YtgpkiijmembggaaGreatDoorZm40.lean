/-
  Layer 10's program: way.
  Layer 10's program: block (written by gen_oblock.py).
  Layer 9's program: how a block begins.
-/
import Derived.Test.YtgpkiijmembggaaGreatDoorZm37
import Derived.Test.YtgpkiijmembggaaGreatDoorZm39
import Derived.Test.YtgpkiijmembggaaGreatDoorZm23
import Derived.Test.YtgpkiijmembggaaGreatDoorZm04
import Derived.Test.YtgpkiijmembggaaGreatDoorZm13
import Derived.Test.YtgpkiijmembggaaGreatDoorZm05
import Derived.Test.YtgpkiijmembggaaGreatDoorZm12
import Derived.StillTailTactics
import Derived.Deep.DeepCutAuto
import Derived.Deep.QuietTactic
import Derived.BigQuiet
namespace Go.Proofs.YtgpkiijmembggaaGreatDoor
open Go.RowKit CoM BitsM HuffM LzM Mem Go.Lib
attribute [local go_sem ↓] Go.wp_at_zero Go.wp_at_succ
set_option linter.unusedVariables false
set_option maxRecDepth 100000

theorem way0_any (o : Nat) (w : World) : Calls Tryz.prog 37 #[.pointer (some ⟨o, 0, none⟩), .int .u64 0] w fun e w' => e = .returned (.tuple #[.func (.func 60) #[.pointer (some ⟨o, 0, none⟩)] #[], .bool true]) ∧ w = w' := by
  go_enter Tryz.func37, Tryz.ntmps37
  go_wp2_with fail
  go_ret2
  exact ⟨rfl, rfl⟩
theorem way1_any (o : Nat) (w : World) : Calls Tryz.prog 37 #[.pointer (some ⟨o, 0, none⟩), .int .u64 1] w fun e w' => e = .returned (.tuple #[.func (.func 61) #[.pointer (some ⟨o, 0, none⟩)] #[], .bool true]) ∧ w = w' := by
  go_enter Tryz.func37, Tryz.ntmps37
  go_wp2_with fail
  go_ret2
  exact ⟨rfl, rfl⟩
theorem way2_any (o : Nat) (w : World) : Calls Tryz.prog 37 #[.pointer (some ⟨o, 0, none⟩), .int .u64 2] w fun e w' => e = .returned (.tuple #[.func (.func 62) #[.pointer (some ⟨o, 0, none⟩)] #[], .bool true]) ∧ w = w' := by
  go_enter Tryz.func37, Tryz.ntmps37
  go_wp2_with fail
  go_ret2
  exact ⟨rfl, rfl⟩
theorem way3_any (o : Nat) (w : World) : Calls Tryz.prog 37 #[.pointer (some ⟨o, 0, none⟩), .int .u64 3] w fun e w' => e = .returned (.tuple #[.nilFunc, .bool false]) ∧ w = w' := by
  go_enter Tryz.func37, Tryz.ntmps37
  go_wp2_with fail
  go_ret2
  exact ⟨rfl, rfl⟩
end Go.Proofs.YtgpkiijmembggaaGreatDoor
namespace Go.Proofs.YtgpkiijmembggaaGreatDoor
open Go.RowKit CoM BitsM HuffM LzM Mem Go.Lib
attribute [local go_sem ↓] Go.wp_at_zero Go.wp_at_succ
set_option linter.unusedVariables false
set_option maxRecDepth 100000

theorem head_num (l : List Bool) (h : 0 < l.length) : num (l.take 1) = (l.headD false).toNat := by
  cases l with
  | nil => simp at h
  | cons x t => rw [List.take_succ_cons, List.take_zero, num_one]; rfl
theorem kind0 {most : Int} {out : List UInt8} {r : List Bool} : InM.kindR 0 most out r = InM.storedR most out r := rfl
theorem kind1 {most : Int} {out : List UInt8} {r : List Bool} : InM.kindR 1 most out r = InM.codedR SyM.fixA SyM.fixB most out r := by
  unfold InM.kindR
  rw [if_neg (by omega), if_pos rfl]
theorem kind2 {most : Int} {out : List UInt8} {r : List Bool} : InM.kindR 2 most out r = dynR most out (getB r) := by
  unfold InM.kindR
  rw [if_neg (by omega), if_neg (by omega), if_pos rfl]
  cases getB r with
  | none => rfl
  | some x => rfl
theorem kind3 {most : Int} {out : List UInt8} {r : List Bool} : InM.kindR 3 most out r = .error 3 := by
  unfold InM.kindR
  rw [if_neg (by omega), if_neg (by omega), if_neg (by omega)]
/-- what block answers -/
def BlkP (w w' : World) (e : Ending) (base o r c : Nat) (A : Option Addr) (B : List UInt8) (ao : Option Addr) (most : Int) : Except Nat (Bool × List UInt8 × List Bool) → Prop
  | .ok (l, X, rest) => e = .returned (.tuple #[.int .u64 ((l.toNat : Nat) : Int), .int .i64 0]) ∧ ∃ ao' co' p' pl' pd', Opn w' base o r c A B p' ao' co' X most pl' pd' ∧ Agr w' pl' pd' ∧ rest = (bitsOf B).drop p' ∧ Nxo w ao ao' ∧ Fr (Fo o r ao) w w'
  | .error k => (∃ x : Nat, e = .returned (.tuple #[.int .u64 (x : Int), .int .i64 (k : Int)])) ∧ Fr (Fo o r ao) w w'
theorem OutP.blk {w w' : World} {base o r c : Nat} {A : Option Addr} {B : List UInt8} {ao : Option Addr} {most : Int} {k : Int} {x : Nat} {R : Except Nat (List UInt8 × List Bool)} {l : Bool}
    (h : OutP w w' (.returned (.int .i64 k)) base o r c A B ao most R) (hx : x = l.toNat) : BlkP w w' (.returned (.tuple #[.int .u64 (x : Int), .int .i64 k])) base o r c A B ao most (InM.thenB l R) := by
  subst hx
  cases R with
  | error j =>
    obtain ⟨h1, h2⟩ := h
    injection h1 with h1
    injection h1 with _ h1
    subst h1
    exact ⟨⟨_, rfl⟩, h2⟩
  | ok y =>
    obtain ⟨X, rest⟩ := y
    obtain ⟨h1, h2⟩ := h
    injection h1 with h1
    injection h1 with _ h1
    subst h1
    exact ⟨rfl, h2⟩
section
variable {w : World} {base o r c : Nat} {A : Option Addr} {B : List UInt8} {p : Nat} {ao : Option Addr} {co : Nat} {out : List UInt8} {most : Int} {pl pd : Option Addr}
set_option maxHeartbeats 3200000 in
theorem oblock_any (H : Opn w base o r c A B p ao co out most pl pd) (hA : Agr w pl pd) :
    Calls Tryz.prog 21 #[.pointer (some ⟨o, 0, none⟩)] w fun e w' => BlkP w w' e base o r c A B ao most (InM.blockR most out ((bitsOf B).drop p)) := by
  obtain ⟨RES, hRES⟩ : ∃ R, R = InM.blockR most out ((bitsOf B).drop p) := ⟨_, rfl⟩
  rw [← hRES]
  have hln : ((bitsOf B).drop p).length = 8 * B.length - p := by rw [List.length_drop, bitsOf_length]
  have HPP := Lib.hid H.re.2.2
  have HLB := Lib.hid H.lB
  have c0 : w.cell? ⟨o, 0, none⟩ = some (.pointer (some ⟨r, 0, none⟩)) := H.row.cell rfl
  have HO := Lib.hid H
  have HA := Lib.hid hA
  clear H hA
  by_cases h3 : 8 * B.length - p < 3
  · have HX : Hid (RES = .error 2) := Lib.hid (by rw [hRES, InM.blockR, if_pos (by rw [hln]; exact h3)])
    clear hRES hln
    by_cases h1 : p + 1 ≤ 8 * B.length
    · have HEL : Hid (p + 1 ≤ 8 * B.length ∧ 8 * B.length - p < 3) := Lib.hid ⟨h1, h3⟩
      obtain ⟨z, hz⟩ : ∃ z, z = num (cut B p 1) := ⟨_, rfl⟩
      have HZ := Lib.hid hz
      clear h1 h3 hz
      go_enter Tryz.func21, Tryz.ntmps21
      have hb0 := bits_ok r c p A B 1 w HO.out.re (by have := HLB.out; omega) (by omega) (by have := HEL.out; omega)
      rw [← HZ.out] at hb0
      have HB0 := Lib.hid hb0
      clear hb0
      go_wp2_with (refine HB0.out.mono ?_)
      rintro e w1 ⟨rfl, hre1, hf1⟩
      have HO1 := Lib.hid (HO.out.read hf1 hre1)
      have HF1 : Hid (Fr (fun k => k = r) w w1) := Lib.hid (hf1)
      have c1 : w1.cell? ⟨o, 0, none⟩ = some (.pointer (some ⟨r, 0, none⟩)) := HO1.out.row.cell rfl
      clear hre1 hf1 HB0 c0
      have HB1 := Lib.hid (bits_no r c (p + 1) A B 2 w1 HO1.out.re (by have := HLB.out; omega) (.inr (.inr (by have := HEL.out; omega))))
      go_wp2_with (refine HB1.out.mono ?_)
      rintro e w2 ⟨rfl, hre2, hf2⟩
      have HO2 := Lib.hid (HO1.out.read (toFr (r := r) hf2) hre2)
      have HF2 : Hid (Fr (fun k => k = r) w w2) := Lib.hid (HF1.out.trans hf2 (fun _ _ h => h.elim))
      have c2 : w2.cell? ⟨o, 0, none⟩ = some (.pointer (some ⟨r, 0, none⟩)) := HO2.out.row.cell rfl
      clear hre2 hf2 HB1 c1
      go_wp2_with fail
      exact bodyPost_ret (v := .tuple #[.int .u64 0, .int .i64 2]) (by simp [results, Tryz.results21, go_sem]) rfl (by rw [HX.out]; exact ⟨⟨0, rfl⟩, to_fo HF2.out⟩)
    · have HEL : Hid (8 * B.length - p < 1) := Lib.hid (by omega)
      clear h1 h3
      go_enter Tryz.func21, Tryz.ntmps21
      have HB0 := Lib.hid (bits_no r c p A B 1 w HO.out.re (by have := HLB.out; omega) (.inr (.inr (by have := HEL.out; omega))))
      go_wp2_with (refine HB0.out.mono ?_)
      rintro e w1 ⟨rfl, hre1, hf1⟩
      have HO1 := Lib.hid (HO.out.read (toFr (r := r) hf1) hre1)
      have HF1 : Hid (Fr (fun k => k = r) w w1) := Lib.hid (toFr hf1)
      have c1 : w1.cell? ⟨o, 0, none⟩ = some (.pointer (some ⟨r, 0, none⟩)) := HO1.out.row.cell rfl
      clear hre1 hf1 HB0 c0
      have HB1 := Lib.hid (bits_no r c p A B 2 w1 HO1.out.re (by have := HLB.out; omega) (.inr (.inr (by have := HEL.out; omega))))
      go_wp2_with (refine HB1.out.mono ?_)
      rintro e w2 ⟨rfl, hre2, hf2⟩
      have HO2 := Lib.hid (HO1.out.read (toFr (r := r) hf2) hre2)
      have HF2 : Hid (Fr (fun k => k = r) w w2) := Lib.hid (HF1.out.trans hf2 (fun _ _ h => h.elim))
      have c2 : w2.cell? ⟨o, 0, none⟩ = some (.pointer (some ⟨r, 0, none⟩)) := HO2.out.row.cell rfl
      clear hre2 hf2 HB1 c1
      go_wp2_with fail
      exact bodyPost_ret (v := .tuple #[.int .u64 0, .int .i64 2]) (by simp [results, Tryz.results21, go_sem]) rfl (by rw [HX.out]; exact ⟨⟨0, rfl⟩, to_fo HF2.out⟩)
  have HEL : Hid (p + 3 ≤ 8 * B.length) := Lib.hid (by omega)
  obtain ⟨z, hz⟩ : ∃ z, z = num (cut B p 1) := ⟨_, rfl⟩
  obtain ⟨y, hy⟩ : ∃ y, y = num (cut B (p + 1) 2) := ⟨_, rfl⟩
  have hzl : z = (((bitsOf B).drop p).headD false).toNat := by rw [hz]; exact head_num _ (by rw [hln]; omega)
  have hy4 : y < 4 := by have h := num_lt (cut B (p + 1) 2); rw [cut_length B (p + 1) 2 (by omega), ← hy] at h; exact h
  have hX : RES = InM.thenB (((bitsOf B).drop p).headD false) (InM.kindR y most out ((bitsOf B).drop (p + 3))) := by
    rw [hRES, InM.blockR, if_neg (by rw [hln]; exact h3), List.drop_drop, List.drop_drop, hy]
    rfl
  have HZL := Lib.hid hzl
  have HZ := Lib.hid hz
  clear hRES hln h3 hzl hz
  have h4 : y = 0 ∨ y = 1 ∨ y = 2 ∨ y = 3 := by omega
  clear hy4
  rcases h4 with rfl | rfl | rfl | rfl
  · have HX := Lib.hid hX
    have HY := Lib.hid hy
    clear hX hy
    rw [kind0] at HX
    go_enter Tryz.func21, Tryz.ntmps21
    have hb0 := bits_ok r c p A B 1 w HO.out.re (by have := HLB.out; omega) (by omega) (by have := HEL.out; omega)
    rw [← HZ.out] at hb0
    have HB0 := Lib.hid hb0
    clear hb0
    go_wp2_with (refine HB0.out.mono ?_)
    rintro e w1 ⟨rfl, hre1, hf1⟩
    have HO1 := Lib.hid (HO.out.read hf1 hre1)
    have HF1 : Hid (Fr (fun k => k = r) w w1) := Lib.hid (hf1)
    have c1 : w1.cell? ⟨o, 0, none⟩ = some (.pointer (some ⟨r, 0, none⟩)) := HO1.out.row.cell rfl
    clear hre1 hf1 HB0 c0
    have hb1 := bits_ok r c (p + 1) A B 2 w1 HO1.out.re (by have := HLB.out; omega) (by omega) (by have := HEL.out; omega)
    rw [← HY.out] at hb1
    have HB1 : Hid (Calls Tryz.prog 36 #[.pointer (some ⟨r, 0, none⟩), .int .i64 2] w1 fun e w' => e = .returned (.tuple #[.int .u64 0, .bool true]) ∧ Re w' r A c B (p + 3) ∧ Fr (fun k => k = r) w1 w') := Lib.hid hb1
    clear hb1
    go_wp2_with (refine HB1.out.mono ?_)
    rintro e w2 ⟨rfl, hre2, hf2⟩
    have HO2 := Lib.hid (HO1.out.read hf2 hre2)
    have HF2 : Hid (Fr (fun k => k = r) w w2) := Lib.hid (HF1.out.trans hf2 (fun _ _ h => h))
    have HA2 := Lib.hid (HA.out.fo HO.out (to_fo HF2.out))
    clear hre2 hf2 HB1 c1
    go_wp2_with (refine (way0_any o w2).mono ?_)
    rintro e w3 ⟨rfl, rfl⟩
    have HW := Lib.hid (ostored_any HO2.out HA2.out)
    go_wp2_with (refine HW.out.mono ?_)
    rintro e w5 h5
    obtain ⟨k, rfl⟩ := h5.ends
    have H5 := Lib.hid ((h5.from (to_fo HF2.out)).blk (x := z) HZL.out)
    clear h5 HW
    go_wp2_with fail
    exact bodyPost_ret (v := .tuple #[.int .u64 (z : Int), .int .i64 k]) (by simp [results, Tryz.results21, go_sem]) rfl (by rw [HX.out]; exact H5.out)
  · have HX := Lib.hid hX
    have HY := Lib.hid hy
    clear hX hy
    rw [kind1] at HX
    go_enter Tryz.func21, Tryz.ntmps21
    have hb0 := bits_ok r c p A B 1 w HO.out.re (by have := HLB.out; omega) (by omega) (by have := HEL.out; omega)
    rw [← HZ.out] at hb0
    have HB0 := Lib.hid hb0
    clear hb0
    go_wp2_with (refine HB0.out.mono ?_)
    rintro e w1 ⟨rfl, hre1, hf1⟩
    have HO1 := Lib.hid (HO.out.read hf1 hre1)
    have HF1 : Hid (Fr (fun k => k = r) w w1) := Lib.hid (hf1)
    have c1 : w1.cell? ⟨o, 0, none⟩ = some (.pointer (some ⟨r, 0, none⟩)) := HO1.out.row.cell rfl
    clear hre1 hf1 HB0 c0
    have hb1 := bits_ok r c (p + 1) A B 2 w1 HO1.out.re (by have := HLB.out; omega) (by omega) (by have := HEL.out; omega)
    rw [← HY.out] at hb1
    have HB1 : Hid (Calls Tryz.prog 36 #[.pointer (some ⟨r, 0, none⟩), .int .i64 2] w1 fun e w' => e = .returned (.tuple #[.int .u64 1, .bool true]) ∧ Re w' r A c B (p + 3) ∧ Fr (fun k => k = r) w1 w') := Lib.hid hb1
    clear hb1
    go_wp2_with (refine HB1.out.mono ?_)
    rintro e w2 ⟨rfl, hre2, hf2⟩
    have HO2 := Lib.hid (HO1.out.read hf2 hre2)
    have HF2 : Hid (Fr (fun k => k = r) w w2) := Lib.hid (HF1.out.trans hf2 (fun _ _ h => h))
    have HA2 := Lib.hid (HA.out.fo HO.out (to_fo HF2.out))
    clear hre2 hf2 HB1 c1
    go_wp2_with (refine (way1_any o w2).mono ?_)
    rintro e w3 ⟨rfl, rfl⟩
    have HW := Lib.hid (ofixed_any HO2.out HA2.out)
    go_wp2_with (refine HW.out.mono ?_)
    rintro e w5 h5
    obtain ⟨k, rfl⟩ := h5.ends
    have H5 := Lib.hid ((h5.from (to_fo HF2.out)).blk (x := z) HZL.out)
    clear h5 HW
    go_wp2_with fail
    exact bodyPost_ret (v := .tuple #[.int .u64 (z : Int), .int .i64 k]) (by simp [results, Tryz.results21, go_sem]) rfl (by rw [HX.out]; exact H5.out)
  · have HX := Lib.hid hX
    have HY := Lib.hid hy
    clear hX hy
    rw [kind2] at HX
    go_enter Tryz.func21, Tryz.ntmps21
    have hb0 := bits_ok r c p A B 1 w HO.out.re (by have := HLB.out; omega) (by omega) (by have := HEL.out; omega)
    rw [← HZ.out] at hb0
    have HB0 := Lib.hid hb0
    clear hb0
    go_wp2_with (refine HB0.out.mono ?_)
    rintro e w1 ⟨rfl, hre1, hf1⟩
    have HO1 := Lib.hid (HO.out.read hf1 hre1)
    have HF1 : Hid (Fr (fun k => k = r) w w1) := Lib.hid (hf1)
    have c1 : w1.cell? ⟨o, 0, none⟩ = some (.pointer (some ⟨r, 0, none⟩)) := HO1.out.row.cell rfl
    clear hre1 hf1 HB0 c0
    have hb1 := bits_ok r c (p + 1) A B 2 w1 HO1.out.re (by have := HLB.out; omega) (by omega) (by have := HEL.out; omega)
    rw [← HY.out] at hb1
    have HB1 : Hid (Calls Tryz.prog 36 #[.pointer (some ⟨r, 0, none⟩), .int .i64 2] w1 fun e w' => e = .returned (.tuple #[.int .u64 2, .bool true]) ∧ Re w' r A c B (p + 3) ∧ Fr (fun k => k = r) w1 w') := Lib.hid hb1
    clear hb1
    go_wp2_with (refine HB1.out.mono ?_)
    rintro e w2 ⟨rfl, hre2, hf2⟩
    have HO2 := Lib.hid (HO1.out.read hf2 hre2)
    have HF2 : Hid (Fr (fun k => k = r) w w2) := Lib.hid (HF1.out.trans hf2 (fun _ _ h => h))
    have HA2 := Lib.hid (HA.out.fo HO.out (to_fo HF2.out))
    clear hre2 hf2 HB1 c1
    go_wp2_with (refine (way2_any o w2).mono ?_)
    rintro e w3 ⟨rfl, rfl⟩
    have HW := Lib.hid (odynamic_any HO2.out HA2.out)
    go_wp2_with (refine HW.out.mono ?_)
    rintro e w5 h5
    obtain ⟨k, rfl⟩ := h5.ends
    have H5 := Lib.hid ((h5.from (to_fo HF2.out)).blk (x := z) HZL.out)
    clear h5 HW
    go_wp2_with fail
    exact bodyPost_ret (v := .tuple #[.int .u64 (z : Int), .int .i64 k]) (by simp [results, Tryz.results21, go_sem]) rfl (by rw [HX.out]; exact H5.out)
  · have HX := Lib.hid hX
    have HY := Lib.hid hy
    clear hX hy
    rw [kind3] at HX
    go_enter Tryz.func21, Tryz.ntmps21
    have hb0 := bits_ok r c p A B 1 w HO.out.re (by have := HLB.out; omega) (by omega) (by have := HEL.out; omega)
    rw [← HZ.out] at hb0
    have HB0 := Lib.hid hb0
    clear hb0
    go_wp2_with (refine HB0.out.mono ?_)
    rintro e w1 ⟨rfl, hre1, hf1⟩
    have HO1 := Lib.hid (HO.out.read hf1 hre1)
    have HF1 : Hid (Fr (fun k => k = r) w w1) := Lib.hid (hf1)
    have c1 : w1.cell? ⟨o, 0, none⟩ = some (.pointer (some ⟨r, 0, none⟩)) := HO1.out.row.cell rfl
    clear hre1 hf1 HB0 c0
    have hb1 := bits_ok r c (p + 1) A B 2 w1 HO1.out.re (by have := HLB.out; omega) (by omega) (by have := HEL.out; omega)
    rw [← HY.out] at hb1
    have HB1 : Hid (Calls Tryz.prog 36 #[.pointer (some ⟨r, 0, none⟩), .int .i64 2] w1 fun e w' => e = .returned (.tuple #[.int .u64 3, .bool true]) ∧ Re w' r A c B (p + 3) ∧ Fr (fun k => k = r) w1 w') := Lib.hid hb1
    clear hb1
    go_wp2_with (refine HB1.out.mono ?_)
    rintro e w2 ⟨rfl, hre2, hf2⟩
    have HO2 := Lib.hid (HO1.out.read hf2 hre2)
    have HF2 : Hid (Fr (fun k => k = r) w w2) := Lib.hid (HF1.out.trans hf2 (fun _ _ h => h))
    have HA2 := Lib.hid (HA.out.fo HO.out (to_fo HF2.out))
    clear hre2 hf2 HB1 c1
    go_wp2_with (refine (way3_any o w2).mono ?_)
    rintro e w3 ⟨rfl, rfl⟩
    go_wp2_with fail
    exact bodyPost_ret (v := .tuple #[.int .u64 0, .int .i64 3]) (by simp [results, Tryz.results21, go_sem]) rfl (by rw [HX.out]; exact ⟨⟨0, rfl⟩, to_fo HF2.out⟩)
end
end Go.Proofs.YtgpkiijmembggaaGreatDoor
namespace Go.Proofs.YtgpkiijmembggaaGreatDoor
open Go.RowKit BitsM Mem Go.Lib
attribute [local go_sem ↓] Go.wp_at_zero Go.wp_at_succ
set_option linter.unusedVariables false
set_option maxRecDepth 100000

theorem blockSize : (Tryz.prog.info? 38).map (·.size) = some 1 := by kernel_rfl
set_option maxHeartbeats 1600000 in
theorem begin9_any (g c : Nat) (A : Option Addr) (bs : List Bool) (last kind : Nat) (w : World) (hw : Wr w g A c bs) (hb : bs.length ≤ 2000000000) (hl : last < 18446744073709551616) (hk : kind < 18446744073709551616) :
    Calls Tryz.prog 18 #[.pointer (some ⟨g, 0, none⟩), .int .u64 (last : Int), .int .u64 (kind : Int)] w fun e w' => e = .returned (.agg #[.pointer (some ⟨g, 0, none⟩)]) ∧ ∃ A' c', Wr w' g A' c' (bs ++ low last 1 ++ low kind 2) ∧ Fr (Ft g A) w w' ∧ Nx w A A' := by
  have HB := Lib.hid hb
  have HLK := Lib.hid (And.intro hl hk)
  obtain ⟨w0, hw0⟩ : ∃ w0, w0 = w.alloc (.cells #[Value.pointer none] 38) := ⟨_, rfl⟩
  obtain ⟨p, hp⟩ : ∃ p, p = w.heap.size := ⟨_, rfl⟩
  obtain ⟨q, hq⟩ : ∃ q, q = p + 1 := ⟨_, rfl⟩
  have hr0 : Row w0 p 38 [Value.pointer none] := by rw [hw0, hp]; exact Row.new w _ _
  have hf0 : Fr (fun _ => False) w w0 := by rw [hw0]; exact (Fr.refl _ w).alloc _
  have hq0 : w0.heap.size = q := by rw [hw0, hq, hp]; simp
  have hW0 := hw.frA hf0 (fun h => h) (fun _ _ h => h)
  obtain ⟨w1, hw1⟩ : ∃ w1, w1 = w0.alloc (.cells #[Value.pointer (some ⟨g, 0, none⟩)] 38) := ⟨_, rfl⟩
  have hr1 : Row w1 q 38 [Value.pointer (some ⟨g, 0, none⟩)] := by rw [hw1, ← hq0]; exact Row.new w0 _ _
  have hp1 : Row w1 p 38 [Value.pointer none] := by rw [hw1]; exact hr0.alloc _
  have hf01 : Fr (fun _ => False) w0 w1 := by rw [hw1]; exact (Fr.refl _ w0).alloc _
  have hf1 : Fr (fun _ => False) w w1 := hf0.trans hf01 (fun _ _ h => h)
  have HPN := Lib.hid (hw.new (k := p) (by omega))
  have HQN := Lib.hid (hw.new (k := q) (by omega))
  have HW1 := Lib.hid (hw.frA hf1 (fun h => h) (fun _ _ h => h))
  have HF1 := Lib.hid hf1
  have HR1 := Lib.hid hr1
  have HP1 := Lib.hid hp1
  have HPL := Lib.hid (And.intro hp1.lt hr1.lt)
  have HQP : Hid (p ≠ q) := Lib.hid (by omega)
  have HPB : Hid (w.heap.size ≤ p) := Lib.hid (by omega)
  have c1 : w1.cell? ⟨q, 0, none⟩ = some (.pointer (some ⟨g, 0, none⟩)) := hr1.cell rfl
  have HPU1 : Hid (Calls Tryz.prog 33 #[.pointer (some ⟨g, 0, none⟩), .int .i64 1, .slice (some ⟨w1.heap.size, 0, none⟩) 1 1] (w1.alloc (.cells #[.int .u64 (last : Int)] 47)) fun e w' => e = .returned (.tuple #[]) ∧ ∃ A' c', Wr w' g A' c' (bs ++ low last 1) ∧ Fr (Ft g A) w1 w' ∧ Nx w1 A A') :=
      Lib.hid (put1_any g c A 1 last bs w1 HW1.out (by have := HB.out; omega) (by omega) HLK.out.1)
  clear hW0 hw hb hl hk hr0 hf0 hq0 hr1 hp1 hf01 hf1
  go_enter Tryz.func18, Tryz.ntmps18
  go_upto_region 1 with fail
  go_upto_region 2 with fail
  rw [← hw0, ← hw1, ← hp, ← hq]
  clear hw0 hw1 hp hq
  go_wp2_with fail
  refine HPU1.out.mono ?_
  rintro e w2 ⟨rfl, A2, c2, hw2, hf2, hn2⟩
  have hr2 := Row.fr HR1.out hf2 HQN.out
  have c2' : w2.cell? ⟨q, 0, none⟩ = some (.pointer (some ⟨g, 0, none⟩)) := hr2.cell rfl
  have HR2 := Lib.hid hr2
  have HP2 := Lib.hid (Row.fr HP1.out hf2 HPN.out)
  have HF2 := Lib.hid hf2
  have HN2 := Lib.hid hn2
  have HNP := Lib.hid (And.intro (hn2.old HPL.out.1 HPN.out) (hn2.old HPL.out.2 HQN.out))
  have HPU2 : Hid (Calls Tryz.prog 33 #[.pointer (some ⟨g, 0, none⟩), .int .i64 2, .slice (some ⟨w2.heap.size, 0, none⟩) 1 1] (w2.alloc (.cells #[.int .u64 (kind : Int)] 47)) fun e w' => e = .returned (.tuple #[]) ∧ ∃ A' c', Wr w' g A' c' (bs ++ low last 1 ++ low kind 2) ∧ Fr (Ft g A2) w2 w' ∧ Nx w2 A2 A') :=
      Lib.hid (put1_any g c2 A2 2 kind (bs ++ low last 1) w2 hw2 (by rw [List.length_append, low_length]; have := HB.out; omega) (by omega) HLK.out.2)
  clear HPU1 hw2 hf2 hn2 hr2 c1
  go_wp2_with fail
  refine HPU2.out.mono ?_
  rintro e w3 ⟨rfl, A3, c3, hw3, hf3, hn3⟩
  have hr3 := Row.fr HR2.out hf3 HNP.out.2
  have hp3 := Row.fr HP2.out hf3 HNP.out.1
  have c3' : w3.cell? ⟨q, 0, none⟩ = some (.pointer (some ⟨g, 0, none⟩)) := hr3.cell rfl
  have cp3 : w3.cell? ⟨p, 0, none⟩ = some (.pointer none) := hp3.cell rfl
  have fp3 := hp3.free 0
  have HP3 := Lib.hid hp3
  have HF3 := Lib.hid ((HF1.out.mono (fun _ _ h => h.elim)).trans (Fr.next HF2.out HN2.out hf3) (fun _ _ h => h))
  have HN3 := Lib.hid ((HN2.out.trans hn3 HF2.out.size).back HF1.out.size)
  have HW3 := Lib.hid hw3
  have HNP3 := Lib.hid (hn3.old (Row.lt HP2.out) HNP.out.1)
  clear HPU2 hw3 hf3 hn3 hr3 hp3 c2'
  go_wp2_with fail
  have hr4 := HP3.out.set 0 (.pointer (some ⟨g, 0, none⟩))
  have hf4 := Fr.set1 w3 p 0 (.pointer (some ⟨g, 0, none⟩))
  obtain ⟨w4, hw4⟩ : ∃ w4, w4 = w3.setCell ⟨p, 0, none⟩ (.pointer (some ⟨g, 0, none⟩)) := ⟨_, rfl⟩
  rw [← hw4] at hr4 hf4 ⊢
  have d0 : w4.cell? ⟨p, 0, none⟩ = some (.pointer (some ⟨g, 0, none⟩)) := hr4.cell rfl
  have HW4 := Lib.hid (HW3.out.frA hf4 (fun h => HNP3.out (.inl h.symm)) (fun k hk h => HNP3.out (.inr (by rw [hk, h]))))
  have HF4 := Lib.hid (HF3.out.trans hf4 (fun b hb h => by have := HPB.out; omega))
  clear hr4 hf4 c3' cp3 fp3 hw4
  exact bodyPost_ret (v := .agg #[.pointer (some ⟨g, 0, none⟩)]) (by simp [results, Tryz.results18, go_sem, d0]) rfl ⟨rfl, A3, c3, HW4.out, HF4.out, HN3.out⟩
end Go.Proofs.YtgpkiijmembggaaGreatDoor
