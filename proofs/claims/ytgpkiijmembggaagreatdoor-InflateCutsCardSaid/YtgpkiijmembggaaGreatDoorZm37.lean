/-
  Layer 10's program: add.
  Layer 10's program: stored (written by gen_ostored.py).
  Layer 10's program: tokens (written by gen_tokens.py).
  Layer 10's program: codingOf (written by gen_coding.py).
-/
import Derived.Test.YtgpkiijmembggaaGreatDoorZm35
import Derived.Test.YtgpkiijmembggaaGreatDoorZm36
namespace Go.Proofs.YtgpkiijmembggaaGreatDoor
open Go.RowKit CoM BitsM HuffM LzM Mem Go.Lib
attribute [local go_sem ↓] Go.wp_at_zero Go.wp_at_succ
set_option linter.unusedVariables false
set_option maxRecDepth 100000

theorem toFr {r : Nat} {w w' : World} (hf : Fr (fun _ => False) w w') : Fr (fun k => k = r) w w' := hf.mono (fun _ _ h => h.elim)
section
variable {w w' : World} {base o r c : Nat} {A : Option Addr} {B : List UInt8} {p : Nat} {ao : Option Addr} {co : Nat} {out : List UInt8} {most : Int} {pl pd : Option Addr}
/-- what is opened is put into the opener anew -/
theorem Opn.put (H : Opn w base o r c A B p ao co out most pl pd) {A' : Option Addr} {c' : Nat} {X : List UInt8} (hO : Own w' base A' c' X) (hn : Nxo w ao A') (hf : Fr (fun k => bl ao = some k) w w') (hX : X.length ≤ 100000) :
    Opn (w'.setCell ⟨o, 1, none⟩ (.slice A' X.length c')) base o r c A B p A' c' X most pl pd ∧ Fr (Fo o r ao) w (w'.setCell ⟨o, 1, none⟩ (.slice A' X.length c')) := by
  have hrow := H.row.fr hf (fun h => (H.aNo o h).2 rfl)
  have hre := H.re.fr hf (fun h => (H.aNo r h).1 rfl) (fun k hk h => H.ne k h hk)
  have hs := Fr.set1 w' o 1 (.slice A' X.length c')
  have hA : ∀ k, bl A = some k → k ≠ o := fun k hk e => H.ANo k hk (.inl e)
  have hfo : Fr (Fo o r ao) w (w'.setCell ⟨o, 1, none⟩ (.slice A' X.length c')) := (hf.mono (T := Fo o r ao) (fun _ _ h => .inr (.inr h))).trans hs (fun b hb h => .inl h)
  refine ⟨⟨?_, hre.fr hs H.or.symm (fun k hk h => hA k hk h), ?_, ?_, H.gl.fr hfo (fun k hk => Nat.le_trans H.tb (H.fo k hk)), H.tb, H.bo, H.br, H.lB, hX, H.lm, H.hm⟩, hfo⟩
  · exact hrow.set 1 _
  · exact hs.own hO (fun k hk h => own_ne hO hrow (by decide) (by rw [hk, h]))
  · intro k hk h
    rcases hn k hk with h1 | h1
    · exact H.ne k h1 h
    · have := H.ALt k h
      omega
/-- what add answers -/
def AddP (w w' : World) (e : Ending) (base o r c : Nat) (A : Option Addr) (B : List UInt8) (p : Nat) (ao : Option Addr) (most : Int) (pl pd : Option Addr) : Except Nat (List UInt8) → Prop
  | .ok X => e = .returned (.int .i64 0) ∧ ∃ ao' co', Opn w' base o r c A B p ao' co' X most pl pd ∧ Nxo w ao ao' ∧ Fr (Fo o r ao) w w'
  | .error k => e = .returned (.int .i64 (k : Int)) ∧ Fr (Fo o r ao) w w'
set_option maxHeartbeats 3200000 in
theorem oadd_any (H : Opn w base o r c A B p ao co out most pl pd) (t : Tok) :
    Calls Tryz.prog 97 #[.pointer (some ⟨o, 0, none⟩), tokc t] w fun e w' => AddP w w' e base o r c A B p ao most pl pd (InM.addR most out t) := by
  obtain ⟨RES, hRES⟩ : ∃ R, R = InM.addR most out t := ⟨_, rfl⟩
  rw [← hRES]
  have HRES := Lib.hid hRES
  obtain ⟨b, l, d⟩ := t
  unfold tokc bytec
  show Calls Tryz.prog 97 #[_, .agg #[.int .u8 (b.toNat : Int), .int .i64 l, .int .i64 d]] w _
  obtain ⟨u, hu⟩ : ∃ u, u = b.toNat := ⟨_, rfl⟩
  rw [← hu]
  obtain ⟨w1, hw1⟩ : ∃ w1, w1 = w.alloc (.cells #[Value.int .u8 (u : Int), .int .i64 l, .int .i64 d] 71) := ⟨_, rfl⟩
  obtain ⟨q, hq⟩ : ∃ q, q = w.heap.size := ⟨_, rfl⟩
  have hf1 : Fr (fun _ => False) w w1 := by rw [hw1]; exact (Fr.refl _ w).alloc _
  have ht1 : Row w1 q 71 [Value.int .u8 (u : Int), .int .i64 l, .int .i64 d] := by rw [hw1, hq]; exact Row.new w _ _
  have HF1 := Lib.hid hf1
  have HT1 := Lib.hid ht1
  have HO1 := Lib.hid (H.fr0 hf1)
  have hl := H.lo
  obtain ⟨m, hm⟩ : ∃ m, m = out.length := ⟨_, rfl⟩
  have c1 : w1.cell? ⟨o, 1, none⟩ = some (.slice ao m co) := by rw [hm]; exact HO1.out.row.cell rfl
  have k0 : w1.cell? ⟨q, 0, none⟩ = some (.int .u8 (u : Int)) := ht1.cell rfl
  have k1 : w1.cell? ⟨q, 1, none⟩ = some (.int .i64 l) := ht1.cell rfl
  have k2 : w1.cell? ⟨q, 2, none⟩ = some (.int .i64 d) := ht1.cell rfl
  have hrt : ∀ w, Calls Tryz.prog 105 #[.agg #[.int .u8 (u : Int), .int .i64 l, .int .i64 d], .int .i64 (m : Int)] w fun e w' => e = .returned (.bool (rightT ⟨b, l, d⟩ (out.length : Nat))) ∧ Fr (fun _ => False) w w' := by
    intro w
    have h := pRightT_any ⟨b, l, d⟩ out.length w
    unfold tokc bytec at h
    simp only at h
    rw [← hu, ← hm] at h
    rw [← hm]
    exact h
  have HU := Lib.hid hu
  have HM := Lib.hid hm
  have HH := Lib.hid H
  clear hRES hf1 ht1 hu H hm
  obtain ⟨RT, hRT⟩ : ∃ R, R = rightT ⟨b, l, d⟩ (out.length : Nat) := ⟨_, rfl⟩
  rw [← hRT] at hrt
  have HRT := Lib.hid hRT
  have HRC := Lib.hid (hrt w1.drew)
  clear hRT hrt
  cases RT with
  | false =>
    have HX : Hid (RES = .error 3) := Lib.hid (by rw [HRES.out, InM.addR, if_pos HRT.out.symm])
    go_enter Tryz.func97, Tryz.ntmps97
    go_upto_region 1 with fail
    rw [← hw1, ← hq]
    clear hw1 hq
    go_still_tail 6, (by kernel_rfl)
    change wpList _ _ _ _ _ w1.drew
    go_wp2_with (refine HRC.out.mono ?_)
    rintro e w2 ⟨rfl, hf2⟩
    have HF2 := Lib.hid (HF1.out.drew.trans hf2 (fun _ _ h => h))
    clear hf2 HRC
    go_wp2_with fail
    go_ret
    rw [HX.out]
    exact ⟨rfl, to_fo0 HF2.out⟩
  | true =>
    have hrt := HRT.out.symm
    obtain ⟨hwm, hw258, hw1'⟩ := wide_max hrt
    obtain ⟨v, hv⟩ : ∃ v, v = wide ⟨b, l, d⟩ := ⟨_, rfl⟩
    rw [← hv] at hwm hw258 hw1'
    have HV := Lib.hid hv
    have hmax : ∀ w, (Builtin.max_ #[3, 3] 3 #[.int .i64 l, .int .i64 1]).run Tryz.prog w = .ok (.int .i64 (v : Int)) w := run_max7 l 1 v hwm.symm
    obtain ⟨Q, hQ⟩ : ∃ Q, Q = decide (((out.length + v : Nat) : Int) ≤ most) := ⟨_, rfl⟩
    have HRO : Hid (∀ w', Fr (fun _ => False) w1 w' → Calls Tryz.prog 79 #[.pointer (some ⟨o, 0, none⟩), .int .i64 (v : Int)] w' fun e w'' => e = .returned (.bool Q) ∧ w'' = w'.drew) := Lib.hid (fun w' hf => by rw [hQ]; exact room_any (HO1.out.fr0 hf) v (by omega))
    have HQ := Lib.hid hQ
    have HADD : Hid (∀ w', Fr (fun _ => False) w1 w' → Calls Tryz.prog 106 #[.slice ao m co, .agg #[.int .u8 (u : Int), .int .i64 l, .int .i64 d]] w' fun e w'' => ∃ A' c', e = .returned (.slice A' (addT out ⟨b, l, d⟩).length c') ∧ Own w'' base A' c' (addT out ⟨b, l, d⟩) ∧ Nxo w' ao A' ∧ Fr (fun k => bl ao = some k) w' w'') := Lib.hid (fun w' hf => by
      have h := pAddG_any base ao co out ⟨b, l, d⟩ w' (HO1.out.own.fr hf) hrt (by have := HO1.out.lo; omega) (by have := HO1.out.bs; have := hf.size; omega)
      unfold tokc bytec at h
      simp only at h
      rw [← HU.out, ← HM.out] at h
      exact h)
    have HLEN : Hid ((addT out ⟨b, l, d⟩).length = out.length + v) := Lib.hid (by rw [addT_length hrt, hv])
    obtain ⟨X, hX⟩ : ∃ X, X = addT out ⟨b, l, d⟩ := ⟨_, rfl⟩
    rw [← hX] at HADD HLEN
    have HXX := Lib.hid hX
    clear hrt hwm hw258 hw1' hv hQ hX
    cases Q with
    | false =>
      have HX : Hid (RES = .error 4) := Lib.hid (by
        rw [HRES.out, InM.addR, if_neg (by rw [← HRT.out]; simp), ← HV.out, if_pos]
        have h := HQ.out
        simp at h
        omega)
      go_enter Tryz.func97, Tryz.ntmps97
      go_upto_region 1 with fail
      rw [← hw1, ← hq]
      clear hw1 hq
      go_still_tail 6, (by kernel_rfl)
      change wpList _ _ _ _ _ w1.drew
      go_wp2_with (refine HRC.out.mono ?_)
      rintro e w2 ⟨rfl, hf2⟩
      have HF12 := Lib.hid ((Fr.refl (fun _ => False) w1).drew.trans hf2 (fun _ _ h => h))
      have HF2 := Lib.hid (HF1.out.drew.trans hf2 (fun _ _ h => h))
      have k1' : w2.cell? ⟨q, 1, none⟩ = some (.int .i64 l) := (HT1.out.fr HF12.out (fun h => h)).cell rfl
      have HRO2 := Lib.hid (HRO.out w2 HF12.out)
      clear hf2 HRC k0 k1 k2
      go_wp2_with (refine HRO2.out.mono ?_)
      rintro e w3 ⟨rfl, rfl⟩
      go_wp2_with fail
      go_ret
      rw [HX.out]
      exact ⟨rfl, to_fo0 HF2.out.drew⟩
    | true =>
      have HX : Hid (RES = .ok X) := Lib.hid (by
        rw [HRES.out, InM.addR, if_neg (by rw [← HRT.out]; simp), ← HV.out, if_neg, HXX.out]
        have h := HQ.out
        simp at h
        omega)
      have HXL : Hid (X.length ≤ 100000) := Lib.hid (by
        have h := HQ.out
        simp at h
        have := HO1.out.hm
        rw [HLEN.out]
        omega)
      go_enter Tryz.func97, Tryz.ntmps97
      go_upto_region 1 with fail
      rw [← hw1, ← hq]
      clear hw1 hq
      go_still_tail 6, (by kernel_rfl)
      change wpList _ _ _ _ _ w1.drew
      go_wp2_with (refine HRC.out.mono ?_)
      rintro e w2 ⟨rfl, hf2⟩
      have HF12 := Lib.hid ((Fr.refl (fun _ => False) w1).drew.trans hf2 (fun _ _ h => h))
      have HF2 := Lib.hid (HF1.out.drew.trans hf2 (fun _ _ h => h))
      have k1' : w2.cell? ⟨q, 1, none⟩ = some (.int .i64 l) := (HT1.out.fr HF12.out (fun h => h)).cell rfl
      have HRO2 := Lib.hid (HRO.out w2 HF12.out)
      clear hf2 HRC k0 k1 k2
      go_wp2_with (refine HRO2.out.mono ?_)
      rintro e w3 ⟨rfl, hw3⟩
      have HF13 : Hid (Fr (fun _ => False) w1 w3) := Lib.hid (by rw [hw3]; exact HF12.out.drew)
      have HF3 : Hid (Fr (fun _ => False) w w3) := Lib.hid (by rw [hw3]; exact HF2.out.drew)
      have j0 : w3.cell? ⟨q, 0, none⟩ = some (.int .u8 (u : Int)) := (HT1.out.fr HF13.out (fun h => h)).cell rfl
      have j1 : w3.cell? ⟨q, 1, none⟩ = some (.int .i64 l) := (HT1.out.fr HF13.out (fun h => h)).cell rfl
      have j2 : w3.cell? ⟨q, 2, none⟩ = some (.int .i64 d) := (HT1.out.fr HF13.out (fun h => h)).cell rfl
      have c2 : w3.cell? ⟨o, 1, none⟩ = some (.slice ao m co) := by rw [HM.out]; exact (HO1.out.fr0 HF13.out).row.cell rfl
      have HAD2 := Lib.hid (HADD.out w3.drew HF13.out.drew)
      clear k1' HRO2 c1 hw3
      go_upto_region 5 with fail
      refine wp_region_held_drew (S := fun w' => w'.cell? ⟨q, 0, none⟩ = some (.int .u8 (u : Int)) ∧ w'.cell? ⟨q, 1, none⟩ = some (.int .i64 l) ∧ w'.cell? ⟨q, 2, none⟩ = some (.int .i64 d)) (by kernel_rfl) ?_ (fun hHeld => ?_)
      · exact ⟨j0, j1, j2⟩
      refine wpAnyH_take (i := 0) (v := ?va0) rfl (by kernel_rfl) (by kernel_rfl) (by kernel_rfl) (fun _ _ _ h => h) (Or.inl ⟨by rfl, ?hya0⟩) hHeld ?resta0
      case hya0 => intro w hSw; (try dsimp only at hSw); go_simp; try (with_reducible rfl)
      (try simp only [Act.put, List.setIfInBounds_toArray, List.set_cons_zero, List.set_cons_succ, List.getElem_toArray, List.getElem_cons_zero])
      refine wpAnyH_take (i := 1) (v := ?va1) rfl (by kernel_rfl) (by kernel_rfl) (by kernel_rfl) (fun _ _ _ h => h) (Or.inl ⟨by rfl, ?hya1⟩) hHeld ?resta1
      case hya1 => intro w hSw; (try dsimp only at hSw); go_simp; try (with_reducible rfl)
      (try simp only [Act.put, List.setIfInBounds_toArray, List.set_cons_zero, List.set_cons_succ, List.getElem_toArray, List.getElem_cons_zero, List.getElem_cons_succ])
      refine wpAnyH_take (i := 2) (v := ?va2) rfl (by kernel_rfl) (by kernel_rfl) (by kernel_rfl) (fun _ _ _ h => h) (Or.inl ⟨by rfl, ?hya2⟩) hHeld ?resta2
      case hya2 => intro w hSw; (try dsimp only at hSw); go_simp; try (with_reducible rfl)
      (try simp only [Act.put, List.setIfInBounds_toArray, List.set_cons_zero, List.set_cons_succ, List.getElem_toArray, List.getElem_cons_zero, List.getElem_cons_succ])
      refine wpAnyH_take (i := 3) (v := ?va3) rfl (by kernel_rfl) (by kernel_rfl) (by kernel_rfl) (fun _ _ _ h => h) (Or.inl ⟨by rfl, ?hya3⟩) hHeld ?resta3
      case hya3 => intro w hSw; (try dsimp only at hSw); go_simp; try (with_reducible rfl)
      (try simp only [Act.put, List.setIfInBounds_toArray, List.set_cons_zero, List.set_cons_succ, List.getElem_toArray, List.getElem_cons_zero, List.getElem_cons_succ])
      refine wpAnyH_take (i := 5) (v := ?va5) rfl (by kernel_rfl) (by kernel_rfl) (by kernel_rfl) (fun _ _ _ h => h) (Or.inl ⟨by rfl, ?hya5⟩) hHeld ?resta5
      case hya5 => intro w hSw; (try dsimp only at hSw); go_simp; try (with_reducible rfl)
      (try simp only [Act.put, List.setIfInBounds_toArray, List.set_cons_zero, List.set_cons_succ, List.getElem_toArray, List.getElem_cons_zero, List.getElem_cons_succ])
      refine wpAnyH_ready (rs := [4]) (by kernel_rfl) (by simp) ?_
      refine AllReadyH.cons rfl (fun Kx hKx => ?_) AllReadyH.nil
      go_simp
      refine hKx.out _ _ ?_ (fun hHeld => ?_)
      · exact ⟨j0, j1, j2⟩
      clear hKx Kx
      (try simp only [Act.put, List.setIfInBounds_toArray, List.set_cons_zero, List.set_cons_succ, List.getElem_toArray, List.getElem_cons_zero, List.getElem_cons_succ])
      refine wpAnyH_ready (rs := [6]) (by kernel_rfl) (by simp) ?_
      refine AllReadyH.cons rfl (fun Kx hKx => ?_) AllReadyH.nil
      go_simp
      refine HAD2.out.mono ?_
      rintro e w4 ⟨A', c', rfl, hO, hn, hf4⟩
      obtain ⟨hp1, hp2⟩ := (HO1.out.fr0 HF13.out.drew).put hO hn hf4 HXL.out
      have hrow4 := ((HO1.out.fr0 HF13.out.drew).row).fr hf4 (fun h => ((HO1.out.fr0 HF13.out.drew).aNo o h).2 rfl)
      have htk4 := (HT1.out.fr HF13.out.drew (fun h => h)).fr hf4 (fun h => own_ne (HO1.out.fr0 HF13.out.drew).own (HT1.out.fr HF13.out.drew (fun h => h)) (by decide) (by rw [bl_own]; exact h))
      have fo : w4.frozen? ⟨o, 1, none⟩ = false := Row.free hrow4 1
      have co1 : w4.cell? ⟨o, 1, none⟩ = some (.slice ao out.length co) := Row.cell hrow4 rfl
      have HQ4 := Lib.hid htk4
      have HQO : Hid (q ≠ o) := Lib.hid (row_ne htk4 hrow4 (by decide))
      have HP := Lib.hid (And.intro hp1 (And.intro ((Nxo.refl w ao).trans hn HF3.out.size) (fo_trans (to_fo0 HF3.out.drew) (Nxo.refl w ao) hp2)))
      obtain ⟨xl, hxl⟩ : ∃ n, n = X.length := ⟨_, rfl⟩
      rw [← hxl] at HP ⊢
      clear hO hn hf4 hp1 hp2 hrow4 htk4 HAD2 hxl
      refine hKx.out _ _ ?_ (fun hHeld => ?_)
      · exact ⟨HQ4.out.cell rfl, HQ4.out.cell rfl, HQ4.out.cell rfl⟩
      clear hKx Kx
      (try simp only [Act.put, List.setIfInBounds_toArray, List.set_cons_zero, List.set_cons_succ, List.getElem_toArray, List.getElem_cons_zero, List.getElem_cons_succ])
      refine wpAnyH_take (i := 7) (v := ?va7) rfl (by kernel_rfl) (by kernel_rfl) (by kernel_rfl) (fun _ _ _ h => h) (Or.inl ⟨by rfl, ?hya7⟩) hHeld ?resta7
      case hya7 => intro w hSw; (try dsimp only at hSw); go_simp; try (with_reducible rfl)
      (try simp only [Act.put, List.setIfInBounds_toArray, List.set_cons_zero, List.set_cons_succ, List.getElem_toArray, List.getElem_cons_zero, List.getElem_cons_succ])
      refine wpAnyH_take (i := 8) (v := ?va8) rfl (by kernel_rfl) (by kernel_rfl) (by kernel_rfl) (fun _ _ _ h => h) (Or.inl ⟨by rfl, ?hya8⟩) hHeld ?resta8
      case hya8 => intro w hSw; (try dsimp only at hSw); go_simp; try (with_reducible rfl)
      (try simp only [Act.put, List.setIfInBounds_toArray, List.set_cons_zero, List.set_cons_succ, List.getElem_toArray, List.getElem_cons_zero, List.getElem_cons_succ])
      refine wpAnyH_ready (rs := [9]) (by kernel_rfl) (by simp) ?_
      refine AllReadyH.cons rfl (fun Kx hKx => ?_) AllReadyH.nil
      go_simp
      refine hKx.out _ _ ?_ (fun hHeld => ?_)
      · exact ⟨(HQ4.out.other HQO.out _).cell rfl, (HQ4.out.other HQO.out _).cell rfl, (HQ4.out.other HQO.out _).cell rfl⟩
      clear hKx Kx
      (try simp only [Act.put, List.setIfInBounds_toArray, List.set_cons_zero, List.set_cons_succ, List.getElem_toArray, List.getElem_cons_zero, List.getElem_cons_succ])
      refine wpAnyH_done (by kernel_rfl) ?_ _
      go_wp2_with fail
      go_ret
      rw [HX.out]
      exact ⟨rfl, A', c', HP.out.1, HP.out.2.1, HP.out.2.2⟩
end
end Go.Proofs.YtgpkiijmembggaaGreatDoor
namespace Go.Proofs.YtgpkiijmembggaaGreatDoor
open Go.RowKit CoM BitsM HuffM LzM Mem Go.Lib
attribute [local go_sem ↓] Go.wp_at_zero Go.wp_at_succ
set_option linter.unusedVariables false
set_option maxRecDepth 100000

theorem xor_ones16 (z : Nat) (h : z < 65536) : z ^^^ 65535 = 65535 - z := by
  have h1 := congrArg BitVec.toNat (BitVec.xor_allOnes (x := BitVec.ofNat 16 z))
  rw [BitVec.toNat_xor, BitVec.toNat_not, BitVec.toNat_ofNat, BitVec.toNat_allOnes] at h1
  rw [Nat.mod_eq_of_lt (by omega)] at h1
  exact h1
theorem xor16 {x y : Nat} (hx : x < 65536) (hy : y < 65536) : x ^^^ y = 65535 ↔ x + y = 65535 := by
  constructor
  · intro h
    have h1 : y = x ^^^ 65535 := by rw [← h, ← Nat.xor_assoc, Nat.xor_self, Nat.zero_xor]
    rw [xor_ones16 x hx] at h1
    omega
  · intro h
    have h1 : y = x ^^^ 65535 := by rw [xor_ones16 x hx]; omega
    rw [h1, ← Nat.xor_assoc, Nat.xor_self, Nat.zero_xor]
theorem bits_cut (B : List UInt8) (q n : Nat) (h : q + n ≤ B.length) : ((bitsOf B).drop (8 * q)).take (8 * n) = bitsOf ((B.drop q).take n) := by
  have h1 : bitsOf B = bitsOf (B.take q) ++ bitsOf (B.drop q) := by rw [← bitsOf_append, List.take_append_drop]
  have h2 : bitsOf (B.drop q) = bitsOf ((B.drop q).take n) ++ bitsOf ((B.drop q).drop n) := by rw [← bitsOf_append, List.take_append_drop]
  rw [h1, List.drop_left' (by rw [bitsOf_length, List.length_take]; omega), h2, List.take_left' (by rw [bitsOf_length, List.length_take, List.length_drop]; omega)]
theorem stored_at (B : List UInt8) (p : Nat) (hp : p ≤ 8 * B.length) (most : Int) (out : List UInt8) :
    InM.storedR most out ((bitsOf B).drop p) = if 8 * B.length - ends p < 32 then .error 2
      else if num (cut B (ends p) 16) + num (cut B (ends p + 16) 16) ≠ 65535 then .error 3
      else if ((out.length + num (cut B (ends p) 16) : Nat) : Int) > most then .error 4
      else if 8 * B.length - (ends p + 32) < 8 * num (cut B (ends p) 16) then .error 2
      else .ok (out ++ (B.drop ((ends p + 32) / 8)).take (num (cut B (ends p) 16)), (bitsOf B).drop (ends p + 32 + 8 * num (cut B (ends p) 16))) := by
  have hE := ends_le p _ hp
  have hm := ends_mod p
  have hd : ((bitsOf B).drop p).drop (((bitsOf B).drop p).length % 8) = (bitsOf B).drop (ends p) := by
    rw [List.drop_drop, List.length_drop, bitsOf_length]
    congr 1
    unfold ends lack
    omega
  unfold InM.storedR
  rw [hd]
  dsimp only
  rw [List.length_drop, bitsOf_length]
  by_cases h1 : 8 * B.length - ends p < 32
  · rw [if_pos h1, if_pos h1]
  · rw [if_neg h1, if_neg h1, List.drop_drop, List.drop_drop]
    show (if num (cut B (ends p) 16) + num (cut B (ends p + 16) 16) ≠ 65535 then _ else _) = _
    by_cases h2 : num (cut B (ends p) 16) + num (cut B (ends p + 16) 16) ≠ 65535
    · rw [if_pos h2, if_pos h2]
    · rw [if_neg h2, if_neg h2]
      obtain ⟨z, hz⟩ : ∃ z, z = num (cut B (ends p) 16) := ⟨_, rfl⟩
      have hz' : num (((bitsOf B).drop (ends p)).take 16) = z := hz.symm
      rw [hz', ← hz, List.length_drop, bitsOf_length]
      by_cases h3 : ((out.length + z : Nat) : Int) > most
      · rw [if_pos h3, if_pos h3]
      · rw [if_neg h3, if_neg h3]
        by_cases h4 : 8 * B.length - (ends p + 32) < 8 * z
        · rw [if_pos h4, if_pos h4]
        · rw [if_neg h4, if_neg h4, List.drop_drop]
          have h5 : ends p + 32 = 8 * ((ends p + 32) / 8) := by omega
          have h6 : ((bitsOf B).drop (ends p + 32)).take (8 * z) = bitsOf ((B.drop ((ends p + 32) / 8)).take z) := by
            have h7 := bits_cut B ((ends p + 32) / 8) z (by omega)
            rw [← h5] at h7
            exact h7
          rw [h6, pack_bitsOf]
section
variable {w : World} {base o r c : Nat} {A : Option Addr} {B : List UInt8} {p : Nat} {ao : Option Addr} {co : Nat} {out : List UInt8} {most : Int} {pl pd : Option Addr}
set_option maxHeartbeats 6400000 in
theorem ostored_any (H : Opn w base o r c A B p ao co out most pl pd) (hA : Agr w pl pd) :
    Calls Tryz.prog 60 #[.pointer (some ⟨o, 0, none⟩)] w fun e w' => OutP w w' e base o r c A B ao most (InM.storedR most out ((bitsOf B).drop p)) := by
  obtain ⟨RES, hRES⟩ : ∃ R, R = InM.storedR most out ((bitsOf B).drop p) := ⟨_, rfl⟩
  rw [← hRES]
  have hp := H.re.2.2
  rw [stored_at B p hp] at hRES
  have hE := ends_le p _ hp
  have hm := ends_mod p
  have hAL := ralign_any r c p A B w H.re (by have := H.lB; omega)
  obtain ⟨E, hEE⟩ : ∃ E, E = ends p := ⟨_, rfl⟩
  rw [← hEE] at hE hm hRES hAL
  have HRES := Lib.hid hRES
  have HM8 := Lib.hid hm
  have HEL := Lib.hid hE
  have HLB := Lib.hid H.lB
  have c0 : w.cell? ⟨o, 0, none⟩ = some (.pointer (some ⟨r, 0, none⟩)) := H.row.cell rfl
  have HO := Lib.hid H
  have HA := Lib.hid hA
  have HAL := Lib.hid hAL
  clear hRES hEE hm hE hp H hA hAL
  by_cases h32 : 8 * B.length - E < 32
  · have HX : Hid (RES = .error 2) := Lib.hid (by rw [HRES.out, if_pos h32])
    have HSM := Lib.hid h32
    clear h32 HRES
    by_cases h16 : E + 16 ≤ 8 * B.length
    · have HEL2 := HEL
      replace HEL : Hid (E + 16 ≤ 8 * B.length) := Lib.hid h16
      clear h16
      go_enter Tryz.func60, Tryz.ntmps60
      go_wp2_with (refine HAL.out.mono ?_)
      rintro e w1 ⟨rfl, hre1, hf1⟩
      have HO1 := Lib.hid (HO.out.read hf1 hre1)
      have HF1 := Lib.hid hf1
      have c1 : w1.cell? ⟨o, 0, none⟩ = some (.pointer (some ⟨r, 0, none⟩)) := HO1.out.row.cell rfl
      clear hre1 hf1 HAL c0
      obtain ⟨z, hz⟩ : ∃ z, z = num (cut B E 16) := ⟨_, rfl⟩
      have HZ := Lib.hid hz
      clear hz
      have hb1 := bits_ok r c E A B 16 w1 HO1.out.re (by have := HLB.out; omega) (by omega) (by have := HEL.out; omega)
      rw [← HZ.out] at hb1
      have HB1 := Lib.hid hb1
      clear hb1
      go_wp2_with (refine HB1.out.mono ?_)
      rintro e w2 ⟨rfl, hre2, hf2⟩
      have HO2 := Lib.hid (HO1.out.read hf2 hre2)
      have HF2 := Lib.hid (HF1.out.trans hf2 (fun _ _ h => h))
      have c2 : w2.cell? ⟨o, 0, none⟩ = some (.pointer (some ⟨r, 0, none⟩)) := HO2.out.row.cell rfl
      clear hre2 hf2 HB1 c1
      have HB2 := Lib.hid (bits_no r c (E + 16) A B 16 w2 HO2.out.re (by have := HLB.out; omega) (.inr (.inr (by have := HSM.out; have := HEL.out; omega))))
      go_wp2_with (refine HB2.out.mono ?_)
      rintro e w3 ⟨rfl, hre3, hf3⟩
      have HO3 := Lib.hid (HO2.out.read (toFr (r := r) hf3) hre3)
      have HF3 := Lib.hid (HF2.out.trans hf3 (fun _ _ h => h.elim))
      have c3 : w3.cell? ⟨o, 0, none⟩ = some (.pointer (some ⟨r, 0, none⟩)) := HO3.out.row.cell rfl
      clear hre3 hf3 HB2 c2
      go_wp2_with fail
      go_ret
      rw [HX.out]
      exact ⟨rfl, to_fo HF3.out⟩
    · replace HSM : Hid (8 * B.length - E < 16) := Lib.hid (by omega)
      clear h16
      go_enter Tryz.func60, Tryz.ntmps60
      go_wp2_with (refine HAL.out.mono ?_)
      rintro e w1 ⟨rfl, hre1, hf1⟩
      have HO1 := Lib.hid (HO.out.read hf1 hre1)
      have HF1 := Lib.hid hf1
      have c1 : w1.cell? ⟨o, 0, none⟩ = some (.pointer (some ⟨r, 0, none⟩)) := HO1.out.row.cell rfl
      clear hre1 hf1 HAL c0
      have HB1 := Lib.hid (bits_no r c E A B 16 w1 HO1.out.re (by have := HLB.out; omega) (.inr (.inr (by have := HSM.out; have := HEL.out; omega))))
      go_wp2_with (refine HB1.out.mono ?_)
      rintro e w2 ⟨rfl, hre2, hf2⟩
      have HO2 := Lib.hid (HO1.out.read (toFr (r := r) hf2) hre2)
      have HF2 := Lib.hid (HF1.out.trans hf2 (fun _ _ h => h.elim))
      have c2 : w2.cell? ⟨o, 0, none⟩ = some (.pointer (some ⟨r, 0, none⟩)) := HO2.out.row.cell rfl
      clear hre2 hf2 HB1 c1
      have HB2 := Lib.hid (bits_no r c E A B 16 w2 HO2.out.re (by have := HLB.out; omega) (.inr (.inr (by have := HSM.out; have := HEL.out; omega))))
      go_wp2_with (refine HB2.out.mono ?_)
      rintro e w3 ⟨rfl, hre3, hf3⟩
      have HO3 := Lib.hid (HO2.out.read (toFr (r := r) hf3) hre3)
      have HF3 := Lib.hid (HF2.out.trans hf3 (fun _ _ h => h.elim))
      have c3 : w3.cell? ⟨o, 0, none⟩ = some (.pointer (some ⟨r, 0, none⟩)) := HO3.out.row.cell rfl
      clear hre3 hf3 HB2 c2
      go_wp2_with fail
      go_ret
      rw [HX.out]
      exact ⟨rfl, to_fo HF3.out⟩
  have HX1 := HRES.out
  rw [if_neg h32] at HX1
  obtain ⟨z, hz⟩ : ∃ z, z = num (cut B E 16) := ⟨_, rfl⟩
  obtain ⟨y, hy⟩ : ∃ y, y = num (cut B (E + 16) 16) := ⟨_, rfl⟩
  rw [← hz, ← hy] at HX1
  have hz16 : z < 65536 := by have h := num_lt (cut B E 16); rw [cut_length B E 16 (by omega), ← hz] at h; exact h
  have hy16 : y < 65536 := by have h := num_lt (cut B (E + 16) 16); rw [cut_length B (E + 16) 16 (by omega), ← hy] at h; exact h
  obtain ⟨x, hx⟩ : ∃ x, x = z ^^^ y := ⟨_, rfl⟩
  have hxor : Go.bits .xor .u64 (z : Int) (y : Int) = (x : Int) := by rw [hx]; exact u64_xor_nat z y (by omega) (by omega)
  have hx16 : x = 65535 ↔ z + y = 65535 := by rw [hx]; exact xor16 hz16 hy16
  have HZ := Lib.hid hz
  have HY := Lib.hid hy
  replace HEL : Hid (E + 32 ≤ 8 * B.length) := Lib.hid (by omega)
  clear hz hy hx h32 HRES
  by_cases h3 : z + y ≠ 65535
  · have HX : Hid (RES = .error 3) := Lib.hid (by rw [HX1, if_pos h3])
    have tx : ((x : Int) != 65535) = true := by
      have : x ≠ 65535 := fun h => h3 (hx16.1 h)
      simp; omega
    clear HX1 h3 hx16
    go_enter Tryz.func60, Tryz.ntmps60
    go_wp2_with (refine HAL.out.mono ?_)
    rintro e w1 ⟨rfl, hre1, hf1⟩
    have HO1 := Lib.hid (HO.out.read hf1 hre1)
    have HF1 := Lib.hid hf1
    have c1 : w1.cell? ⟨o, 0, none⟩ = some (.pointer (some ⟨r, 0, none⟩)) := HO1.out.row.cell rfl
    clear hre1 hf1 HAL c0
    have hb1 := bits_ok r c E A B 16 w1 HO1.out.re (by have := HLB.out; omega) (by omega) (by have := HEL.out; omega)
    rw [← HZ.out] at hb1
    have HB1 := Lib.hid hb1
    clear hb1
    go_wp2_with (refine HB1.out.mono ?_)
    rintro e w2 ⟨rfl, hre2, hf2⟩
    have HO2 := Lib.hid (HO1.out.read hf2 hre2)
    have HF2 := Lib.hid (HF1.out.trans hf2 (fun _ _ h => h))
    have c2 : w2.cell? ⟨o, 0, none⟩ = some (.pointer (some ⟨r, 0, none⟩)) := HO2.out.row.cell rfl
    clear hre2 hf2 HB1 c1
    have hb2 := bits_ok r c (E + 16) A B 16 w2 HO2.out.re (by have := HLB.out; omega) (by omega) (by have := HEL.out; omega)
    rw [← HY.out] at hb2
    have HB2 := Lib.hid hb2
    clear hb2
    go_wp2_with (refine HB2.out.mono ?_)
    rintro e w3 ⟨rfl, hre3, hf3⟩
    have HO3 := Lib.hid (HO2.out.read hf3 hre3)
    have HF3 := Lib.hid (HF2.out.trans hf3 (fun _ _ h => h))
    have c3 : w3.cell? ⟨o, 0, none⟩ = some (.pointer (some ⟨r, 0, none⟩)) := HO3.out.row.cell rfl
    clear hre3 hf3 HB2 c2
    go_wp2_with fail
    go_ret
    rw [HX.out]
    exact ⟨rfl, to_fo HF3.out⟩
  rw [if_neg h3] at HX1
  have tx : ((x : Int) != 65535) = false := by
    have : x = 65535 := hx16.2 (by omega)
    simp; omega
  have qz := conv_int8 z (by omega)
  obtain ⟨Q, hQ⟩ : ∃ Q, Q = decide (((out.length + z : Nat) : Int) ≤ most) := ⟨_, rfl⟩
  have HQ := Lib.hid hQ
  have HZ16 := Lib.hid hz16
  clear hQ h3 hx16 hy16
  cases Q with
  | false =>
    have HX : Hid (RES = .error 4) := Lib.hid (by
      rw [HX1, if_pos]
      have h := HQ.out
      simp at h
      omega)
    clear HX1
    go_enter Tryz.func60, Tryz.ntmps60
    go_wp2_with (refine HAL.out.mono ?_)
    rintro e w1 ⟨rfl, hre1, hf1⟩
    have HO1 := Lib.hid (HO.out.read hf1 hre1)
    have HF1 := Lib.hid hf1
    have c1 : w1.cell? ⟨o, 0, none⟩ = some (.pointer (some ⟨r, 0, none⟩)) := HO1.out.row.cell rfl
    clear hre1 hf1 HAL c0
    have hb1 := bits_ok r c E A B 16 w1 HO1.out.re (by have := HLB.out; omega) (by omega) (by have := HEL.out; omega)
    rw [← HZ.out] at hb1
    have HB1 := Lib.hid hb1
    clear hb1
    go_wp2_with (refine HB1.out.mono ?_)
    rintro e w2 ⟨rfl, hre2, hf2⟩
    have HO2 := Lib.hid (HO1.out.read hf2 hre2)
    have HF2 := Lib.hid (HF1.out.trans hf2 (fun _ _ h => h))
    have c2 : w2.cell? ⟨o, 0, none⟩ = some (.pointer (some ⟨r, 0, none⟩)) := HO2.out.row.cell rfl
    clear hre2 hf2 HB1 c1
    have hb2 := bits_ok r c (E + 16) A B 16 w2 HO2.out.re (by have := HLB.out; omega) (by omega) (by have := HEL.out; omega)
    rw [← HY.out] at hb2
    have HB2 := Lib.hid hb2
    clear hb2
    go_wp2_with (refine HB2.out.mono ?_)
    rintro e w3 ⟨rfl, hre3, hf3⟩
    have HO3 := Lib.hid (HO2.out.read hf3 hre3)
    have HF3 := Lib.hid (HF2.out.trans hf3 (fun _ _ h => h))
    have c3 : w3.cell? ⟨o, 0, none⟩ = some (.pointer (some ⟨r, 0, none⟩)) := HO3.out.row.cell rfl
    clear hre3 hf3 HB2 c2
    have hro := room_any HO3.out z (by have := HZ16.out; omega)
    rw [← HQ.out] at hro
    have HRO := Lib.hid hro
    clear hro
    go_wp2_with (refine HRO.out.mono ?_)
    rintro e w4 ⟨rfl, hw4⟩
    have HF34 : Hid (Fr (fun _ => False) w3 w4) := Lib.hid (by rw [hw4]; exact (Fr.refl _ _).drew)
    have HO4 := Lib.hid (HO3.out.fr0 HF34.out)
    have HF4 := Lib.hid (HF3.out.trans HF34.out (fun _ _ h => h.elim))
    have c4 : w4.cell? ⟨o, 0, none⟩ = some (.pointer (some ⟨r, 0, none⟩)) := HO4.out.row.cell rfl
    clear HRO c3 hw4
    go_wp2_with fail
    go_ret
    rw [HX.out]
    exact ⟨rfl, to_fo HF4.out⟩
  | true =>
    rw [if_neg (by
      have h := HQ.out
      simp at h
      omega)] at HX1
    have he : ends (E + 32) = E + 32 := by have := HM8.out; unfold ends lack; omega
    have HE32 := Lib.hid he
    clear he
    by_cases h4 : 8 * B.length - (E + 32) < 8 * z
    · have HX : Hid (RES = .error 2) := Lib.hid (by rw [HX1, if_pos h4])
      have HSM := Lib.hid h4
      clear HX1 h4
      go_enter Tryz.func60, Tryz.ntmps60
      go_wp2_with (refine HAL.out.mono ?_)
      rintro e w1 ⟨rfl, hre1, hf1⟩
      have HO1 := Lib.hid (HO.out.read hf1 hre1)
      have HF1 := Lib.hid hf1
      have c1 : w1.cell? ⟨o, 0, none⟩ = some (.pointer (some ⟨r, 0, none⟩)) := HO1.out.row.cell rfl
      clear hre1 hf1 HAL c0
      have hb1 := bits_ok r c E A B 16 w1 HO1.out.re (by have := HLB.out; omega) (by omega) (by have := HEL.out; omega)
      rw [← HZ.out] at hb1
      have HB1 := Lib.hid hb1
      clear hb1
      go_wp2_with (refine HB1.out.mono ?_)
      rintro e w2 ⟨rfl, hre2, hf2⟩
      have HO2 := Lib.hid (HO1.out.read hf2 hre2)
      have HF2 := Lib.hid (HF1.out.trans hf2 (fun _ _ h => h))
      have c2 : w2.cell? ⟨o, 0, none⟩ = some (.pointer (some ⟨r, 0, none⟩)) := HO2.out.row.cell rfl
      clear hre2 hf2 HB1 c1
      have hb2 := bits_ok r c (E + 16) A B 16 w2 HO2.out.re (by have := HLB.out; omega) (by omega) (by have := HEL.out; omega)
      rw [← HY.out] at hb2
      have HB2 := Lib.hid hb2
      clear hb2
      go_wp2_with (refine HB2.out.mono ?_)
      rintro e w3 ⟨rfl, hre3, hf3⟩
      have HO3 := Lib.hid (HO2.out.read hf3 hre3)
      have HF3 := Lib.hid (HF2.out.trans hf3 (fun _ _ h => h))
      have c3 : w3.cell? ⟨o, 0, none⟩ = some (.pointer (some ⟨r, 0, none⟩)) := HO3.out.row.cell rfl
      clear hre3 hf3 HB2 c2
      have hro := room_any HO3.out z (by have := HZ16.out; omega)
      rw [← HQ.out] at hro
      have HRO := Lib.hid hro
      clear hro
      go_wp2_with (refine HRO.out.mono ?_)
      rintro e w4 ⟨rfl, hw4⟩
      have HF34 : Hid (Fr (fun _ => False) w3 w4) := Lib.hid (by rw [hw4]; exact (Fr.refl _ _).drew)
      have HO4 := Lib.hid (HO3.out.fr0 HF34.out)
      have HF4 := Lib.hid (HF3.out.trans HF34.out (fun _ _ h => h.elim))
      have c4 : w4.cell? ⟨o, 0, none⟩ = some (.pointer (some ⟨r, 0, none⟩)) := HO4.out.row.cell rfl
      clear HRO c3 hw4
      have HRW := Lib.hid (rraw_no r c (E + 32) A B (z : Int) w4 HO4.out.re (by have := HLB.out; omega) (.inr (by have := HSM.out; rw [HE32.out]; omega)))
      go_wp2_with (refine HRW.out.mono ?_)
      rintro e w5 ⟨rfl, hre5, hf5⟩
      have HF5 := Lib.hid (HF4.out.trans hf5 (fun _ _ h => h))
      clear hre5 hf5 HRW c4
      go_wp2_with fail
      go_ret
      rw [HX.out]
      exact ⟨rfl, to_fo HF5.out⟩
    have HBG := Lib.hid h4
    obtain ⟨news, hnews⟩ : ∃ l, l = (B.drop ((E + 32) / 8)).take z := ⟨_, rfl⟩
    have HX : Hid (RES = .ok (out ++ news, (bitsOf B).drop (E + 32 + 8 * z))) := Lib.hid (by rw [HX1, if_neg h4, hnews])
    have HNL : Hid (news.length = z) := Lib.hid (by rw [hnews, List.length_take, List.length_drop]; have := HEL.out; omega)
    have HXL : Hid (out.length + z ≤ 100000) := Lib.hid (by
      have h := HQ.out
      simp at h
      have := HO.out.hm
      omega)
    have HNW := Lib.hid hnews
    clear HX1 h4 hnews
    go_enter Tryz.func60, Tryz.ntmps60
    go_wp2_with (refine HAL.out.mono ?_)
    rintro e w1 ⟨rfl, hre1, hf1⟩
    have HO1 := Lib.hid (HO.out.read hf1 hre1)
    have HF1 := Lib.hid hf1
    have c1 : w1.cell? ⟨o, 0, none⟩ = some (.pointer (some ⟨r, 0, none⟩)) := HO1.out.row.cell rfl
    clear hre1 hf1 HAL c0
    have hb1 := bits_ok r c E A B 16 w1 HO1.out.re (by have := HLB.out; omega) (by omega) (by have := HEL.out; omega)
    rw [← HZ.out] at hb1
    have HB1 := Lib.hid hb1
    clear hb1
    go_wp2_with (refine HB1.out.mono ?_)
    rintro e w2 ⟨rfl, hre2, hf2⟩
    have HO2 := Lib.hid (HO1.out.read hf2 hre2)
    have HF2 := Lib.hid (HF1.out.trans hf2 (fun _ _ h => h))
    have c2 : w2.cell? ⟨o, 0, none⟩ = some (.pointer (some ⟨r, 0, none⟩)) := HO2.out.row.cell rfl
    clear hre2 hf2 HB1 c1
    have hb2 := bits_ok r c (E + 16) A B 16 w2 HO2.out.re (by have := HLB.out; omega) (by omega) (by have := HEL.out; omega)
    rw [← HY.out] at hb2
    have HB2 := Lib.hid hb2
    clear hb2
    go_wp2_with (refine HB2.out.mono ?_)
    rintro e w3 ⟨rfl, hre3, hf3⟩
    have HO3 := Lib.hid (HO2.out.read hf3 hre3)
    have HF3 := Lib.hid (HF2.out.trans hf3 (fun _ _ h => h))
    have c3 : w3.cell? ⟨o, 0, none⟩ = some (.pointer (some ⟨r, 0, none⟩)) := HO3.out.row.cell rfl
    clear hre3 hf3 HB2 c2
    have hro := room_any HO3.out z (by have := HZ16.out; omega)
    rw [← HQ.out] at hro
    have HRO := Lib.hid hro
    clear hro
    go_wp2_with (refine HRO.out.mono ?_)
    rintro e w4 ⟨rfl, hw4⟩
    have HF34 : Hid (Fr (fun _ => False) w3 w4) := Lib.hid (by rw [hw4]; exact (Fr.refl _ _).drew)
    have HO4 := Lib.hid (HO3.out.fr0 HF34.out)
    have HF4 := Lib.hid (HF3.out.trans HF34.out (fun _ _ h => h.elim))
    have c4 : w4.cell? ⟨o, 0, none⟩ = some (.pointer (some ⟨r, 0, none⟩)) := HO4.out.row.cell rfl
    clear HRO c3 hw4
    have hrw := rraw_ok r c (E + 32) A B z w4 HO4.out.re (by have := HLB.out; omega) (by have := HBG.out; rw [HE32.out]; omega)
    rw [HE32.out, ← HNW.out] at hrw
    have HRW := Lib.hid hrw
    clear hrw
    go_wp2_with (refine HRW.out.mono ?_)
    rintro e w5 ⟨A5, c5, rfl, hown5, hre5, hf5⟩
    have HF5 := Lib.hid (HF4.out.trans hf5 (fun _ _ h => h))
    have HO5 := Lib.hid (HO4.out.read hf5 hre5)
    have HA5 := Lib.hid (HA.out.fo HO.out (to_fo HF5.out))
    have HRD := Lib.hid (Rd.of_own hown5)
    clear hre5 hf5 HRW c4 hown5
    obtain ⟨m, hm⟩ : ∃ m, m = out.length := ⟨_, rfl⟩
    obtain ⟨M, hM⟩ : ∃ M, M = m + z := ⟨_, rfl⟩
    have o1 : w5.cell? ⟨o, 1, none⟩ = some (.slice ao m co) := by rw [hm]; exact HO5.out.row.cell rfl
    have HOW : Hid (w5.ownsRow base 5 1 (.slice ao m co) m (out.map bytec)) := Lib.hid (by rw [hm]; exact HO5.out.own)
    have HM := Lib.hid (And.intro hm hM)
    have HM5 : Hid (M ≤ 100000 ∧ base ≤ w5.heap.size) := Lib.hid ⟨by have := HXL.out; omega, HO5.out.bs⟩
    clear hm hM
    go_wp2_with (at_builtin; refine wpList_appN u8T _ rfl _ _ rfl base _ _ _ rfl HOW.out _ _ _ _ rfl HRD.out (bytec_one _) M HM.out.2 (by have := HM5.out.1; unfold maxLen; omega) (by have := HM5.out.1; omega) HM5.out.2 ?_)
    intro A6 c6 w6 _ _ hown6 hf6 hnb6
    have hl6 : (out ++ news).length = M := by rw [List.length_append, HNL.out, ← HM.out.1, HM.out.2]
    have ho6 : Own w6 base A6 c6 (out ++ news) := by
      unfold Own
      rw [hl6, List.map_append]
      exact hown6
    have hf6' : Fr (fun k => bl ao = some k) w5 w6 := hf6.mono (fun b _ h => by rw [bl_own] at h; exact h)
    have hn6 : Nxo w5 ao A6 := by
      intro k hk
      rw [bl_own, bl_own] at hnb6
      rcases hnb6 with h | h
      · exact .inl (h ▸ hk)
      · rw [h] at hk; injection hk with hk; exact .inr (by omega)
    obtain ⟨hp1, hp2⟩ := HO5.out.put ho6 hn6 hf6' (by rw [hl6]; exact HM5.out.1)
    have hrow6 := HO5.out.row.fr hf6' (fun h => (HO5.out.aNo o h).2 rfl)
    have fo : w6.frozen? ⟨o, 1, none⟩ = false := Row.free hrow6 1
    have co1 : w6.cell? ⟨o, 1, none⟩ = some (.slice ao out.length co) := Row.cell hrow6 rfl
    rw [hl6] at hp1 hp2
    have hfo := fo_trans (to_fo (o := o) (ao := ao) HF5.out) (Nxo.refl w ao) hp2
    have HP := Lib.hid (And.intro hp1 (And.intro ((Nxo.refl w ao).trans hn6 HF5.out.size) (And.intro hfo (HA5.out.fo HO5.out hp2))))
    clear hown6 hf6 hnb6 hl6 ho6 hf6' hn6 hp1 hp2 hrow6 hfo o1
    go_wp2_with fail
    go_ret
    rw [HX.out]
    exact ⟨rfl, A6, c6, _, pl, pd, HP.out.1, HP.out.2.2.2, rfl, HP.out.2.1, HP.out.2.2.1⟩
end
end Go.Proofs.YtgpkiijmembggaaGreatDoor
namespace Go.Proofs.YtgpkiijmembggaaGreatDoor
open Go.RowKit CoM BitsM HuffM LzM Mem Go.Lib
attribute [local go_sem ↓] Go.wp_at_zero Go.wp_at_succ
set_option linter.unusedVariables false
set_option maxRecDepth 100000

theorem toks_sym_err {a b : List Nat} {most : Int} {f k : Nat} {out : List UInt8} {bs : List Bool} (h : InM.symR (ints a) bs = .error k) : InM.toksR a b most (f + 1) out bs = .error k := by
  unfold InM.toksR InM.tokR
  rw [h]
theorem toks_end {a b : List Nat} {most : Int} {f : Nat} {out : List UInt8} {bs r : List Bool} (h : InM.symR (ints a) bs = .ok (256, r)) : InM.toksR a b most (f + 1) out bs = .ok (out, r) := by
  unfold InM.toksR InM.tokR
  rw [h]
  dsimp only
  rw [if_pos rfl]
def noT : Except Nat (Tok × List Bool) → Except Nat (Option Tok × List Bool)
  | .error e => .error e
  | .ok (t, r) => .ok (some t, r)
theorem tok_is {a b : List Nat} {s : Nat} {bs r : List Bool} (h : InM.symR (ints a) bs = .ok (s, r)) (hs : s ≠ 256) : InM.tokR a b bs = noT (tokenR b s r) := by
  unfold InM.tokR tokenR
  rw [h]
  dsimp only
  rw [if_neg hs]
  by_cases h1 : s < 256
  · rw [if_pos h1, if_pos h1]
    rfl
  · rw [if_neg h1, if_neg h1]
    by_cases h2 : 285 < s
    · rw [if_pos h2, if_pos h2]
      rfl
    · rw [if_neg h2, if_neg h2]
      cases InM.matchR b s r with
      | error e => rfl
      | ok x => rfl
theorem toks_tok_err {a b : List Nat} {most : Int} {f s k : Nat} {out : List UInt8} {bs r : List Bool} (h : InM.symR (ints a) bs = .ok (s, r)) (hs : s ≠ 256) (ht : tokenR b s r = .error k) : InM.toksR a b most (f + 1) out bs = .error k := by
  have h1 := tok_is (b := b) h hs
  rw [ht] at h1
  unfold InM.toksR
  rw [h1]
  rfl
theorem toks_tok {a b : List Nat} {most : Int} {f s : Nat} {out : List UInt8} {bs r r2 : List Bool} {t : Tok} (h : InM.symR (ints a) bs = .ok (s, r)) (hs : s ≠ 256) (ht : tokenR b s r = .ok (t, r2)) :
    InM.toksR a b most (f + 1) out bs = (match InM.addR most out t with
      | .error e => .error e
      | .ok X => InM.toksR a b most f X r2) := by
  have h1 := tok_is (b := b) h hs
  rw [ht] at h1
  conv => lhs; unfold InM.toksR
  rw [h1]
  dsimp only [noT]
  cases InM.addR most out t with
  | error e => rfl
  | ok X => rfl
theorem token_err0 {a b : List Nat} {s : Nat} {bs r : List Bool} (h : InM.symR (ints a) bs = .ok (s, r)) (hs : s ≠ 256) (h0 : tokenR b s r = .error 0) : False := by
  have h1 := tok_is (b := b) h hs
  rw [h0] at h1
  exact InM.tok_err h1
theorem token_less {a b : List Nat} {s : Nat} {bs r r2 : List Bool} {t : Tok} (h : InM.symR (ints a) bs = .ok (s, r)) (hs : s ≠ 256) (ht : tokenR b s r = .ok (t, r2)) : r2.length < bs.length := by
  have h1 := tok_is (b := b) h hs
  rw [ht] at h1
  exact InM.tok_less h1
theorem add_err0 {most : Int} {out : List UInt8} {t : Tok} (h : InM.addR most out t = .error 0) : False := by
  unfold InM.addR at h
  split at h
  · cases h
  · split at h <;> cases h
/-- where a reader stands -/
def posAt (w : World) (r : Nat) : Nat := match w.cell? ⟨r, 1, none⟩ with
  | some (.int _ x) => x.toNat
  | _ => 0
theorem Re.pos {w : World} {r c p : Nat} {A : Option Addr} {B : List UInt8} (h : Re w r A c B p) : posAt w r = p := by
  have hc : w.cell? ⟨r, 1, none⟩ = some (.int .i64 (p : Int)) := cell_of h.1 1
  unfold posAt
  rw [hc]
  simp
section
variable {w : World} {base o r c : Nat} {A : Option Addr} {B : List UInt8} {p : Nat} {ao : Option Addr} {co : Nat} {out : List UInt8} {most : Int} {pl pd : Option Addr}
set_option maxHeartbeats 6400000 in
theorem tokens_any (H : Opn w base o r c A B p ao co out most pl pd) (hA : Agr w pl pd) (a b : List Nat) (hal : a.length ≤ 1000) (hbl : b.length ≤ 1000) (ql qd : Option Addr) (hc : Cod w a b ql qd) :
    Calls Tryz.prog 82 #[.pointer (some ⟨o, 0, none⟩), .agg #[.pointer ql, .pointer qd]] w fun e w' => OutP w w' e base o r c A B ao most (InM.toksR a b most (((bitsOf B).drop p).length + 1) out ((bitsOf B).drop p)) := by
  obtain ⟨RES, hRES⟩ : ∃ R, R = InM.toksR a b most (((bitsOf B).drop p).length + 1) out ((bitsOf B).drop p) := ⟨_, rfl⟩
  rw [← hRES]
  have HRES := Lib.hid hRES
  obtain ⟨la, rfl, _, hRA, _⟩ := id hc
  obtain ⟨w1, hw1⟩ : ∃ w1, w1 = w.alloc (.cells #[Value.pointer (some la), .pointer qd] 55) := ⟨_, rfl⟩
  obtain ⟨y, hy⟩ : ∃ y, y = w.heap.size := ⟨_, rfl⟩
  have hf1 : Fr (fun _ => False) w w1 := by rw [hw1]; exact (Fr.refl _ w).alloc _
  have HY1 : Hid (Row w1 y 55 [Value.pointer (some la), .pointer qd]) := Lib.hid (by rw [hw1, hy]; exact Row.new w _ _)
  have HO1 := Lib.hid (H.fr0 hf1)
  have HA1 := Lib.hid (hA.fr0 hf1)
  have HC1 := Lib.hid (hc.fr0 hf1)
  have HF1 : Hid (Fr (Fo o r ao) w w1) := Lib.hid (to_fo0 hf1)
  have HRA := Lib.hid hRA
  have HAL := Lib.hid (And.intro hal hbl)
  have HBL : Hid ((bitsOf B).length = 8 * B.length) := Lib.hid (bitsOf_length B)
  clear hRES hf1 H hA hc hRA hal hbl
  go_enter Tryz.func82, Tryz.ntmps82
  go_upto_region 1 with fail
  rw [← hw1, ← hy]
  clear hw1 hy
  go_loopw [4] (fun v wr => v = .int .i64 0 ∧ ∃ (p1 : Nat) (ao1 : Option Addr) (co1 : Nat) (out1 : List UInt8) (f : Nat), Hid (Opn wr base o r c A B p1 ao1 co1 out1 most pl pd) ∧ Hid (Agr wr pl pd) ∧ Hid (Cod wr a b (some la) qd) ∧ Hid (Row wr y 55 [Value.pointer (some la), .pointer qd]) ∧ Hid (Nxo w ao ao1) ∧ Hid (Fr (Fo o r ao) w wr) ∧ Hid (((bitsOf B).drop p1).length < f ∧ InM.toksR a b most f out1 ((bitsOf B).drop p1) = RES)) (fun _ wr => 8 * B.length - posAt wr r)
  case atStart => exact ⟨rfl, p, ao, co, out, _, HO1.out, HA1.out, HC1.out, HY1.out, Nxo.refl _ _, HF1.out, Nat.lt_succ_self _, HRES.out.symm⟩
  case round =>
    obtain ⟨rfl, p1, ao1, co1, out1, f, HO, HA, HC, HY, HN, HF, HQ⟩ := hrel
    rename World => wr
    obtain ⟨bs, hbs⟩ : ∃ bs, bs = (bitsOf B).drop p1 := ⟨_, rfl⟩
    rw [← hbs] at HQ
    obtain ⟨f, rfl⟩ : ∃ f', f = f' + 1 := ⟨f - 1, by have := HQ.out.1; omega⟩
    have HBS := Lib.hid hbs
    have HYL : Hid (Row wr y 55 [Value.pointer (some la), .pointer qd]) := HY
    have y0 : wr.cell? ⟨y, 0, none⟩ = some (.pointer (some la)) := HY.out.cell rfl
    have HCA : Hid (CB wr (fun _ => True) la (ints a)) := Lib.hid (by obtain ⟨la2, h1, h2, _⟩ := HC.out; injection h1 with h1; rw [h1]; exact h2)
    have HSC : Hid (Calls Tryz.prog 95 #[.pointer (some ⟨o, 0, none⟩), .pointer (some la)] wr fun e w' => NumP wr w' e r c A B (InM.symR (ints a) bs)) := Lib.hid (by rw [hbs]; exact osym_any HO.out HCA.out HRA.out)
    clear hbs
    cases hS : InM.symR (ints a) bs with
    | error k =>
      have HX : Hid (RES = .error k) := Lib.hid (HQ.out.2.symm.trans (toks_sym_err hS))
      have tk : ((k : Int) != 0) = true := by
        have : k ≠ 0 := fun h => by subst h; exact InM.sym_err hS
        simp; omega
      have HSC2 : Hid (Calls Tryz.prog 95 #[.pointer (some ⟨o, 0, none⟩), .pointer (some la)] wr fun e w' => e = .returned (.tuple #[.int .i64 0, .int .i64 (k : Int)]) ∧ Fr (fun k => k = r) wr w') := Lib.hid (by have h := HSC.out; rw [hS] at h; exact h)
      clear hS HSC
      go_wp2_with (refine HSC2.out.mono ?_)
      rintro e w2 ⟨rfl, hf2⟩
      have HF2 := Lib.hid (fo_trans HF.out HN.out (to_fo (o := o) (ao := ao1) hf2))
      clear hf2 HSC2
      go_wp2_with fail
      go_ret
      rw [HX.out]
      exact ⟨rfl, HF2.out⟩
    | ok sr =>
      obtain ⟨s, r1⟩ := sr
      have hs1 : s ≤ 1000 := by have := sym_in hS; have := HAL.out.1; omega
      have HSC2 : Hid (Calls Tryz.prog 95 #[.pointer (some ⟨o, 0, none⟩), .pointer (some la)] wr fun e w' => ∃ p', e = .returned (.tuple #[.int .i64 (s : Int), .int .i64 0]) ∧ Re w' r A c B p' ∧ r1 = (bitsOf B).drop p' ∧ Fr (fun k => k = r) wr w') := Lib.hid (by have h := HSC.out; rw [hS] at h; exact h)
      have HSY := Lib.hid hS
      clear hS HSC
      by_cases h256 : s = 256
      · subst h256
        have HX : Hid (RES = .ok (out1, r1)) := Lib.hid (HQ.out.2.symm.trans (toks_end HSY.out))
        go_wp2_with (refine HSC2.out.mono ?_)
        rintro e w2 ⟨p2, rfl, hre2, hr1, hf2⟩
        have HF2 := Lib.hid (fo_trans HF.out HN.out (to_fo (o := o) (ao := ao1) hf2))
        have HO2 := Lib.hid (HO.out.read hf2 hre2)
        have HA2 := Lib.hid (HA.out.fo HO.out (to_fo hf2))
        have HC2 := Lib.hid (HC.out.fo HO.out (to_fo hf2))
        have HY2 := Lib.hid (HY.out.fr (to_fo (o := o) (ao := ao1) hf2) (HO.out.off HY.out (by decide) (by decide) (by decide)))
        have HR1E := Lib.hid hr1
        clear hf2 hre2 hr1 HSC2 y0
        go_wp2_with fail
        go_ret
        rw [HX.out]
        exact ⟨rfl, ao1, co1, p2, pl, pd, HO2.out, HA2.out, HR1E.out, HN.out, HF2.out⟩
      have t256 : ((s : Int) == 256) = false := by simp; omega
      have H256 := Lib.hid h256
      have HTC : Hid (∀ (w2 : World) (p2 : Nat), Opn w2 base o r c A B p2 ao1 co1 out1 most pl pd → Cod w2 a b (some la) qd → r1 = (bitsOf B).drop p2 → Calls Tryz.prog 96 #[.pointer (some ⟨o, 0, none⟩), .int .i64 (s : Int), .pointer qd] w2 fun e w' => TokP w2 w' e r c A B (tokenR b s r1)) := Lib.hid (fun w2 p2 h1 h2 h3 => by
        rw [h3]
        obtain ⟨_, _, _, _, h4⟩ := h2
        exact token_any h1 b qd h4 HAL.out.2 s (by omega) h256)
      clear h256 hs1
      cases hT : tokenR b s r1 with
      | error k =>
        have HX : Hid (RES = .error k) := Lib.hid (HQ.out.2.symm.trans (toks_tok_err HSY.out H256.out hT))
        have tk : ((k : Int) != 0) = true := by
          have : k ≠ 0 := fun h => by subst h; exact token_err0 HSY.out H256.out hT
          simp; omega
        have HTK := Lib.hid hT
        clear hT
        go_wp2_with (refine HSC2.out.mono ?_)
        rintro e w2 ⟨p2, rfl, hre2, hr1, hf2⟩
        have HF2 := Lib.hid (fo_trans HF.out HN.out (to_fo (o := o) (ao := ao1) hf2))
        have HO2 := Lib.hid (HO.out.read hf2 hre2)
        have HA2 := Lib.hid (HA.out.fo HO.out (to_fo hf2))
        have HC2 := Lib.hid (HC.out.fo HO.out (to_fo hf2))
        have HY2 := Lib.hid (HY.out.fr (to_fo (o := o) (ao := ao1) hf2) (HO.out.off HY.out (by decide) (by decide) (by decide)))
        have HR1E := Lib.hid hr1
        clear hf2 hre2 hr1 HSC2 y0
        have y1 : w2.cell? ⟨y, 1, none⟩ = some (.pointer qd) := HY2.out.cell rfl
        have HTC2 : Hid (Calls Tryz.prog 96 #[.pointer (some ⟨o, 0, none⟩), .int .i64 (s : Int), .pointer qd] w2 fun e w' => e = .returned (.tuple #[.agg #[.int .u8 0, .int .i64 0, .int .i64 0], .int .i64 (k : Int)]) ∧ Fr (fun k => k = r) w2 w') := Lib.hid (by have h := HTC.out w2 p2 HO2.out HC2.out HR1E.out; rw [HTK.out] at h; exact h)
        clear HTC
        go_wp2_with (refine HTC2.out.mono ?_)
        rintro e w3 ⟨rfl, hf3⟩
        have HF3 := Lib.hid (fo_trans HF2.out HN.out (to_fo (o := o) (ao := ao1) hf3))
        clear hf3 HTC2 y1
        go_wp2_with (refine store_st tokSz rfl (.tmp 7) (.tmp 27) rfl w3.heap.size (by rfl) [Value.int .u8 0, .int .i64 0, .int .i64 0] (by rfl) _ _ (Row.new w3 _ [Value.int .u8 0, .int .i64 0, .int .i64 0]) rfl rfl (tok_one _ _ _) ?_)
        intro w4 hr4 hf4
        have hf34 : Fr (fun _ => False) w3 w4 := ((Fr.refl (fun _ => False) w3).alloc _).trans hf4 (fun b hb h => by omega)
        have HF4 := Lib.hid (fo_trans HF3.out HN.out (to_fo0 (o := o) (r := r) (ao := ao1) hf34))
        clear hr4 hf4 hf34
        go_wp2_with fail
        go_ret
        rw [HX.out]
        exact ⟨rfl, HF4.out⟩
      | ok tr =>
        obtain ⟨t, r2⟩ := tr
        have HSTEP := Lib.hid (HQ.out.2.symm.trans (toks_tok (most := most) (f := f) (out := out1) HSY.out H256.out hT))
        have HLESS := Lib.hid (token_less HSY.out H256.out hT)
        have HTC3 : Hid (∀ (w2 : World) (p2 : Nat), Opn w2 base o r c A B p2 ao1 co1 out1 most pl pd → Cod w2 a b (some la) qd → r1 = (bitsOf B).drop p2 → Calls Tryz.prog 96 #[.pointer (some ⟨o, 0, none⟩), .int .i64 (s : Int), .pointer qd] w2 fun e w' => ∃ p', e = .returned (.tuple #[tokc t, .int .i64 0]) ∧ Re w' r A c B p' ∧ r2 = (bitsOf B).drop p' ∧ Fr (fun k => k = r) w2 w') := Lib.hid (fun w2 p2 h1 h2 h3 => by have h := HTC.out w2 p2 h1 h2 h3; rw [hT] at h; exact h)
        have HAD : Hid (∀ (w4 : World) (p2 : Nat), Opn w4 base o r c A B p2 ao1 co1 out1 most pl pd → Calls Tryz.prog 97 #[.pointer (some ⟨o, 0, none⟩), tokc t] w4 fun e w' => AddP w4 w' e base o r c A B p2 ao1 most pl pd (InM.addR most out1 t)) := Lib.hid (fun w4 p2 h => oadd_any h t)
        clear hT HTC
        obtain ⟨tb, tl, td⟩ := t
        obtain ⟨u, hu⟩ : ∃ u, u = tb.toNat := ⟨_, rfl⟩
        unfold tokc bytec at HTC3 HAD
        simp only [← hu] at HTC3 HAD
        clear hu
        cases hD : InM.addR most out1 ⟨tb, tl, td⟩ with
        | error k =>
          have HX : Hid (RES = .error k) := Lib.hid (by rw [HSTEP.out, hD])
          have tk : ((k : Int) != 0) = true := by
            have : k ≠ 0 := fun h => by subst h; exact add_err0 hD
            simp; omega
          have HAK := Lib.hid hD
          clear hD HSTEP
          go_wp2_with (refine HSC2.out.mono ?_)
          rintro e w2 ⟨p2, rfl, hre2, hr1, hf2⟩
          have HF2 := Lib.hid (fo_trans HF.out HN.out (to_fo (o := o) (ao := ao1) hf2))
          have HO2 := Lib.hid (HO.out.read hf2 hre2)
          have HA2 := Lib.hid (HA.out.fo HO.out (to_fo hf2))
          have HC2 := Lib.hid (HC.out.fo HO.out (to_fo hf2))
          have HY2 := Lib.hid (HY.out.fr (to_fo (o := o) (ao := ao1) hf2) (HO.out.off HY.out (by decide) (by decide) (by decide)))
          have HR1E := Lib.hid hr1
          clear hf2 hre2 hr1 HSC2 y0
          have y1 : w2.cell? ⟨y, 1, none⟩ = some (.pointer qd) := HY2.out.cell rfl
          have HTC2 := Lib.hid (HTC3.out w2 p2 HO2.out HC2.out HR1E.out)
          clear HTC3
          go_wp2_with (refine HTC2.out.mono ?_)
          rintro e w3 ⟨p3, rfl, hre3, hr2, hf3⟩
          have HF3 := Lib.hid (fo_trans HF2.out HN.out (to_fo (o := o) (ao := ao1) hf3))
          have HO3 := Lib.hid (HO2.out.read hf3 hre3)
          have HA3 := Lib.hid (HA2.out.fo HO2.out (to_fo hf3))
          have HC3 := Lib.hid (HC2.out.fo HO2.out (to_fo hf3))
          have HY3 := Lib.hid (HY2.out.fr (to_fo (o := o) (ao := ao1) hf3) (HO2.out.off HY2.out (by decide) (by decide) (by decide)))
          have HR2E := Lib.hid hr2
          clear hf3 HTC2 y1 hre3 hr2
          go_wp2_with (refine store_st tokSz rfl (.tmp 7) (.tmp 27) rfl w3.heap.size (by rfl) [Value.int .u8 (u : Int), .int .i64 tl, .int .i64 td] (by rfl) _ _ (Row.new w3 _ [Value.int .u8 0, .int .i64 0, .int .i64 0]) rfl rfl (tok_one _ _ _) ?_)
          intro w4 hr4 hf4
          have hf34 : Fr (fun _ => False) w3 w4 := ((Fr.refl (fun _ => False) w3).alloc _).trans hf4 (fun b hb h => by omega)
          have HF4 := Lib.hid (fo_trans HF3.out HN.out (to_fo0 (o := o) (r := r) (ao := ao1) hf34))
          have HO4 := Lib.hid (HO3.out.fr0 hf34)
          have HA4 := Lib.hid (HA3.out.fr0 hf34)
          have HC4 := Lib.hid (HC3.out.fr0 hf34)
          have HY4 := Lib.hid (HY3.out.fr hf34 (fun h => h))
          obtain ⟨g, hg⟩ : ∃ g, g = w3.heap.size := ⟨_, rfl⟩
          rw [← hg] at hr4 ⊢
          have d0 : w4.cell? ⟨g, 0, none⟩ = some (.int .u8 (u : Int)) := hr4.cell rfl
          have d1 : w4.cell? ⟨g, 1, none⟩ = some (.int .i64 tl) := hr4.cell rfl
          have d2 : w4.cell? ⟨g, 2, none⟩ = some (.int .i64 td) := hr4.cell rfl
          clear hr4 hf4 hf34 hg
          have HAD2 : Hid (Calls Tryz.prog 97 #[.pointer (some ⟨o, 0, none⟩), .agg #[.int .u8 (u : Int), .int .i64 tl, .int .i64 td]] w4 fun e w' => e = .returned (.int .i64 (k : Int)) ∧ Fr (Fo o r ao1) w4 w') := Lib.hid (by have h := HAD.out w4 p3 HO4.out; rw [HAK.out] at h; exact h)
          clear HAD
          go_wp2_with (refine HAD2.out.mono ?_)
          rintro e w5 ⟨rfl, hf5⟩
          have HF5 := Lib.hid (fo_trans HF4.out HN.out hf5)
          clear hf5 HAD2 d0 d1 d2
          go_wp2_with fail
          go_ret
          rw [HX.out]
          exact ⟨rfl, HF5.out⟩
        | ok X =>
          have HX : Hid (InM.toksR a b most f X r2 = RES) := Lib.hid (by rw [HSTEP.out, hD])
          have HAK := Lib.hid hD
          clear hD HSTEP
          go_wp2_with (refine HSC2.out.mono ?_)
          rintro e w2 ⟨p2, rfl, hre2, hr1, hf2⟩
          have HF2 := Lib.hid (fo_trans HF.out HN.out (to_fo (o := o) (ao := ao1) hf2))
          have HO2 := Lib.hid (HO.out.read hf2 hre2)
          have HA2 := Lib.hid (HA.out.fo HO.out (to_fo hf2))
          have HC2 := Lib.hid (HC.out.fo HO.out (to_fo hf2))
          have HY2 := Lib.hid (HY.out.fr (to_fo (o := o) (ao := ao1) hf2) (HO.out.off HY.out (by decide) (by decide) (by decide)))
          have HR1E := Lib.hid hr1
          clear hf2 hre2 hr1 HSC2 y0
          have y1 : w2.cell? ⟨y, 1, none⟩ = some (.pointer qd) := HY2.out.cell rfl
          have HTC2 := Lib.hid (HTC3.out w2 p2 HO2.out HC2.out HR1E.out)
          clear HTC3
          go_wp2_with (refine HTC2.out.mono ?_)
          rintro e w3 ⟨p3, rfl, hre3, hr2, hf3⟩
          have HF3 := Lib.hid (fo_trans HF2.out HN.out (to_fo (o := o) (ao := ao1) hf3))
          have HO3 := Lib.hid (HO2.out.read hf3 hre3)
          have HA3 := Lib.hid (HA2.out.fo HO2.out (to_fo hf3))
          have HC3 := Lib.hid (HC2.out.fo HO2.out (to_fo hf3))
          have HY3 := Lib.hid (HY2.out.fr (to_fo (o := o) (ao := ao1) hf3) (HO2.out.off HY2.out (by decide) (by decide) (by decide)))
          have HR2E := Lib.hid hr2
          clear hf3 HTC2 y1 hre3 hr2
          go_wp2_with (refine store_st tokSz rfl (.tmp 7) (.tmp 27) rfl w3.heap.size (by rfl) [Value.int .u8 (u : Int), .int .i64 tl, .int .i64 td] (by rfl) _ _ (Row.new w3 _ [Value.int .u8 0, .int .i64 0, .int .i64 0]) rfl rfl (tok_one _ _ _) ?_)
          intro w4 hr4 hf4
          have hf34 : Fr (fun _ => False) w3 w4 := ((Fr.refl (fun _ => False) w3).alloc _).trans hf4 (fun b hb h => by omega)
          have HF4 := Lib.hid (fo_trans HF3.out HN.out (to_fo0 (o := o) (r := r) (ao := ao1) hf34))
          have HO4 := Lib.hid (HO3.out.fr0 hf34)
          have HA4 := Lib.hid (HA3.out.fr0 hf34)
          have HC4 := Lib.hid (HC3.out.fr0 hf34)
          have HY4 := Lib.hid (HY3.out.fr hf34 (fun h => h))
          obtain ⟨g, hg⟩ : ∃ g, g = w3.heap.size := ⟨_, rfl⟩
          rw [← hg] at hr4 ⊢
          have d0 : w4.cell? ⟨g, 0, none⟩ = some (.int .u8 (u : Int)) := hr4.cell rfl
          have d1 : w4.cell? ⟨g, 1, none⟩ = some (.int .i64 tl) := hr4.cell rfl
          have d2 : w4.cell? ⟨g, 2, none⟩ = some (.int .i64 td) := hr4.cell rfl
          clear hr4 hf4 hf34 hg
          have HAD2 : Hid (Calls Tryz.prog 97 #[.pointer (some ⟨o, 0, none⟩), .agg #[.int .u8 (u : Int), .int .i64 tl, .int .i64 td]] w4 fun e w' => e = .returned (.int .i64 0) ∧ ∃ ao' co', Opn w' base o r c A B p3 ao' co' X most pl pd ∧ Nxo w4 ao1 ao' ∧ Fr (Fo o r ao1) w4 w') := Lib.hid (by have h := HAD.out w4 p3 HO4.out; rw [HAK.out] at h; exact h)
          clear HAD
          go_wp2_with (refine HAD2.out.mono ?_)
          rintro e w5 ⟨rfl, ao5, co5, ho5, hn5, hf5⟩
          have HF5 := Lib.hid (fo_trans HF4.out HN.out hf5)
          have HN5 := Lib.hid (HN.out.trans hn5 HF4.out.size)
          have HA5 := Lib.hid (HA4.out.fo HO4.out hf5)
          have HC5 := Lib.hid (HC4.out.fo HO4.out hf5)
          have HY5 := Lib.hid (HY4.out.fr hf5 (HO4.out.off HY4.out (by decide) (by decide) (by decide)))
          have HO5 := Lib.hid ho5
          clear ho5 hn5 hf5 HAD2 d0 d1 d2
          have HLT : Hid (r2.length < bs.length) := HLESS
          have HMS : Hid (8 * B.length - posAt w5 r < 8 * B.length - posAt wr r) := Lib.hid (by
            rw [HO5.out.re.pos, HO.out.re.pos]
            have h1 := HLESS.out
            rw [HR2E.out, HBS.out, List.length_drop, List.length_drop, HBL.out] at h1
            omega)
          have HQ5 : Hid (((bitsOf B).drop p3).length < f ∧ InM.toksR a b most f X ((bitsOf B).drop p3) = RES) := Lib.hid (by
            rw [← HR2E.out]
            exact ⟨by have := HLESS.out; have := HQ.out.1; omega, HX.out⟩)
          go_wp2_with fail
          exact ⟨⟨rfl, p3, ao5, co5, X, f, HO5.out, HA5.out, HC5.out, HY5.out, HN5.out, HF5.out, HQ5.out⟩, HMS.out⟩
end
end Go.Proofs.YtgpkiijmembggaaGreatDoor
namespace Go.Proofs.YtgpkiijmembggaaGreatDoor
open Go.RowKit CoM BitsM HuffM LzM Mem Go.Lib
attribute [local go_sem ↓] Go.wp_at_zero Go.wp_at_succ
set_option linter.unusedVariables false
set_option maxRecDepth 100000

theorem none_right {b : List Nat} (h : InM.noneB b = true) : rightB (ints b) = false := by
  have e : ints b = [] ++ List.replicate b.length 0 := by
    rw [List.nil_append]
    apply List.eq_replicate_iff.2
    refine ⟨ints_len b, fun x hx => ?_⟩
    unfold ints at hx
    obtain ⟨y, hy, rfl⟩ := List.mem_map.1 hx
    unfold InM.noneB at h
    have := List.all_eq_true.1 h y hy
    simp at this
    simp [this]
  rw [e, InM.right_zeros]
  decide
theorem right_pos {L : List Int} (h : rightB L = true) : 0 < L.length := by
  cases L with
  | nil => exact absurd h (by decide)
  | cons x l => simp
theorem nz_any (x : Nat) (w : World) : Calls Tryz.prog 94 #[.int .i64 (x : Int)] w fun e w' => e = .returned (.bool ((x : Int) != 0)) ∧ w = w' := by
  go_enter Tryz.func94, Tryz.ntmps94
  go_wp2_with fail
  go_ret
  exact ⟨rfl, rfl⟩
set_option maxHeartbeats 1600000 in
theorem indexNz_any (A : Option Addr) (n c : Nat) (L : List Nat) (w : World) (hr : Rd w A n (L.map natc)) (hn : n ≤ 1000) :
    Calls Tryz.prog 100 #[.slice A n c, .func (.func 94) #[] #[]] w fun e w' => ∃ z : Int, e = .returned (.int .i64 z) ∧ w = w' ∧ decide (0 ≤ z) = !(InM.noneB L) := by
  have hln : L.length = n := by simpa using hr.1
  have HR := Lib.hid hr
  have HLN := Lib.hid hln
  clear hr hln
  go_enter Tryz.func100, Tryz.ntmps100
  go_wp2_with fail
  go_loopw [8] (fun i wr => ∃ k : Nat, k ≤ n ∧ i = .int .i64 (k : Int) ∧ Hid (∀ t, t < k → L[t]! = 0) ∧ Hid (w = wr)) (fun i _ => n - (intOf i).toNat)
  case atStart => exact ⟨0, Nat.zero_le _, rfl, fun t ht => absurd ht (Nat.not_lt_zero _), rfl⟩
  case round =>
    obtain ⟨k, hk, rfl, HZ, HW⟩ := hrel
    rename World => wr
    by_cases hlt : k < n
    · obtain ⟨ad, u, hA, hu, hcell⟩ := HR.out.at_ hlt
      obtain ⟨x, hx⟩ : ∃ x, x = L[k]! := ⟨_, rfl⟩
      have hxu : u = natc x := by
        rw [List.getElem?_map, List.getElem?_eq_getElem (by have := HLN.out; omega)] at hu
        rw [hx, getElem!_pos L k (by have := HLN.out; omega)]
        simpa using hu.symm
      subst hA
      rw [hxu, HW.out] at hcell
      unfold natc at hcell
      have HX := Lib.hid hx
      clear hu hxu hx
      go_wp2_with fail
      refine (nz_any x wr).mono ?_
      rintro e w2 ⟨rfl, rfl⟩
      by_cases h0 : x = 0
      · have t0 : ((x : Int) != 0) = false := by simp [h0]
        have HZ2 : Hid (∀ t, t < k + 1 → L[t]! = 0) := Lib.hid (fun t ht => by
          rcases Nat.lt_or_ge t k with h | h
          · exact HZ.out t h
          · rw [show t = k by omega, ← HX.out, h0])
        clear h0
        go_wp2_with fail
        exact ⟨⟨k + 1, by omega, by go_num, HZ2.out, HW.out⟩, by simp [intOf]; omega⟩
      · have t0 : ((x : Int) != 0) = true := by simp; omega
        have HNB : Hid (InM.noneB L = false) := Lib.hid (by
          cases h : InM.noneB L with
          | false => rfl
          | true =>
            unfold InM.noneB at h
            have := List.all_eq_true.1 h L[k]! (by rw [getElem!_pos L k (by have := HLN.out; omega)]; exact List.getElem_mem _)
            rw [← HX.out] at this
            simp at this
            exact absurd this h0)
        clear h0
        go_wp2_with fail
        go_ret
        exact ⟨(k : Int), rfl, HW.out, by rw [HNB.out]; simp⟩
    · have HNB : Hid (InM.noneB L = true) := Lib.hid (by
        unfold InM.noneB
        rw [List.all_eq_true]
        intro x hx
        obtain ⟨i, hi, rfl⟩ := List.getElem_of_mem hx
        have := HZ.out i (by have := HLN.out; omega)
        rw [getElem!_pos L i hi] at this
        simp [this])
      go_wp2_with fail
      go_ret
      exact ⟨-1, rfl, HW.out, by rw [HNB.out]; decide⟩
set_option maxHeartbeats 1600000 in
theorem containsNz_any (A : Option Addr) (n c : Nat) (L : List Nat) (w : World) (hr : Rd w A n (L.map natc)) (hn : n ≤ 1000) :
    Calls Tryz.prog 93 #[.slice A n c, .func (.func 94) #[] #[]] w fun e w' => e = .returned (.bool (!(InM.noneB L))) ∧ w = w' := by
  have H := Lib.hid (indexNz_any A n c L w hr hn)
  clear hr
  go_enter Tryz.func93, Tryz.ntmps93
  go_wp2_with (refine H.out.mono ?_)
  rintro e w2 ⟨z, rfl, rfl, hz⟩
  have HZ := Lib.hid hz
  clear hz
  go_wp2_with fail
  go_ret
  rw [← HZ.out]
  exact ⟨rfl, rfl⟩
theorem codSz : (Tryz.prog.info? 55).map (·.size) = some 2 := by kernel_rfl
theorem cod_one (x y : Option Addr) : [Value.pointer x, .pointer y].toArray.all (·.oneCell') = true := by simp [Value.oneCell']
/-- a coder is kept when a coding's cell is turned -/
theorem cb_cod {w w' : World} {G : Nat → Prop} {pa : Addr} {L : List Int} {g : Nat} {cs : List Value} (h : CB w G pa L) (hg : Row w g 55 cs) (hf : Fr (fun k => k = g) w w') : CB w' G pa L := by
  obtain ⟨p, gs, m, cs, e, h1, h2, h3, h4, h5, h6, rest, h7⟩ := h
  exact ⟨p, gs, m, cs, e, h1, h2, h3, h4, h5, h6.fr hf (row_ne h6 hg (by decide)), rest, h7.fr hf (row_ne h7 hg (by decide))⟩
/-- no coding of these lengths -/
def BadC (a b : List Nat) : Prop := rightB (ints a) = false ∨ InM.noneB b = false ∧ rightB (ints b) = false
/-- what codingOf answers -/
def CodP (w' : World) (e : Ending) (a b : List Nat) : Prop :=
  (∃ pl pd, e = .returned (.tuple #[.agg #[.pointer pl, .pointer pd], .bool true]) ∧ Cod w' a b pl pd ∧ ¬ BadC a b) ∨ (e = .returned (.tuple #[.agg #[.pointer none, .pointer none], .bool false]) ∧ BadC a b)
set_option maxHeartbeats 3200000 in
theorem codingOfI_any (A1 : Option Addr) (n1 c1 : Nat) (a : List Nat) (A2 : Option Addr) (n2 c2 : Nat) (b : List Nat) (w : World) (hr1 : Rd w A1 n1 (a.map natc)) (hr2 : Rd w A2 n2 (b.map natc)) (hn1 : n1 ≤ 1000) (hn2 : n2 ≤ 1000)
    (hb1 : 0 < n1 → ∀ ad, A1 = some ad → ad.block < w.heap.size) (hb2 : 0 < n2 → ∀ ad, A2 = some ad → ad.block < w.heap.size) :
    Calls Tryz.prog 81 #[.slice A1 n1 c1, .slice A2 n2 c2] w fun e w' => CodP w' e a b ∧ Fr (fun _ => False) w w' := by
  obtain ⟨w1, hw1⟩ : ∃ w1, w1 = w.alloc (.cells #[Value.pointer none, .pointer none] 55) := ⟨_, rfl⟩
  obtain ⟨g, hg⟩ : ∃ g, g = w.heap.size := ⟨_, rfl⟩
  have hf1 : Fr (fun _ => False) w w1 := by rw [hw1]; exact (Fr.refl _ w).alloc _
  have HG1 : Hid (Row w1 g 55 [Value.pointer none, .pointer none]) := Lib.hid (by rw [hw1, hg]; exact Row.new w _ _)
  have HGW : Hid (w.heap.size ≤ g) := Lib.hid (by omega)
  have HF1 := Lib.hid hf1
  have hr1' : Rd w1 A1 n1 ((ints a).map intc) := by rw [natc_ints]; exact hr1.fr hf1 (fun _ _ h => h)
  have hb1' : 0 < n1 → ∀ ad, A1 = some ad → ad.block < w1.heap.size := fun h0 ad h => Nat.lt_of_lt_of_le (hb1 h0 ad h) hf1.size
  have hln1 : (ints a).length = n1 := by have := hr1.1; rw [List.length_map] at this; rw [ints_len, this]
  have HLN2 : Hid ((ints b).length = n2) := Lib.hid (by have := hr2.1; rw [List.length_map] at this; rw [ints_len, this])
  have HR2 : Hid (∀ w', Fr (fun _ => False) w1 w' → Rd w' A2 n2 (b.map natc)) := Lib.hid (fun w' hf => (hr2.fr hf1 (fun _ _ h => h)).fr hf (fun _ _ h => h))
  have HB2 : Hid (∀ w', Fr (fun _ => False) w1 w' → 0 < n2 → ∀ ad, A2 = some ad → ad.block < w'.heap.size) := Lib.hid (fun w' hf h0 ad h => by have := hb2 h0 ad h; have := hf1.size; have := hf.size; omega)
  have HN2 := Lib.hid hn2
  cases hRa : rightB (ints a) with
  | false =>
    have HX : Hid (BadC a b) := Lib.hid (.inl hRa)
    have HNW := Lib.hid (pNew_no A1 n1 c1 (ints a) w1 hr1' hn1 hRa)
    clear hRa hr1 hr2 hb1 hb2 hr1' hb1' hf1 hn2 hln1
    go_enter Tryz.func81, Tryz.ntmps81
    go_upto_region 1 with fail
    rw [← hw1, ← hg]
    clear hw1 hg
    go_wp2_with (refine HNW.out.mono ?_)
    rintro e w2 ⟨rfl, hf2⟩
    have HF2 := Lib.hid (HF1.out.trans hf2 (fun _ _ h => h))
    have HG2 := Lib.hid (HG1.out.fr hf2 (fun h => h))
    clear hf2 HNW
    go_wp2_with (refine store_st codSz rfl (.tmp 4) (.tmp 16) rfl g (by rfl) [Value.pointer none, .pointer none] (by rfl) _ _ HG2.out rfl rfl (cod_one _ _) ?_)
    intro w9 hr9 hf9
    have d0 : w9.cell? ⟨g, 0, none⟩ = some (.pointer none) := hr9.cell rfl
    have d1 : w9.cell? ⟨g, 1, none⟩ = some (.pointer none) := hr9.cell rfl
    have HF9 : Hid (Fr (fun _ => False) w w9) := Lib.hid (HF2.out.trans hf9 (fun k hk h => by have := HGW.out; omega))
    have HG9 := Lib.hid hf9
    clear hr9 hf9
    go_wp2_with fail
    exact bodyPost_ret (v := .tuple #[.agg #[.pointer none, .pointer none], .bool false]) (by simp [results, Tryz.results81, go_sem, d0, d1]) rfl ⟨.inr ⟨rfl, HX.out⟩, HF9.out⟩
  | true =>
    have HNW := Lib.hid (pNewG_yes A1 n1 c1 (ints a) w1 hr1' hn1 (hb1' (by rw [← hln1]; exact right_pos hRa)) hRa)
    have HRa := Lib.hid hRa
    clear hRa hr1 hr2 hb1 hb2 hr1' hb1' hf1 hn2 hln1
    cases hRb : rightB (ints b) with
    | true =>
      have hnbF : InM.noneB b = false := by
        cases h : InM.noneB b with
        | false => rfl
        | true =>
          rw [none_right h] at hRb
          cases hRb
      have HX : Hid (InM.noneB b = false ∧ ¬ BadC a b) := Lib.hid ⟨hnbF, fun h => by
        rcases h with h | h
        · rw [HRa.out] at h; cases h
        · rw [hRb] at h; cases h.2⟩
      clear hnbF
      have HRb := Lib.hid hRb
      clear hRb
      go_enter Tryz.func81, Tryz.ntmps81
      go_upto_region 1 with fail
      rw [← hw1, ← hg]
      clear hw1 hg
      go_wp2_with (refine HNW.out.mono ?_)
      rintro e w2 ⟨pa, rfl, hcb, hf2⟩
      have HF2 := Lib.hid (HF1.out.trans hf2 (fun _ _ h => h))
      have HG2 := Lib.hid (HG1.out.fr hf2 (fun h => h))
      have HCB := Lib.hid (hcb.mono (G' := fun _ => True) (fun _ _ => trivial))
      have hr2' : Rd w2 A2 n2 ((ints b).map intc) := by rw [natc_ints]; exact HR2.out w2 hf2
      have hb2' := HB2.out w2 hf2
      have HNW2 := Lib.hid (pNewG_yes A2 n2 c2 (ints b) w2 hr2' HN2.out (hb2' (by rw [← HLN2.out]; exact right_pos HRb.out)) HRb.out)
      clear HNW hcb hf2 hr2' hb2'
      go_wp2_with (refine HNW2.out.mono ?_)
      rintro e w3 ⟨pb, rfl, hcb3, hf3⟩
      have HF3 := Lib.hid (HF2.out.trans hf3 (fun _ _ h => h))
      have HG3 := Lib.hid (HG2.out.fr hf3 (fun h => h))
      have HCA3 := Lib.hid (HCB.out.fr hf3 (fun _ _ h => h))
      have HCB3 := Lib.hid (hcb3.mono (G' := fun _ => True) (fun _ _ => trivial))
      clear HNW2 hcb3 hf3
      have HCG : Hid (∀ w9, Fr (fun k => k = g) w3 w9 → Cod w9 a b (some pa) (some pb)) := Lib.hid (fun w9 hf => ⟨pa, rfl, cb_cod HCA3.out HG3.out hf, HRa.out, .inr ⟨HX.out.1, pb, rfl, cb_cod HCB3.out HG3.out hf, HRb.out⟩⟩)
      go_wp2_with (refine store_st codSz rfl (.tmp 4) (.tmp 31) rfl g (by rfl) [Value.pointer (some pa), .pointer (some pb)] (by rfl) _ _ HG3.out rfl rfl (cod_one _ _) ?_)
      intro w9 hr9 hf9
      have d0 : w9.cell? ⟨g, 0, none⟩ = some (.pointer (some pa)) := hr9.cell rfl
      have d1 : w9.cell? ⟨g, 1, none⟩ = some (.pointer (some pb)) := hr9.cell rfl
      have HF9 : Hid (Fr (fun _ => False) w w9) := Lib.hid (HF3.out.trans hf9 (fun k hk h => by have := HGW.out; omega))
      have HG9 := Lib.hid hf9
      clear hr9 hf9
      go_wp2_with fail
      exact bodyPost_ret (v := .tuple #[.agg #[.pointer (some pa), .pointer (some pb)], .bool true]) (by simp [results, Tryz.results81, go_sem, d0, d1]) rfl ⟨.inl ⟨_, _, rfl, HCG.out w9 HG9.out, HX.out.2⟩, HF9.out⟩
    | false =>
      have HRb := Lib.hid hRb
      clear hRb
      cases hnb : InM.noneB b with
      | false =>
        have HX : Hid (BadC a b) := Lib.hid (.inr ⟨hnb, HRb.out⟩)
        have HNB := Lib.hid hnb
        clear hnb
        go_enter Tryz.func81, Tryz.ntmps81
        go_upto_region 1 with fail
        rw [← hw1, ← hg]
        clear hw1 hg
        go_wp2_with (refine HNW.out.mono ?_)
        rintro e w2 ⟨pa, rfl, hcb, hf2⟩
        have HF2 := Lib.hid (HF1.out.trans hf2 (fun _ _ h => h))
        have HG2 := Lib.hid (HG1.out.fr hf2 (fun h => h))
        have HCB := Lib.hid (hcb.mono (G' := fun _ => True) (fun _ _ => trivial))
        have hr2' : Rd w2 A2 n2 ((ints b).map intc) := by rw [natc_ints]; exact HR2.out w2 hf2
        have hb2' := HB2.out w2 hf2
        have HNW2 := Lib.hid (pNew_no A2 n2 c2 (ints b) w2 hr2' HN2.out HRb.out)
        have HRW := Lib.hid (HR2.out w2 hf2)
        clear HNW hcb hf2 hr2' hb2'
        go_wp2_with (refine HNW2.out.mono ?_)
        rintro e w3 ⟨rfl, hf3⟩
        have HF3 := Lib.hid (HF2.out.trans hf3 (fun _ _ h => h))
        have HG3 := Lib.hid (HG2.out.fr hf3 (fun h => h))
        have HCA3 := Lib.hid (HCB.out.fr hf3 (fun _ _ h => h))
        have hcn := containsNz_any A2 n2 c2 b w3 (HRW.out.fr hf3 (fun _ _ h => h)) HN2.out
        rw [HNB.out] at hcn
        have HCN := Lib.hid hcn
        clear HNW2 hf3 hcn
        go_wp2_with (refine HCN.out.mono ?_)
        rintro e w4 ⟨rfl, rfl⟩
        clear HCN
        go_wp2_with (refine store_st codSz rfl (.tmp 4) (.tmp 28) rfl g (by rfl) [Value.pointer none, .pointer none] (by rfl) _ _ HG3.out rfl rfl (cod_one _ _) ?_)
        intro w9 hr9 hf9
        have d0 : w9.cell? ⟨g, 0, none⟩ = some (.pointer none) := hr9.cell rfl
        have d1 : w9.cell? ⟨g, 1, none⟩ = some (.pointer none) := hr9.cell rfl
        have HF9 : Hid (Fr (fun _ => False) w w9) := Lib.hid (HF3.out.trans hf9 (fun k hk h => by have := HGW.out; omega))
        have HG9 := Lib.hid hf9
        clear hr9 hf9
        go_wp2_with fail
        exact bodyPost_ret (v := .tuple #[.agg #[.pointer none, .pointer none], .bool false]) (by simp [results, Tryz.results81, go_sem, d0, d1]) rfl ⟨.inr ⟨rfl, HX.out⟩, HF9.out⟩
      | true =>
        have HX : Hid (InM.noneB b = true ∧ ¬ BadC a b) := Lib.hid ⟨hnb, fun h => by
          rcases h with h | h
          · rw [HRa.out] at h; cases h
          · rw [hnb] at h; cases h.1⟩
        have HNB := Lib.hid hnb
        clear hnb
        go_enter Tryz.func81, Tryz.ntmps81
        go_upto_region 1 with fail
        rw [← hw1, ← hg]
        clear hw1 hg
        go_wp2_with (refine HNW.out.mono ?_)
        rintro e w2 ⟨pa, rfl, hcb, hf2⟩
        have HF2 := Lib.hid (HF1.out.trans hf2 (fun _ _ h => h))
        have HG2 := Lib.hid (HG1.out.fr hf2 (fun h => h))
        have HCB := Lib.hid (hcb.mono (G' := fun _ => True) (fun _ _ => trivial))
        have hr2' : Rd w2 A2 n2 ((ints b).map intc) := by rw [natc_ints]; exact HR2.out w2 hf2
        have hb2' := HB2.out w2 hf2
        have HNW2 := Lib.hid (pNew_no A2 n2 c2 (ints b) w2 hr2' HN2.out HRb.out)
        have HRW := Lib.hid (HR2.out w2 hf2)
        clear HNW hcb hf2 hr2' hb2'
        go_wp2_with (refine HNW2.out.mono ?_)
        rintro e w3 ⟨rfl, hf3⟩
        have HF3 := Lib.hid (HF2.out.trans hf3 (fun _ _ h => h))
        have HG3 := Lib.hid (HG2.out.fr hf3 (fun h => h))
        have HCA3 := Lib.hid (HCB.out.fr hf3 (fun _ _ h => h))
        have hcn := containsNz_any A2 n2 c2 b w3 (HRW.out.fr hf3 (fun _ _ h => h)) HN2.out
        rw [HNB.out] at hcn
        have HCN := Lib.hid hcn
        clear HNW2 hf3 hcn
        go_wp2_with (refine HCN.out.mono ?_)
        rintro e w4 ⟨rfl, rfl⟩
        clear HCN
        have HCG : Hid (∀ w9, Fr (fun k => k = g) w3 w9 → Cod w9 a b (some pa) none) := Lib.hid (fun w9 hf => ⟨pa, rfl, cb_cod HCA3.out HG3.out hf, HRa.out, .inl ⟨HX.out.1, rfl⟩⟩)
        go_wp2_with (refine store_st codSz rfl (.tmp 4) (.tmp 31) rfl g (by rfl) [Value.pointer (some pa), .pointer none] (by rfl) _ _ HG3.out rfl rfl (cod_one _ _) ?_)
        intro w9 hr9 hf9
        have d0 : w9.cell? ⟨g, 0, none⟩ = some (.pointer (some pa)) := hr9.cell rfl
        have d1 : w9.cell? ⟨g, 1, none⟩ = some (.pointer none) := hr9.cell rfl
        have HF9 : Hid (Fr (fun _ => False) w w9) := Lib.hid (HF3.out.trans hf9 (fun k hk h => by have := HGW.out; omega))
        have HG9 := Lib.hid hf9
        clear hr9 hf9
        go_wp2_with fail
        exact bodyPost_ret (v := .tuple #[.agg #[.pointer (some pa), .pointer none], .bool true]) (by simp [results, Tryz.results81, go_sem, d0, d1]) rfl ⟨.inl ⟨_, _, rfl, HCG.out w9 HG9.out, HX.out.2⟩, HF9.out⟩
end Go.Proofs.YtgpkiijmembggaaGreatDoor
