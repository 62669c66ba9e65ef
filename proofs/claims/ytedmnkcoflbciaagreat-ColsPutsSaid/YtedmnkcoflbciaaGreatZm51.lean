/-
  Layer 13, the reference: Bytes (written by gen_booq.py).
  Layer 16, the reference: num (written by gen_ref16.py).
  Layer 16, the reference: Get.
-/
import Derived.Test.YtedmnkcoflbciaaGreatZm48
import Derived.Test.YtedmnkcoflbciaaGreatZm28
import Derived.Test.YtedmnkcoflbciaaGreatZm33
import Derived.Test.YtedmnkcoflbciaaGreatZm35
import Derived.Test.YtedmnkcoflbciaaGreatZm04
import Derived.Test.YtedmnkcoflbciaaGreatLebD
import Derived.Deep.DeepCutAuto
import Derived.Deep.CutRange
namespace Go.Proofs.YtedmnkcoflbciaaGreat
open Go.RowKit Mem Go.Lib LebM BooM
attribute [local go_sem ↓] Go.wp_at_zero Go.wp_at_succ
set_option linter.unusedVariables false

theorem own_list13 {w : World} {base c N : Nat} {A : Option Addr} {B C D : List UInt8} (hD : D = B ++ C) (hN : N = D.length) (h : w.ownsRow base 5 1 (.slice A N c) N (B.map bytec ++ C.map bytec)) : Own w base A c D := by
  unfold Own
  rw [← hN, hD, List.map_append]
  exact h
theorem flat_snoc13 (N : List Nat) (j : Nat) : (N ++ [j]).flatMap u = N.flatMap u ++ u j := by simp
theorem len_snoc13 (N : List Nat) (j : Nat) : (N ++ [j]).length = N.length + 1 := by simp
set_option maxRecDepth 100000 in
set_option maxHeartbeats 3200000 in
theorem rbytes13_any (A : Option Addr) (n c : Nat) (L : List Bool) (w : World) (hL : Rd w A n (L.map boc)) (hn : n ≤ 1000000) :
    Calls Tryz.prog 29 #[.slice A n c] w (Gives w (BooM.putB L)) := by
  have HL := Lib.hid hL
  have hln : L.length = n := by simpa using hL.1
  have HLN := Lib.hid hln
  obtain ⟨base, hbase⟩ : ∃ base, base = w.heap.size := ⟨_, rfl⟩
  have HB := Lib.hid hbase
  unfold Gives
  rw [← hbase]
  obtain ⟨R, hR⟩ : ∃ R, R = BooM.putB L := ⟨_, rfl⟩
  rw [← hR]
  have HR := Lib.hid hR
  clear hL hln hbase hR
  go_enter Tryz.func29, Tryz.ntmps29
  go_wp2_with fail
  go_loopw [3, 4, 5, 6] (fun s v x m wr => ∃ (k : Nat) (N : List Nat) (B : List UInt8) (A1 : Option Addr) (c1 : Nat) (y : Bool), k ≤ n ∧ v = .int .i64 (k : Int) ∧ s = .slice A1 B.length c1 ∧ x = .bool y ∧ m = .bool (decide (2 ≤ N.length)) ∧
    Hid (RunB L N k y) ∧ Hid (B = N.flatMap u) ∧ Hid (B.length ≤ 10 * k + 10 ∧ (N = [] → B = []) ∧ (N ≠ [] → 0 < B.length)) ∧ Hid (Own wr base A1 c1 B) ∧ Hid (Fr (fun _ => False) w wr)) (fun s v _ _ _ => 2 * (n - (intOf v).toNat) + (if bslen s = 0 then 1 else 0))
  case atStart => exact ⟨0, [], [], none, 0, false, Nat.zero_le _, rfl, rfl, rfl, by simp, RunB.zero L, rfl, ⟨Nat.zero_le _, fun _ => rfl, fun h => absurd rfl h⟩, Own.nil _ _, Fr.refl _ _⟩
  case round =>
    obtain ⟨k, N, B, A1, c1, y, hk, rfl, rfl, rfl, rfl, HQ, HBN, HBL, HO, HF⟩ := hrel
    rename World => wr
    obtain ⟨m, hm⟩ : ∃ m, decide (2 ≤ N.length) = m := ⟨_, rfl⟩
    rw [hm]
    have HM := Lib.hid hm
    clear hm
    by_cases hlt : k < n
    · have HRL := Lib.hid (HL.out.fr HF.out (fun _ _ h => h))
      go_wp2_with fail
      go_loopw [7] (fun v w' => ∃ j : Nat, v = .int .i64 (j : Int) ∧ k + j ≤ n ∧ Hid (∀ i, i < j → L[k + i]? = some y) ∧ w' = wr) (fun v _ => n - (intOf v).toNat)
      case atStart => exact ⟨0, rfl, by omega, (fun i h => absurd h (Nat.not_lt_zero _) : ∀ i, i < 0 → L[k + i]? = some y), rfl⟩
      case round =>
        obtain ⟨j, rfl, hj, HJ, rfl⟩ := hrel
        have r1 : IntKind.i64.wrap ((k : Int) + (j : Int)) = ((k + j : Nat) : Int) := by rw [IntKind.wrap_i64]; omega
        by_cases hlt2 : k + j < n
        · obtain ⟨ad, v, rfl, hv, hcell⟩ := HRL.out.at_ hlt2
          obtain ⟨x, hx⟩ : ∃ x, L[k + j]? = some x := ⟨L[k + j]'(by have := HLN.out; omega), List.getElem?_eq_getElem _⟩
          obtain rfl : boc x = v := by simpa [hx] using hv
          unfold boc at hcell
          have t0 : decide (((k + j : Nat) : Int) < (n : Int)) = true := decide_eq_true (by omega)
          by_cases hxy : x = y
          · subst hxy
            have t1 : (x == x) = true := by simp
            have HJ2 : Hid (∀ i, i < j + 1 → L[k + i]? = some x) := Lib.hid (fun i hi => by
              by_cases e : i = j
              · rw [e]; exact hx
              · exact HJ.out i (by omega))
            clear hv hx
            go_wp2_with fail
            exact ⟨⟨j + 1, by go_num, by omega, HJ2.out, trivial⟩, by simp [intOf]; omega⟩
          · have t1 : (x == y) = false := by simpa using hxy
            have hxn : x = !y := by cases x <;> cases y <;> simp at hxy ⊢
            have hst := HQ.out.step (n := j) (by have := HLN.out; omega) HJ.out (by have := HLN.out; omega) (fun _ => by rw [hx, hxn])
            have HST := Lib.hid hst
            clear hv hx hst hxn
            have hn0 : N ≠ [] → 1 ≤ j := fun h => by
              rcases Nat.eq_zero_or_pos j with e | e
              · exfalso
                have h1 := HST.out.pos j (by
                  cases N with
                  | nil => exact absurd rfl h
                  | cons a N => simp)
                exact h1 e
              · exact e
            have hul : (u j).length ≤ 10 ∧ 0 < (u j).length := ⟨u_len10 (by omega), u_pos j⟩
            obtain ⟨B2, hB2⟩ : ∃ B2, B2 = B ++ u j := ⟨_, rfl⟩
            have hfl : B2 = (N ++ [j]).flatMap u := by rw [hB2, flat_snoc13, ← HBN.out]
            have hbl : B2.length ≤ 10 * (k + j) + 10 ∧ 0 < B2.length := by
              rw [hB2, List.length_append]
              refine ⟨?_, by omega⟩
              by_cases h : N = []
              · rw [HBL.out.2.1 h, List.length_nil]; omega
              · have h1 := hn0 h; have h2 := HBL.out.1; omega
            have hsm : (m || y) = decide (2 ≤ (N ++ [j]).length) := by rw [← HM.out, HQ.out.some, len_snoc13]
            obtain ⟨m2, hm2⟩ : ∃ b, b = decide (2 ≤ (N ++ [j]).length) := ⟨_, rfl⟩
            rw [← hm2] at hsm
            obtain ⟨N2, hN2⟩ : ∃ x, x = B.length + (u j).length := ⟨_, rfl⟩
            have hN2B : N2 = B2.length := by rw [hB2, List.length_append, hN2]
            have r2 : IntKind.u64.wrap (j : Int) = (j : Int) := by rw [IntKind.wrap_u64]; omega
            have HU := Lib.hid (fun w => rU_any j w (by omega))
            have HFL := Lib.hid hfl
            have HB2 := Lib.hid hB2
            have HBL2 := Lib.hid hbl
            have HM2 := Lib.hid hm2
            have HN2 := Lib.hid hN2
            have HN2B := Lib.hid hN2B
            have HBS : Hid (base ≤ wr.heap.size) := Lib.hid (by have h1 := HB.out; have h2 := HF.out.size; omega)
            have HBL3 : Hid (N2 ≤ 100000000) := Lib.hid (by omega)
            have HSM := Lib.hid hsm
            clear hn0 hul hB2 hfl hbl hsm hm2 hN2 hN2B
            cases m
            all_goals
              go_wp2_with fail
              refine (HU.out _).mono ?_
              rintro e w2 ⟨A2, c2, rfl, ho2, hf2⟩
              have HR2 := Lib.hid ho2.rd
              have HO2 := Lib.hid (HO.out.fr hf2)
              have HF2 := Lib.hid (HF.out.trans hf2 (fun _ _ h => h))
              have HS2 : Hid (base ≤ w2.heap.size) := Lib.hid (by have h1 := HBS.out; have h2 := hf2.size; omega)
              clear ho2 hf2
              go_wp2_with (at_builtin; refine wpList_appN u8T w2 rfl _ _ rfl base _ _ _ rfl HO2.out A2 _ c2 _ rfl HR2.out (bytec_one _) N2 HN2.out (by have := HBL3.out; unfold maxLen; omega) (by have := HBL3.out; omega) HS2.out ?_)
              intro A6 c6 w6 _ _ hown6 hfr6 _
              have HP6 : Hid (Own w6 base A6 c6 B2) := Lib.hid (own_list13 HB2.out HN2B.out hown6)
              have HF6 : Hid (Fr (fun _ => False) w w6) := Lib.hid (HF2.out.trans hfr6 (fun b hb h => by have h1 := (HO2.out.lt _ h).1; have h2 := HB.out; omega))
              clear hown6 hfr6
              go_wp2_with fail
              refine ⟨⟨k + j, N ++ [j], B2, A6, c6, !y, by omega, by go_num, by rw [HN2B.out], rfl, by rw [← HM2.out, ← HSM.out]; rfl, HST.out, HFL.out, ⟨HBL2.out.1, fun h => absurd h (by simp), fun _ => HBL2.out.2⟩, HP6.out, HF6.out⟩, ?_⟩
              have h1 := HBL2.out.2
              have h2 := HN2B.out
              have e1 : bslen (.slice A6 N2 c6) = N2 := rfl
              have e2 : bslen (.slice A1 B.length c1) = B.length := rfl
              rw [e1, e2, if_neg (by omega)]
              by_cases hN : N = []
              · rw [if_pos (by rw [HBL.out.2.1 hN]; rfl)]
                simp [intOf]
                omega
              · have h3 : 1 ≤ j := by
                  rcases Nat.eq_zero_or_pos j with e | e
                  · exfalso
                    refine HST.out.pos j ?_ e
                    cases N with
                    | nil => exact absurd rfl hN
                    | cons a N => simp
                  · exact e
                simp [intOf]
                omega
        · have t0 : decide (((k + j : Nat) : Int) < (n : Int)) = false := decide_eq_false (by omega)
          have hst := HQ.out.step (n := j) (by have := HLN.out; omega) HJ.out (by have := HLN.out; omega) (fun h => by have := HLN.out; omega)
          have HST := Lib.hid hst
          clear hst
          have hn0 : N ≠ [] → 1 ≤ j := fun h => by
            rcases Nat.eq_zero_or_pos j with e | e
            · exfalso
              have h1 := HST.out.pos j (by
                cases N with
                | nil => exact absurd rfl h
                | cons a N => simp)
              exact h1 e
            · exact e
          have hul : (u j).length ≤ 10 ∧ 0 < (u j).length := ⟨u_len10 (by omega), u_pos j⟩
          obtain ⟨B2, hB2⟩ : ∃ B2, B2 = B ++ u j := ⟨_, rfl⟩
          have hfl : B2 = (N ++ [j]).flatMap u := by rw [hB2, flat_snoc13, ← HBN.out]
          have hbl : B2.length ≤ 10 * (k + j) + 10 ∧ 0 < B2.length := by
            rw [hB2, List.length_append]
            refine ⟨?_, by omega⟩
            by_cases h : N = []
            · rw [HBL.out.2.1 h, List.length_nil]; omega
            · have h1 := hn0 h; have h2 := HBL.out.1; omega
          have hsm : (m || y) = decide (2 ≤ (N ++ [j]).length) := by rw [← HM.out, HQ.out.some, len_snoc13]
          obtain ⟨m2, hm2⟩ : ∃ b, b = decide (2 ≤ (N ++ [j]).length) := ⟨_, rfl⟩
          rw [← hm2] at hsm
          obtain ⟨N2, hN2⟩ : ∃ x, x = B.length + (u j).length := ⟨_, rfl⟩
          have hN2B : N2 = B2.length := by rw [hB2, List.length_append, hN2]
          have r2 : IntKind.u64.wrap (j : Int) = (j : Int) := by rw [IntKind.wrap_u64]; omega
          have HU := Lib.hid (fun w => rU_any j w (by omega))
          have HFL := Lib.hid hfl
          have HB2 := Lib.hid hB2
          have HBL2 := Lib.hid hbl
          have HM2 := Lib.hid hm2
          have HN2 := Lib.hid hN2
          have HN2B := Lib.hid hN2B
          have HBS : Hid (base ≤ wr.heap.size) := Lib.hid (by have h1 := HB.out; have h2 := HF.out.size; omega)
          have HBL3 : Hid (N2 ≤ 100000000) := Lib.hid (by omega)
          have HSM := Lib.hid hsm
          clear hn0 hul hB2 hfl hbl hsm hm2 hN2 hN2B
          cases m
          all_goals
            go_wp2_with fail
            refine (HU.out _).mono ?_
            rintro e w2 ⟨A2, c2, rfl, ho2, hf2⟩
            have HR2 := Lib.hid ho2.rd
            have HO2 := Lib.hid (HO.out.fr hf2)
            have HF2 := Lib.hid (HF.out.trans hf2 (fun _ _ h => h))
            have HS2 : Hid (base ≤ w2.heap.size) := Lib.hid (by have h1 := HBS.out; have h2 := hf2.size; omega)
            clear ho2 hf2
            go_wp2_with (at_builtin; refine wpList_appN u8T w2 rfl _ _ rfl base _ _ _ rfl HO2.out A2 _ c2 _ rfl HR2.out (bytec_one _) N2 HN2.out (by have := HBL3.out; unfold maxLen; omega) (by have := HBL3.out; omega) HS2.out ?_)
            intro A6 c6 w6 _ _ hown6 hfr6 _
            have HP6 : Hid (Own w6 base A6 c6 B2) := Lib.hid (own_list13 HB2.out HN2B.out hown6)
            have HF6 : Hid (Fr (fun _ => False) w w6) := Lib.hid (HF2.out.trans hfr6 (fun b hb h => by have h1 := (HO2.out.lt _ h).1; have h2 := HB.out; omega))
            clear hown6 hfr6
            go_wp2_with fail
            refine ⟨⟨k + j, N ++ [j], B2, A6, c6, !y, by omega, by go_num, by rw [HN2B.out], rfl, by rw [← HM2.out, ← HSM.out]; rfl, HST.out, HFL.out, ⟨HBL2.out.1, fun h => absurd h (by simp), fun _ => HBL2.out.2⟩, HP6.out, HF6.out⟩, ?_⟩
            have h1 := HBL2.out.2
            have h2 := HN2B.out
            have e1 : bslen (.slice A6 N2 c6) = N2 := rfl
            have e2 : bslen (.slice A1 B.length c1) = B.length := rfl
            rw [e1, e2, if_neg (by omega)]
            by_cases hN : N = []
            · rw [if_pos (by rw [HBL.out.2.1 hN]; rfl)]
              simp [intOf]
              omega
            · have h3 : 1 ≤ j := by
                rcases Nat.eq_zero_or_pos j with e | e
                · exfalso
                  refine HST.out.pos j ?_ e
                  cases N with
                  | nil => exact absurd rfl hN
                  | cons a N => simp
                · exact e
              simp [intOf]
              omega
    · obtain rfl : k = n := by omega
      have hp := HQ.out.putB (by have := HLN.out; omega)
      rw [← HR.out] at hp
      have HP := Lib.hid hp
      clear hp
      cases m with
      | true =>
        have h2 : 2 ≤ N.length := of_decide_eq_true HM.out
        have hRB : R = B := by rw [HP.out, if_pos h2, HBN.out]
        subst hRB
        go_wp2_with fail
        go_ret
        exact ⟨A1, c1, rfl, HO.out, HF.out⟩
      | false =>
        have h2 : ¬ 2 ≤ N.length := of_decide_eq_false HM.out
        have hRB : R = [] := by rw [HP.out, if_neg h2]
        subst hRB
        go_wp2_with fail
        go_ret
        exact ⟨none, 0, rfl, Own.nil _ _, HF.out⟩
end Go.Proofs.YtedmnkcoflbciaaGreat
namespace Go.Proofs.YtedmnkcoflbciaaGreat
open Go.RowKit Mem Go.Lib LebM DirM
attribute [local go_sem ↓] Go.wp_at_zero Go.wp_at_succ
set_option linter.unusedVariables false

end Go.Proofs.YtedmnkcoflbciaaGreat
namespace Go.Proofs.YtedmnkcoflbciaaGreat
open Go.RowKit Mem Go.Lib LebM DirM
attribute [local go_sem ↓] Go.wp_at_zero Go.wp_at_succ
set_option linter.unusedVariables false

def ridc (c : Col) : Value := .int .i64 (c.1 : Int)
def rtxt (c : Col) : Value := .string (txt c.2)
theorem rcTS : ElemTyS Tryz.prog 31 39 (.agg #[.int .i64 0, .string ⟨#[]⟩]) 2 24 := ⟨Tryz.underlying31, by kernel_rfl, rfl, by decide⟩
end Go.Proofs.YtedmnkcoflbciaaGreat
