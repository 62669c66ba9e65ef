/-
  Layer 18, the law ActorsBack (written by gen_laws18.py).
-/
import Derived.Test.YtbagclhghcglbaaAcJ
import Derived.Test.YtbagclhghcglbaaAcE
import Derived.Test.YtbagclhghcglbaaAcH
import Derived.Test.YtbagclhghcglbaaAcT
namespace Go.Proofs.Ytbagclhghcglbaa
open Go.RowKit Mem Go.Lib LebM UtfM VaM OpM AcM
attribute [local go_sem ↓] Go.wp_at_zero Go.wp_at_succ
set_option linter.unusedVariables false

set_option maxRecDepth 100000 in
set_option maxHeartbeats 12800000 in
theorem acback_law (a : Tx) (A : Option Addr) (n c : Nat) (L : List Om) (A2 : Option Addr) (nm cm : Nat) (B : List UInt8) (kc : Nat) (w : World) (hL : Ops w A n L) (hn : n ≤ 9223372036854775807) (hlen : ∀ x ∈ L, x.lens) (ha : a.length ≤ 9223372036854775807) (hB : Rd w A2 nm (B.map bytec)) (hBc : nm ≤ cm) (hBm : cm ≤ maxLen) (hkc : kc < 256) :
    Calls Try.prog 5 #[.string (txt a), .slice A n c, .slice A2 nm cm, .int .u8 (kc : Int)] w fun e w' => e = .returned (.bool true) ∧ Fr (fun _ => False) w w' := by
  have HRM := Lib.hid hB
  have HBN : Hid (B.length = nm) := Lib.hid (by simpa using hB.1)
  have hnm63 : nm ≤ 9223372036854775807 := by unfold maxLen at hBm; omega
  clear hB hBm
  have HAW := Lib.hid (fun w' => awake18_any w')
  have HL := Lib.hid hL
  have hsza := txt_sz a
  obtain ⟨ma, hma⟩ : ∃ m, m = a.length := ⟨_, rfl⟩
  rw [← hma] at hsza
  have HLa : Hid (a.length = ma) := Lib.hid hma.symm
  clear hma
  have hfw := fun w' (hf : Fr (fun _ => False) w w') => rfew_any A n c L 40 w' (hL.fr hf) hn (by omega) hlen
  obtain ⟨b, hb⟩ : ∃ b, (decide (n ≤ 40) && fewB L) = b := ⟨_, rfl⟩
  simp only [hb] at hfw
  have hfw2 : ∀ w' (hf : Fr (fun _ => False) w w'), Calls Try.prog 9 #[.slice A n c, .int .i64 40] w' fun e w'' => e = .returned (.bool b) ∧ w' = w'' := hfw
  have HFW := Lib.hid hfw2
  clear hfw hfw2
  clear hL hn hlen
  by_cases hq0 : 1000 < ma
  · have tq0 : decide ((1000 : Int) < (ma : Int)) = true := decide_eq_true (by omega)
    have tq0' : decide (1000 < ma) = true := decide_eq_true hq0
    clear hq0
    go_enter Try.func5, Try.ntmps5
    go_wp2_with fail
    refine (HAW.out _).mono ?_
    rintro e w1 ⟨rfl, hf⟩
    have HF1 := Lib.hid hf
    clear hf
    go_wp2_with fail
    refine (HAW.out _).mono ?_
    rintro e w3 ⟨rfl, hf⟩
    have HF3 := Lib.hid (HF1.out.trans hf (fun _ _ h => h))
    clear hf
    go_wp2_with fail
    go_ret
    exact ⟨rfl, HF3.out⟩
  · have tq0 : decide ((1000 : Int) < (ma : Int)) = false := decide_eq_false (by omega)
    have tq0' : decide (1000 < ma) = false := decide_eq_false hq0
    by_cases hq1 : 1000 < nm
    · have tq1 : decide ((1000 : Int) < (nm : Int)) = true := decide_eq_true (by omega)
      have tq1' : decide (1000 < nm) = true := decide_eq_true hq1
      clear hq1
      go_enter Try.func5, Try.ntmps5
      go_wp2_with fail
      refine (HAW.out _).mono ?_
      rintro e w1 ⟨rfl, hf⟩
      have HF1 := Lib.hid hf
      clear hf
      go_wp2_with fail
      refine (HAW.out _).mono ?_
      rintro e w3 ⟨rfl, hf⟩
      have HF3 := Lib.hid (HF1.out.trans hf (fun _ _ h => h))
      clear hf
      go_wp2_with fail
      go_ret
      exact ⟨rfl, HF3.out⟩
    · have tq1 : decide ((1000 : Int) < (nm : Int)) = false := decide_eq_false (by omega)
      have tq1' : decide (1000 < nm) = false := decide_eq_false hq1
      cases b with
      | false =>
        clear hb
        go_enter Try.func5, Try.ntmps5
        go_wp2_with fail
        refine (HAW.out _).mono ?_
        rintro e w1 ⟨rfl, hf⟩
        have HF1 := Lib.hid hf
        clear hf
        go_wp2_with fail
        refine (HFW.out _ HF1.out).mono ?_
        rintro e w2 ⟨rfl, rfl⟩
        go_wp2_with fail
        refine (HAW.out _).mono ?_
        rintro e w3 ⟨rfl, hf⟩
        have HF3 := Lib.hid (HF1.out.trans hf (fun _ _ h => h))
        clear hf
        go_wp2_with fail
        go_ret
        exact ⟨rfl, HF3.out⟩
      | true =>
        rw [Bool.and_eq_true, decide_eq_true_eq] at hb
        have hn40 := hb.1
        have HSH := Lib.hid (few_short hb.2)
        clear hb
        have hok : ∀ x ∈ L, x.short ∧ x.o.pr.length ≤ 1000 := fun x hx => ⟨(HSH.out x hx).1, by have := (HSH.out x hx).2; omega⟩
        have hnl : (namesM L).length ≤ 40080 := by
          have h1 := namesM_len (L := L) (fun x hx => (hok x hx).2)
          have h2 := HL.out.len
          omega
        have htl : (tabA a (namesM L)).length ≤ 40081 := by
          have := others_len a (namesM L)
          unfold tabA
          rw [List.length_cons]
          omega
        have hns := names_short (fun x hx => (hok x hx).1)
        have htx : ∀ x ∈ tabA a (namesM L), x.length ≤ 1000000 := fun x hx => by
          rcases List.mem_cons.1 hx with rfl | hx
          · have := HLa.out; omega
          · obtain ⟨_, y, hy, rfl⟩ := (others_mem a _ x).1 hx
            exact hns y hy
        have HTB := Lib.hid (fun w' (hf : Fr (fun _ => False) w w') => acTable_any a A n c L w' (HL.out.fr hf) (by omega) (by have := HLa.out; omega) hok)
        have HRT := Lib.hid (fun w' (hf : Fr (fun _ => False) w w') => racTable_any a A n c L w' (HL.out.fr hf) (by omega) (by have := HLa.out; omega) hok)
        have hri := others_rise a (namesM L)
        have hna : a ∉ othersA a (namesM L) := fun h => ((others_mem a _ a).1 h).1 rfl
        obtain ⟨O, hO⟩ : ∃ O, othersA a (namesM L) = O := ⟨_, rfl⟩
        obtain ⟨T, hT⟩ : ∃ T, tabA a (namesM L) = T := ⟨_, rfl⟩
        obtain ⟨nt, hnt⟩ : ∃ k, T.length = k := ⟨_, rfl⟩
        have hto : T = a :: O := by rw [← hT, ← hO]; rfl
        rw [hT] at htl htx
        rw [hnt] at htl
        rw [hO] at hri hna
        have HTO := Lib.hid hto
        have HOL : Hid (O.length + 1 = nt ∧ nt ≤ 40081) := Lib.hid ⟨by rw [← hnt, hto]; rfl, htl⟩
        have HRI := Lib.hid hri
        have HNA := Lib.hid hna
        have HTT := Lib.hid hT
        have HTN := Lib.hid hnt
        have HTX := Lib.hid htx
        clear hok hnl hns htx hT hnt HRT hto hO hri hna
        go_enter Try.func5, Try.ntmps5
        go_wp2_with fail
        refine (HAW.out _).mono ?_
        rintro e w1 ⟨rfl, hf⟩
        have HF1 := Lib.hid hf
        clear hf
        go_wp2_with fail
        refine (HFW.out _ HF1.out).mono ?_
        rintro e w2 ⟨rfl, rfl⟩
        go_wp2_with fail
        refine (HTB.out _ HF1.out).mono ?_
        rintro e w3 ⟨A3, c3, rfl, ho3, hf3⟩
        rw [HTT.out] at ho3
        rw [HTT.out, HTN.out]
        have HF3 := Lib.hid (HF1.out.trans hf3 (fun _ _ h => h))
        have HO3 := Lib.hid ho3
        clear ho3 hf3
        go_wp2_with fail
        go_loopw [10] (fun i wr => ∃ k : Nat, 1 ≤ k ∧ i = .int .i64 (k : Int) ∧ Hid (∀ j x, 1 ≤ j → j < k → T[j]? = some x → actorB x = true) ∧ w3 = wr) (fun i _ => nt - (intOf i).toNat)
        case atStart => exact ⟨1, Nat.le_refl _, rfl, Lib.hid (fun j x h1 h2 => by omega), rfl⟩
        case round =>
          obtain ⟨k, hk1, rfl, HAC, rfl⟩ := hrel
          by_cases hlt : k < nt
          · obtain ⟨ad, x, hA3, hx, hcell⟩ := rd_tx HO3.out.rd (k := k) (by rw [HTN.out]; exact hlt)
            have hxl := HTX.out x (List.mem_of_getElem? hx)
            have hac := fun w' => ractor_any x w' (by omega)
            obtain ⟨y, hy⟩ : ∃ y, actorB x = y := ⟨_, rfl⟩
            simp only [hy] at hac
            have HACC := Lib.hid hac
            have HXK := Lib.hid hx
            have HXY := Lib.hid hy
            subst hA3
            clear hx hxl hac hy
            cases y with
            | false =>
              go_wp2_with fail
              refine (HACC.out _).mono ?_
              rintro e w4 ⟨rfl, rfl⟩
              go_wp2_with fail
              go_ret
              exact ⟨rfl, HF3.out⟩
            | true =>
              have HN2 : Hid (∀ j x, 1 ≤ j → j < k + 1 → T[j]? = some x → actorB x = true) := Lib.hid (fun j z h1 h2 h3 => by
                by_cases e : j = k
                · subst e
                  rw [HXK.out] at h3
                  injection h3 with h3
                  rw [← h3]
                  exact HXY.out
                · exact HAC.out j z h1 (by omega) h3)
              go_wp2_with fail
              refine (HACC.out _).mono ?_
              rintro e w4 ⟨rfl, rfl⟩
              go_wp2_with fail
              go_roundw
              case rel => exact ⟨k + 1, by omega, by go_num, HN2, trivial⟩
              case measure => simp [intOf] <;> omega
          · have hall : ∀ x ∈ O, 1 ≤ x.length ∧ x.length ≤ 16 := fun x hx => by
              obtain ⟨j, hj⟩ := List.getElem?_of_mem hx
              have hjl := (List.getElem?_eq_some_iff.1 hj).1
              have hOl := HOL.out
              have h := HAC.out (j + 1) x (by omega) (by omega) (by rw [HTO.out, List.getElem?_cons_succ]; exact hj)
              unfold actorB at h
              simp only [Bool.and_eq_true, decide_eq_true_eq] at h
              omega
            have hol : O.length < 18446744073709551616 := by have := HOL.out; omega
            have hpl := put_len16 (a := a) hall hol
            rw [← HTO.out] at hpl
            have hgb := fun R => get_back (a := a) HRI.out HNA.out hall hol R
            have hgf := fun c hc => get_front (a := a) HRI.out HNA.out hall hol (c := c) hc
            rw [← HTO.out] at hgb hgf
            have hput := acPut_any A3 nt c3 T w3 (by have h := HO3.out.rd; rwa [HTN.out] at h) (by have h := HO3.out.cap.1; rwa [HTN.out] at h) (by omega) HTX.out
            obtain ⟨Y, hY⟩ : ∃ Y, putA T = Y := ⟨_, rfl⟩
            rw [hY] at hput hpl hgf
            simp only [hY] at hgb
            obtain ⟨ny, hny⟩ : ∃ k, Y.length = k := ⟨_, rfl⟩
            rw [hny] at hpl hgf
            simp only [hny] at hgb
            have hyb : 1 ≤ ny ∧ ny ≤ 1100000 := ⟨hpl.2, by have := hpl.1; have := HOL.out; omega⟩
            have HPU := Lib.hid hput
            have HGB := Lib.hid hgb
            have HGF := Lib.hid hgf
            have HYN := Lib.hid hny
            clear hall hol hpl hgb hgf hput hY hny
            go_wp2_with fail
            refine HPU.out.mono ?_
            intro e w4 h4
            obtain ⟨A4, c4, rfl, ho4, hf4⟩ := h4
            rw [HYN.out]
            have HF4 := Lib.hid (HF3.out.trans hf4 (fun _ _ h => h))
            have HO34 := Lib.hid (HO3.out.fr hf4)
            have HRY : Hid (Rd w4 A4 ny (Y.map bytec)) := Lib.hid (by have h := ho4.rd; rwa [HYN.out] at h)
            have HCY : Hid (ny ≤ c4) := Lib.hid (by have h := ho4.cap.1; rwa [HYN.out] at h)
            clear ho4 hf4
            obtain ⟨base, hbase⟩ : ∃ b, w4.heap.size = b := ⟨_, rfl⟩
            obtain ⟨w5, hw5⟩ : ∃ w5, w4.alloc (.cells #[] 5) = w5 := ⟨_, rfl⟩
            have hf5 : Fr (fun _ => False) w4 w5 := by rw [← hw5]; exact (Fr.refl _ _).alloc _
            have ho5 : w5.ownsRow base 5 1 (.slice (some ⟨base, 0, none⟩) 0 0) 0 [] := by rw [← hw5, ← hbase]; exact World.ownsRow_lit (size := 1) w4 #[] 0 (Nat.le_refl _) (by decide) rfl
            have HO5 := Lib.hid ho5
            have HF5 := Lib.hid (HF4.out.trans hf5 (fun _ _ h => h))
            have HRY5 := Lib.hid (HRY.out.fr hf5 (fun _ _ h => h))
            have HB5 : Hid (base ≤ w5.heap.size) := Lib.hid (by rw [← hbase]; exact hf5.size)
            have HFF5 := Lib.hid hf5
            clear ho5 hf5
            go_wp2_with (at_builtin; refine wpList_appN u8T _ rfl _ _ rfl base _ 0 [] rfl HO5.out _ _ _ _ rfl HRY5.out (bytec_one _) ny (by omega) (by unfold maxLen; omega) (by omega) HB5.out ?_)
            intro A6 c6 w6 _ _ ho6 hf6 _
            have HF6 : Hid (Fr (fun _ => False) w w6) := Lib.hid (HF5.out.trans hf6 (fun b hb h => by
              have h1 := (HO5.out.lt b h).1
              have h2 := HF4.out.size
              omega))
            have HFF6 : Hid (Fr (fun _ => False) w4 w6) := Lib.hid (HFF5.out.trans hf6 (fun b hb h => by
              have h1 := (HO5.out.lt b h).1
              omega))
            have HO6 := Lib.hid ho6
            have HB6 : Hid (base ≤ w6.heap.size) := Lib.hid (by have := HB5.out; have := hf6.size; omega)
            have HRM6 := Lib.hid (HRM.out.fr HF6.out (fun _ _ h => h))
            obtain ⟨nx, hnx⟩ : ∃ k, ny + nm = k := ⟨_, rfl⟩
            have hnx2 : nx ≤ 1101000 := by omega
            clear ho6 hf6
            go_wp2_with (at_builtin; refine wpList_appN u8T _ rfl _ _ rfl base _ ny _ rfl HO6.out _ _ _ _ rfl HRM6.out (bytec_one _) nx hnx.symm (by unfold maxLen; omega) (by omega) HB6.out ?_)
            intro A7 c7 w7 hc7 _ ho7 hf7 _
            have hbx : (Y ++ B).length = nx := by rw [List.length_append, HYN.out, HBN.out, hnx]
            have HRX : Hid (Rd w7 A7 nx ((Y ++ B).map bytec)) := Lib.hid (by
              rw [List.map_append]
              exact Rd.of_own (by simpa using ho7))
            have HF7 : Hid (Fr (fun _ => False) w w7) := Lib.hid (HF6.out.trans hf7 (fun b hb h => by
              have h1 := (HO6.out.lt b h).1
              have h2 := HF4.out.size
              omega))
            have HFF7 : Hid (Fr (fun _ => False) w4 w7) := Lib.hid (HFF6.out.trans hf7 (fun b hb h => by
              have h1 := (HO6.out.lt b h).1
              omega))
            have hgx := acGet_any a A7 nx c7 (Y ++ B) w7 HRX.out hc7 (by omega) (by have := HLa.out; omega)
            rw [HGB.out B] at hgx
            simp only [HTN.out] at hgx
            have HGX := Lib.hid hgx
            clear ho7 hf7 hgx hbx hw5 hbase hnx hc7
            go_wp2_with fail
            refine HGX.out.mono ?_
            rintro e w8 ⟨A8, c8, rfl, ho8, hf8⟩
            have HF8 := Lib.hid (HF7.out.trans hf8 (fun _ _ h => h))
            have HFF8 := Lib.hid (HFF7.out.trans hf8 (fun _ _ h => h))
            have HO8 := Lib.hid ho8
            clear ho8 hf8
            obtain ⟨y, hy⟩ : ∃ y, kc % ny = y := ⟨_, rfl⟩
            have hyl : y < ny := by rw [← hy]; exact Nat.mod_lt _ (by omega)
            have r1 : IntKind.i64.wrap (kc : Int) = (kc : Int) := by rw [IntKind.wrap_i64]; omega
            have r2 : (kc : Int).tmod (ny : Int) = (y : Int) := by rw [Int.tmod_eq_emod_of_nonneg (by omega), ← hy]; rfl
            have r3 : IntKind.i64.wrap (y : Int) = (y : Int) := by rw [IntKind.wrap_i64]; omega
            have r4 : ¬ (ny : Int) = 0 := by omega
            have r4' : ¬ ny = 0 := by omega
            have r4'' : ((ny : Int) == 0) = false := by simp; omega
            have hto := run_toB A4 ny c4 y (by omega) HCY.out (y : Int) rfl
            have hry := rd_take (HRY.out.fr HFF8.out (fun _ _ h => h)) (t := y) (by omega)
            rw [← List.map_take] at hry
            have hgy := acGet_any a A4 y c4 (Y.take y) w8 hry (by have := HCY.out; omega) (by omega) (by have := HLa.out; omega)
            rw [HGF.out y hyl] at hgy
            have HGY := Lib.hid hgy
            clear hy hry hgy hyl
            go_wp2_with fail
            refine HGY.out.mono ?_
            rintro e w9 ⟨A9, c9, rfl, _, hf9⟩
            have HF9 := Lib.hid (HF8.out.trans hf9 (fun _ _ h => h))
            have hsame := racSame_any A8 nt c8 T A3 nt c3 T w9 (by have h := (HO8.out.fr hf9).rd; rwa [HTN.out] at h) (by have h := ((HO34.out.fr HFF8.out).fr hf9).rd; rwa [HTN.out] at h) (by omega) (by omega)
            rw [decide_eq_true rfl] at hsame
            have HSA := Lib.hid hsame
            have te : ((ny : Int) == (ny : Int)) = true := by simp
            have hz : ([] : List Tx).length = 0 := rfl
            rw [hz]
            clear hf9 hsame r1 r2 r3 r4 r4' r4''
            go_wp2_with fail
            refine HSA.out.mono ?_
            rintro e w10 ⟨rfl, hf10⟩
            have HF10 := Lib.hid (HF9.out.trans hf10 (fun _ _ h => h))
            clear hf10
            go_wp2_with fail
            go_ret
            exact ⟨rfl, HF10.out⟩
end Go.Proofs.Ytbagclhghcglbaa
