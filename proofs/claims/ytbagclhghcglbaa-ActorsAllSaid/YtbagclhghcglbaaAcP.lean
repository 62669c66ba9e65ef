/-
  Layer 18, the law ActorsAll (written by gen_laws18.py).
-/
import Derived.Test.YtbagclhghcglbaaAcJ
import Derived.Test.YtbagclhghcglbaaAcE
import Derived.BigQuiet
namespace Go.Proofs.Ytbagclhghcglbaa
open Go.RowKit Mem Go.Lib LebM UtfM VaM OpM AcM
attribute [local go_sem ↓] Go.wp_at_zero Go.wp_at_succ
set_option linter.unusedVariables false

set_option maxRecDepth 100000 in
set_option maxHeartbeats 12800000 in
theorem acall_law (a : Tx) (A : Option Addr) (n c : Nat) (L : List Om) (w : World) (hL : Ops w A n L) (hn : n ≤ 9223372036854775807) (hlen : ∀ x ∈ L, x.lens) (ha : a.length ≤ 9223372036854775807) :
    Calls Try.prog 6 #[.string (txt a), .slice A n c] w fun e w' => e = .returned (.bool true) ∧ Fr (fun _ => False) w w' := by
  have HAW := Lib.hid (fun w' => awake18_any w')
  have HL := Lib.hid hL
  have hsza := txt_sz a
  obtain ⟨ma, hma⟩ : ∃ m, m = a.length := ⟨_, rfl⟩
  rw [← hma] at hsza
  have HLa : Hid (a.length = ma) := Lib.hid hma.symm
  clear hma
  have hfw := fun w' (hf : Fr (fun _ => False) w w') => rfew_any A n c L 40 w' (hL.fr hf) hn (by omega) hlen
  obtain ⟨b, hb⟩ : ∃ b, (decide (n ≤ 40) && fewB L) = b := ⟨_, rfl⟩
  simp only [hb] at hfw
  have hfw2 : ∀ w' (hf : Fr (fun _ => False) w w'), Calls Try.prog 9 #[.slice A n c, .int .i64 40] w' fun e w'' => e = .returned (.bool b) ∧ w' = w'' := hfw
  have HFW := Lib.hid hfw2
  clear hfw hfw2
  clear hL hn hlen
  by_cases hq0 : 1000 < ma
  · have tq0 : decide ((1000 : Int) < (ma : Int)) = true := decide_eq_true (by omega)
    have tq0' : decide (1000 < ma) = true := decide_eq_true hq0
    clear hq0
    go_enter Try.func6, Try.ntmps6
    go_wp2_with fail
    refine (HAW.out _).mono ?_
    rintro e w1 ⟨rfl, hf⟩
    have HF1 := Lib.hid hf
    clear hf
    go_wp2_with fail
    refine (HAW.out _).mono ?_
    rintro e w3 ⟨rfl, hf⟩
    have HF3 := Lib.hid (HF1.out.trans hf (fun _ _ h => h))
    clear hf
    go_wp2_with fail
    go_ret
    exact ⟨rfl, HF3.out⟩
  · have tq0 : decide ((1000 : Int) < (ma : Int)) = false := decide_eq_false (by omega)
    have tq0' : decide (1000 < ma) = false := decide_eq_false hq0
    cases b with
    | false =>
      clear hb
      go_enter Try.func6, Try.ntmps6
      go_wp2_with fail
      refine (HAW.out _).mono ?_
      rintro e w1 ⟨rfl, hf⟩
      have HF1 := Lib.hid hf
      clear hf
      go_wp2_with fail
      refine (HFW.out _ HF1.out).mono ?_
      rintro e w2 ⟨rfl, rfl⟩
      go_wp2_with fail
      refine (HAW.out _).mono ?_
      rintro e w3 ⟨rfl, hf⟩
      have HF3 := Lib.hid (HF1.out.trans hf (fun _ _ h => h))
      clear hf
      go_wp2_with fail
      go_ret
      exact ⟨rfl, HF3.out⟩
    | true =>
      rw [Bool.and_eq_true, decide_eq_true_eq] at hb
      have hn40 := hb.1
      have HSH := Lib.hid (few_short hb.2)
      clear hb
      have hok : ∀ x ∈ L, x.short ∧ x.o.pr.length ≤ 1000 := fun x hx => ⟨(HSH.out x hx).1, by have := (HSH.out x hx).2; omega⟩
      have hnl : (namesM L).length ≤ 40080 := by
        have h1 := namesM_len (L := L) (fun x hx => (hok x hx).2)
        have h2 := HL.out.len
        omega
      have htl : (tabA a (namesM L)).length ≤ 40081 := by
        have := others_len a (namesM L)
        unfold tabA
        rw [List.length_cons]
        omega
      have hns := names_short (fun x hx => (hok x hx).1)
      have htx : ∀ x ∈ tabA a (namesM L), x.length ≤ 1000000 := fun x hx => by
        rcases List.mem_cons.1 hx with rfl | hx
        · have := HLa.out; omega
        · obtain ⟨_, y, hy, rfl⟩ := (others_mem a _ x).1 hx
          exact hns y hy
      have HTB := Lib.hid (fun w' (hf : Fr (fun _ => False) w w') => acTable_any a A n c L w' (HL.out.fr hf) (by omega) (by have := HLa.out; omega) hok)
      have HRT := Lib.hid (fun w' (hf : Fr (fun _ => False) w w') => racTable_any a A n c L w' (HL.out.fr hf) (by omega) (by have := HLa.out; omega) hok)
      have hri := others_rise a (namesM L)
      have hom := others_mem a (namesM L)
      have hnm := fun w' (hf : Fr (fun _ => False) w w') => rnames_any A n c L w' (HL.out.fr hf) (by omega) (fun x hx => (hok x hx).2)
      obtain ⟨O, hO⟩ : ∃ O, othersA a (namesM L) = O := ⟨_, rfl⟩
      obtain ⟨T, hT⟩ : ∃ T, tabA a (namesM L) = T := ⟨_, rfl⟩
      obtain ⟨N, hN⟩ : ∃ N, namesM L = N := ⟨_, rfl⟩
      obtain ⟨nt, hnt⟩ : ∃ k, T.length = k := ⟨_, rfl⟩
      obtain ⟨l, hl⟩ : ∃ k, N.length = k := ⟨_, rfl⟩
      have hto : T = a :: O := by rw [← hT, ← hO]; rfl
      rw [hT] at htl htx
      rw [hnt] at htl
      rw [hO] at hri hom
      simp only [hN] at hom hnl
      rw [hl] at hnl
      have HTO := Lib.hid hto
      have HOL : Hid (O.length + 1 = nt ∧ nt ≤ 40081) := Lib.hid ⟨by rw [← hnt, hto]; rfl, htl⟩
      have HDI : Hid (∀ m x, T[m]? = some x → ∀ i, i < m → T[i]? ≠ some x) := Lib.hid (fun m x h i hi e => by
        have hd : T.Pairwise (fun x y => x ≠ y) := by
          rw [hto]
          exact List.pairwise_cons.2 ⟨fun y hy e => ((hom y).1 hy).1 e.symm, hri.imp (fun h => bless_ne h)⟩
        obtain ⟨h1, h2⟩ := List.getElem?_eq_some_iff.1 h
        obtain ⟨h3, h4⟩ := List.getElem?_eq_some_iff.1 e
        exact List.pairwise_iff_getElem.1 hd i m h3 h1 hi (h4.trans h2.symm))
      have HRS : Hid (∀ p x z, 1 ≤ p → T[p]? = some z → T[p + 1]? = some x → Op.bytesLess z x = true) := Lib.hid (fun p x z h1 h2 h3 => by
        obtain ⟨q, rfl⟩ : ∃ q, p = q + 1 := ⟨p - 1, by omega⟩
        rw [hto, List.getElem?_cons_succ] at h2 h3
        obtain ⟨k1, k2⟩ := List.getElem?_eq_some_iff.1 h2
        obtain ⟨k3, k4⟩ := List.getElem?_eq_some_iff.1 h3
        have := List.pairwise_iff_getElem.1 hri q (q + 1) k1 k3 (by omega)
        rwa [k2, k4] at this)
      have HOM := Lib.hid hom
      have HNM := Lib.hid hnm
      have HTT := Lib.hid hT
      have HTN := Lib.hid hnt
      have HNN := Lib.hid hN
      have HNL := Lib.hid hl
      clear hok hns htx hT hnt HRT hto hO hri hom hnm hN hl
      go_enter Try.func6, Try.ntmps6
      go_wp2_with fail
      refine (HAW.out _).mono ?_
      rintro e w1 ⟨rfl, hf⟩
      have HF1 := Lib.hid hf
      clear hf
      go_wp2_with fail
      refine (HFW.out _ HF1.out).mono ?_
      rintro e w2 ⟨rfl, rfl⟩
      go_wp2_with fail
      refine (HTB.out _ HF1.out).mono ?_
      rintro e w3 ⟨A3, c3, rfl, ho3, hf3⟩
      rw [HTT.out] at ho3
      rw [HTT.out, HTN.out]
      have HF3 := Lib.hid (HF1.out.trans hf3 (fun _ _ h => h))
      have HO3 := Lib.hid ho3
      obtain ⟨g, hA3, hc0, _⟩ := own_at (i := 0) (u := .string (txt a)) ho3 (by rw [HTO.out]; rfl)
      subst hA3
      have t0 : ((nt : Int) == 0) = false := by have := HOL.out.1; simp; omega
      have t0' : (nt == 0) = false := by have := HOL.out.1; simp; omega
      have hpos : 0 < nt := by have := HOL.out.1; omega
      have tne : ((txt a).toList != (txt a).toList) = false := by simp
      clear ho3 hf3
      go_wp2_with fail
      clear hc0 tne t0 t0'
      refine (HNM.out _ HF3.out).mono ?_
      rintro e w4 ⟨A4, c4, rfl, ho4, hf4⟩
      rw [HNN.out] at ho4
      rw [HNN.out, HNL.out]
      have HF4 := Lib.hid (HF3.out.trans hf4 (fun _ _ h => h))
      have HO4 := Lib.hid (HO3.out.fr hf4)
      have HON := Lib.hid ho4
      clear ho4 hf4
      go_wp2_with fail
      go_loopw [7] (fun i wr => ∃ k : Nat, k ≤ l ∧ i = .int .i64 (k : Int) ∧ w4 = wr) (fun i _ => l - (intOf i).toNat)
      case atStart => exact ⟨0, Nat.zero_le _, rfl, rfl⟩
      case round =>
        obtain ⟨k, hk, rfl, rfl⟩ := hrel
        by_cases hlt : k < l
        · obtain ⟨y, hy⟩ : ∃ y, N[k]? = some y := ⟨_, List.getElem?_eq_getElem (by have := HNL.out; omega)⟩
          obtain ⟨gy, oy, hA4, _, n0, n1⟩ := HON.out.prs.2 k y hy
          subst hA4
          simp only [ncc, nac] at n0 n1
          have hix := acIndex_any (some ⟨g, 0, none⟩) nt c3 T y.a w4 (by have h := HO4.out.rd; rwa [HTN.out] at h) (by have := HOL.out.2; omega)
          have h0 : 0 ≤ idxA y.a T := by
            refine idx_mem ?_
            rw [HTO.out]
            by_cases e : y.a = a
            · rw [e]; exact List.mem_cons_self ..
            · exact List.mem_cons_of_mem _ ((HOM.out y.a).2 ⟨e, y, List.mem_of_getElem? hy, rfl⟩)
          obtain ⟨ix, hixx⟩ : ∃ i, idxA y.a T = i := ⟨_, rfl⟩
          rw [hixx] at hix h0
          have t1 : decide (ix < 0) = false := decide_eq_false (by omega)
          have HIX := Lib.hid hix
          clear hy hix h0 hixx
          go_wp2_with fail
          refine HIX.out.mono ?_
          rintro e w5 ⟨rfl, rfl⟩
          go_wp2_with fail
          go_roundw
          case rel => exact ⟨k + 1, by omega, by go_num, trivial⟩
          case measure => simp [intOf] <;> omega
        · obtain rfl : k = l := by omega
          clear hlt hk
          go_wp2_with fail
          go_loopw [8] (fun i wr => ∃ m : Nat, 1 ≤ m ∧ m ≤ nt ∧ i = .int .i64 (m : Int) ∧ Hid (Fr (fun _ => False) w4 wr)) (fun i _ => nt - (intOf i).toNat)
          case atStart => exact ⟨1, Nat.le_refl _, by omega, rfl, Lib.hid (Fr.refl _ _)⟩
          case round =>
            obtain ⟨m, hm1, hm2, rfl, HF⟩ := hrel
            rename World => wr
            by_cases hlt : m < nt
            · obtain ⟨x, hx⟩ : ∃ x, T[m]? = some x := ⟨_, List.getElem?_eq_getElem (by have := HTN.out; omega)⟩
              have hxO : O[m - 1]? = some x := by
                have h := hx
                rw [HTO.out, show m = (m - 1) + 1 by omega, List.getElem?_cons_succ] at h
                exact h
              have hxm := (HOM.out x).1 (List.mem_of_getElem? hxO)
              have HXN : Hid (N.any (fun y => decide (y.a = x)) = true) := Lib.hid (by
                obtain ⟨_, y, h1, h2⟩ := hxm
                exact List.any_eq_true.2 ⟨y, h1, decide_eq_true h2⟩)
              have HXA : Hid (x ≠ a) := Lib.hid hxm.1
              have HXT := Lib.hid hx
              have HXO := Lib.hid hxO
              have HCX : Hid (∀ w', Fr (fun _ => False) w4 w' → w'.cell? ⟨g, m, none⟩ = some (.string (txt x))) := Lib.hid (fun w' hf => by
                obtain ⟨g', e', h, _⟩ := own_at (i := m) (u := .string (txt x)) (HO4.out.fr hf) (by rw [List.getElem?_map, HXT.out]; rfl)
                injection e' with e'
                injection e' with e'
                subst e'
                exact h)
              clear hx hxO hxm
              go_wp2_with fail
              go_loopw [9, 10] (fun b v wq => ∃ j : Nat, j ≤ k ∧ v = .int .i64 (j : Int) ∧ ∃ z : Bool, b = .bool z ∧ Hid ((N.take j).any (fun y => decide (y.a = x)) = z) ∧ Hid (Fr (fun _ => False) w4 wq)) (fun _ v _ => k - (intOf v).toNat)
              case atStart => exact ⟨0, Nat.zero_le _, rfl, false, rfl, Lib.hid rfl, HF⟩
              case round =>
                obtain ⟨j, hj, rfl, z, rfl, HZ, HFQ⟩ := hrel
                rename World => wq
                by_cases hlj : j < k
                · obtain ⟨y, hy⟩ : ∃ y, N[j]? = some y := ⟨_, List.getElem?_eq_getElem (by have := HNL.out; omega)⟩
                  obtain ⟨gy, oy, hA4, _, n0, n1⟩ := (HON.out.fr HFQ.out).prs.2 j y hy
                  subst hA4
                  simp only [ncc, nac] at n0 n1
                  have hcx := HCX.out _ HFQ.out
                  have t1 := beq_txt y.a x
                  have hnx : (N.take (j + 1)).any (fun y => decide (y.a = x)) = (z || decide (y.a = x)) := by
                    rw [List.take_add_one, hy, List.any_append, HZ.out]
                    simp
                  cases z with
                  | true =>
                    have HNX : Hid ((N.take (j + 1)).any (fun y => decide (y.a = x)) = true) := Lib.hid (by rw [hnx]; rfl)
                    clear hnx hy t1
                    go_wp2_with fail
                    go_quiet (fail)
                    have HF2 := Lib.hid (HFQ.out.drewN nq)
                    clear n0 n1 hcx
                    go_wp2_with fail
                    go_roundw
                    case rel => exact ⟨j + 1, by omega, by go_num, true, rfl, HNX, HF2⟩
                    case measure => simp [intOf] <;> omega
                  | false =>
                    obtain ⟨q, hq⟩ : ∃ q, decide (y.a = x) = q := ⟨_, rfl⟩
                    rw [hq] at t1 hnx
                    have HNX : Hid ((N.take (j + 1)).any (fun y => decide (y.a = x)) = q) := Lib.hid (by rw [hnx]; simp)
                    clear hnx hy hq
                    go_wp2_with fail
                    go_quiet (fail)
                    have HF2 := Lib.hid (HFQ.out.drewN nq)
                    clear n0 n1 hcx
                    go_wp2_with fail
                    go_roundw
                    case rel => exact ⟨j + 1, by omega, by go_num, q, rfl, HNX, HF2⟩
                    case measure => simp [intOf] <;> omega
                · obtain rfl : j = k := by omega
                  have hz := HZ.out
                  rw [List.take_of_length_le (by have := HNL.out; omega), HXN.out] at hz
                  subst hz
                  have t2 := beq_txt x a
                  rw [decide_eq_false HXA.out] at t2
                  have hixx : ∀ w', Fr (fun _ => False) wq w' → Calls Try.prog 13 #[.slice (some ⟨g, 0, none⟩) nt c3, .string (txt x)] w' fun e w'' => e = .returned (.int .i64 (m : Int)) ∧ Fr (fun _ => False) w' w'' := fun w' hf => by
                    have h := acIndex_any (some ⟨g, 0, none⟩) nt c3 T x w' (by have h := (HO4.out.fr (HFQ.out.trans hf (fun _ _ h => h))).rd; rwa [HTN.out] at h) (by have := HOL.out.2; omega)
                    rw [idx_yes HXT.out (fun i hi => HDI.out m x HXT.out i hi)] at h
                    exact h.mono (fun e w' h => ⟨h.1, h.2 ▸ Fr.refl _ _⟩)
                  have HIXX := Lib.hid hixx
                  have t3 : ((m : Int) != (m : Int)) = false := by simp
                  clear hixx hlj hj
                  by_cases h1 : 1 < m
                  · have t4 : decide ((1 : Int) < (m : Int)) = true := decide_eq_true (by omega)
                    have t4' : decide (1 < m) = true := decide_eq_true h1
                    obtain ⟨p, hp⟩ : ∃ p, m - 1 = p := ⟨_, rfl⟩
                    have r1 : IntKind.i64.wrap ((m : Int) - 1) = (p : Int) := by rw [IntKind.wrap_i64]; omega
                    have hpn : p < nt := by omega
                    obtain ⟨z, hz⟩ : ∃ z, T[p]? = some z := ⟨_, List.getElem?_eq_getElem (by have := HTN.out; omega)⟩
                    have HCZ : Hid (∀ w', Fr (fun _ => False) w4 w' → w'.cell? ⟨g, p, none⟩ = some (.string (txt z))) := Lib.hid (fun w' hf => by
                      obtain ⟨g', e', h, _⟩ := own_at (i := p) (u := .string (txt z)) (HO4.out.fr hf) (by rw [List.getElem?_map, hz]; rfl)
                      injection e' with e'
                      injection e' with e'
                      subst e'
                      exact h)
                    have hless : Op.bytesLess z x = true := HRS.out p x z (by omega) hz (by rw [show p + 1 = m by omega]; exact HXT.out)
                    have hl1 : (txt x).toList = x := ByteArray.toList_mk _
                    have hl2 : (txt z).toList = z := ByteArray.toList_mk _
                    have t5 : Op.bytesLess (txt x).toList (txt z).toList = false := by rw [hl1, hl2]; exact bless_asym hless
                    have t6 := beq_txt x z
                    rw [decide_eq_false (fun e => by rw [e, bless_irr] at hless; cases hless)] at t6
                    clear hp hz hless hl1 hl2 h1
                    go_upto_region 20 with fail
                    refine wp_region_held_drew (S := fun w' => Fr (fun _ => False) wq w') (by kernel_rfl) ?_ (fun hHeld => ?_)
                    · exact (Fr.refl _ _).drew
                    refine wpAnyH_take (i := 0) (v := ?vz20) rfl (by kernel_rfl) (by kernel_rfl) (by kernel_rfl) (fun _ _ _ h => h) (Or.inl ⟨by rfl, ?hyz20⟩) hHeld ?restz20
                    case hyz20 => intro w hSw; (try dsimp only at hSw); go_simp; try (with_reducible rfl)
                    (try simp only [Act.put, List.setIfInBounds_toArray, List.set_cons_zero, List.set_cons_succ, List.getElem_toArray, List.getElem_cons_zero])
                    refine wpAnyH_take (i := 1) (v := ?vz21) rfl (by kernel_rfl) (by kernel_rfl) (by kernel_rfl) (fun _ _ _ h => h) (Or.inl ⟨by rfl, ?hyz21⟩) hHeld ?restz21
                    case hyz21 => intro w hSw; (try dsimp only at hSw); go_simp; try (with_reducible rfl)
                    (try simp only [Act.put, List.setIfInBounds_toArray, List.set_cons_zero, List.set_cons_succ, List.getElem_toArray, List.getElem_cons_zero, List.getElem_cons_succ])
                    refine wpAnyH_take (i := 2) (v := ?vz22) rfl (by kernel_rfl) (by kernel_rfl) (by kernel_rfl) (fun _ _ _ h => h) (Or.inl ⟨by rfl, ?hyz22⟩) hHeld ?restz22
                    case hyz22 => intro w hSw; (try dsimp only at hSw); go_simp; try (with_reducible rfl)
                    (try simp only [Act.put, List.setIfInBounds_toArray, List.set_cons_zero, List.set_cons_succ, List.getElem_toArray, List.getElem_cons_zero, List.getElem_cons_succ])
                    refine wpAnyH_take (i := 3) (v := ?vz23) rfl (by kernel_rfl) (by kernel_rfl) (by kernel_rfl) (fun _ _ _ h => h) (Or.inl ⟨by rfl, ?hyz23⟩) hHeld ?restz23
                    case hyz23 => intro w hSw; (try dsimp only at hSw); go_simp; try (with_reducible rfl)
                    (try simp only [Act.put, List.setIfInBounds_toArray, List.set_cons_zero, List.set_cons_succ, List.getElem_toArray, List.getElem_cons_zero, List.getElem_cons_succ])
                    refine wpAnyH_take (i := 4) (v := ?vz24) rfl (by kernel_rfl) (by kernel_rfl) (by kernel_rfl) (fun _ _ _ h => h) (Or.inl ⟨by rfl, ?hyz24⟩) hHeld ?restz24
                    case hyz24 => intro w hSw; (try dsimp only at hSw); go_simp; try (with_reducible rfl)
                    (try simp only [Act.put, List.setIfInBounds_toArray, List.set_cons_zero, List.set_cons_succ, List.getElem_toArray, List.getElem_cons_zero, List.getElem_cons_succ])
                    refine wpAnyH_take (i := 5) (v := ?vz25) rfl (by kernel_rfl) (by kernel_rfl) (by kernel_rfl) (fun _ _ _ h => h) (Or.inl ⟨by rfl, ?hyz25⟩) hHeld ?restz25
                    case hyz25 => intro w hSw; (try dsimp only at hSw); go_simp; try (with_reducible rfl)
                    (try simp only [Act.put, List.setIfInBounds_toArray, List.set_cons_zero, List.set_cons_succ, List.getElem_toArray, List.getElem_cons_zero, List.getElem_cons_succ])
                    refine wpAnyH_take (i := 6) (v := ?vz26) rfl (by kernel_rfl) (by kernel_rfl) (by kernel_rfl) (fun _ _ _ h => h) (Or.inl ⟨by rfl, ?hyz26⟩) hHeld ?restz26
                    case hyz26 => intro w hSw; (try dsimp only at hSw); have hcx := HCX.out _ (HFQ.out.trans hSw (fun _ _ h => h)); go_simp; try (with_reducible rfl)
                    (try simp only [Act.put, List.setIfInBounds_toArray, List.set_cons_zero, List.set_cons_succ, List.getElem_toArray, List.getElem_cons_zero, List.getElem_cons_succ])
                    refine wpAnyH_take (i := 7) (v := ?vz27) rfl (by kernel_rfl) (by kernel_rfl) (by kernel_rfl) (fun _ _ _ h => h) (Or.inl ⟨by rfl, ?hyz27⟩) hHeld ?restz27
                    case hyz27 => intro w hSw; (try dsimp only at hSw); go_simp; try (with_reducible rfl)
                    (try simp only [Act.put, List.setIfInBounds_toArray, List.set_cons_zero, List.set_cons_succ, List.getElem_toArray, List.getElem_cons_zero, List.getElem_cons_succ])
                    refine wpAnyH_take (i := 8) (v := ?vz28) rfl (by kernel_rfl) (by kernel_rfl) (by kernel_rfl) (fun _ _ _ h => h) (Or.inl ⟨by rfl, ?hyz28⟩) hHeld ?restz28
                    case hyz28 => intro w hSw; (try dsimp only at hSw); go_simp; try (with_reducible rfl)
                    (try simp only [Act.put, List.setIfInBounds_toArray, List.set_cons_zero, List.set_cons_succ, List.getElem_toArray, List.getElem_cons_zero, List.getElem_cons_succ])
                    refine wpAnyH_take (i := 9) (v := ?vz29) rfl (by kernel_rfl) (by kernel_rfl) (by kernel_rfl) (fun _ _ _ h => h) (Or.inl ⟨by rfl, ?hyz29⟩) hHeld ?restz29
                    case hyz29 => intro w hSw; (try dsimp only at hSw); go_simp; try (with_reducible rfl)
                    (try simp only [Act.put, List.setIfInBounds_toArray, List.set_cons_zero, List.set_cons_succ, List.getElem_toArray, List.getElem_cons_zero, List.getElem_cons_succ])
                    refine wpAnyH_take (i := 10) (v := ?vz210) rfl (by kernel_rfl) (by kernel_rfl) (by kernel_rfl) (fun _ _ _ h => h) (Or.inl ⟨by rfl, ?hyz210⟩) hHeld ?restz210
                    case hyz210 => intro w hSw; (try dsimp only at hSw); go_simp; try (with_reducible rfl)
                    (try simp only [Act.put, List.setIfInBounds_toArray, List.set_cons_zero, List.set_cons_succ, List.getElem_toArray, List.getElem_cons_zero, List.getElem_cons_succ])
                    refine wpAnyH_take (i := 11) (v := ?vz211) rfl (by kernel_rfl) (by kernel_rfl) (by kernel_rfl) (fun _ _ _ h => h) (Or.inl ⟨by rfl, ?hyz211⟩) hHeld ?restz211
                    case hyz211 => intro w hSw; (try dsimp only at hSw); go_simp; try (with_reducible rfl)
                    (try simp only [Act.put, List.setIfInBounds_toArray, List.set_cons_zero, List.set_cons_succ, List.getElem_toArray, List.getElem_cons_zero, List.getElem_cons_succ])
                    refine wpAnyH_take (i := 12) (v := ?vz212) rfl (by kernel_rfl) (by kernel_rfl) (by kernel_rfl) (fun _ _ _ h => h) (Or.inl ⟨by rfl, ?hyz212⟩) hHeld ?restz212
                    case hyz212 => intro w hSw; (try dsimp only at hSw); go_simp; try (with_reducible rfl)
                    (try simp only [Act.put, List.setIfInBounds_toArray, List.set_cons_zero, List.set_cons_succ, List.getElem_toArray, List.getElem_cons_zero, List.getElem_cons_succ])
                    refine wpAnyH_take (i := 13) (v := ?vz213) rfl (by kernel_rfl) (by kernel_rfl) (by kernel_rfl) (fun _ _ _ h => h) (Or.inl ⟨by rfl, ?hyz213⟩) hHeld ?restz213
                    case hyz213 => intro w hSw; (try dsimp only at hSw); go_simp; try (with_reducible rfl)
                    (try simp only [Act.put, List.setIfInBounds_toArray, List.set_cons_zero, List.set_cons_succ, List.getElem_toArray, List.getElem_cons_zero, List.getElem_cons_succ])
                    refine wpAnyH_take (i := 14) (v := ?vz214) rfl (by kernel_rfl) (by kernel_rfl) (by kernel_rfl) (fun _ _ _ h => h) (Or.inl ⟨by rfl, ?hyz214⟩) hHeld ?restz214
                    case hyz214 => intro w hSw; (try dsimp only at hSw); go_simp; try (with_reducible rfl)
                    (try simp only [Act.put, List.setIfInBounds_toArray, List.set_cons_zero, List.set_cons_succ, List.getElem_toArray, List.getElem_cons_zero, List.getElem_cons_succ])
                    refine wpAnyH_take (i := 15) (v := ?vz215) rfl (by kernel_rfl) (by kernel_rfl) (by kernel_rfl) (fun _ _ _ h => h) (Or.inl ⟨by rfl, ?hyz215⟩) hHeld ?restz215
                    case hyz215 => intro w hSw; (try dsimp only at hSw); go_simp; try (with_reducible rfl)
                    (try simp only [Act.put, List.setIfInBounds_toArray, List.set_cons_zero, List.set_cons_succ, List.getElem_toArray, List.getElem_cons_zero, List.getElem_cons_succ])
                    refine wpAnyH_take (i := 16) (v := ?vz216) rfl (by kernel_rfl) (by kernel_rfl) (by kernel_rfl) (fun _ _ _ h => h) (Or.inl ⟨by rfl, ?hyz216⟩) hHeld ?restz216
                    case hyz216 => intro w hSw; (try dsimp only at hSw); go_simp; try (with_reducible rfl)
                    (try simp only [Act.put, List.setIfInBounds_toArray, List.set_cons_zero, List.set_cons_succ, List.getElem_toArray, List.getElem_cons_zero, List.getElem_cons_succ])
                    refine wpAnyH_take (i := 17) (v := ?vz217) rfl (by kernel_rfl) (by kernel_rfl) (by kernel_rfl) (fun _ _ _ h => h) (Or.inl ⟨by rfl, ?hyz217⟩) hHeld ?restz217
                    case hyz217 => intro w hSw; (try dsimp only at hSw); have hcx := HCX.out _ (HFQ.out.trans hSw (fun _ _ h => h)); go_simp; try (with_reducible rfl)
                    (try simp only [Act.put, List.setIfInBounds_toArray, List.set_cons_zero, List.set_cons_succ, List.getElem_toArray, List.getElem_cons_zero, List.getElem_cons_succ])
                    refine wpAnyH_take (i := 18) (v := ?vz218) rfl (by kernel_rfl) (by kernel_rfl) (by kernel_rfl) (fun _ _ _ h => h) (Or.inl ⟨by rfl, ?hyz218⟩) hHeld ?restz218
                    case hyz218 => intro w hSw; (try dsimp only at hSw); go_simp; try (with_reducible rfl)
                    (try simp only [Act.put, List.setIfInBounds_toArray, List.set_cons_zero, List.set_cons_succ, List.getElem_toArray, List.getElem_cons_zero, List.getElem_cons_succ])
                    refine wpAnyH_take (i := 19) (v := ?vz219) rfl (by kernel_rfl) (by kernel_rfl) (by kernel_rfl) (fun _ _ _ h => h) (Or.inl ⟨by rfl, ?hyz219⟩) hHeld ?restz219
                    case hyz219 => intro w hSw; (try dsimp only at hSw); go_simp; try (with_reducible rfl)
                    (try simp only [Act.put, List.setIfInBounds_toArray, List.set_cons_zero, List.set_cons_succ, List.getElem_toArray, List.getElem_cons_zero, List.getElem_cons_succ])
                    refine wpAnyH_take (i := 20) (v := ?vz220) rfl (by kernel_rfl) (by kernel_rfl) (by kernel_rfl) (fun _ _ _ h => h) (Or.inl ⟨by rfl, ?hyz220⟩) hHeld ?restz220
                    case hyz220 => intro w hSw; (try dsimp only at hSw); go_simp; try (with_reducible rfl)
                    (try simp only [Act.put, List.setIfInBounds_toArray, List.set_cons_zero, List.set_cons_succ, List.getElem_toArray, List.getElem_cons_zero, List.getElem_cons_succ])
                    refine wpAnyH_take (i := 21) (v := ?vz221) rfl (by kernel_rfl) (by kernel_rfl) (by kernel_rfl) (fun _ _ _ h => h) (Or.inl ⟨by rfl, ?hyz221⟩) hHeld ?restz221
                    case hyz221 => intro w hSw; (try dsimp only at hSw); go_simp; try (with_reducible rfl)
                    (try simp only [Act.put, List.setIfInBounds_toArray, List.set_cons_zero, List.set_cons_succ, List.getElem_toArray, List.getElem_cons_zero, List.getElem_cons_succ])
                    refine wpAnyH_take (i := 22) (v := ?vz222) rfl (by kernel_rfl) (by kernel_rfl) (by kernel_rfl) (fun _ _ _ h => h) (Or.inl ⟨by rfl, ?hyz222⟩) hHeld ?restz222
                    case hyz222 => intro w hSw; (try dsimp only at hSw); have hcz := HCZ.out _ (HFQ.out.trans hSw (fun _ _ h => h)); go_simp; try (with_reducible rfl)
                    (try simp only [Act.put, List.setIfInBounds_toArray, List.set_cons_zero, List.set_cons_succ, List.getElem_toArray, List.getElem_cons_zero, List.getElem_cons_succ])
                    refine wpAnyH_take (i := 23) (v := ?vz223) rfl (by kernel_rfl) (by kernel_rfl) (by kernel_rfl) (fun _ _ _ h => h) (Or.inl ⟨by rfl, ?hyz223⟩) hHeld ?restz223
                    case hyz223 => intro w hSw; (try dsimp only at hSw); go_simp; try (with_reducible rfl)
                    (try simp only [Act.put, List.setIfInBounds_toArray, List.set_cons_zero, List.set_cons_succ, List.getElem_toArray, List.getElem_cons_zero, List.getElem_cons_succ])
                    refine wpAnyH_take (i := 24) (v := ?vz224) rfl (by kernel_rfl) (by kernel_rfl) (by kernel_rfl) (fun _ _ _ h => h) (Or.inl ⟨by rfl, ?hyz224⟩) hHeld ?restz224
                    case hyz224 => intro w hSw; (try dsimp only at hSw); go_simp; try (with_reducible rfl)
                    (try simp only [Act.put, List.setIfInBounds_toArray, List.set_cons_zero, List.set_cons_succ, List.getElem_toArray, List.getElem_cons_zero, List.getElem_cons_succ])
                    refine wpAnyH_take (i := 25) (v := ?vz225) rfl (by kernel_rfl) (by kernel_rfl) (by kernel_rfl) (fun _ _ _ h => h) (Or.inl ⟨by rfl, ?hyz225⟩) hHeld ?restz225
                    case hyz225 => intro w hSw; (try dsimp only at hSw); go_simp; try (with_reducible rfl)
                    (try simp only [Act.put, List.setIfInBounds_toArray, List.set_cons_zero, List.set_cons_succ, List.getElem_toArray, List.getElem_cons_zero, List.getElem_cons_succ])
                    refine wpAnyH_take (i := 26) (v := ?vz226) rfl (by kernel_rfl) (by kernel_rfl) (by kernel_rfl) (fun _ _ _ h => h) (Or.inl ⟨by rfl, ?hyz226⟩) hHeld ?restz226
                    case hyz226 => intro w hSw; (try dsimp only at hSw); go_simp; try (with_reducible rfl)
                    (try simp only [Act.put, List.setIfInBounds_toArray, List.set_cons_zero, List.set_cons_succ, List.getElem_toArray, List.getElem_cons_zero, List.getElem_cons_succ])
                    refine wpAnyH_take (i := 27) (v := ?vz227) rfl (by kernel_rfl) (by kernel_rfl) (by kernel_rfl) (fun _ _ _ h => h) (Or.inl ⟨by rfl, ?hyz227⟩) hHeld ?restz227
                    case hyz227 => intro w hSw; (try dsimp only at hSw); go_simp; try (with_reducible rfl)
                    (try simp only [Act.put, List.setIfInBounds_toArray, List.set_cons_zero, List.set_cons_succ, List.getElem_toArray, List.getElem_cons_zero, List.getElem_cons_succ])
                    refine wpAnyH_take (i := 28) (v := ?vz228) rfl (by kernel_rfl) (by kernel_rfl) (by kernel_rfl) (fun _ _ _ h => h) (Or.inl ⟨by rfl, ?hyz228⟩) hHeld ?restz228
                    case hyz228 => intro w hSw; (try dsimp only at hSw); go_simp; try (with_reducible rfl)
                    (try simp only [Act.put, List.setIfInBounds_toArray, List.set_cons_zero, List.set_cons_succ, List.getElem_toArray, List.getElem_cons_zero, List.getElem_cons_succ])
                    refine wpAnyH_take (i := 29) (v := ?vz229) rfl (by kernel_rfl) (by kernel_rfl) (by kernel_rfl) (fun _ _ _ h => h) (Or.inl ⟨by rfl, ?hyz229⟩) hHeld ?restz229
                    case hyz229 => intro w hSw; (try dsimp only at hSw); go_simp; try (with_reducible rfl)
                    (try simp only [Act.put, List.setIfInBounds_toArray, List.set_cons_zero, List.set_cons_succ, List.getElem_toArray, List.getElem_cons_zero, List.getElem_cons_succ])
                    refine wpAnyH_take (i := 30) (v := ?vz230) rfl (by kernel_rfl) (by kernel_rfl) (by kernel_rfl) (fun _ _ _ h => h) (Or.inl ⟨by rfl, ?hyz230⟩) hHeld ?restz230
                    case hyz230 => intro w hSw; (try dsimp only at hSw); go_simp; try (with_reducible rfl)
                    (try simp only [Act.put, List.setIfInBounds_toArray, List.set_cons_zero, List.set_cons_succ, List.getElem_toArray, List.getElem_cons_zero, List.getElem_cons_succ])
                    refine wpAnyH_take (i := 31) (v := ?vz231) rfl (by kernel_rfl) (by kernel_rfl) (by kernel_rfl) (fun _ _ _ h => h) (Or.inl ⟨by rfl, ?hyz231⟩) hHeld ?restz231
                    case hyz231 => intro w hSw; (try dsimp only at hSw); have hcx := HCX.out _ (HFQ.out.trans hSw (fun _ _ h => h)); go_simp; try (with_reducible rfl)
                    (try simp only [Act.put, List.setIfInBounds_toArray, List.set_cons_zero, List.set_cons_succ, List.getElem_toArray, List.getElem_cons_zero, List.getElem_cons_succ])
                    refine wpAnyH_take (i := 33) (v := ?vz233) rfl (by kernel_rfl) (by kernel_rfl) (by kernel_rfl) (fun _ _ _ h => h) (Or.inl ⟨by rfl, ?hyz233⟩) hHeld ?restz233
                    case hyz233 => intro w hSw; (try dsimp only at hSw); go_simp; try (with_reducible rfl)
                    (try simp only [Act.put, List.setIfInBounds_toArray, List.set_cons_zero, List.set_cons_succ, List.getElem_toArray, List.getElem_cons_zero, List.getElem_cons_succ])
                    refine wpAnyH_ready (rs := [32]) (by kernel_rfl) (by simp) ?_
                    refine AllReadyH.cons rfl (fun Kx hKx => ?_) AllReadyH.nil
                    go_simp
                    have hcon := HIXX.out wq.drew (Fr.refl _ _).drew
                    with_reducible refine hcon.mono ?_
                    clear hcon
                    rintro e' w6 ⟨rfl, hff⟩
                    have HFw6 : Hid (Fr (fun _ => False) wq w6) := Lib.hid ((Fr.refl _ _).drew.trans hff (fun _ _ h => h))
                    refine hKx.out _ _ ?_ (fun hHeld => ?_)
                    · exact HFw6.out
                    clear hKx Kx hff
                    (try simp only [Act.put, List.setIfInBounds_toArray, List.set_cons_zero, List.set_cons_succ, List.getElem_toArray, List.getElem_cons_zero, List.getElem_cons_succ])
                    refine wpAnyH_more (fun w' => Fr (fun _ => False) w6 w') (fun _ h => HFw6.out.trans h (fun _ _ h => h)) ?_ (fun hHeld => ?_)
                    · exact Fr.refl _ _
                    refine wpAnyH_take (i := 34) (v := ?vz234) rfl (by kernel_rfl) (by kernel_rfl) (by kernel_rfl) (fun _ _ _ h => h) (Or.inl ⟨by rfl, ?hyz234⟩) hHeld ?restz234
                    case hyz234 => intro w hSw; (try dsimp only at hSw); go_simp; try (with_reducible rfl)
                    (try simp only [Act.put, List.setIfInBounds_toArray, List.set_cons_zero, List.set_cons_succ, List.getElem_toArray, List.getElem_cons_zero, List.getElem_cons_succ])
                    refine wpAnyH_take (i := 35) (v := ?vz235) rfl (by kernel_rfl) (by kernel_rfl) (by kernel_rfl) (fun _ _ _ h => h) (Or.inl ⟨by rfl, ?hyz235⟩) hHeld ?restz235
                    case hyz235 => intro w hSw; (try dsimp only at hSw); go_simp; try (with_reducible rfl)
                    (try simp only [Act.put, List.setIfInBounds_toArray, List.set_cons_zero, List.set_cons_succ, List.getElem_toArray, List.getElem_cons_zero, List.getElem_cons_succ])
                    refine wpAnyH_done (by kernel_rfl) ?_ _
                    have HF9 := Lib.hid (HFQ.out.trans HFw6.out (fun _ _ h => h))
                    go_wp2_with fail
                    exact ⟨⟨m + 1, by omega, by omega, by go_num, HF9⟩, by simp [intOf]; omega⟩
                  · have t4 : decide ((1 : Int) < (m : Int)) = false := decide_eq_false (by omega)
                    have t4' : decide (1 < m) = false := decide_eq_false h1
                    clear h1
                    go_upto_region 20 with fail
                    refine wp_region_held_drew (S := fun w' => Fr (fun _ => False) wq w') (by kernel_rfl) ?_ (fun hHeld => ?_)
                    · exact (Fr.refl _ _).drew
                    refine wpAnyH_take (i := 0) (v := ?vz30) rfl (by kernel_rfl) (by kernel_rfl) (by kernel_rfl) (fun _ _ _ h => h) (Or.inl ⟨by rfl, ?hyz30⟩) hHeld ?restz30
                    case hyz30 => intro w hSw; (try dsimp only at hSw); go_simp; try (with_reducible rfl)
                    (try simp only [Act.put, List.setIfInBounds_toArray, List.set_cons_zero, List.set_cons_succ, List.getElem_toArray, List.getElem_cons_zero])
                    refine wpAnyH_take (i := 1) (v := ?vz31) rfl (by kernel_rfl) (by kernel_rfl) (by kernel_rfl) (fun _ _ _ h => h) (Or.inl ⟨by rfl, ?hyz31⟩) hHeld ?restz31
                    case hyz31 => intro w hSw; (try dsimp only at hSw); go_simp; try (with_reducible rfl)
                    (try simp only [Act.put, List.setIfInBounds_toArray, List.set_cons_zero, List.set_cons_succ, List.getElem_toArray, List.getElem_cons_zero, List.getElem_cons_succ])
                    refine wpAnyH_take (i := 2) (v := ?vz32) rfl (by kernel_rfl) (by kernel_rfl) (by kernel_rfl) (fun _ _ _ h => h) (Or.inl ⟨by rfl, ?hyz32⟩) hHeld ?restz32
                    case hyz32 => intro w hSw; (try dsimp only at hSw); go_simp; try (with_reducible rfl)
                    (try simp only [Act.put, List.setIfInBounds_toArray, List.set_cons_zero, List.set_cons_succ, List.getElem_toArray, List.getElem_cons_zero, List.getElem_cons_succ])
                    refine wpAnyH_take (i := 3) (v := ?vz33) rfl (by kernel_rfl) (by kernel_rfl) (by kernel_rfl) (fun _ _ _ h => h) (Or.inl ⟨by rfl, ?hyz33⟩) hHeld ?restz33
                    case hyz33 => intro w hSw; (try dsimp only at hSw); go_simp; try (with_reducible rfl)
                    (try simp only [Act.put, List.setIfInBounds_toArray, List.set_cons_zero, List.set_cons_succ, List.getElem_toArray, List.getElem_cons_zero, List.getElem_cons_succ])
                    refine wpAnyH_take (i := 4) (v := ?vz34) rfl (by kernel_rfl) (by kernel_rfl) (by kernel_rfl) (fun _ _ _ h => h) (Or.inl ⟨by rfl, ?hyz34⟩) hHeld ?restz34
                    case hyz34 => intro w hSw; (try dsimp only at hSw); go_simp; try (with_reducible rfl)
                    (try simp only [Act.put, List.setIfInBounds_toArray, List.set_cons_zero, List.set_cons_succ, List.getElem_toArray, List.getElem_cons_zero, List.getElem_cons_succ])
                    refine wpAnyH_take (i := 5) (v := ?vz35) rfl (by kernel_rfl) (by kernel_rfl) (by kernel_rfl) (fun _ _ _ h => h) (Or.inl ⟨by rfl, ?hyz35⟩) hHeld ?restz35
                    case hyz35 => intro w hSw; (try dsimp only at hSw); go_simp; try (with_reducible rfl)
                    (try simp only [Act.put, List.setIfInBounds_toArray, List.set_cons_zero, List.set_cons_succ, List.getElem_toArray, List.getElem_cons_zero, List.getElem_cons_succ])
                    refine wpAnyH_take (i := 6) (v := ?vz36) rfl (by kernel_rfl) (by kernel_rfl) (by kernel_rfl) (fun _ _ _ h => h) (Or.inl ⟨by rfl, ?hyz36⟩) hHeld ?restz36
                    case hyz36 => intro w hSw; (try dsimp only at hSw); have hcx := HCX.out _ (HFQ.out.trans hSw (fun _ _ h => h)); go_simp; try (with_reducible rfl)
                    (try simp only [Act.put, List.setIfInBounds_toArray, List.set_cons_zero, List.set_cons_succ, List.getElem_toArray, List.getElem_cons_zero, List.getElem_cons_succ])
                    refine wpAnyH_take (i := 7) (v := ?vz37) rfl (by kernel_rfl) (by kernel_rfl) (by kernel_rfl) (fun _ _ _ h => h) (Or.inl ⟨by rfl, ?hyz37⟩) hHeld ?restz37
                    case hyz37 => intro w hSw; (try dsimp only at hSw); go_simp; try (with_reducible rfl)
                    (try simp only [Act.put, List.setIfInBounds_toArray, List.set_cons_zero, List.set_cons_succ, List.getElem_toArray, List.getElem_cons_zero, List.getElem_cons_succ])
                    refine wpAnyH_take (i := 8) (v := ?vz38) rfl (by kernel_rfl) (by kernel_rfl) (by kernel_rfl) (fun _ _ _ h => h) (Or.inl ⟨by rfl, ?hyz38⟩) hHeld ?restz38
                    case hyz38 => intro w hSw; (try dsimp only at hSw); go_simp; try (with_reducible rfl)
                    (try simp only [Act.put, List.setIfInBounds_toArray, List.set_cons_zero, List.set_cons_succ, List.getElem_toArray, List.getElem_cons_zero, List.getElem_cons_succ])
                    refine wpAnyH_take (i := 9) (v := ?vz39) rfl (by kernel_rfl) (by kernel_rfl) (by kernel_rfl) (fun _ _ _ h => h) (Or.inl ⟨by rfl, ?hyz39⟩) hHeld ?restz39
                    case hyz39 => intro w hSw; (try dsimp only at hSw); go_simp; try (with_reducible rfl)
                    (try simp only [Act.put, List.setIfInBounds_toArray, List.set_cons_zero, List.set_cons_succ, List.getElem_toArray, List.getElem_cons_zero, List.getElem_cons_succ])
                    refine wpAnyH_take (i := 10) (v := ?vz310) rfl (by kernel_rfl) (by kernel_rfl) (by kernel_rfl) (fun _ _ _ h => h) (Or.inl ⟨by rfl, ?hyz310⟩) hHeld ?restz310
                    case hyz310 => intro w hSw; (try dsimp only at hSw); go_simp; try (with_reducible rfl)
                    (try simp only [Act.put, List.setIfInBounds_toArray, List.set_cons_zero, List.set_cons_succ, List.getElem_toArray, List.getElem_cons_zero, List.getElem_cons_succ])
                    refine wpAnyH_take (i := 11) (v := ?vz311) rfl (by kernel_rfl) (by kernel_rfl) (by kernel_rfl) (fun _ _ _ h => h) (Or.inl ⟨by rfl, ?hyz311⟩) hHeld ?restz311
                    case hyz311 => intro w hSw; (try dsimp only at hSw); go_simp; try (with_reducible rfl)
                    (try simp only [Act.put, List.setIfInBounds_toArray, List.set_cons_zero, List.set_cons_succ, List.getElem_toArray, List.getElem_cons_zero, List.getElem_cons_succ])
                    refine wpAnyH_take (i := 12) (v := ?vz312) rfl (by kernel_rfl) (by kernel_rfl) (by kernel_rfl) (fun _ _ _ h => h) (Or.inl ⟨by rfl, ?hyz312⟩) hHeld ?restz312
                    case hyz312 => intro w hSw; (try dsimp only at hSw); go_simp; try (with_reducible rfl)
                    (try simp only [Act.put, List.setIfInBounds_toArray, List.set_cons_zero, List.set_cons_succ, List.getElem_toArray, List.getElem_cons_zero, List.getElem_cons_succ])
                    refine wpAnyH_take (i := 13) (v := ?vz313) rfl (by kernel_rfl) (by kernel_rfl) (by kernel_rfl) (fun _ _ _ h => h) (Or.inl ⟨by rfl, ?hyz313⟩) hHeld ?restz313
                    case hyz313 => intro w hSw; (try dsimp only at hSw); go_simp; try (with_reducible rfl)
                    (try simp only [Act.put, List.setIfInBounds_toArray, List.set_cons_zero, List.set_cons_succ, List.getElem_toArray, List.getElem_cons_zero, List.getElem_cons_succ])
                    refine wpAnyH_take (i := 14) (v := undef) rfl (by kernel_rfl) (by kernel_rfl) (by kernel_rfl) (fun _ _ _ h => h) (Or.inr ⟨by rfl, rfl⟩) hHeld ?_
                    (try simp only [Act.put, List.setIfInBounds_toArray, List.set_cons_zero, List.set_cons_succ, List.getElem_toArray, List.getElem_cons_zero, List.getElem_cons_succ])
                    refine wpAnyH_take (i := 15) (v := undef) rfl (by kernel_rfl) (by kernel_rfl) (by kernel_rfl) (fun _ _ _ h => h) (Or.inr ⟨by rfl, rfl⟩) hHeld ?_
                    (try simp only [Act.put, List.setIfInBounds_toArray, List.set_cons_zero, List.set_cons_succ, List.getElem_toArray, List.getElem_cons_zero, List.getElem_cons_succ])
                    refine wpAnyH_take (i := 16) (v := undef) rfl (by kernel_rfl) (by kernel_rfl) (by kernel_rfl) (fun _ _ _ h => h) (Or.inr ⟨by rfl, rfl⟩) hHeld ?_
                    (try simp only [Act.put, List.setIfInBounds_toArray, List.set_cons_zero, List.set_cons_succ, List.getElem_toArray, List.getElem_cons_zero, List.getElem_cons_succ])
                    refine wpAnyH_take (i := 17) (v := undef) rfl (by kernel_rfl) (by kernel_rfl) (by kernel_rfl) (fun _ _ _ h => h) (Or.inr ⟨by rfl, rfl⟩) hHeld ?_
                    (try simp only [Act.put, List.setIfInBounds_toArray, List.set_cons_zero, List.set_cons_succ, List.getElem_toArray, List.getElem_cons_zero, List.getElem_cons_succ])
                    refine wpAnyH_take (i := 18) (v := undef) rfl (by kernel_rfl) (by kernel_rfl) (by kernel_rfl) (fun _ _ _ h => h) (Or.inr ⟨by rfl, rfl⟩) hHeld ?_
                    (try simp only [Act.put, List.setIfInBounds_toArray, List.set_cons_zero, List.set_cons_succ, List.getElem_toArray, List.getElem_cons_zero, List.getElem_cons_succ])
                    refine wpAnyH_take (i := 19) (v := undef) rfl (by kernel_rfl) (by kernel_rfl) (by kernel_rfl) (fun _ _ _ h => h) (Or.inr ⟨by rfl, rfl⟩) hHeld ?_
                    (try simp only [Act.put, List.setIfInBounds_toArray, List.set_cons_zero, List.set_cons_succ, List.getElem_toArray, List.getElem_cons_zero, List.getElem_cons_succ])
                    refine wpAnyH_take (i := 20) (v := undef) rfl (by kernel_rfl) (by kernel_rfl) (by kernel_rfl) (fun _ _ _ h => h) (Or.inr ⟨by rfl, rfl⟩) hHeld ?_
                    (try simp only [Act.put, List.setIfInBounds_toArray, List.set_cons_zero, List.set_cons_succ, List.getElem_toArray, List.getElem_cons_zero, List.getElem_cons_succ])
                    refine wpAnyH_take (i := 21) (v := undef) rfl (by kernel_rfl) (by kernel_rfl) (by kernel_rfl) (fun _ _ _ h => h) (Or.inr ⟨by rfl, rfl⟩) hHeld ?_
                    (try simp only [Act.put, List.setIfInBounds_toArray, List.set_cons_zero, List.set_cons_succ, List.getElem_toArray, List.getElem_cons_zero, List.getElem_cons_succ])
                    refine wpAnyH_take (i := 22) (v := undef) rfl (by kernel_rfl) (by kernel_rfl) (by kernel_rfl) (fun _ _ _ h => h) (Or.inr ⟨by rfl, rfl⟩) hHeld ?_
                    (try simp only [Act.put, List.setIfInBounds_toArray, List.set_cons_zero, List.set_cons_succ, List.getElem_toArray, List.getElem_cons_zero, List.getElem_cons_succ])
                    refine wpAnyH_take (i := 23) (v := undef) rfl (by kernel_rfl) (by kernel_rfl) (by kernel_rfl) (fun _ _ _ h => h) (Or.inr ⟨by rfl, rfl⟩) hHeld ?_
                    (try simp only [Act.put, List.setIfInBounds_toArray, List.set_cons_zero, List.set_cons_succ, List.getElem_toArray, List.getElem_cons_zero, List.getElem_cons_succ])
                    refine wpAnyH_take (i := 24) (v := ?vz324) rfl (by kernel_rfl) (by kernel_rfl) (by kernel_rfl) (fun _ _ _ h => h) (Or.inl ⟨by rfl, ?hyz324⟩) hHeld ?restz324
                    case hyz324 => intro w hSw; (try dsimp only at hSw); go_simp; try (with_reducible rfl)
                    (try simp only [Act.put, List.setIfInBounds_toArray, List.set_cons_zero, List.set_cons_succ, List.getElem_toArray, List.getElem_cons_zero, List.getElem_cons_succ])
                    refine wpAnyH_take (i := 25) (v := ?vz325) rfl (by kernel_rfl) (by kernel_rfl) (by kernel_rfl) (fun _ _ _ h => h) (Or.inl ⟨by rfl, ?hyz325⟩) hHeld ?restz325
                    case hyz325 => intro w hSw; (try dsimp only at hSw); go_simp; try (with_reducible rfl)
                    (try simp only [Act.put, List.setIfInBounds_toArray, List.set_cons_zero, List.set_cons_succ, List.getElem_toArray, List.getElem_cons_zero, List.getElem_cons_succ])
                    refine wpAnyH_take (i := 26) (v := ?vz326) rfl (by kernel_rfl) (by kernel_rfl) (by kernel_rfl) (fun _ _ _ h => h) (Or.inl ⟨by rfl, ?hyz326⟩) hHeld ?restz326
                    case hyz326 => intro w hSw; (try dsimp only at hSw); go_simp; try (with_reducible rfl)
                    (try simp only [Act.put, List.setIfInBounds_toArray, List.set_cons_zero, List.set_cons_succ, List.getElem_toArray, List.getElem_cons_zero, List.getElem_cons_succ])
                    refine wpAnyH_take (i := 27) (v := ?vz327) rfl (by kernel_rfl) (by kernel_rfl) (by kernel_rfl) (fun _ _ _ h => h) (Or.inl ⟨by rfl, ?hyz327⟩) hHeld ?restz327
                    case hyz327 => intro w hSw; (try dsimp only at hSw); go_simp; try (with_reducible rfl)
                    (try simp only [Act.put, List.setIfInBounds_toArray, List.set_cons_zero, List.set_cons_succ, List.getElem_toArray, List.getElem_cons_zero, List.getElem_cons_succ])
                    refine wpAnyH_take (i := 28) (v := ?vz328) rfl (by kernel_rfl) (by kernel_rfl) (by kernel_rfl) (fun _ _ _ h => h) (Or.inl ⟨by rfl, ?hyz328⟩) hHeld ?restz328
                    case hyz328 => intro w hSw; (try dsimp only at hSw); go_simp; try (with_reducible rfl)
                    (try simp only [Act.put, List.setIfInBounds_toArray, List.set_cons_zero, List.set_cons_succ, List.getElem_toArray, List.getElem_cons_zero, List.getElem_cons_succ])
                    refine wpAnyH_take (i := 29) (v := ?vz329) rfl (by kernel_rfl) (by kernel_rfl) (by kernel_rfl) (fun _ _ _ h => h) (Or.inl ⟨by rfl, ?hyz329⟩) hHeld ?restz329
                    case hyz329 => intro w hSw; (try dsimp only at hSw); go_simp; try (with_reducible rfl)
                    (try simp only [Act.put, List.setIfInBounds_toArray, List.set_cons_zero, List.set_cons_succ, List.getElem_toArray, List.getElem_cons_zero, List.getElem_cons_succ])
                    refine wpAnyH_take (i := 30) (v := ?vz330) rfl (by kernel_rfl) (by kernel_rfl) (by kernel_rfl) (fun _ _ _ h => h) (Or.inl ⟨by rfl, ?hyz330⟩) hHeld ?restz330
                    case hyz330 => intro w hSw; (try dsimp only at hSw); go_simp; try (with_reducible rfl)
                    (try simp only [Act.put, List.setIfInBounds_toArray, List.set_cons_zero, List.set_cons_succ, List.getElem_toArray, List.getElem_cons_zero, List.getElem_cons_succ])
                    refine wpAnyH_take (i := 31) (v := ?vz331) rfl (by kernel_rfl) (by kernel_rfl) (by kernel_rfl) (fun _ _ _ h => h) (Or.inl ⟨by rfl, ?hyz331⟩) hHeld ?restz331
                    case hyz331 => intro w hSw; (try dsimp only at hSw); have hcx := HCX.out _ (HFQ.out.trans hSw (fun _ _ h => h)); go_simp; try (with_reducible rfl)
                    (try simp only [Act.put, List.setIfInBounds_toArray, List.set_cons_zero, List.set_cons_succ, List.getElem_toArray, List.getElem_cons_zero, List.getElem_cons_succ])
                    refine wpAnyH_take (i := 33) (v := ?vz333) rfl (by kernel_rfl) (by kernel_rfl) (by kernel_rfl) (fun _ _ _ h => h) (Or.inl ⟨by rfl, ?hyz333⟩) hHeld ?restz333
                    case hyz333 => intro w hSw; (try dsimp only at hSw); go_simp; try (with_reducible rfl)
                    (try simp only [Act.put, List.setIfInBounds_toArray, List.set_cons_zero, List.set_cons_succ, List.getElem_toArray, List.getElem_cons_zero, List.getElem_cons_succ])
                    refine wpAnyH_ready (rs := [32]) (by kernel_rfl) (by simp) ?_
                    refine AllReadyH.cons rfl (fun Kx hKx => ?_) AllReadyH.nil
                    go_simp
                    have hcon := HIXX.out wq.drew (Fr.refl _ _).drew
                    with_reducible refine hcon.mono ?_
                    clear hcon
                    rintro e' w6 ⟨rfl, hff⟩
                    have HFw6 : Hid (Fr (fun _ => False) wq w6) := Lib.hid ((Fr.refl _ _).drew.trans hff (fun _ _ h => h))
                    refine hKx.out _ _ ?_ (fun hHeld => ?_)
                    · exact HFw6.out
                    clear hKx Kx hff
                    (try simp only [Act.put, List.setIfInBounds_toArray, List.set_cons_zero, List.set_cons_succ, List.getElem_toArray, List.getElem_cons_zero, List.getElem_cons_succ])
                    refine wpAnyH_more (fun w' => Fr (fun _ => False) w6 w') (fun _ h => HFw6.out.trans h (fun _ _ h => h)) ?_ (fun hHeld => ?_)
                    · exact Fr.refl _ _
                    refine wpAnyH_take (i := 34) (v := ?vz334) rfl (by kernel_rfl) (by kernel_rfl) (by kernel_rfl) (fun _ _ _ h => h) (Or.inl ⟨by rfl, ?hyz334⟩) hHeld ?restz334
                    case hyz334 => intro w hSw; (try dsimp only at hSw); go_simp; try (with_reducible rfl)
                    (try simp only [Act.put, List.setIfInBounds_toArray, List.set_cons_zero, List.set_cons_succ, List.getElem_toArray, List.getElem_cons_zero, List.getElem_cons_succ])
                    refine wpAnyH_take (i := 35) (v := ?vz335) rfl (by kernel_rfl) (by kernel_rfl) (by kernel_rfl) (fun _ _ _ h => h) (Or.inl ⟨by rfl, ?hyz335⟩) hHeld ?restz335
                    case hyz335 => intro w hSw; (try dsimp only at hSw); go_simp; try (with_reducible rfl)
                    (try simp only [Act.put, List.setIfInBounds_toArray, List.set_cons_zero, List.set_cons_succ, List.getElem_toArray, List.getElem_cons_zero, List.getElem_cons_succ])
                    refine wpAnyH_done (by kernel_rfl) ?_ _
                    have HF9 := Lib.hid (HFQ.out.trans HFw6.out (fun _ _ h => h))
                    go_wp2_with fail
                    exact ⟨⟨m + 1, by omega, by omega, by go_num, HF9⟩, by simp [intOf]; omega⟩
            · have HFE := Lib.hid (HF4.out.trans HF.out (fun _ _ h => h))
              go_wp2_with fail
              go_ret
              exact ⟨rfl, HFE.out⟩
end Go.Proofs.Ytbagclhghcglbaa
