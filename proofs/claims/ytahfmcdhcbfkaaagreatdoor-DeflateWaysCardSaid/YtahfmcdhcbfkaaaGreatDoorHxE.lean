/-
  The library's sort at numbers: the insertion sort of a piece of a row, by keys; of one key, in the order in which they stood.
-/
import Derived.Test.YtahfmcdhcbfkaaaGreatDoorZm24
namespace Go.Proofs.YtahfmcdhcbfkaaaGreatDoor
open Go.RowKit HuffM Mem Go.Lib
attribute [local go_sem ↓] Go.wp_at_zero Go.wp_at_succ

theorem snoc_of {C : List Nat} (h : C ≠ []) : ∃ C' z, C = C' ++ [z] := ⟨C.dropLast, C.getLast h, (List.dropLast_concat_getLast h).symm⟩
def fnv (bx : Nat) : Value := .func (.func 87) #[] #[.pointer (some ⟨bx, 0, none⟩)]

set_option maxRecDepth 1000000 in
set_option maxHeartbeats 6400000 in
theorem ins_any (g n c a b bx N : Nat) (key : Nat → Nat) (P A S : List Nat) (w : World) (hc : Col w g (P ++ (A ++ S))) (hn : n = P.length + A.length + S.length) (hn1 : n ≤ 1000) (ha : a = P.length) (hb : b = P.length + A.length)
    (K : CmpK g bx key N w) (hN : ∀ x ∈ A, x < N) (hst : A.Pairwise fun x y => key x = key y → x < y) :
    Calls Tryz.prog 95 #[.slice (some ⟨g, 0, none⟩) n c, .int .i64 (a : Int), .int .i64 (b : Int), .func (.func 87) #[] #[.pointer (some ⟨bx, 0, none⟩)]] w fun e w' =>
      e = .returned (.tuple #[]) ∧ ∃ C, C.Perm A ∧ Srt key C ∧ Col w' g (P ++ (C ++ S)) ∧ Fr (fun b => b = g) w w' := by
  have HC := Lib.hid hc
  have HLn := Lib.hid (show n = P.length + A.length + S.length ∧ a = P.length ∧ b = P.length + A.length from ⟨hn, ha, hb⟩)
  have HK := Lib.hid K
  have HNn := Lib.hid hN
  have HST := Lib.hid hst
  have hbn : b ≤ n := by omega
  have hab : a ≤ b := by omega
  clear hc hn ha hb K hN hst
  go_enter Tryz.func95, Tryz.ntmps95
  go_wp2
  by_cases hab1 : a = b
  · -- nothing is there
    have hA : A = [] := List.eq_nil_of_length_eq_zero (by have := HLn.out; omega)
    subst hA
    refine wp_loop_rounds 1 ?_
    rw [rounds_succ]
    go_wp2
    go_end0
    exact ⟨rfl, [], List.Perm.refl _, List.Pairwise.nil, HC.out, Fr.refl _ _⟩
  go_loopw [8] (fun vi wr => ∃ (i : Nat) (C R : List Nat), vi = .int .i64 (i : Int) ∧ a < i ∧ i ≤ b ∧ Hid (C.Perm (A.take (i - a)) ∧ R = A.drop (i - a)) ∧ Hid (Srt key C) ∧ Hid (Col wr g (P ++ (C ++ (R ++ S)))) ∧ Fr (fun b => b = g) w wr)
    (fun vi _ => b - (intOf vi).toNat)
  case atStart =>
    refine ⟨a + 1, A.take 1, A.drop 1, by go_num, by omega, by omega, ⟨by rw [show a + 1 - a = 1 by omega], by rw [show a + 1 - a = 1 by omega]⟩, ?_, ?_, Fr.refl _ _⟩
    · show Srt key (A.take 1)
      cases A with
      | nil => exact List.Pairwise.nil
      | cons x A => exact List.pairwise_singleton _ _
    · have h := HC.out
      show Col _ _ _
      rw [← List.append_assoc (A.take 1), List.take_append_drop]
      exact h
  case round =>
    clear HC
    obtain ⟨i, C, R, rfl, hai, hib, HP, HS, HCi, hfr⟩ := hrel
    by_cases hlt : i < b
    · obtain ⟨y, R', hR⟩ : ∃ y R', R = y :: R' := by
        cases R with
        | nil =>
          have h := HP.out.2
          have h2 := HLn.out
          have h3 := congrArg List.length h
          simp at h3
          omega
        | cons y R' => exact ⟨y, R', rfl⟩
      subst hR
      have hA1 : A = A.take (i - a) ++ y :: R' := by
        conv => lhs; rw [← List.take_append_drop (i - a) A]
        rw [← HP.out.2]
      have hCl : C.length = i - a := by
        rw [HP.out.1.length_eq, List.length_take]
        have := HLn.out
        omega
      have hstb : ∀ z ∈ C, key z = key y → z < y := by
        intro z hz
        have h := HST.out
        rw [hA1, List.pairwise_append] at h
        exact h.2.2 z (HP.out.1.mem_iff.1 hz) y (List.mem_cons_self ..)
      have hyN : y < N := HNn.out y (by rw [hA1]; simp)
      have hCN : ∀ z ∈ C, z < N := fun z hz => HNn.out z (List.mem_of_mem_take (HP.out.1.mem_iff.1 hz))
      have HY := Lib.hid (And.intro hstb (And.intro hyN (And.intro hCN (And.intro hCl hA1))))
      have HFi := Lib.hid hfr
      rename World => wo
      clear hA1 hCl hstb hyN hCN hfr
      go_wp2_with fail
      go_loopw [9] (fun vj wr => ∃ (j : Nat) (C1 C2 : List Nat), vj = .int .i64 (j : Int) ∧ a ≤ j ∧ j ≤ i ∧ Hid (C = C1 ++ C2 ∧ j = P.length + C1.length) ∧ Hid (∀ z ∈ C2, lx key y z) ∧ Hid (Col wr g (P ++ (C1 ++ (y :: (C2 ++ (R' ++ S)))))) ∧ Fr (fun b => b = g) w wr)
        (fun vj _ => (intOf vj).toNat)
      case atStart =>
        refine ⟨i, C, [], rfl, by omega, by omega, ⟨by simp, ?_⟩, ?_, ?_, HFi.out⟩
        · have := HY.out.2.2.2.1
          have := HLn.out
          omega
        · intro z hz
          simp at hz
        · have h := HCi.out
          show Col _ _ _
          simpa using h
      case round =>
        clear HCi HFi
        obtain ⟨j, C1, C2, rfl, haj, hji, HJ, HG, HCj, hfr⟩ := hrel
        by_cases hja : a < j
        · obtain ⟨C3, z, hC1⟩ := snoc_of (C := C1) (by
            rintro rfl
            have := HJ.out.2
            have := HLn.out
            simp at *
            omega)
          subst hC1
          obtain ⟨jp, rfl⟩ : ∃ jp, j = jp + 1 := ⟨j - 1, by omega⟩
          obtain ⟨jN, hjN⟩ : ∃ jN, jN = jp + 1 := ⟨_, rfl⟩
          have hcol := HCj.out
          have e0 : P ++ (C3 ++ [z] ++ (y :: (C2 ++ (R' ++ S)))) = (P ++ C3) ++ z :: ([] ++ y :: (C2 ++ (R' ++ S))) := by simp
          rw [e0] at hcol
          have l1 : jp = (P ++ C3).length := by
            have := HJ.out.2
            simp at this ⊢
            omega
          have l2 : jN = (P ++ C3).length + 1 + ([] : List Nat).length := by simp at l1 ⊢; omega
          have g1 : ((P ++ C3) ++ z :: ([] ++ y :: (C2 ++ (R' ++ S))))[jp]? = some z := getE_at _ _ _ _ l1
          have g2 : ((P ++ C3) ++ z :: ([] ++ y :: (C2 ++ (R' ++ S))))[jN]? = some y := by
            have := getE_at ((P ++ C3) ++ [z]) y (C2 ++ (R' ++ S)) jN (by simp; simp at l2; omega)
            simpa using this
          have ca := hcol.cell g2
          have cb := hcol.cell g1
          have hzC : z ∈ C := by rw [HJ.out.1]; simp
          have hcmp := fun q => (HK.out.call (wr.drewN q) y z (hfr.drewN q) HY.out.2.1 (HY.out.2.2.1 z hzC))
          obtain ⟨ky, hky⟩ : ∃ ky, ky = key y := ⟨_, rfl⟩
          obtain ⟨kz, hkz⟩ : ∃ kz, kz = key z := ⟨_, rfl⟩
          rw [← hky, ← hkz] at hcmp
          have bky := HK.out.few y
          have bkz := HK.out.few z
          rw [← hky] at bky
          rw [← hkz] at bkz
          have ea : ((jp : Int) + 1).toNat = jN := by omega
          have ra : IntKind.i64.wrap ((jp : Int) + 1) = (jp : Int) + 1 := by rw [IntKind.wrap_i64]; omega
          have rb : IntKind.i64.wrap (jp : Int) = (jp : Int) := by rw [IntKind.wrap_i64]; omega
          have p1 : (jp : Int) + 1 < (n : Int) := by omega
          have p2 : (0 : Int) ≤ (jp : Int) + 1 := by omega
          have p3 : (jp : Int) < (n : Int) := by omega
          have pj : (a : Int) < (jp : Int) + 1 := by omega
          have HKEY := Lib.hid (And.intro hky hkz)
          by_cases hless : ky < kz
          · have tl : decide ((ky : Int) - (kz : Int) < 0) = true := by simp; omega
            have tl' : (ky : Int) - (kz : Int) < 0 := by omega
            have HCM := hcmp
            have HLESS := Lib.hid (show lx key y z from .inl (by rw [← hky, ← hkz]; exact hless))
            clear hky hkz hless e0 hzC hcmp
            have HE := Lib.hid (And.intro l1 (And.intro l2 (And.intro g1 (And.intro g2 hcol))))
            clear l1 l2 g1 g2 hcol
            have HJN := Lib.hid hjN
            clear hjN
            go_wp2_with fail
            go_quiet ((go_at_call 87; refine Calls.quiet_of (HCM _)))
            obtain ⟨w2, hw2⟩ : ∃ w2, w2 = wr.drewN nq := ⟨_, rfl⟩
            have hc2 : Col w2 g ((P ++ C3) ++ z :: ([] ++ y :: (C2 ++ (R' ++ S)))) := by rw [hw2]; exact HE.out.2.2.2.2
            have hf2 : Fr (fun b => b = g) w w2 := by rw [hw2]; exact hfr.drewN nq
            rw [← hw2]
            clear hw2 nq HCM hfr ca cb HCj
            have c1 := hc2.cell HE.out.2.2.2.1
            have c2 := hc2.cell HE.out.2.2.1
            have f1 := hc2.free jN
            have f2 := hc2.free jp
            obtain ⟨u, c3⟩ := hc2.second HE.out.2.2.2.1 HE.out.2.2.1
            have hsw := hc2.swap HE.out.2.2.2.1 HE.out.2.2.1
            rw [swp_comm, swp_at _ _ _ _ _ _ _ HE.out.1 HE.out.2.1] at hsw
            have HSW := Lib.hid hsw
            have HFR := Lib.hid (hf2.trans (fr_swap w2 g jN jp (.int .i64 (z : Int)) (.int .i64 (y : Int))) (fun _ _ h => h))
            clear hc2 hf2 hsw
            go_wp2_with fail
            go_big_region
            generalize ((w2.setCell ⟨g, jN, none⟩ (Value.int IntKind.i64 (z : Int))).setCell ⟨g, jp, none⟩ (Value.int IntKind.i64 (y : Int))).drew = w3 at HSW HFR ⊢
            clear c1 c2 c3 f1 f2 ea ra rb tl tl' p1 p2 p3
            go_wp2
            go_roundw
            case rel =>
              refine ⟨jp, C3, z :: C2, by first | rfl | go_num | (congr 1; omega), by omega, by omega, ⟨by rw [HJ.out.1]; simp, ?_⟩, ?_, ?_, HFR.out⟩
              · have := HJ.out.2
                simp at this
                omega
              · intro x hx
                rcases List.mem_cons.1 hx with rfl | hx
                · exact HLESS.out
                · exact HG.out x hx
              · have h := HSW.out
                show Col _ _ _
                simpa using h
            case measure => simp [intOf] <;> omega
          · have tl : decide ((ky : Int) - (kz : Int) < 0) = false := by simp; omega
            have tl' : ¬ (ky : Int) - (kz : Int) < 0 := by omega
            have HCM := hcmp
            have HLESS := Lib.hid (show lx key z y from lx_of_stb (HY.out.1 z hzC) (by rw [← hky, ← hkz]; exact hless))
            clear hky hkz hless e0 hzC hcmp l1 l2 g1 g2 hcol hjN
            go_wp2_with fail
            go_quiet ((go_at_call 87; refine Calls.quiet_of (HCM _)))
            have HF2 := Lib.hid (hfr.drewN nq)
            have HC2 : Hid (Col (wr.drewN nq) g (P ++ (C3 ++ [z] ++ (y :: (C2 ++ (R' ++ S)))))) := HCj
            generalize wr.drewN nq = w3 at HF2 HC2 ⊢
            clear HCM hfr ca cb HCj ea ra rb tl tl' p1 p2 p3
            go_wp2
            go_roundw
            case rel =>
              refine ⟨i + 1, (C3 ++ [z]) ++ y :: C2, R', by go_num, by omega, by omega, ⟨?_, ?_⟩, ?_, ?_, HF2.out⟩
              · rw [show i + 1 - a = (i - a) + 1 by omega, List.take_add_one]
                have e : A[i - a]? = some y := by
                  conv => lhs; rw [HY.out.2.2.2.2]
                  exact getE_at _ _ _ _ (by rw [List.length_take]; have := HLn.out; omega)
                rw [e]
                have h1 := HP.out.1
                rw [HJ.out.1] at h1
                have h2 : ((C3 ++ [z]) ++ y :: C2).Perm ((C3 ++ [z]) ++ C2 ++ [y]) := by
                  rw [List.append_assoc (C3 ++ [z]) C2]
                  refine List.Perm.append_left _ ?_
                  exact List.perm_append_comm (l₁ := [y])
                exact h2.trans (h1.append_right _)
              · rw [show i + 1 - a = (i - a) + 1 by omega, ← List.drop_drop, ← HP.out.2]
                rfl
              · have h := HS.out
                rw [HJ.out.1] at h
                exact ins_end h (ahead_of (srt_app.1 h).1 HLESS.out) HG.out
              · have h := HC2.out
                show Col _ _ _
                simpa using h
            case measure => simp [intOf] <;> omega
        · -- j = a
          have hja' : j = a := by omega
          have hC1 : C1 = [] := List.eq_nil_of_length_eq_zero (by have := HJ.out.2; have := HLn.out; omega)
          subst hC1
          have tj : decide ((a : Int) < (j : Int)) = false := by simp; omega
          have tj' : decide (a < j) = false := decide_eq_false (by omega)
          have HJA := Lib.hid hja'
          clear hja hja'
          go_wp2_with fail
          go_big_region
          have HF2 := Lib.hid hfr.drew
          have HC2 : Hid (Col wr.drew g (P ++ ([] ++ (y :: (C2 ++ (R' ++ S)))))) := HCj
          generalize wr.drew = w3 at HF2 HC2 ⊢
          clear hfr HCj
          go_wp2
          go_roundw
          case rel =>
            refine ⟨i + 1, y :: C2, R', by go_num, by omega, by omega, ⟨?_, ?_⟩, ?_, ?_, HF2.out⟩
            · rw [show i + 1 - a = (i - a) + 1 by omega, List.take_add_one]
              have e : A[i - a]? = some y := by
                conv => lhs; rw [HY.out.2.2.2.2]
                exact getE_at _ _ _ _ (by rw [List.length_take]; have := HLn.out; omega)
              rw [e]
              have h1 := HP.out.1
              rw [HJ.out.1] at h1
              exact (List.perm_append_comm (l₁ := [y])).trans (h1.append_right _)
            · rw [show i + 1 - a = (i - a) + 1 by omega, ← List.drop_drop, ← HP.out.2]
              rfl
            · have h := HS.out
              rw [HJ.out.1] at h
              exact ins_end (C1 := []) h (fun x hx => by simp at hx) HG.out
            · have h := HC2.out
              show Col _ _ _
              simpa using h
          case measure => simp [intOf] <;> omega
    · obtain rfl : i = b := by omega
      have hp : C.Perm A := by
        have h := HP.out.1
        rwa [List.take_of_length_le (by have := HLn.out; omega)] at h
      have hR : R = [] := by
        have h := HP.out.2
        rwa [List.drop_eq_nil_of_le (by have := HLn.out; omega)] at h
      subst hR
      have HPP := Lib.hid hp
      have h := HCi.out
      have HCC : Hid (Col wr g (P ++ (C ++ S))) := h
      clear h hp HCi HP
      go_wp2
      go_end0
      exact ⟨rfl, C, HPP.out, HS.out, HCC.out, hfr⟩
end Go.Proofs.YtahfmcdhcbfkaaaGreatDoor
