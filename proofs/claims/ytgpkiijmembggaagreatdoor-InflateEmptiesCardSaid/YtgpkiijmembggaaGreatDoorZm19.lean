/-
  The library's sort at numbers: the insertion sort of a piece of a row, by keys; of one key, in the order in which they stood.
  The loops of the library's symMerge at numbers: three searches by halves, two rows of swaps (written by gen_sym.py).
  The loops of the library's symMerge at numbers: two rows of swaps (written by gen_sym.py).
  The library's symMerge at numbers: two sorted pieces that lie side by side become one (written by gen_sym2.py).
-/
import Derived.Test.YtgpkiijmembggaaGreatDoorZm18
import Derived.Test.YtgpkiijmembggaaGreatDoorZm12
import Derived.Deep.DeepCutAuto
namespace Go.Proofs.YtgpkiijmembggaaGreatDoor
open Go.RowKit HuffM Mem Go.Lib
attribute [local go_sem ↓] Go.wp_at_zero Go.wp_at_succ

theorem snoc_of {C : List Nat} (h : C ≠ []) : ∃ C' z, C = C' ++ [z] := ⟨C.dropLast, C.getLast h, (List.dropLast_concat_getLast h).symm⟩
def fnv (bx : Nat) : Value := .func (.func 85) #[] #[.pointer (some ⟨bx, 0, none⟩)]

set_option maxRecDepth 1000000 in
set_option maxHeartbeats 6400000 in
theorem ins_any (g n c a b bx N : Nat) (key : Nat → Nat) (P A S : List Nat) (w : World) (hc : Col w g (P ++ (A ++ S))) (hn : n = P.length + A.length + S.length) (hn1 : n ≤ 1000) (ha : a = P.length) (hb : b = P.length + A.length)
    (K : CmpK g bx key N w) (hN : ∀ x ∈ A, x < N) (hst : A.Pairwise fun x y => key x = key y → x < y) :
    Calls Tryz.prog 110 #[.slice (some ⟨g, 0, none⟩) n c, .int .i64 (a : Int), .int .i64 (b : Int), .func (.func 85) #[] #[.pointer (some ⟨bx, 0, none⟩)]] w fun e w' =>
      e = .returned (.tuple #[]) ∧ ∃ C, C.Perm A ∧ Srt key C ∧ Col w' g (P ++ (C ++ S)) ∧ Fr (fun b => b = g) w w' := by
  have HC := Lib.hid hc
  have HLn := Lib.hid (show n = P.length + A.length + S.length ∧ a = P.length ∧ b = P.length + A.length from ⟨hn, ha, hb⟩)
  have HK := Lib.hid K
  have HNn := Lib.hid hN
  have HST := Lib.hid hst
  have hbn : b ≤ n := by omega
  have hab : a ≤ b := by omega
  clear hc hn ha hb K hN hst
  go_enter Tryz.func110, Tryz.ntmps110
  go_wp2
  by_cases hab1 : a = b
  · -- nothing is there
    have hA : A = [] := List.eq_nil_of_length_eq_zero (by have := HLn.out; omega)
    subst hA
    refine wp_loop_rounds 1 ?_
    rw [rounds_succ]
    go_wp2
    go_end0
    exact ⟨rfl, [], List.Perm.refl _, List.Pairwise.nil, HC.out, Fr.refl _ _⟩
  go_loopw [8] (fun vi wr => ∃ (i : Nat) (C R : List Nat), vi = .int .i64 (i : Int) ∧ a < i ∧ i ≤ b ∧ Hid (C.Perm (A.take (i - a)) ∧ R = A.drop (i - a)) ∧ Hid (Srt key C) ∧ Hid (Col wr g (P ++ (C ++ (R ++ S)))) ∧ Fr (fun b => b = g) w wr)
    (fun vi _ => b - (intOf vi).toNat)
  case atStart =>
    refine ⟨a + 1, A.take 1, A.drop 1, by go_num, by omega, by omega, ⟨by rw [show a + 1 - a = 1 by omega], by rw [show a + 1 - a = 1 by omega]⟩, ?_, ?_, Fr.refl _ _⟩
    · show Srt key (A.take 1)
      cases A with
      | nil => exact List.Pairwise.nil
      | cons x A => exact List.pairwise_singleton _ _
    · have h := HC.out
      show Col _ _ _
      rw [← List.append_assoc (A.take 1), List.take_append_drop]
      exact h
  case round =>
    clear HC
    obtain ⟨i, C, R, rfl, hai, hib, HP, HS, HCi, hfr⟩ := hrel
    by_cases hlt : i < b
    · obtain ⟨y, R', hR⟩ : ∃ y R', R = y :: R' := by
        cases R with
        | nil =>
          have h := HP.out.2
          have h2 := HLn.out
          have h3 := congrArg List.length h
          simp at h3
          omega
        | cons y R' => exact ⟨y, R', rfl⟩
      subst hR
      have hA1 : A = A.take (i - a) ++ y :: R' := by
        conv => lhs; rw [← List.take_append_drop (i - a) A]
        rw [← HP.out.2]
      have hCl : C.length = i - a := by
        rw [HP.out.1.length_eq, List.length_take]
        have := HLn.out
        omega
      have hstb : ∀ z ∈ C, key z = key y → z < y := by
        intro z hz
        have h := HST.out
        rw [hA1, List.pairwise_append] at h
        exact h.2.2 z (HP.out.1.mem_iff.1 hz) y (List.mem_cons_self ..)
      have hyN : y < N := HNn.out y (by rw [hA1]; simp)
      have hCN : ∀ z ∈ C, z < N := fun z hz => HNn.out z (List.mem_of_mem_take (HP.out.1.mem_iff.1 hz))
      have HY := Lib.hid (And.intro hstb (And.intro hyN (And.intro hCN (And.intro hCl hA1))))
      have HFi := Lib.hid hfr
      rename World => wo
      clear hA1 hCl hstb hyN hCN hfr
      go_wp2_with fail
      go_loopw [9] (fun vj wr => ∃ (j : Nat) (C1 C2 : List Nat), vj = .int .i64 (j : Int) ∧ a ≤ j ∧ j ≤ i ∧ Hid (C = C1 ++ C2 ∧ j = P.length + C1.length) ∧ Hid (∀ z ∈ C2, lx key y z) ∧ Hid (Col wr g (P ++ (C1 ++ (y :: (C2 ++ (R' ++ S)))))) ∧ Fr (fun b => b = g) w wr)
        (fun vj _ => (intOf vj).toNat)
      case atStart =>
        refine ⟨i, C, [], rfl, by omega, by omega, ⟨by simp, ?_⟩, ?_, ?_, HFi.out⟩
        · have := HY.out.2.2.2.1
          have := HLn.out
          omega
        · intro z hz
          simp at hz
        · have h := HCi.out
          show Col _ _ _
          simpa using h
      case round =>
        clear HCi HFi
        obtain ⟨j, C1, C2, rfl, haj, hji, HJ, HG, HCj, hfr⟩ := hrel
        by_cases hja : a < j
        · obtain ⟨C3, z, hC1⟩ := snoc_of (C := C1) (by
            rintro rfl
            have := HJ.out.2
            have := HLn.out
            simp at *
            omega)
          subst hC1
          obtain ⟨jp, rfl⟩ : ∃ jp, j = jp + 1 := ⟨j - 1, by omega⟩
          obtain ⟨jN, hjN⟩ : ∃ jN, jN = jp + 1 := ⟨_, rfl⟩
          have hcol := HCj.out
          have e0 : P ++ (C3 ++ [z] ++ (y :: (C2 ++ (R' ++ S)))) = (P ++ C3) ++ z :: ([] ++ y :: (C2 ++ (R' ++ S))) := by simp
          rw [e0] at hcol
          have l1 : jp = (P ++ C3).length := by
            have := HJ.out.2
            simp at this ⊢
            omega
          have l2 : jN = (P ++ C3).length + 1 + ([] : List Nat).length := by simp at l1 ⊢; omega
          have g1 : ((P ++ C3) ++ z :: ([] ++ y :: (C2 ++ (R' ++ S))))[jp]? = some z := getE_at _ _ _ _ l1
          have g2 : ((P ++ C3) ++ z :: ([] ++ y :: (C2 ++ (R' ++ S))))[jN]? = some y := by
            have := getE_at ((P ++ C3) ++ [z]) y (C2 ++ (R' ++ S)) jN (by simp; simp at l2; omega)
            simpa using this
          have ca := hcol.cell g2
          have cb := hcol.cell g1
          have hzC : z ∈ C := by rw [HJ.out.1]; simp
          have hcmp := fun q => (HK.out.call (wr.drewN q) y z (hfr.drewN q) HY.out.2.1 (HY.out.2.2.1 z hzC))
          obtain ⟨ky, hky⟩ : ∃ ky, ky = key y := ⟨_, rfl⟩
          obtain ⟨kz, hkz⟩ : ∃ kz, kz = key z := ⟨_, rfl⟩
          rw [← hky, ← hkz] at hcmp
          have bky := HK.out.few y
          have bkz := HK.out.few z
          rw [← hky] at bky
          rw [← hkz] at bkz
          have ea : ((jp : Int) + 1).toNat = jN := by omega
          have ra : IntKind.i64.wrap ((jp : Int) + 1) = (jp : Int) + 1 := by rw [IntKind.wrap_i64]; omega
          have rb : IntKind.i64.wrap (jp : Int) = (jp : Int) := by rw [IntKind.wrap_i64]; omega
          have p1 : (jp : Int) + 1 < (n : Int) := by omega
          have p2 : (0 : Int) ≤ (jp : Int) + 1 := by omega
          have p3 : (jp : Int) < (n : Int) := by omega
          have pj : (a : Int) < (jp : Int) + 1 := by omega
          have HKEY := Lib.hid (And.intro hky hkz)
          by_cases hless : ky < kz
          · have tl : decide ((ky : Int) - (kz : Int) < 0) = true := by simp; omega
            have tl' : (ky : Int) - (kz : Int) < 0 := by omega
            have HCM := hcmp
            have HLESS := Lib.hid (show lx key y z from .inl (by rw [← hky, ← hkz]; exact hless))
            clear hky hkz hless e0 hzC hcmp
            have HE := Lib.hid (And.intro l1 (And.intro l2 (And.intro g1 (And.intro g2 hcol))))
            clear l1 l2 g1 g2 hcol
            have HJN := Lib.hid hjN
            clear hjN
            go_wp2_with fail
            go_quiet ((go_at_call 85; refine Calls.quiet_of (HCM _)))
            obtain ⟨w2, hw2⟩ : ∃ w2, w2 = wr.drewN nq := ⟨_, rfl⟩
            have hc2 : Col w2 g ((P ++ C3) ++ z :: ([] ++ y :: (C2 ++ (R' ++ S)))) := by rw [hw2]; exact HE.out.2.2.2.2
            have hf2 : Fr (fun b => b = g) w w2 := by rw [hw2]; exact hfr.drewN nq
            rw [← hw2]
            clear hw2 nq HCM hfr ca cb HCj
            have c1 := hc2.cell HE.out.2.2.2.1
            have c2 := hc2.cell HE.out.2.2.1
            have f1 := hc2.free jN
            have f2 := hc2.free jp
            obtain ⟨u, c3⟩ := hc2.second HE.out.2.2.2.1 HE.out.2.2.1
            have hsw := hc2.swap HE.out.2.2.2.1 HE.out.2.2.1
            rw [swp_comm, swp_at _ _ _ _ _ _ _ HE.out.1 HE.out.2.1] at hsw
            have HSW := Lib.hid hsw
            have HFR := Lib.hid (hf2.trans (fr_swap w2 g jN jp (.int .i64 (z : Int)) (.int .i64 (y : Int))) (fun _ _ h => h))
            clear hc2 hf2 hsw
            go_wp2_with fail
            go_big_region
            generalize ((w2.setCell ⟨g, jN, none⟩ (Value.int IntKind.i64 (z : Int))).setCell ⟨g, jp, none⟩ (Value.int IntKind.i64 (y : Int))).drew = w3 at HSW HFR ⊢
            clear c1 c2 c3 f1 f2 ea ra rb tl tl' p1 p2 p3
            go_wp2
            go_roundw
            case rel =>
              refine ⟨jp, C3, z :: C2, by first | rfl | go_num | (congr 1; omega), by omega, by omega, ⟨by rw [HJ.out.1]; simp, ?_⟩, ?_, ?_, HFR.out⟩
              · have := HJ.out.2
                simp at this
                omega
              · intro x hx
                rcases List.mem_cons.1 hx with rfl | hx
                · exact HLESS.out
                · exact HG.out x hx
              · have h := HSW.out
                show Col _ _ _
                simpa using h
            case measure => simp [intOf] <;> omega
          · have tl : decide ((ky : Int) - (kz : Int) < 0) = false := by simp; omega
            have tl' : ¬ (ky : Int) - (kz : Int) < 0 := by omega
            have HCM := hcmp
            have HLESS := Lib.hid (show lx key z y from lx_of_stb (HY.out.1 z hzC) (by rw [← hky, ← hkz]; exact hless))
            clear hky hkz hless e0 hzC hcmp l1 l2 g1 g2 hcol hjN
            go_wp2_with fail
            go_quiet ((go_at_call 85; refine Calls.quiet_of (HCM _)))
            have HF2 := Lib.hid (hfr.drewN nq)
            have HC2 : Hid (Col (wr.drewN nq) g (P ++ (C3 ++ [z] ++ (y :: (C2 ++ (R' ++ S)))))) := HCj
            generalize wr.drewN nq = w3 at HF2 HC2 ⊢
            clear HCM hfr ca cb HCj ea ra rb tl tl' p1 p2 p3
            go_wp2
            go_roundw
            case rel =>
              refine ⟨i + 1, (C3 ++ [z]) ++ y :: C2, R', by go_num, by omega, by omega, ⟨?_, ?_⟩, ?_, ?_, HF2.out⟩
              · rw [show i + 1 - a = (i - a) + 1 by omega, List.take_add_one]
                have e : A[i - a]? = some y := by
                  conv => lhs; rw [HY.out.2.2.2.2]
                  exact getE_at _ _ _ _ (by rw [List.length_take]; have := HLn.out; omega)
                rw [e]
                have h1 := HP.out.1
                rw [HJ.out.1] at h1
                have h2 : ((C3 ++ [z]) ++ y :: C2).Perm ((C3 ++ [z]) ++ C2 ++ [y]) := by
                  rw [List.append_assoc (C3 ++ [z]) C2]
                  refine List.Perm.append_left _ ?_
                  exact List.perm_append_comm (l₁ := [y])
                exact h2.trans (h1.append_right _)
              · rw [show i + 1 - a = (i - a) + 1 by omega, ← List.drop_drop, ← HP.out.2]
                rfl
              · have h := HS.out
                rw [HJ.out.1] at h
                exact ins_end h (ahead_of (srt_app.1 h).1 HLESS.out) HG.out
              · have h := HC2.out
                show Col _ _ _
                simpa using h
            case measure => simp [intOf] <;> omega
        · -- j = a
          have hja' : j = a := by omega
          have hC1 : C1 = [] := List.eq_nil_of_length_eq_zero (by have := HJ.out.2; have := HLn.out; omega)
          subst hC1
          have tj : decide ((a : Int) < (j : Int)) = false := by simp; omega
          have tj' : decide (a < j) = false := decide_eq_false (by omega)
          have HJA := Lib.hid hja'
          clear hja hja'
          go_wp2_with fail
          go_big_region
          have HF2 := Lib.hid hfr.drew
          have HC2 : Hid (Col wr.drew g (P ++ ([] ++ (y :: (C2 ++ (R' ++ S)))))) := HCj
          generalize wr.drew = w3 at HF2 HC2 ⊢
          clear hfr HCj
          go_wp2
          go_roundw
          case rel =>
            refine ⟨i + 1, y :: C2, R', by go_num, by omega, by omega, ⟨?_, ?_⟩, ?_, ?_, HF2.out⟩
            · rw [show i + 1 - a = (i - a) + 1 by omega, List.take_add_one]
              have e : A[i - a]? = some y := by
                conv => lhs; rw [HY.out.2.2.2.2]
                exact getE_at _ _ _ _ (by rw [List.length_take]; have := HLn.out; omega)
              rw [e]
              have h1 := HP.out.1
              rw [HJ.out.1] at h1
              exact (List.perm_append_comm (l₁ := [y])).trans (h1.append_right _)
            · rw [show i + 1 - a = (i - a) + 1 by omega, ← List.drop_drop, ← HP.out.2]
              rfl
            · have h := HS.out
              rw [HJ.out.1] at h
              exact ins_end (C1 := []) h (fun x hx => by simp at hx) HG.out
            · have h := HC2.out
              show Col _ _ _
              simpa using h
          case measure => simp [intOf] <;> omega
    · obtain rfl : i = b := by omega
      have hp : C.Perm A := by
        have h := HP.out.1
        rwa [List.take_of_length_le (by have := HLn.out; omega)] at h
      have hR : R = [] := by
        have h := HP.out.2
        rwa [List.drop_eq_nil_of_le (by have := HLn.out; omega)] at h
      subst hR
      have HPP := Lib.hid hp
      have h := HCi.out
      have HCC : Hid (Col wr g (P ++ (C ++ S))) := h
      clear h hp HCi HP
      go_wp2
      go_end0
      exact ⟨rfl, C, HPP.out, HS.out, HCC.out, hfr⟩
end Go.Proofs.YtgpkiijmembggaaGreatDoor
namespace Go.Proofs.YtgpkiijmembggaaGreatDoor
open Go.RowKit HuffM Mem Go.Lib
attribute [local go_sem ↓] Go.wp_at_zero Go.wp_at_succ
set_option linter.unusedVariables false

/-- the key at a place -/
def kd (key : Nat → Nat) (d : List Nat) (i : Nat) : Nat := key (d.getD i 0)
theorem getE_D {d : List Nat} {i : Nat} (h : i < d.length) : d[i]? = some (d.getD i 0) := by rw [List.getD_eq_getElem?_getD, List.getElem?_eq_getElem h]; rfl
theorem half_mid {i j h : Nat} (h1 : i < j) (hh : h = (i + j) / 2) : i ≤ h ∧ h < j := by omega

set_option maxRecDepth 1000000 in
noncomputable def bs1Body : Code := ((Tryz.f111.body.bind (loopAt 3)).getD .skip)
set_option maxRecDepth 1000000 in
set_option maxHeartbeats 3200000 in
theorem bs1_loop (Q0 : Exit → Act → World → Prop) (s2 s3 s5 s6 s7 s8 s9 s12 s13 s14 s15 s16 s17 s18 s19 s20 s21 s22 s23 s24 s25 s26 s27 s28 s29 s30 s31 s32 s33 s34 s35 s36 s37 s38 s39 s40 s41 s42 s43 s44 s45 s46 s47 s48 s49 s50 s51 s52 s53 s54 s55 s56 s57 s58 s59 s60 s61 s62 s63 s64 s65 s66 s67 s68 s69 s70 s71 s72 s73 s74 s75 s76 s77 s78 s79 s80 s81 s82 s83 s84 s85 s86 s87 s88 s89 s90 s91 s92 s93 s94 s95 s96 s97 s98 s99 s100 s101 s102 s103 s104 s105 s106 s107 s108 s109 s110 s111 s112 s113 s114 s115 s116 s117 s118 s119 s120 s121 s122 s123 s124 s125 s126 s127 s128 s129 s130 s131 s132 s133 s134 s135 s136 s137 s138 s139 s140 s141 s142 s143 s144 s145 s146 s147 s148 s149 s150 s151 s152 s153 s154 s155 s156 s157 s158 s159 s160 s161 s162 s163 s164 s165 s166 s167 s168 s169 s170 s171 s172 s173 s174 s175 s176 s177 s178 s179 s180 s181 s182 s183 s184 s185 s186 s187 s188 s189 s190 s191 s192 s193 s194 s195 s196 s197 s198 s199 s200 s201 s202 s203 s204 s205 s206 s207 s208 s209 s210 s211 s212 s213 s214 s215 s216 s217 s218 s219 : Value) (g n c bx N lo hi a : Nat) (key : Nat → Nat) (d : List Nat) (w0 : World) (HC : Hid (Col w0 g d)) (HK : Hid (CmpK g bx key N w0)) (HN : Hid (d.length = n)) (hn : n ≤ 1000) (hlow : ∀ x ∈ d, x < N) (hlohi : lo ≤ hi) (han : a < n) (hhi : hi ≤ n)
    (hexit : ∀ (I : Nat) (w'' : World) (r11 r12 r31 r32 r33 r34 r35 r36 r37 r38 r39 r40 r41 r42 r43 r44 r45 r46 r47 r48 r49 r50 r51 r52 r53 : Value), lo ≤ I → I ≤ hi → Hid ((I = lo ∨ kd key d (I - 1) < kd key d a) ∧ (I = hi ∨ ¬ (kd key d I < kd key d a))) → Hid (Col w'' g d) → Hid (Fr (fun b => b = g) w0 w'') → Q0 (.exit 0) ⟨List.toArray (.slice (some ⟨g, 0, none⟩) n c :: .int .i64 (a : Int) :: s2 :: s3 :: .func (.func 85) #[] #[.pointer (some ⟨bx, 0, none⟩)] :: s5 :: s6 :: s7 :: s8 :: s9 :: .int .i64 (I : Int) :: r11 :: r12 :: s13 :: s14 :: s15 :: s16 :: s17 :: s18 :: s19 :: s20 :: s21 :: s22 :: s23 :: s24 :: s25 :: s26 :: s27 :: s28 :: s29 :: s30 :: r31 :: r32 :: r33 :: r34 :: r35 :: r36 :: r37 :: r38 :: r39 :: r40 :: r41 :: r42 :: r43 :: r44 :: r45 :: r46 :: r47 :: r48 :: r49 :: r50 :: r51 :: r52 :: r53 :: s54 :: s55 :: s56 :: s57 :: s58 :: s59 :: s60 :: s61 :: s62 :: s63 :: s64 :: s65 :: s66 :: s67 :: s68 :: s69 :: s70 :: s71 :: s72 :: s73 :: s74 :: s75 :: s76 :: s77 :: s78 :: s79 :: s80 :: s81 :: s82 :: s83 :: s84 :: s85 :: s86 :: s87 :: s88 :: s89 :: s90 :: s91 :: s92 :: s93 :: s94 :: s95 :: s96 :: s97 :: s98 :: s99 :: s100 :: s101 :: s102 :: s103 :: s104 :: s105 :: s106 :: s107 :: s108 :: s109 :: s110 :: s111 :: s112 :: s113 :: s114 :: s115 :: s116 :: s117 :: s118 :: s119 :: s120 :: s121 :: s122 :: s123 :: s124 :: s125 :: s126 :: s127 :: s128 :: s129 :: s130 :: s131 :: s132 :: s133 :: s134 :: s135 :: s136 :: s137 :: s138 :: s139 :: s140 :: s141 :: s142 :: s143 :: s144 :: s145 :: s146 :: s147 :: s148 :: s149 :: s150 :: s151 :: s152 :: s153 :: s154 :: s155 :: s156 :: s157 :: s158 :: s159 :: s160 :: s161 :: s162 :: s163 :: s164 :: s165 :: s166 :: s167 :: s168 :: s169 :: s170 :: s171 :: s172 :: s173 :: s174 :: s175 :: s176 :: s177 :: s178 :: s179 :: s180 :: s181 :: s182 :: s183 :: s184 :: s185 :: s186 :: s187 :: s188 :: s189 :: s190 :: s191 :: s192 :: s193 :: s194 :: s195 :: s196 :: s197 :: s198 :: s199 :: s200 :: s201 :: s202 :: s203 :: s204 :: s205 :: s206 :: s207 :: s208 :: s209 :: s210 :: s211 :: s212 :: s213 :: s214 :: s215 :: s216 :: s217 :: s218 :: s219 :: []), []⟩ w'') :
    Code.wp Tryz.prog (Code.loop bs1Body) Q0 ⟨List.toArray (.slice (some ⟨g, 0, none⟩) n c :: .int .i64 (a : Int) :: s2 :: s3 :: .func (.func 85) #[] #[.pointer (some ⟨bx, 0, none⟩)] :: s5 :: s6 :: s7 :: s8 :: s9 :: .int .i64 (lo : Int) :: .int .i64 (hi : Int) :: s12 :: s13 :: s14 :: s15 :: s16 :: s17 :: s18 :: s19 :: s20 :: s21 :: s22 :: s23 :: s24 :: s25 :: s26 :: s27 :: s28 :: s29 :: s30 :: s31 :: s32 :: s33 :: s34 :: s35 :: s36 :: s37 :: s38 :: s39 :: s40 :: s41 :: s42 :: s43 :: s44 :: s45 :: s46 :: s47 :: s48 :: s49 :: s50 :: s51 :: s52 :: s53 :: s54 :: s55 :: s56 :: s57 :: s58 :: s59 :: s60 :: s61 :: s62 :: s63 :: s64 :: s65 :: s66 :: s67 :: s68 :: s69 :: s70 :: s71 :: s72 :: s73 :: s74 :: s75 :: s76 :: s77 :: s78 :: s79 :: s80 :: s81 :: s82 :: s83 :: s84 :: s85 :: s86 :: s87 :: s88 :: s89 :: s90 :: s91 :: s92 :: s93 :: s94 :: s95 :: s96 :: s97 :: s98 :: s99 :: s100 :: s101 :: s102 :: s103 :: s104 :: s105 :: s106 :: s107 :: s108 :: s109 :: s110 :: s111 :: s112 :: s113 :: s114 :: s115 :: s116 :: s117 :: s118 :: s119 :: s120 :: s121 :: s122 :: s123 :: s124 :: s125 :: s126 :: s127 :: s128 :: s129 :: s130 :: s131 :: s132 :: s133 :: s134 :: s135 :: s136 :: s137 :: s138 :: s139 :: s140 :: s141 :: s142 :: s143 :: s144 :: s145 :: s146 :: s147 :: s148 :: s149 :: s150 :: s151 :: s152 :: s153 :: s154 :: s155 :: s156 :: s157 :: s158 :: s159 :: s160 :: s161 :: s162 :: s163 :: s164 :: s165 :: s166 :: s167 :: s168 :: s169 :: s170 :: s171 :: s172 :: s173 :: s174 :: s175 :: s176 :: s177 :: s178 :: s179 :: s180 :: s181 :: s182 :: s183 :: s184 :: s185 :: s186 :: s187 :: s188 :: s189 :: s190 :: s191 :: s192 :: s193 :: s194 :: s195 :: s196 :: s197 :: s198 :: s199 :: s200 :: s201 :: s202 :: s203 :: s204 :: s205 :: s206 :: s207 :: s208 :: s209 :: s210 :: s211 :: s212 :: s213 :: s214 :: s215 :: s216 :: s217 :: s218 :: s219 :: []), []⟩ w0 := by
  refine Code.wp_mono (onExit_imp (n := 0)) ?_
  conv => arg 2; arg 1; whnf
  have HNx := Lib.hid hlow
  clear hlow
  go_loopw [10, 11] (fun vi vj wr => ∃ i j : Nat, vi = .int .i64 (i : Int) ∧ vj = .int .i64 (j : Int) ∧ lo ≤ i ∧ i ≤ j ∧ j ≤ hi ∧ Hid ((i = lo ∨ kd key d (i - 1) < kd key d a) ∧ (j = hi ∨ ¬ (kd key d j < kd key d a))) ∧ Hid (Col wr g d) ∧ Fr (fun b => b = g) w0 wr)
    (fun vi vj _ => (intOf vj).toNat - (intOf vi).toNat)
  case atStart => exact ⟨lo, hi, rfl, rfl, by omega, hlohi, by omega, ⟨.inl rfl, .inl rfl⟩, HC, Fr.refl _ _⟩
  case round =>
    clear HC
    obtain ⟨i, j, rfl, rfl, hli, hij, hjh, HI, HCj, hfr⟩ := hrel
    by_cases hlt : i < j
    · obtain ⟨h, hh⟩ : ∃ h, h = (i + j) / 2 := ⟨_, rfl⟩
      obtain ⟨hm1, hm2⟩ := half_mid hlt hh
      have hd : ((i : Int) + (j : Int)) / 2 = (h : Int) := by omega
      have HD := Lib.hid hd
      clear hh

      obtain ⟨x, hx⟩ : ∃ x, x = d.getD h 0 := ⟨_, rfl⟩
      obtain ⟨y, hy⟩ : ∃ y, y = d.getD a 0 := ⟨_, rfl⟩
      have gx := getE_D (d := d) (i := h) (by rw [HN.out]; omega)
      have gy := getE_D (d := d) (i := a) (by rw [HN.out]; omega)
      rw [← hx] at gx
      rw [← hy] at gy
      have cx := HCj.out.cell gx
      have cy := HCj.out.cell gy
      have hcmp := fun q => HK.out.call (wr.drewN q) x y (hfr.drewN q) (HNx.out x (List.mem_of_getElem? gx)) (HNx.out y (List.mem_of_getElem? gy))
      obtain ⟨kx, hkx⟩ : ∃ kx, kx = key x := ⟨_, rfl⟩
      obtain ⟨ky, hky⟩ : ∃ ky, ky = key y := ⟨_, rfl⟩
      rw [← hkx, ← hky] at hcmp
      have bkx := HK.out.few x
      have bky := HK.out.few y
      rw [← hkx] at bkx
      rw [← hky] at bky
      rw [hx] at hkx
      rw [hy] at hky
      clear hx hy
      replace hkx : kx = kd key d h := hkx
      replace hky : ky = kd key d a := hky
      by_cases hless : kx < ky
      · skip
        have tl : decide ((kx : Int) - (ky : Int) < 0) = true := by simp; omega
        have tl' : (kx : Int) - (ky : Int) < 0 := by omega
        have HUP := Lib.hid (show kd key d h < kd key d a from by rw [← hkx, ← hky]; omega)
        clear hless hkx hky gx gy
        go_wp2_with fail
        go_quiet ((go_at_call 85; refine Calls.quiet_of (hcmp _)))
        have HF2 := Lib.hid (hfr.drewN nq)
        have HC2 : Hid (Col (wr.drewN nq) g d) := HCj
        generalize wr.drewN nq = w3 at HF2 HC2 ⊢
        clear hcmp hfr cx cy HCj tl tl' 
        go_wp2
        go_roundw
        case rel => exact ⟨h + 1, j, by go_num, rfl, by omega, by omega, by omega, Lib.hid (And.intro (Or.inr (by rw [Nat.add_sub_cancel]; exact HUP.out)) HI.out.2), HC2, HF2.out⟩
        case measure => simp [intOf] <;> omega
      · skip
        have tl : decide ((kx : Int) - (ky : Int) < 0) = false := by simp; omega
        have tl' : ¬ (kx : Int) - (ky : Int) < 0 := by omega
        have HUP := Lib.hid (show ¬ (kd key d h < kd key d a) from by rw [← hkx, ← hky]; omega)
        clear hless hkx hky gx gy
        go_wp2_with fail
        go_quiet ((go_at_call 85; refine Calls.quiet_of (hcmp _)))
        have HF2 := Lib.hid (hfr.drewN nq)
        have HC2 : Hid (Col (wr.drewN nq) g d) := HCj
        generalize wr.drewN nq = w3 at HF2 HC2 ⊢
        clear hcmp hfr cx cy HCj tl tl' 
        go_wp2
        go_roundw
        case rel => exact ⟨i, h, rfl, rfl, by omega, by omega, by omega, Lib.hid (And.intro HI.out.1 (Or.inr HUP.out)), HC2, HF2.out⟩
        case measure => simp [intOf] <;> omega
    · obtain rfl : i = j := by omega
      go_wp2_with fail
      exact ⟨rfl, hexit i wr _ _ _ _ _ _ _ _ _ _ _ _ _ _ _ _ _ _ _ _ _ _ _ _ _ hli hjh HI HCj (Lib.hid hfr)⟩

set_option maxRecDepth 1000000 in
noncomputable def bs2Body : Code := ((Tryz.f111.body.bind (loopAt 15)).getD .skip)
set_option maxRecDepth 1000000 in
set_option maxHeartbeats 3200000 in
theorem bs2_loop (Q0 : Exit → Act → World → Prop) (s1 s3 s5 s6 s7 s8 s9 s10 s11 s12 s13 s16 s17 s18 s19 s20 s21 s22 s23 s24 s25 s26 s27 s28 s29 s30 s31 s32 s33 s34 s35 s36 s37 s38 s39 s40 s41 s42 s43 s44 s45 s46 s47 s48 s49 s50 s51 s52 s53 s54 s55 s56 s57 s58 s59 s60 s61 s62 s63 s64 s65 s66 s67 s68 s69 s70 s71 s72 s73 s74 s75 s76 s77 s78 s79 s80 s81 s82 s83 s84 s85 s86 s87 s88 s89 s90 s91 s92 s93 s94 s95 s96 s97 s98 s99 s100 s101 s102 s103 s104 s105 s106 s107 s108 s109 s110 s111 s112 s113 s114 s115 s116 s117 s118 s119 s120 s121 s122 s123 s124 s125 s126 s127 s128 s129 s130 s131 s132 s133 s134 s135 s136 s137 s138 s139 s140 s141 s142 s143 s144 s145 s146 s147 s148 s149 s150 s151 s152 s153 s154 s155 s156 s157 s158 s159 s160 s161 s162 s163 s164 s165 s166 s167 s168 s169 s170 s171 s172 s173 s174 s175 s176 s177 s178 s179 s180 s181 s182 s183 s184 s185 s186 s187 s188 s189 s190 s191 s192 s193 s194 s195 s196 s197 s198 s199 s200 s201 s202 s203 s204 s205 s206 s207 s208 s209 s210 s211 s212 s213 s214 s215 s216 s217 s218 s219 : Value) (g n c bx N lo hi m : Nat) (key : Nat → Nat) (d : List Nat) (w0 : World) (HC : Hid (Col w0 g d)) (HK : Hid (CmpK g bx key N w0)) (HN : Hid (d.length = n)) (hn : n ≤ 1000) (hlow : ∀ x ∈ d, x < N) (hlohi : lo ≤ hi) (han : m < n) (hhi : hi ≤ n)
    (hexit : ∀ (I : Nat) (w'' : World) (r15 r16 r83 r84 r85 r86 r87 r88 r89 r90 r91 r92 r93 r94 r95 r96 r97 r98 r99 r100 r101 r102 r103 r104 r105 r106 : Value), lo ≤ I → I ≤ hi → Hid ((I = lo ∨ ¬ kd key d m < kd key d (I - 1)) ∧ (I = hi ∨ ¬ (¬ kd key d m < kd key d I))) → Hid (Col w'' g d) → Hid (Fr (fun b => b = g) w0 w'') → Q0 (.exit 4) ⟨List.toArray (.slice (some ⟨g, 0, none⟩) n c :: s1 :: .int .i64 (m : Int) :: s3 :: .func (.func 85) #[] #[.pointer (some ⟨bx, 0, none⟩)] :: s5 :: s6 :: s7 :: s8 :: s9 :: s10 :: s11 :: s12 :: s13 :: .int .i64 (I : Int) :: r15 :: r16 :: s17 :: s18 :: s19 :: s20 :: s21 :: s22 :: s23 :: s24 :: s25 :: s26 :: s27 :: s28 :: s29 :: s30 :: s31 :: s32 :: s33 :: s34 :: s35 :: s36 :: s37 :: s38 :: s39 :: s40 :: s41 :: s42 :: s43 :: s44 :: s45 :: s46 :: s47 :: s48 :: s49 :: s50 :: s51 :: s52 :: s53 :: s54 :: s55 :: s56 :: s57 :: s58 :: s59 :: s60 :: s61 :: s62 :: s63 :: s64 :: s65 :: s66 :: s67 :: s68 :: s69 :: s70 :: s71 :: s72 :: s73 :: s74 :: s75 :: s76 :: s77 :: s78 :: s79 :: s80 :: s81 :: s82 :: r83 :: r84 :: r85 :: r86 :: r87 :: r88 :: r89 :: r90 :: r91 :: r92 :: r93 :: r94 :: r95 :: r96 :: r97 :: r98 :: r99 :: r100 :: r101 :: r102 :: r103 :: r104 :: r105 :: r106 :: s107 :: s108 :: s109 :: s110 :: s111 :: s112 :: s113 :: s114 :: s115 :: s116 :: s117 :: s118 :: s119 :: s120 :: s121 :: s122 :: s123 :: s124 :: s125 :: s126 :: s127 :: s128 :: s129 :: s130 :: s131 :: s132 :: s133 :: s134 :: s135 :: s136 :: s137 :: s138 :: s139 :: s140 :: s141 :: s142 :: s143 :: s144 :: s145 :: s146 :: s147 :: s148 :: s149 :: s150 :: s151 :: s152 :: s153 :: s154 :: s155 :: s156 :: s157 :: s158 :: s159 :: s160 :: s161 :: s162 :: s163 :: s164 :: s165 :: s166 :: s167 :: s168 :: s169 :: s170 :: s171 :: s172 :: s173 :: s174 :: s175 :: s176 :: s177 :: s178 :: s179 :: s180 :: s181 :: s182 :: s183 :: s184 :: s185 :: s186 :: s187 :: s188 :: s189 :: s190 :: s191 :: s192 :: s193 :: s194 :: s195 :: s196 :: s197 :: s198 :: s199 :: s200 :: s201 :: s202 :: s203 :: s204 :: s205 :: s206 :: s207 :: s208 :: s209 :: s210 :: s211 :: s212 :: s213 :: s214 :: s215 :: s216 :: s217 :: s218 :: s219 :: []), []⟩ w'') :
    Code.wp Tryz.prog (Code.loop bs2Body) Q0 ⟨List.toArray (.slice (some ⟨g, 0, none⟩) n c :: s1 :: .int .i64 (m : Int) :: s3 :: .func (.func 85) #[] #[.pointer (some ⟨bx, 0, none⟩)] :: s5 :: s6 :: s7 :: s8 :: s9 :: s10 :: s11 :: s12 :: s13 :: .int .i64 (lo : Int) :: .int .i64 (hi : Int) :: s16 :: s17 :: s18 :: s19 :: s20 :: s21 :: s22 :: s23 :: s24 :: s25 :: s26 :: s27 :: s28 :: s29 :: s30 :: s31 :: s32 :: s33 :: s34 :: s35 :: s36 :: s37 :: s38 :: s39 :: s40 :: s41 :: s42 :: s43 :: s44 :: s45 :: s46 :: s47 :: s48 :: s49 :: s50 :: s51 :: s52 :: s53 :: s54 :: s55 :: s56 :: s57 :: s58 :: s59 :: s60 :: s61 :: s62 :: s63 :: s64 :: s65 :: s66 :: s67 :: s68 :: s69 :: s70 :: s71 :: s72 :: s73 :: s74 :: s75 :: s76 :: s77 :: s78 :: s79 :: s80 :: s81 :: s82 :: s83 :: s84 :: s85 :: s86 :: s87 :: s88 :: s89 :: s90 :: s91 :: s92 :: s93 :: s94 :: s95 :: s96 :: s97 :: s98 :: s99 :: s100 :: s101 :: s102 :: s103 :: s104 :: s105 :: s106 :: s107 :: s108 :: s109 :: s110 :: s111 :: s112 :: s113 :: s114 :: s115 :: s116 :: s117 :: s118 :: s119 :: s120 :: s121 :: s122 :: s123 :: s124 :: s125 :: s126 :: s127 :: s128 :: s129 :: s130 :: s131 :: s132 :: s133 :: s134 :: s135 :: s136 :: s137 :: s138 :: s139 :: s140 :: s141 :: s142 :: s143 :: s144 :: s145 :: s146 :: s147 :: s148 :: s149 :: s150 :: s151 :: s152 :: s153 :: s154 :: s155 :: s156 :: s157 :: s158 :: s159 :: s160 :: s161 :: s162 :: s163 :: s164 :: s165 :: s166 :: s167 :: s168 :: s169 :: s170 :: s171 :: s172 :: s173 :: s174 :: s175 :: s176 :: s177 :: s178 :: s179 :: s180 :: s181 :: s182 :: s183 :: s184 :: s185 :: s186 :: s187 :: s188 :: s189 :: s190 :: s191 :: s192 :: s193 :: s194 :: s195 :: s196 :: s197 :: s198 :: s199 :: s200 :: s201 :: s202 :: s203 :: s204 :: s205 :: s206 :: s207 :: s208 :: s209 :: s210 :: s211 :: s212 :: s213 :: s214 :: s215 :: s216 :: s217 :: s218 :: s219 :: []), []⟩ w0 := by
  refine Code.wp_mono (onExit_imp (n := 4)) ?_
  conv => arg 2; arg 1; whnf
  have HNx := Lib.hid hlow
  clear hlow
  go_loopw [14, 15] (fun vi vj wr => ∃ i j : Nat, vi = .int .i64 (i : Int) ∧ vj = .int .i64 (j : Int) ∧ lo ≤ i ∧ i ≤ j ∧ j ≤ hi ∧ Hid ((i = lo ∨ ¬ kd key d m < kd key d (i - 1)) ∧ (j = hi ∨ ¬ (¬ kd key d m < kd key d j))) ∧ Hid (Col wr g d) ∧ Fr (fun b => b = g) w0 wr)
    (fun vi vj _ => (intOf vj).toNat - (intOf vi).toNat)
  case atStart => exact ⟨lo, hi, rfl, rfl, by omega, hlohi, by omega, ⟨.inl rfl, .inl rfl⟩, HC, Fr.refl _ _⟩
  case round =>
    clear HC
    obtain ⟨i, j, rfl, rfl, hli, hij, hjh, HI, HCj, hfr⟩ := hrel
    by_cases hlt : i < j
    · obtain ⟨h, hh⟩ : ∃ h, h = (i + j) / 2 := ⟨_, rfl⟩
      obtain ⟨hm1, hm2⟩ := half_mid hlt hh
      have hd : ((i : Int) + (j : Int)) / 2 = (h : Int) := by omega
      have HD := Lib.hid hd
      clear hh

      obtain ⟨x, hx⟩ : ∃ x, x = d.getD m 0 := ⟨_, rfl⟩
      obtain ⟨y, hy⟩ : ∃ y, y = d.getD h 0 := ⟨_, rfl⟩
      have gx := getE_D (d := d) (i := m) (by rw [HN.out]; omega)
      have gy := getE_D (d := d) (i := h) (by rw [HN.out]; omega)
      rw [← hx] at gx
      rw [← hy] at gy
      have cx := HCj.out.cell gx
      have cy := HCj.out.cell gy
      have hcmp := fun q => HK.out.call (wr.drewN q) x y (hfr.drewN q) (HNx.out x (List.mem_of_getElem? gx)) (HNx.out y (List.mem_of_getElem? gy))
      obtain ⟨kx, hkx⟩ : ∃ kx, kx = key x := ⟨_, rfl⟩
      obtain ⟨ky, hky⟩ : ∃ ky, ky = key y := ⟨_, rfl⟩
      rw [← hkx, ← hky] at hcmp
      have bkx := HK.out.few x
      have bky := HK.out.few y
      rw [← hkx] at bkx
      rw [← hky] at bky
      rw [hx] at hkx
      rw [hy] at hky
      clear hx hy
      replace hkx : kx = kd key d m := hkx
      replace hky : ky = kd key d h := hky
      by_cases hless : kx < ky
      · skip
        have tl : decide ((kx : Int) - (ky : Int) < 0) = true := by simp; omega
        have tl' : (kx : Int) - (ky : Int) < 0 := by omega
        have HUP := Lib.hid (show ¬ (¬ kd key d m < kd key d h) from by rw [← hkx, ← hky]; omega)
        clear hless hkx hky gx gy
        go_wp2_with fail
        go_quiet ((go_at_call 85; refine Calls.quiet_of (hcmp _)))
        have HF2 := Lib.hid (hfr.drewN nq)
        have HC2 : Hid (Col (wr.drewN nq) g d) := HCj
        generalize wr.drewN nq = w3 at HF2 HC2 ⊢
        clear hcmp hfr cx cy HCj tl tl' 
        go_wp2
        go_roundw
        case rel => exact ⟨i, h, rfl, rfl, by omega, by omega, by omega, Lib.hid (And.intro HI.out.1 (Or.inr HUP.out)), HC2, HF2.out⟩
        case measure => simp [intOf] <;> omega
      · skip
        have tl : decide ((kx : Int) - (ky : Int) < 0) = false := by simp; omega
        have tl' : ¬ (kx : Int) - (ky : Int) < 0 := by omega
        have HUP := Lib.hid (show ¬ kd key d m < kd key d h from by rw [← hkx, ← hky]; omega)
        clear hless hkx hky gx gy
        go_wp2_with fail
        go_quiet ((go_at_call 85; refine Calls.quiet_of (hcmp _)))
        have HF2 := Lib.hid (hfr.drewN nq)
        have HC2 : Hid (Col (wr.drewN nq) g d) := HCj
        generalize wr.drewN nq = w3 at HF2 HC2 ⊢
        clear hcmp hfr cx cy HCj tl tl' 
        go_wp2
        go_roundw
        case rel => exact ⟨h + 1, j, by go_num, rfl, by omega, by omega, by omega, Lib.hid (And.intro (Or.inr (by rw [Nat.add_sub_cancel]; exact HUP.out)) HI.out.2), HC2, HF2.out⟩
        case measure => simp [intOf] <;> omega
    · obtain rfl : i = j := by omega
      go_wp2_with fail
      exact ⟨rfl, hexit i wr _ _ _ _ _ _ _ _ _ _ _ _ _ _ _ _ _ _ _ _ _ _ _ _ _ _ hli hjh HI HCj (Lib.hid hfr)⟩

set_option maxRecDepth 1000000 in
noncomputable def bs3Body : Code := ((Tryz.f111.body.bind (loopAt 33)).getD .skip)
set_option maxRecDepth 1000000 in
set_option maxHeartbeats 3200000 in
theorem bs3_loop (Q0 : Exit → Act → World → Prop) (s1 s2 s3 s5 s6 s7 s8 s9 s10 s11 s12 s13 s14 s15 s16 s17 s18 s19 s23 s24 s25 s26 s27 s28 s29 s30 s31 s32 s33 s34 s35 s36 s37 s38 s39 s40 s41 s42 s43 s44 s45 s46 s47 s48 s49 s50 s51 s52 s53 s54 s55 s56 s57 s58 s59 s60 s61 s62 s63 s64 s65 s66 s67 s68 s69 s70 s71 s72 s73 s74 s75 s76 s77 s78 s79 s80 s81 s82 s83 s84 s85 s86 s87 s88 s89 s90 s91 s92 s93 s94 s95 s96 s97 s98 s99 s100 s101 s102 s103 s104 s105 s106 s107 s108 s109 s110 s111 s112 s113 s114 s115 s116 s117 s118 s119 s120 s121 s122 s123 s124 s125 s126 s127 s128 s129 s130 s131 s132 s133 s134 s135 s136 s137 s138 s139 s140 s141 s142 s143 s144 s145 s146 s147 s148 s149 s150 s151 s152 s153 s154 s155 s156 s157 s158 s159 s160 s161 s162 s163 s164 s165 s166 s167 s168 s169 s170 s171 s172 s173 s174 s175 s176 s177 s178 s179 s180 s181 s182 s183 s184 s185 s186 s187 s188 s189 s190 s191 s192 s193 s194 s195 s196 s197 s198 s199 s200 s201 s202 s203 s204 s205 s206 s207 s208 s209 s210 s211 s212 s213 s214 s215 s216 s217 s218 s219 : Value) (g n c bx N lo hi p : Nat) (key : Nat → Nat) (d : List Nat) (w0 : World) (HC : Hid (Col w0 g d)) (HK : Hid (CmpK g bx key N w0)) (HN : Hid (d.length = n)) (hn : n ≤ 1000) (hlow : ∀ x ∈ d, x < N) (hlohi : lo ≤ hi) (hpn : p - lo < n) (hp2 : p ≤ 2000) (hhi : hi ≤ p + 1) (hhn : hi ≤ n)
    (hexit : ∀ (I : Nat) (w'' : World) (r21 r23 r149 r150 r151 r152 r153 r154 r155 r156 r157 r158 r159 r160 r161 r162 r163 r164 r165 r166 r167 r168 r169 r170 r171 r172 r173 r174 : Value), lo ≤ I → I ≤ hi → Hid ((I = lo ∨ ¬ kd key d (p - (I - 1)) < kd key d (I - 1)) ∧ (I = hi ∨ ¬ (¬ kd key d (p - I) < kd key d I))) → Hid (Col w'' g d) → Hid (Fr (fun b => b = g) w0 w'') → Q0 (.exit 8) ⟨List.toArray (.slice (some ⟨g, 0, none⟩) n c :: s1 :: s2 :: s3 :: .func (.func 85) #[] #[.pointer (some ⟨bx, 0, none⟩)] :: s5 :: s6 :: s7 :: s8 :: s9 :: s10 :: s11 :: s12 :: s13 :: s14 :: s15 :: s16 :: s17 :: s18 :: s19 :: .int .i64 (I : Int) :: r21 :: .int .i64 (p : Int) :: r23 :: s24 :: s25 :: s26 :: s27 :: s28 :: s29 :: s30 :: s31 :: s32 :: s33 :: s34 :: s35 :: s36 :: s37 :: s38 :: s39 :: s40 :: s41 :: s42 :: s43 :: s44 :: s45 :: s46 :: s47 :: s48 :: s49 :: s50 :: s51 :: s52 :: s53 :: s54 :: s55 :: s56 :: s57 :: s58 :: s59 :: s60 :: s61 :: s62 :: s63 :: s64 :: s65 :: s66 :: s67 :: s68 :: s69 :: s70 :: s71 :: s72 :: s73 :: s74 :: s75 :: s76 :: s77 :: s78 :: s79 :: s80 :: s81 :: s82 :: s83 :: s84 :: s85 :: s86 :: s87 :: s88 :: s89 :: s90 :: s91 :: s92 :: s93 :: s94 :: s95 :: s96 :: s97 :: s98 :: s99 :: s100 :: s101 :: s102 :: s103 :: s104 :: s105 :: s106 :: s107 :: s108 :: s109 :: s110 :: s111 :: s112 :: s113 :: s114 :: s115 :: s116 :: s117 :: s118 :: s119 :: s120 :: s121 :: s122 :: s123 :: s124 :: s125 :: s126 :: s127 :: s128 :: s129 :: s130 :: s131 :: s132 :: s133 :: s134 :: s135 :: s136 :: s137 :: s138 :: s139 :: s140 :: s141 :: s142 :: s143 :: s144 :: s145 :: s146 :: s147 :: s148 :: r149 :: r150 :: r151 :: r152 :: r153 :: r154 :: r155 :: r156 :: r157 :: r158 :: r159 :: r160 :: r161 :: r162 :: r163 :: r164 :: r165 :: r166 :: r167 :: r168 :: r169 :: r170 :: r171 :: r172 :: r173 :: r174 :: s175 :: s176 :: s177 :: s178 :: s179 :: s180 :: s181 :: s182 :: s183 :: s184 :: s185 :: s186 :: s187 :: s188 :: s189 :: s190 :: s191 :: s192 :: s193 :: s194 :: s195 :: s196 :: s197 :: s198 :: s199 :: s200 :: s201 :: s202 :: s203 :: s204 :: s205 :: s206 :: s207 :: s208 :: s209 :: s210 :: s211 :: s212 :: s213 :: s214 :: s215 :: s216 :: s217 :: s218 :: s219 :: []), []⟩ w'') :
    Code.wp Tryz.prog (Code.loop bs3Body) Q0 ⟨List.toArray (.slice (some ⟨g, 0, none⟩) n c :: s1 :: s2 :: s3 :: .func (.func 85) #[] #[.pointer (some ⟨bx, 0, none⟩)] :: s5 :: s6 :: s7 :: s8 :: s9 :: s10 :: s11 :: s12 :: s13 :: s14 :: s15 :: s16 :: s17 :: s18 :: s19 :: .int .i64 (lo : Int) :: .int .i64 (hi : Int) :: .int .i64 (p : Int) :: s23 :: s24 :: s25 :: s26 :: s27 :: s28 :: s29 :: s30 :: s31 :: s32 :: s33 :: s34 :: s35 :: s36 :: s37 :: s38 :: s39 :: s40 :: s41 :: s42 :: s43 :: s44 :: s45 :: s46 :: s47 :: s48 :: s49 :: s50 :: s51 :: s52 :: s53 :: s54 :: s55 :: s56 :: s57 :: s58 :: s59 :: s60 :: s61 :: s62 :: s63 :: s64 :: s65 :: s66 :: s67 :: s68 :: s69 :: s70 :: s71 :: s72 :: s73 :: s74 :: s75 :: s76 :: s77 :: s78 :: s79 :: s80 :: s81 :: s82 :: s83 :: s84 :: s85 :: s86 :: s87 :: s88 :: s89 :: s90 :: s91 :: s92 :: s93 :: s94 :: s95 :: s96 :: s97 :: s98 :: s99 :: s100 :: s101 :: s102 :: s103 :: s104 :: s105 :: s106 :: s107 :: s108 :: s109 :: s110 :: s111 :: s112 :: s113 :: s114 :: s115 :: s116 :: s117 :: s118 :: s119 :: s120 :: s121 :: s122 :: s123 :: s124 :: s125 :: s126 :: s127 :: s128 :: s129 :: s130 :: s131 :: s132 :: s133 :: s134 :: s135 :: s136 :: s137 :: s138 :: s139 :: s140 :: s141 :: s142 :: s143 :: s144 :: s145 :: s146 :: s147 :: s148 :: s149 :: s150 :: s151 :: s152 :: s153 :: s154 :: s155 :: s156 :: s157 :: s158 :: s159 :: s160 :: s161 :: s162 :: s163 :: s164 :: s165 :: s166 :: s167 :: s168 :: s169 :: s170 :: s171 :: s172 :: s173 :: s174 :: s175 :: s176 :: s177 :: s178 :: s179 :: s180 :: s181 :: s182 :: s183 :: s184 :: s185 :: s186 :: s187 :: s188 :: s189 :: s190 :: s191 :: s192 :: s193 :: s194 :: s195 :: s196 :: s197 :: s198 :: s199 :: s200 :: s201 :: s202 :: s203 :: s204 :: s205 :: s206 :: s207 :: s208 :: s209 :: s210 :: s211 :: s212 :: s213 :: s214 :: s215 :: s216 :: s217 :: s218 :: s219 :: []), []⟩ w0 := by
  refine Code.wp_mono (onExit_imp (n := 8)) ?_
  conv => arg 2; arg 1; whnf
  have HNx := Lib.hid hlow
  clear hlow
  go_loopw [20, 21] (fun vi vj wr => ∃ i j : Nat, vi = .int .i64 (i : Int) ∧ vj = .int .i64 (j : Int) ∧ lo ≤ i ∧ i ≤ j ∧ j ≤ hi ∧ Hid ((i = lo ∨ ¬ kd key d (p - (i - 1)) < kd key d (i - 1)) ∧ (j = hi ∨ ¬ (¬ kd key d (p - j) < kd key d j))) ∧ Hid (Col wr g d) ∧ Fr (fun b => b = g) w0 wr)
    (fun vi vj _ => (intOf vj).toNat - (intOf vi).toNat)
  case atStart => exact ⟨lo, hi, rfl, rfl, by omega, hlohi, by omega, ⟨.inl rfl, .inl rfl⟩, HC, Fr.refl _ _⟩
  case round =>
    clear HC
    obtain ⟨i, j, rfl, rfl, hli, hij, hjh, HI, HCj, hfr⟩ := hrel
    by_cases hlt : i < j
    · obtain ⟨h, hh⟩ : ∃ h, h = (i + j) / 2 := ⟨_, rfl⟩
      obtain ⟨hm1, hm2⟩ := half_mid hlt hh
      have hd : ((i : Int) + (j : Int)) / 2 = (h : Int) := by omega
      have HD := Lib.hid hd
      clear hh
      obtain ⟨u, hu⟩ : ∃ u, u = p - h := ⟨_, rfl⟩
      have ru : IntKind.i64.wrap ((p : Int) - (h : Int)) = (u : Int) := by rw [IntKind.wrap_i64]; omega
      have hun : u < n := by omega
      have HU := Lib.hid hu
      clear hu

      obtain ⟨x, hx⟩ : ∃ x, x = d.getD u 0 := ⟨_, rfl⟩
      obtain ⟨y, hy⟩ : ∃ y, y = d.getD h 0 := ⟨_, rfl⟩
      have gx := getE_D (d := d) (i := u) (by rw [HN.out]; omega)
      have gy := getE_D (d := d) (i := h) (by rw [HN.out]; omega)
      rw [← hx] at gx
      rw [← hy] at gy
      have cx := HCj.out.cell gx
      have cy := HCj.out.cell gy
      have hcmp := fun q => HK.out.call (wr.drewN q) x y (hfr.drewN q) (HNx.out x (List.mem_of_getElem? gx)) (HNx.out y (List.mem_of_getElem? gy))
      obtain ⟨kx, hkx⟩ : ∃ kx, kx = key x := ⟨_, rfl⟩
      obtain ⟨ky, hky⟩ : ∃ ky, ky = key y := ⟨_, rfl⟩
      rw [← hkx, ← hky] at hcmp
      have bkx := HK.out.few x
      have bky := HK.out.few y
      rw [← hkx] at bkx
      rw [← hky] at bky
      rw [hx] at hkx
      rw [hy] at hky
      clear hx hy
      replace hkx : kx = kd key d u := hkx
      replace hky : ky = kd key d h := hky
      by_cases hless : kx < ky
      · skip
        have tl : decide ((kx : Int) - (ky : Int) < 0) = true := by simp; omega
        have tl' : (kx : Int) - (ky : Int) < 0 := by omega
        have HUP := Lib.hid (show ¬ (¬ kd key d (p - h) < kd key d h) from by rw [← HU.out, ← hkx, ← hky]; omega)
        clear hless hkx hky gx gy
        go_wp2_with fail
        go_quiet ((go_at_call 85; refine Calls.quiet_of (hcmp _)))
        have HF2 := Lib.hid (hfr.drewN nq)
        have HC2 : Hid (Col (wr.drewN nq) g d) := HCj
        generalize wr.drewN nq = w3 at HF2 HC2 ⊢
        clear hcmp hfr cx cy HCj tl tl' 
        go_wp2
        go_roundw
        case rel => exact ⟨i, h, rfl, rfl, by omega, by omega, by omega, Lib.hid (And.intro HI.out.1 (Or.inr HUP.out)), HC2, HF2.out⟩
        case measure => simp [intOf] <;> omega
      · skip
        have tl : decide ((kx : Int) - (ky : Int) < 0) = false := by simp; omega
        have tl' : ¬ (kx : Int) - (ky : Int) < 0 := by omega
        have HUP := Lib.hid (show ¬ kd key d (p - h) < kd key d h from by rw [← HU.out, ← hkx, ← hky]; omega)
        clear hless hkx hky gx gy
        go_wp2_with fail
        go_quiet ((go_at_call 85; refine Calls.quiet_of (hcmp _)))
        have HF2 := Lib.hid (hfr.drewN nq)
        have HC2 : Hid (Col (wr.drewN nq) g d) := HCj
        generalize wr.drewN nq = w3 at HF2 HC2 ⊢
        clear hcmp hfr cx cy HCj tl tl' 
        go_wp2
        go_roundw
        case rel => exact ⟨h + 1, j, by go_num, rfl, by omega, by omega, by omega, Lib.hid (And.intro (Or.inr (by rw [Nat.add_sub_cancel]; exact HUP.out)) HI.out.2), HC2, HF2.out⟩
        case measure => simp [intOf] <;> omega
    · obtain rfl : i = j := by omega
      go_wp2_with fail
      exact ⟨rfl, hexit i wr _ _ _ _ _ _ _ _ _ _ _ _ _ _ _ _ _ _ _ _ _ _ _ _ _ _ _ _ hli hjh HI HCj (Lib.hid hfr)⟩
end Go.Proofs.YtgpkiijmembggaaGreatDoor
namespace Go.Proofs.YtgpkiijmembggaaGreatDoor
open Go.RowKit HuffM Mem Go.Lib
attribute [local go_sem ↓] Go.wp_at_zero Go.wp_at_succ
set_option linter.unusedVariables false


set_option maxRecDepth 1000000 in
noncomputable def sw1Body : Code := ((Tryz.f111.body.bind (loopAt 11)).getD .skip)
set_option maxRecDepth 1000000 in
set_option maxHeartbeats 3200000 in
theorem sw1_loop (Q0 : Exit → Act → World → Prop) (s1 s2 s3 s4 s5 s6 s7 s8 s9 s11 s12 s14 s15 s16 s17 s18 s19 s20 s21 s22 s23 s24 s25 s26 s27 s28 s29 s30 s31 s32 s33 s34 s35 s36 s37 s38 s39 s40 s41 s42 s43 s44 s45 s46 s47 s48 s49 s50 s51 s52 s53 s54 s55 s56 s57 s58 s59 s60 s61 s62 s63 s64 s65 s66 s67 s68 s69 s70 s71 s72 s73 s74 s75 s76 s77 s78 s79 s80 s81 s82 s83 s84 s85 s86 s87 s88 s89 s90 s91 s92 s93 s94 s95 s96 s97 s98 s99 s100 s101 s102 s103 s104 s105 s106 s107 s108 s109 s110 s111 s112 s113 s114 s115 s116 s117 s118 s119 s120 s121 s122 s123 s124 s125 s126 s127 s128 s129 s130 s131 s132 s133 s134 s135 s136 s137 s138 s139 s140 s141 s142 s143 s144 s145 s146 s147 s148 s149 s150 s151 s152 s153 s154 s155 s156 s157 s158 s159 s160 s161 s162 s163 s164 s165 s166 s167 s168 s169 s170 s171 s172 s173 s174 s175 s176 s177 s178 s179 s180 s181 s182 s183 s184 s185 s186 s187 s188 s189 s190 s191 s192 s193 s194 s195 s196 s197 s198 s199 s200 s201 s202 s203 s204 s205 s206 s207 s208 s209 s210 s211 s212 s213 s214 s215 s216 s217 s218 s219 : Value) (g n c i k0 x : Nat) (P B S : List Nat) (w0 : World) (HC : Hid (Col w0 g (P ++ (x :: (B ++ S))))) (HL0 : Hid (n = P.length + 1 + B.length + S.length ∧ k0 = P.length ∧ i = P.length + 1 + B.length)) (hn : n ≤ 1000) (hki : k0 < i) (hin : i ≤ n)
    (hexit : ∀  (w'' : World) (r13 r55 r56 r57 r58 r59 r60 r61 r62 r63 r64 r65 r66 r67 r68 r69 r70 r71 r72 r73 r74 r75 r76 : Value), Hid (Col w'' g (P ++ (B ++ (x :: S)))) → Hid (Fr (fun b => b = g) w0 w'') → Q0 (.exit 2) ⟨List.toArray (.slice (some ⟨g, 0, none⟩) n c :: s1 :: s2 :: s3 :: s4 :: s5 :: s6 :: s7 :: s8 :: s9 :: .int .i64 (i : Int) :: s11 :: s12 :: r13 :: s14 :: s15 :: s16 :: s17 :: s18 :: s19 :: s20 :: s21 :: s22 :: s23 :: s24 :: s25 :: s26 :: s27 :: s28 :: s29 :: s30 :: s31 :: s32 :: s33 :: s34 :: s35 :: s36 :: s37 :: s38 :: s39 :: s40 :: s41 :: s42 :: s43 :: s44 :: s45 :: s46 :: s47 :: s48 :: s49 :: s50 :: s51 :: s52 :: s53 :: s54 :: r55 :: r56 :: r57 :: r58 :: r59 :: r60 :: r61 :: r62 :: r63 :: r64 :: r65 :: r66 :: r67 :: r68 :: r69 :: r70 :: r71 :: r72 :: r73 :: r74 :: r75 :: r76 :: s77 :: s78 :: s79 :: s80 :: s81 :: s82 :: s83 :: s84 :: s85 :: s86 :: s87 :: s88 :: s89 :: s90 :: s91 :: s92 :: s93 :: s94 :: s95 :: s96 :: s97 :: s98 :: s99 :: s100 :: s101 :: s102 :: s103 :: s104 :: s105 :: s106 :: s107 :: s108 :: s109 :: s110 :: s111 :: s112 :: s113 :: s114 :: s115 :: s116 :: s117 :: s118 :: s119 :: s120 :: s121 :: s122 :: s123 :: s124 :: s125 :: s126 :: s127 :: s128 :: s129 :: s130 :: s131 :: s132 :: s133 :: s134 :: s135 :: s136 :: s137 :: s138 :: s139 :: s140 :: s141 :: s142 :: s143 :: s144 :: s145 :: s146 :: s147 :: s148 :: s149 :: s150 :: s151 :: s152 :: s153 :: s154 :: s155 :: s156 :: s157 :: s158 :: s159 :: s160 :: s161 :: s162 :: s163 :: s164 :: s165 :: s166 :: s167 :: s168 :: s169 :: s170 :: s171 :: s172 :: s173 :: s174 :: s175 :: s176 :: s177 :: s178 :: s179 :: s180 :: s181 :: s182 :: s183 :: s184 :: s185 :: s186 :: s187 :: s188 :: s189 :: s190 :: s191 :: s192 :: s193 :: s194 :: s195 :: s196 :: s197 :: s198 :: s199 :: s200 :: s201 :: s202 :: s203 :: s204 :: s205 :: s206 :: s207 :: s208 :: s209 :: s210 :: s211 :: s212 :: s213 :: s214 :: s215 :: s216 :: s217 :: s218 :: s219 :: []), []⟩ w'') :
    Code.wp Tryz.prog (Code.loop sw1Body) Q0 ⟨List.toArray (.slice (some ⟨g, 0, none⟩) n c :: s1 :: s2 :: s3 :: s4 :: s5 :: s6 :: s7 :: s8 :: s9 :: .int .i64 (i : Int) :: s11 :: s12 :: .int .i64 (k0 : Int) :: s14 :: s15 :: s16 :: s17 :: s18 :: s19 :: s20 :: s21 :: s22 :: s23 :: s24 :: s25 :: s26 :: s27 :: s28 :: s29 :: s30 :: s31 :: s32 :: s33 :: s34 :: s35 :: s36 :: s37 :: s38 :: s39 :: s40 :: s41 :: s42 :: s43 :: s44 :: s45 :: s46 :: s47 :: s48 :: s49 :: s50 :: s51 :: s52 :: s53 :: s54 :: s55 :: s56 :: s57 :: s58 :: s59 :: s60 :: s61 :: s62 :: s63 :: s64 :: s65 :: s66 :: s67 :: s68 :: s69 :: s70 :: s71 :: s72 :: s73 :: s74 :: s75 :: s76 :: s77 :: s78 :: s79 :: s80 :: s81 :: s82 :: s83 :: s84 :: s85 :: s86 :: s87 :: s88 :: s89 :: s90 :: s91 :: s92 :: s93 :: s94 :: s95 :: s96 :: s97 :: s98 :: s99 :: s100 :: s101 :: s102 :: s103 :: s104 :: s105 :: s106 :: s107 :: s108 :: s109 :: s110 :: s111 :: s112 :: s113 :: s114 :: s115 :: s116 :: s117 :: s118 :: s119 :: s120 :: s121 :: s122 :: s123 :: s124 :: s125 :: s126 :: s127 :: s128 :: s129 :: s130 :: s131 :: s132 :: s133 :: s134 :: s135 :: s136 :: s137 :: s138 :: s139 :: s140 :: s141 :: s142 :: s143 :: s144 :: s145 :: s146 :: s147 :: s148 :: s149 :: s150 :: s151 :: s152 :: s153 :: s154 :: s155 :: s156 :: s157 :: s158 :: s159 :: s160 :: s161 :: s162 :: s163 :: s164 :: s165 :: s166 :: s167 :: s168 :: s169 :: s170 :: s171 :: s172 :: s173 :: s174 :: s175 :: s176 :: s177 :: s178 :: s179 :: s180 :: s181 :: s182 :: s183 :: s184 :: s185 :: s186 :: s187 :: s188 :: s189 :: s190 :: s191 :: s192 :: s193 :: s194 :: s195 :: s196 :: s197 :: s198 :: s199 :: s200 :: s201 :: s202 :: s203 :: s204 :: s205 :: s206 :: s207 :: s208 :: s209 :: s210 :: s211 :: s212 :: s213 :: s214 :: s215 :: s216 :: s217 :: s218 :: s219 :: []), []⟩ w0 := by
  refine Code.wp_mono (onExit_imp (n := 2)) ?_
  conv => arg 2; arg 1; whnf
  obtain ⟨i1, hi1⟩ : ∃ i1, i1 = i - 1 := ⟨_, rfl⟩
  have ei : (i : Int) - 1 = (i1 : Int) := by omega
  go_loopw [13] (fun vk wr => ∃ (k : Nat) (B1 B2 : List Nat), vk = .int .i64 (k : Int) ∧ k0 ≤ k ∧ k ≤ i1 ∧ Hid (B = B1 ++ B2 ∧ k = P.length + B1.length) ∧ Hid (Col wr g (P ++ (B1 ++ (x :: (B2 ++ S))))) ∧ Fr (fun b => b = g) w0 wr)
    (fun vk _ => i1 - (intOf vk).toNat)
  case atStart => exact ⟨k0, [], B, rfl, by omega, by omega, ⟨rfl, HL0.out.2.1⟩, HC, Fr.refl _ _⟩
  case round =>
    clear HC
    obtain ⟨k, B1, B2, rfl, hk0, hki1, HB, HCj, hfr⟩ := hrel
    by_cases hlt : k < i1
    · obtain ⟨y, B3, hB2⟩ : ∃ y B3, B2 = y :: B3 := by
        cases B2 with
        | nil => have h := HB.out; have h2 := HL0.out; rw [List.append_nil] at h; rw [h.1] at h2; omega
        | cons y B3 => exact ⟨y, B3, rfl⟩
      subst hB2
      obtain ⟨kN, hkN⟩ : ∃ kN, kN = k + 1 := ⟨_, rfl⟩
      have hcol := HCj.out
      have e0 : P ++ (B1 ++ (x :: (y :: B3 ++ S))) = (P ++ B1) ++ x :: ([] ++ y :: (B3 ++ S)) := by simp
      rw [e0] at hcol
      have l1 : k = (P ++ B1).length := by have := HB.out.2; simp; omega
      have l2 : kN = (P ++ B1).length + 1 + ([] : List Nat).length := by simp at l1 ⊢; omega
      have g1 : ((P ++ B1) ++ x :: ([] ++ y :: (B3 ++ S)))[k]? = some x := getE_at _ _ _ _ l1
      have g2 : ((P ++ B1) ++ x :: ([] ++ y :: (B3 ++ S)))[kN]? = some y := by
        have := getE_at ((P ++ B1) ++ [x]) y (B3 ++ S) kN (by simp; simp at l2; omega)
        simpa using this
      have c1 := hcol.cell g1
      have c2 := hcol.cell g2
      have f1 := hcol.free k
      have f2 := hcol.free kN
      obtain ⟨u, c3⟩ := hcol.second g1 g2
      have hsw := hcol.swap g1 g2
      rw [swp_at _ _ _ _ _ _ _ l1 l2] at hsw
      have HSW := Lib.hid hsw
      have HFR := Lib.hid (hfr.trans (fr_swap wr g k kN (.int .i64 (y : Int)) (.int .i64 (x : Int))) (fun _ _ h => h))
      have ra : IntKind.i64.wrap ((k : Int) + 1) = (kN : Int) := by rw [IntKind.wrap_i64]; omega
      have p1 : kN < n := by omega
      have p3 : k < n := by omega
      have HI1 := Lib.hid hi1
      clear hcol e0 l1 l2 g1 g2 hsw hfr HCj hkN hi1
      go_wp2_with fail
      go_big_region
      generalize ((wr.setCell ⟨g, k, none⟩ (Value.int IntKind.i64 (y : Int))).setCell ⟨g, kN, none⟩ (Value.int IntKind.i64 (x : Int))).drew = w3 at HSW HFR ⊢
      clear c1 c2 c3 f1 f2 ra p1
      go_wp2
      go_roundw
      case rel =>
        refine ⟨k + 1, B1 ++ [y], B3, by go_num, by omega, by omega, ⟨by rw [HB.out.1]; simp, ?_⟩, ?_, HFR.out⟩
        · have := HB.out.2
          rw [List.length_append]
          simp
          omega
        · have h := HSW.out
          show Col _ _ _
          simpa using h
      case measure => simp [intOf] <;> omega
    · obtain rfl : k = i1 := by omega
      have hB2 : B2 = [] := by
        have h := HB.out
        have h2 := HL0.out
        rw [h.1, List.length_append] at h2
        exact List.eq_nil_of_length_eq_zero (by omega)
      subst hB2
      have hB : B = B1 := by have := HB.out.1; rwa [List.append_nil] at this
      have hcol : Col wr g (P ++ (B ++ (x :: S))) := by rw [hB]; exact HCj.out
      have HCC := Lib.hid hcol
      have HF := Lib.hid hfr
      clear hB hcol hfr HCj
      go_wp2_with fail
      exact ⟨rfl, hexit wr _ _ _ _ _ _ _ _ _ _ _ _ _ _ _ _ _ _ _ _ _ _ _ HCC HF⟩

set_option maxRecDepth 1000000 in
noncomputable def sw2Body : Code := ((Tryz.f111.body.bind (loopAt 23)).getD .skip)
set_option maxRecDepth 1000000 in
set_option maxHeartbeats 3200000 in
theorem sw2_loop (Q0 : Exit → Act → World → Prop) (s1 s2 s3 s4 s5 s6 s7 s8 s9 s10 s11 s12 s13 s15 s16 s18 s19 s20 s21 s22 s23 s24 s25 s26 s27 s28 s29 s30 s31 s32 s33 s34 s35 s36 s37 s38 s39 s40 s41 s42 s43 s44 s45 s46 s47 s48 s49 s50 s51 s52 s53 s54 s55 s56 s57 s58 s59 s60 s61 s62 s63 s64 s65 s66 s67 s68 s69 s70 s71 s72 s73 s74 s75 s76 s77 s78 s79 s80 s81 s82 s83 s84 s85 s86 s87 s88 s89 s90 s91 s92 s93 s94 s95 s96 s97 s98 s99 s100 s101 s102 s103 s104 s105 s106 s107 s108 s109 s110 s111 s112 s113 s114 s115 s116 s117 s118 s119 s120 s121 s122 s123 s124 s125 s126 s127 s128 s129 s130 s131 s132 s133 s134 s135 s136 s137 s138 s139 s140 s141 s142 s143 s144 s145 s146 s147 s148 s149 s150 s151 s152 s153 s154 s155 s156 s157 s158 s159 s160 s161 s162 s163 s164 s165 s166 s167 s168 s169 s170 s171 s172 s173 s174 s175 s176 s177 s178 s179 s180 s181 s182 s183 s184 s185 s186 s187 s188 s189 s190 s191 s192 s193 s194 s195 s196 s197 s198 s199 s200 s201 s202 s203 s204 s205 s206 s207 s208 s209 s210 s211 s212 s213 s214 s215 s216 s217 s218 s219 : Value) (g n c i k0 y : Nat) (P A S : List Nat) (w0 : World) (HC : Hid (Col w0 g (P ++ (A ++ (y :: S))))) (HL0 : Hid (n = P.length + 1 + A.length + S.length ∧ k0 = P.length + A.length ∧ i = P.length)) (hn : n ≤ 1000) (hki : i ≤ k0) (hin : k0 < n)
    (hexit : ∀  (w'' : World) (r17 r108 r109 r110 r111 r112 r113 r114 r115 r116 r117 r118 r119 r120 r121 r122 r123 r124 r125 r126 r127 r128 : Value), Hid (Col w'' g (P ++ (y :: (A ++ S)))) → Hid (Fr (fun b => b = g) w0 w'') → Q0 (.exit 6) ⟨List.toArray (.slice (some ⟨g, 0, none⟩) n c :: s1 :: s2 :: s3 :: s4 :: s5 :: s6 :: s7 :: s8 :: s9 :: s10 :: s11 :: s12 :: s13 :: .int .i64 (i : Int) :: s15 :: s16 :: r17 :: s18 :: s19 :: s20 :: s21 :: s22 :: s23 :: s24 :: s25 :: s26 :: s27 :: s28 :: s29 :: s30 :: s31 :: s32 :: s33 :: s34 :: s35 :: s36 :: s37 :: s38 :: s39 :: s40 :: s41 :: s42 :: s43 :: s44 :: s45 :: s46 :: s47 :: s48 :: s49 :: s50 :: s51 :: s52 :: s53 :: s54 :: s55 :: s56 :: s57 :: s58 :: s59 :: s60 :: s61 :: s62 :: s63 :: s64 :: s65 :: s66 :: s67 :: s68 :: s69 :: s70 :: s71 :: s72 :: s73 :: s74 :: s75 :: s76 :: s77 :: s78 :: s79 :: s80 :: s81 :: s82 :: s83 :: s84 :: s85 :: s86 :: s87 :: s88 :: s89 :: s90 :: s91 :: s92 :: s93 :: s94 :: s95 :: s96 :: s97 :: s98 :: s99 :: s100 :: s101 :: s102 :: s103 :: s104 :: s105 :: s106 :: s107 :: r108 :: r109 :: r110 :: r111 :: r112 :: r113 :: r114 :: r115 :: r116 :: r117 :: r118 :: r119 :: r120 :: r121 :: r122 :: r123 :: r124 :: r125 :: r126 :: r127 :: r128 :: s129 :: s130 :: s131 :: s132 :: s133 :: s134 :: s135 :: s136 :: s137 :: s138 :: s139 :: s140 :: s141 :: s142 :: s143 :: s144 :: s145 :: s146 :: s147 :: s148 :: s149 :: s150 :: s151 :: s152 :: s153 :: s154 :: s155 :: s156 :: s157 :: s158 :: s159 :: s160 :: s161 :: s162 :: s163 :: s164 :: s165 :: s166 :: s167 :: s168 :: s169 :: s170 :: s171 :: s172 :: s173 :: s174 :: s175 :: s176 :: s177 :: s178 :: s179 :: s180 :: s181 :: s182 :: s183 :: s184 :: s185 :: s186 :: s187 :: s188 :: s189 :: s190 :: s191 :: s192 :: s193 :: s194 :: s195 :: s196 :: s197 :: s198 :: s199 :: s200 :: s201 :: s202 :: s203 :: s204 :: s205 :: s206 :: s207 :: s208 :: s209 :: s210 :: s211 :: s212 :: s213 :: s214 :: s215 :: s216 :: s217 :: s218 :: s219 :: []), []⟩ w'') :
    Code.wp Tryz.prog (Code.loop sw2Body) Q0 ⟨List.toArray (.slice (some ⟨g, 0, none⟩) n c :: s1 :: s2 :: s3 :: s4 :: s5 :: s6 :: s7 :: s8 :: s9 :: s10 :: s11 :: s12 :: s13 :: .int .i64 (i : Int) :: s15 :: s16 :: .int .i64 (k0 : Int) :: s18 :: s19 :: s20 :: s21 :: s22 :: s23 :: s24 :: s25 :: s26 :: s27 :: s28 :: s29 :: s30 :: s31 :: s32 :: s33 :: s34 :: s35 :: s36 :: s37 :: s38 :: s39 :: s40 :: s41 :: s42 :: s43 :: s44 :: s45 :: s46 :: s47 :: s48 :: s49 :: s50 :: s51 :: s52 :: s53 :: s54 :: s55 :: s56 :: s57 :: s58 :: s59 :: s60 :: s61 :: s62 :: s63 :: s64 :: s65 :: s66 :: s67 :: s68 :: s69 :: s70 :: s71 :: s72 :: s73 :: s74 :: s75 :: s76 :: s77 :: s78 :: s79 :: s80 :: s81 :: s82 :: s83 :: s84 :: s85 :: s86 :: s87 :: s88 :: s89 :: s90 :: s91 :: s92 :: s93 :: s94 :: s95 :: s96 :: s97 :: s98 :: s99 :: s100 :: s101 :: s102 :: s103 :: s104 :: s105 :: s106 :: s107 :: s108 :: s109 :: s110 :: s111 :: s112 :: s113 :: s114 :: s115 :: s116 :: s117 :: s118 :: s119 :: s120 :: s121 :: s122 :: s123 :: s124 :: s125 :: s126 :: s127 :: s128 :: s129 :: s130 :: s131 :: s132 :: s133 :: s134 :: s135 :: s136 :: s137 :: s138 :: s139 :: s140 :: s141 :: s142 :: s143 :: s144 :: s145 :: s146 :: s147 :: s148 :: s149 :: s150 :: s151 :: s152 :: s153 :: s154 :: s155 :: s156 :: s157 :: s158 :: s159 :: s160 :: s161 :: s162 :: s163 :: s164 :: s165 :: s166 :: s167 :: s168 :: s169 :: s170 :: s171 :: s172 :: s173 :: s174 :: s175 :: s176 :: s177 :: s178 :: s179 :: s180 :: s181 :: s182 :: s183 :: s184 :: s185 :: s186 :: s187 :: s188 :: s189 :: s190 :: s191 :: s192 :: s193 :: s194 :: s195 :: s196 :: s197 :: s198 :: s199 :: s200 :: s201 :: s202 :: s203 :: s204 :: s205 :: s206 :: s207 :: s208 :: s209 :: s210 :: s211 :: s212 :: s213 :: s214 :: s215 :: s216 :: s217 :: s218 :: s219 :: []), []⟩ w0 := by
  refine Code.wp_mono (onExit_imp (n := 6)) ?_
  conv => arg 2; arg 1; whnf
  go_loopw [17] (fun vk wr => ∃ (k : Nat) (A1 A2 : List Nat), vk = .int .i64 (k : Int) ∧ i ≤ k ∧ k ≤ k0 ∧ Hid (A = A1 ++ A2 ∧ k = P.length + A1.length) ∧ Hid (Col wr g (P ++ (A1 ++ (y :: (A2 ++ S))))) ∧ Fr (fun b => b = g) w0 wr)
    (fun vk _ => (intOf vk).toNat)
  case atStart => exact ⟨k0, A, [], rfl, by omega, by omega, ⟨by simp, HL0.out.2.1⟩, HC, Fr.refl _ _⟩
  case round =>
    clear HC
    obtain ⟨k, A1, A2, rfl, hk0, hki1, HB, HCj, hfr⟩ := hrel
    by_cases hlt : i < k
    · obtain ⟨A3, z, hA1⟩ := snoc_of (C := A1) (by
        rintro rfl
        have h := HB.out.2
        have h2 := HL0.out.2.2
        simp at h
        omega)
      subst hA1
      obtain ⟨kp, rfl⟩ : ∃ kp, k = kp + 1 := ⟨k - 1, by omega⟩
      obtain ⟨kN, hkN⟩ : ∃ kN, kN = kp + 1 := ⟨_, rfl⟩
      have hcol := HCj.out
      have e0 : P ++ (A3 ++ [z] ++ (y :: (A2 ++ S))) = (P ++ A3) ++ z :: ([] ++ y :: (A2 ++ S)) := by simp
      rw [e0] at hcol
      have l1 : kp = (P ++ A3).length := by have := HB.out.2; simp at this ⊢; omega
      have l2 : kN = (P ++ A3).length + 1 + ([] : List Nat).length := by simp at l1 ⊢; omega
      have g1 : ((P ++ A3) ++ z :: ([] ++ y :: (A2 ++ S)))[kp]? = some z := getE_at _ _ _ _ l1
      have g2 : ((P ++ A3) ++ z :: ([] ++ y :: (A2 ++ S)))[kN]? = some y := by
        have := getE_at ((P ++ A3) ++ [z]) y (A2 ++ S) kN (by simp; simp at l2; omega)
        simpa using this
      have c1 := hcol.cell g1
      have c2 := hcol.cell g2
      have f1 := hcol.free kp
      have f2 := hcol.free kN
      obtain ⟨u, c3⟩ := hcol.second g2 g1
      have hsw := hcol.swap g2 g1
      rw [swp_comm, swp_at _ _ _ _ _ _ _ l1 l2] at hsw
      have HSW := Lib.hid hsw
      have HFR := Lib.hid (hfr.trans (fr_swap wr g kN kp (.int .i64 (z : Int)) (.int .i64 (y : Int))) (fun _ _ h => h))
      have ea : ((kp : Int) + 1).toNat = kN := by omega
      have ra : IntKind.i64.wrap ((kp : Int) + 1) = (kp : Int) + 1 := by rw [IntKind.wrap_i64]; omega
      have rb : IntKind.i64.wrap (kp : Int) = (kp : Int) := by rw [IntKind.wrap_i64]; omega
      have p1 : (kp : Int) + 1 < (n : Int) := by omega
      have p2 : (0 : Int) ≤ (kp : Int) + 1 := by omega
      have p3 : kp < n := by omega
      have p4 : (i : Int) < (kp : Int) + 1 := by omega
      clear hcol e0 l1 l2 g1 g2 hsw hfr HCj hkN
      go_wp2_with fail
      go_big_region
      generalize ((wr.setCell ⟨g, kN, none⟩ (Value.int IntKind.i64 (z : Int))).setCell ⟨g, kp, none⟩ (Value.int IntKind.i64 (y : Int))).drew = w3 at HSW HFR ⊢
      clear c1 c2 c3 f1 f2 ea ra rb p1 p2
      go_wp2
      go_roundw
      case rel =>
        refine ⟨kp, A3, z :: A2, by first | rfl | go_num | (congr 1; omega), by omega, by omega, ⟨by rw [HB.out.1]; simp, ?_⟩, ?_, HFR.out⟩
        · have := HB.out.2
          rw [List.length_append] at this
          simp at this
          omega
        · have h := HSW.out
          show Col _ _ _
          simpa using h
      case measure => simp [intOf] <;> omega
    · obtain rfl : k = i := by omega
      have hA1 : A1 = [] := List.eq_nil_of_length_eq_zero (by have := HB.out.2; have := HL0.out.2.2; omega)
      subst hA1
      have hB : A = A2 := HB.out.1
      have hcol : Col wr g (P ++ (y :: (A ++ S))) := by rw [hB]; exact HCj.out
      have HCC := Lib.hid hcol
      have HF := Lib.hid hfr
      clear hB hcol hfr HCj
      go_wp2_with fail
      exact ⟨rfl, hexit wr _ _ _ _ _ _ _ _ _ _ _ _ _ _ _ _ _ _ _ _ _ _ HCC HF⟩
end Go.Proofs.YtgpkiijmembggaaGreatDoor
namespace Go.Proofs.YtgpkiijmembggaaGreatDoor
open Go.RowKit HuffM Mem Go.Lib
attribute [local go_sem ↓] Go.wp_at_zero Go.wp_at_succ
set_option linter.unusedVariables false

set_option maxRecDepth 1000000 in
set_option maxHeartbeats 6400000 in
theorem sym_any (F : Nat) : ∀ (g n c a m b bx N : Nat) (key : Nat → Nat) (P A B S : List Nat) (w : World), A.length + B.length ≤ F → Col w g (P ++ (A ++ (B ++ S))) → n = P.length + A.length + B.length + S.length → n ≤ 1000 →
    a = P.length → m = P.length + A.length → b = P.length + A.length + B.length → 1 ≤ A.length → 1 ≤ B.length → CmpK g bx key N w → (∀ x ∈ P ++ (A ++ (B ++ S)), x < N) → Srt key A → Srt key B → Stb key A B →
    Calls Tryz.prog 111 #[.slice (some ⟨g, 0, none⟩) n c, .int .i64 (a : Int), .int .i64 (m : Int), .int .i64 (b : Int), .func (.func 85) #[] #[.pointer (some ⟨bx, 0, none⟩)]] w fun e w' =>
      e = .returned (.tuple #[]) ∧ ∃ C, C.Perm (A ++ B) ∧ Srt key C ∧ Col w' g (P ++ (C ++ S)) ∧ Fr (fun b => b = g) w w' := by
  induction F with
  | zero => intro g n c a m b bx N key P A B S w hF hc hn hn1 ha hm hb h1; omega
  | succ F ih =>
  intro g n c a m b bx N key P A B S w hF hc hn hn1 ha hm hb h1 h2 K hlow hA hB hst
  obtain ⟨la, hla⟩ : ∃ la, la = A.length := ⟨_, rfl⟩
  obtain ⟨lb, hlb⟩ : ∃ lb, lb = B.length := ⟨_, rfl⟩
  obtain ⟨D, hD⟩ : ∃ D, D = P ++ (A ++ (B ++ S)) := ⟨_, rfl⟩
  have hDl : D.length = n := by rw [hD]; simp; omega
  rw [← hD] at hlow hc
  have e1 : (m : Int) - (a : Int) = (la : Int) := by omega
  have e2 : (b : Int) - (m : Int) = (lb : Int) := by omega
  have q1 : m ≤ a + la := by omega
  have q1' : a + la ≤ m := by omega
  have q2 : b ≤ m + lb := by omega
  have q2' : m + lb ≤ b := by omega
  have q3 : b ≤ n := by omega
  have q4 : 1 ≤ la := by omega
  have q5 : 1 ≤ lb := by omega
  have HC := Lib.hid hc
  have HL := Lib.hid (And.intro ha (And.intro hla (And.intro hlb (And.intro hD (And.intro hDl hn)))))
  have HK := Lib.hid K
  have HLOW := Lib.hid hlow
  have HA := Lib.hid hA
  have HB := Lib.hid hB
  have HST := Lib.hid hst
  have HF := Lib.hid hF
  have kda : ∀ i k, i = a + k → k < la → kd key D i = key (A.getD k 0) := by
    intro i k hi hk
    unfold kd
    rw [hD, getD_seg P _ i k (by omega), getD_fst _ _ _ (by omega)]
  have kdb : ∀ i k, i = m + k → k < lb → kd key D i = key (B.getD k 0) := by
    intro i k hi hk
    unfold kd
    have := getD_seg (P ++ A) (B ++ S) i k (by rw [List.length_append]; omega)
    rw [List.append_assoc, ← hD] at this
    rw [this, getD_fst _ _ _ (by omega)]
  have KDA := Lib.hid kda
  have KDB := Lib.hid kdb
  have IH := Lib.hid ih
  clear ih hc hn ha hm hb h1 h2 K hlow hA hB hst hla hlb hD hDl hF kda kdb
  by_cases c1 : la = 1
  · -- one symbol ahead
    have t1 : ((la : Int) == 1) = true := by simp; omega
    obtain ⟨x, hx⟩ : ∃ x, A = [x] := by
      match A, HL.out.2.1 with
      | [x], _ => exact ⟨x, rfl⟩
      | [], h => simp at h; omega
      | _ :: _ :: _, h => simp at h; omega
    have HX := Lib.hid hx
    clear hx
    have HEND : Hid (∀ (I : Nat) (w2 : World), m ≤ I → I ≤ b → ((I = m ∨ kd key D (I - 1) < kd key D a) ∧ (I = b ∨ ¬ kd key D I < kd key D a)) → Col w2 g (P ++ (B.take (I - m) ++ (x :: (B.drop (I - m) ++ S)))) → Fr (fun b => b = g) w w2 →
        ∃ C, C.Perm (A ++ B) ∧ Srt key C ∧ Col w2 g (P ++ (C ++ S)) ∧ Fr (fun b => b = g) w w2) := by
      intro I w2 hI1 hI2 HI hc2 hf2
      have kx : kd key D a = key x := by rw [KDA.out a 0 rfl (by omega), HX.out]; rfl
      refine ⟨B.take (I - m) ++ x :: B.drop (I - m), ?_, ?_, ?_, hf2⟩
      · rw [HX.out]
        have h1 : (B.take (I - m) ++ x :: B.drop (I - m)).Perm (x :: (B.take (I - m) ++ B.drop (I - m))) := List.perm_middle
        rw [List.take_append_drop] at h1
        exact h1
      · have hst := HST.out
        rw [HX.out] at hst
        refine merge1 HB.out hst (by have := HL.out; omega) ?_ ?_
        · by_cases h : I = m
          · left; omega
          · right
            have h1 := HI.1.resolve_left h
            rw [kx, KDB.out (I - 1) (I - m - 1) (by omega) (by omega)] at h1
            exact h1
        · by_cases h : I = b
          · left; have := HL.out; omega
          · right
            have h1 := HI.2.resolve_left h
            rw [kx, KDB.out I (I - m) (by omega) (by omega)] at h1
            exact h1
      · simpa using hc2
    go_enter Tryz.func111, Tryz.ntmps111
    go_wp2_with fail
    refine bs1_loop _ _ _ _ _ _ _ _ _ _ _ _ _ _ _ _ _ _ _ _ _ _ _ _ _ _ _ _ _ _ _ _ _ _ _ _ _ _ _ _ _ _ _ _ _ _ _ _ _ _ _ _ _ _ _ _ _ _ _ _ _ _ _ _ _ _ _ _ _ _ _ _ _ _ _ _ _ _ _ _ _ _ _ _ _ _ _ _ _ _ _ _ _ _ _ _ _ _ _ _ _ _ _ _ _ _ _ _ _ _ _ _ _ _ _ _ _ _ _ _ _ _ _ _ _ _ _ _ _ _ _ _ _ _ _ _ _ _ _ _ _ _ _ _ _ _ _ _ _ _ _ _ _ _ _ _ _ _ _ _ _ _ _ _ _ _ _ _ _ _ _ _ _ _ _ _ _ _ _ _ _ _ _ _ _ _ _ _ _ _ _ _ _ _ _ _ _ _ _ _ _ _ _ _ _ _ _ _ _ _ _ _ _ _ _ _ g n c bx N m b a key D _ HC HK (Lib.hid HL.out.2.2.2.2.1) hn1 HLOW.out (by omega) (by omega) q3 ?_
    intro I w1 r11 r12 r31 r32 r33 r34 r35 r36 r37 r38 r39 r40 r41 r42 r43 r44 r45 r46 r47 r48 r49 r50 r51 r52 r53 hI1 hI2 HI HC1 HF1
    have HC1' : Hid (Col w1 g (P ++ (x :: (B.take (I - m) ++ (B.drop (I - m) ++ S))))) := by
      have h := HC1.out
      rw [HL.out.2.2.2.1, HX.out] at h
      show Col _ _ _
      rw [← List.append_assoc (B.take _), List.take_append_drop]
      exact h
    have HLS : Hid (n = P.length + 1 + (B.take (I - m)).length + (B.drop (I - m) ++ S).length ∧ a = P.length ∧ I = P.length + 1 + (B.take (I - m)).length) := by
      have h := HL.out
      rw [HX.out] at h
      show _ ∧ _ ∧ _
      rw [List.length_append, List.length_take, List.length_drop]
      simp at h
      omega
    clear HC HC1
    go_wp2_with fail
    refine sw1_loop _ _ _ _ _ _ _ _ _ _ _ _ _ _ _ _ _ _ _ _ _ _ _ _ _ _ _ _ _ _ _ _ _ _ _ _ _ _ _ _ _ _ _ _ _ _ _ _ _ _ _ _ _ _ _ _ _ _ _ _ _ _ _ _ _ _ _ _ _ _ _ _ _ _ _ _ _ _ _ _ _ _ _ _ _ _ _ _ _ _ _ _ _ _ _ _ _ _ _ _ _ _ _ _ _ _ _ _ _ _ _ _ _ _ _ _ _ _ _ _ _ _ _ _ _ _ _ _ _ _ _ _ _ _ _ _ _ _ _ _ _ _ _ _ _ _ _ _ _ _ _ _ _ _ _ _ _ _ _ _ _ _ _ _ _ _ _ _ _ _ _ _ _ _ _ _ _ _ _ _ _ _ _ _ _ _ _ _ _ _ _ _ _ _ _ _ _ _ _ _ _ _ _ _ _ _ _ _ _ _ _ _ _ _ _ _ _ _ g n c I a x P (B.take (I - m)) (B.drop (I - m) ++ S) _ HC1' HLS hn1 (by omega) (by omega) ?_
    intro w2 q13 q55 q56 q57 q58 q59 q60 q61 q62 q63 q64 q65 q66 q67 q68 q69 q70 q71 q72 q73 q74 q75 q76 HC2 HF2
    have HF3 := Lib.hid (HF1.out.trans HF2.out (fun _ _ h => h))
    clear HC1' HF1 HF2
    go_wp2
    exact bodyPost_ret (results_none rfl _ _ _) rfl ⟨rfl, HEND.out I w2 hI1 hI2 HI.out HC2.out HF3.out⟩
  have t1 : ((la : Int) == 1) = false := by simp; omega
  by_cases c2 : lb = 1
  · -- one symbol behind
    have t2 : ((lb : Int) == 1) = true := by simp; omega
    obtain ⟨y, hy⟩ : ∃ y, B = [y] := by
      match B, HL.out.2.2.1 with
      | [y], _ => exact ⟨y, rfl⟩
      | [], h => simp at h; omega
      | _ :: _ :: _, h => simp at h; omega
    have HY := Lib.hid hy
    clear hy
    have HEND : Hid (∀ (I : Nat) (w2 : World), a ≤ I → I ≤ m → ((I = a ∨ ¬ kd key D m < kd key D (I - 1)) ∧ (I = m ∨ ¬ ¬ kd key D m < kd key D I)) → Col w2 g ((P ++ A.take (I - a)) ++ (y :: (A.drop (I - a) ++ S))) → Fr (fun b => b = g) w w2 →
        ∃ C, C.Perm (A ++ B) ∧ Srt key C ∧ Col w2 g (P ++ (C ++ S)) ∧ Fr (fun b => b = g) w w2) := by
      intro I w2 hI1 hI2 HI hc2 hf2
      have ky : kd key D m = key y := by rw [KDB.out m 0 rfl (by omega), HY.out]; rfl
      refine ⟨A.take (I - a) ++ y :: A.drop (I - a), ?_, ?_, ?_, hf2⟩
      · rw [HY.out]
        have h1 : (A.take (I - a) ++ y :: A.drop (I - a)).Perm (y :: (A.take (I - a) ++ A.drop (I - a))) := List.perm_middle
        rw [List.take_append_drop] at h1
        exact h1.trans (List.perm_append_comm (l₁ := [y]))
      · have hst := HST.out
        rw [HY.out] at hst
        refine merge2 HA.out hst (by have := HL.out; omega) ?_ ?_
        · by_cases h : I = a
          · left; omega
          · right
            have h1 := HI.1.resolve_left h
            rw [ky, KDA.out (I - 1) (I - a - 1) (by omega) (by omega)] at h1
            exact h1
        · by_cases h : I = m
          · left; have := HL.out; omega
          · right
            have h1 := HI.2.resolve_left h
            rw [ky, KDA.out I (I - a) (by omega) (by omega)] at h1
            exact Classical.not_not.1 h1
      · simpa using hc2
    go_enter Tryz.func111, Tryz.ntmps111
    go_wp2_with fail
    refine bs2_loop _ _ _ _ _ _ _ _ _ _ _ _ _ _ _ _ _ _ _ _ _ _ _ _ _ _ _ _ _ _ _ _ _ _ _ _ _ _ _ _ _ _ _ _ _ _ _ _ _ _ _ _ _ _ _ _ _ _ _ _ _ _ _ _ _ _ _ _ _ _ _ _ _ _ _ _ _ _ _ _ _ _ _ _ _ _ _ _ _ _ _ _ _ _ _ _ _ _ _ _ _ _ _ _ _ _ _ _ _ _ _ _ _ _ _ _ _ _ _ _ _ _ _ _ _ _ _ _ _ _ _ _ _ _ _ _ _ _ _ _ _ _ _ _ _ _ _ _ _ _ _ _ _ _ _ _ _ _ _ _ _ _ _ _ _ _ _ _ _ _ _ _ _ _ _ _ _ _ _ _ _ _ _ _ _ _ _ _ _ _ _ _ _ _ _ _ _ _ _ _ _ _ _ _ _ _ _ _ _ _ _ _ _ _ _ _ g n c bx N a m m key D _ HC HK (Lib.hid HL.out.2.2.2.2.1) hn1 HLOW.out (by omega) (by omega) (by omega) ?_
    intro I w1 r15 r16 r83 r84 r85 r86 r87 r88 r89 r90 r91 r92 r93 r94 r95 r96 r97 r98 r99 r100 r101 r102 r103 r104 r105 r106 hI1 hI2 HI HC1 HF1
    have HC1' : Hid (Col w1 g ((P ++ A.take (I - a)) ++ (A.drop (I - a) ++ (y :: S)))) := by
      have h := HC1.out
      rw [HL.out.2.2.2.1, HY.out] at h
      show Col _ _ _
      rw [List.append_assoc, ← List.append_assoc (A.take _), List.take_append_drop]
      simpa using h
    have HLS : Hid (n = (P ++ A.take (I - a)).length + 1 + (A.drop (I - a)).length + S.length ∧ m = (P ++ A.take (I - a)).length + (A.drop (I - a)).length ∧ I = (P ++ A.take (I - a)).length) := by
      have h := HL.out
      rw [HY.out] at h
      show _ ∧ _ ∧ _
      rw [List.length_append, List.length_take, List.length_drop]
      simp at h
      omega
    clear HC HC1
    go_wp2_with fail
    refine sw2_loop _ _ _ _ _ _ _ _ _ _ _ _ _ _ _ _ _ _ _ _ _ _ _ _ _ _ _ _ _ _ _ _ _ _ _ _ _ _ _ _ _ _ _ _ _ _ _ _ _ _ _ _ _ _ _ _ _ _ _ _ _ _ _ _ _ _ _ _ _ _ _ _ _ _ _ _ _ _ _ _ _ _ _ _ _ _ _ _ _ _ _ _ _ _ _ _ _ _ _ _ _ _ _ _ _ _ _ _ _ _ _ _ _ _ _ _ _ _ _ _ _ _ _ _ _ _ _ _ _ _ _ _ _ _ _ _ _ _ _ _ _ _ _ _ _ _ _ _ _ _ _ _ _ _ _ _ _ _ _ _ _ _ _ _ _ _ _ _ _ _ _ _ _ _ _ _ _ _ _ _ _ _ _ _ _ _ _ _ _ _ _ _ _ _ _ _ _ _ _ _ _ _ _ _ _ _ _ _ _ _ _ _ _ _ _ _ _ _ g n c I m y (P ++ A.take (I - a)) (A.drop (I - a)) S _ HC1' HLS hn1 (by omega) (by omega) ?_
    intro w2 q17 q108 q109 q110 q111 q112 q113 q114 q115 q116 q117 q118 q119 q120 q121 q122 q123 q124 q125 q126 q127 q128 HC2 HF2
    have HF3 := Lib.hid (HF1.out.trans HF2.out (fun _ _ h => h))
    clear HC1' HF1 HF2
    go_wp2
    exact bodyPost_ret (results_none rfl _ _ _) rfl ⟨rfl, HEND.out I w2 hI1 hI2 HI.out HC2.out HF3.out⟩
  have t2 : ((lb : Int) == 1) = false := by simp; omega
  obtain ⟨mid, hmid⟩ : ∃ mid, mid = (a + b) / 2 := ⟨_, rfl⟩
  obtain ⟨nn, hnn⟩ : ∃ nn, nn = mid + m := ⟨_, rfl⟩
  obtain ⟨p, hp⟩ : ∃ p, p = nn - 1 := ⟨_, rfl⟩
  obtain ⟨lo, hi, hlh⟩ : ∃ lo hi, (mid < m ∧ lo = nn - b ∧ hi = mid) ∨ (m ≤ mid ∧ lo = a ∧ hi = m) := by
    rcases Nat.lt_or_ge mid m with h | h
    · exact ⟨_, _, .inl ⟨h, rfl, rfl⟩⟩
    · exact ⟨_, _, .inr ⟨h, rfl, rfl⟩⟩
  have em : ((a : Int) + (b : Int)) / 2 = (mid : Int) := by omega
  have en1 : (mid : Int) + (m : Int) = (nn : Int) := by omega
  have ep : (nn : Int) - 1 = (p : Int) := by omega
  have HE := Lib.hid (And.intro em (And.intro en1 ep))
  have HLH := Lib.hid (And.intro hlh (And.intro hp (And.intro hnn hmid)))
  have hlohi : lo ≤ hi := by omega
  have hpn : p - lo < n := by omega
  have hp2 : p ≤ 2000 := by omega
  have hhi : hi ≤ p + 1 := by omega
  have hhn : hi ≤ n := by omega
  have hmn : mid ≤ n := by omega
  -- what the cut gives
  have CUT : Hid (∀ s, lo ≤ s → s ≤ hi → a ≤ s ∧ s ≤ m ∧ s ≤ mid ∧ m ≤ nn - s ∧ nn - s ≤ b ∧ s ≤ nn) := by
    intro s h1 h2
    have := HLH.out
    omega
  have M3 : Hid (∀ s, lo ≤ s → s ≤ hi → ((s = lo ∨ ¬ kd key D (p - (s - 1)) < kd key D (s - 1)) ∧ (s = hi ∨ ¬ ¬ kd key D (p - s) < kd key D s)) → ∀ x ∈ A.take (s - a) ++ B.take (mid - s), ∀ y ∈ A.drop (s - a) ++ B.drop (mid - s), lx key x y) := by
    intro s h1 h2 HI
    have h3 := CUT.out s h1 h2
    have h4 := HLH.out
    have h5 := HL.out
    refine merge3 HA.out HB.out HST.out (by omega) (by omega) ?_ ?_
    · by_cases hk : s - a = 0
      · exact .inl hk
      · by_cases hl : mid - s = B.length
        · exact .inr (.inl hl)
        · by_cases hs : s = lo
          · omega
          · have h := HI.1.resolve_left hs
            rw [KDB.out (p - (s - 1)) (mid - s) (by omega) (by omega), KDA.out (s - 1) (s - a - 1) (by omega) (by omega)] at h
            exact .inr (.inr h)
    · by_cases hk : s - a = A.length
      · exact .inl hk
      · by_cases hl : mid - s = 0
        · exact .inr (.inl hl)
        · by_cases hs : s = hi
          · omega
          · have h := Classical.not_not.1 (HI.2.resolve_left hs)
            rw [KDB.out (p - s) (mid - s - 1) (by omega) (by omega), KDA.out s (s - a) (by omega) (by omega)] at h
            exact .inr (.inr h)
  clear hlh hp hnn hmid em en1 ep
  go_enter Tryz.func111, Tryz.ntmps111
  have em := HE.out.1
  have en1 := HE.out.2.1
  have ep := HE.out.2.2
  go_upto_if 140 with fail
  go_cut [20, 21] (fun u v wx => u = .int .i64 (lo : Int) ∧ v = .int .i64 (hi : Int) ∧ w = wx)
  case first =>
    rcases HLH.out.1 with ⟨h1, h2, h3⟩ | ⟨h1, h2, h3⟩
    · have e3 : (nn : Int) - (b : Int) = (lo : Int) := by have := HLH.out; omega
      subst h3
      clear h2
      go_wp2
      go_meet
      exact ⟨rfl, rfl, rfl⟩
    · have t3 : ¬ mid < m := by omega
      subst h2 h3
      go_wp2
      go_meet
      exact ⟨rfl, rfl, rfl⟩
  case rest =>
  obtain ⟨rfl, rfl, rfl⟩ := hcut
  go_wp2_with fail
  refine bs3_loop _ _ _ _ _ _ _ _ _ _ _ _ _ _ _ _ _ _ _ _ _ _ _ _ _ _ _ _ _ _ _ _ _ _ _ _ _ _ _ _ _ _ _ _ _ _ _ _ _ _ _ _ _ _ _ _ _ _ _ _ _ _ _ _ _ _ _ _ _ _ _ _ _ _ _ _ _ _ _ _ _ _ _ _ _ _ _ _ _ _ _ _ _ _ _ _ _ _ _ _ _ _ _ _ _ _ _ _ _ _ _ _ _ _ _ _ _ _ _ _ _ _ _ _ _ _ _ _ _ _ _ _ _ _ _ _ _ _ _ _ _ _ _ _ _ _ _ _ _ _ _ _ _ _ _ _ _ _ _ _ _ _ _ _ _ _ _ _ _ _ _ _ _ _ _ _ _ _ _ _ _ _ _ _ _ _ _ _ _ _ _ _ _ _ _ _ _ _ _ _ _ _ _ _ _ _ _ _ _ _ _ _ _ _ _ _ g n c bx N lo hi p key D _ HC HK (Lib.hid HL.out.2.2.2.2.1) hn1 HLOW.out hlohi hpn hp2 hhi hhn ?_
  intro s w1 r21 r23 r149 r150 r151 r152 r153 r154 r155 r156 r157 r158 r159 r160 r161 r162 r163 r164 r165 r166 r167 r168 r169 r170 r171 r172 r173 r174 hs1 hs2 HI HC1 HF1
  obtain ⟨en, hen⟩ : ∃ en, en = nn - s := ⟨_, rfl⟩
  obtain ⟨k, hk⟩ : ∃ k, k = s - a := ⟨_, rfl⟩
  obtain ⟨l, hl⟩ : ∃ l, l = mid - s := ⟨_, rfl⟩
  have hcut := CUT.out s hs1 hs2
  have hm3 := M3.out s hs1 hs2 HI.out
  rw [← hk, ← hl] at hm3
  have HM3 := Lib.hid hm3
  have ee : (nn : Int) - (s : Int) = (en : Int) := by omega
  have x1 : s ≤ a + k := by omega
  have x1' : a + k ≤ s := by omega
  have x2 : mid ≤ s + l := by omega
  have x2' : s + l ≤ mid := by omega
  have x3 : en ≤ m + l := by have := HLH.out; omega
  have x3' : m + l ≤ en := by have := HLH.out; omega
  have x4 : k ≤ la := by omega
  have x5 : l ≤ lb := by omega
  have x6 : mid < b := by have := HLH.out; omega
  have x7 : a < mid := by have := HLH.out; omega
  obtain ⟨A1, hA1⟩ : ∃ A1, A1 = A.take k := ⟨_, rfl⟩
  obtain ⟨A2, hA2⟩ : ∃ A2, A2 = A.drop k := ⟨_, rfl⟩
  obtain ⟨B1, hB1⟩ : ∃ B1, B1 = B.take l := ⟨_, rfl⟩
  obtain ⟨B2, hB2⟩ : ∃ B2, B2 = B.drop l := ⟨_, rfl⟩
  have hAA : A1 ++ A2 = A := by rw [hA1, hA2, List.take_append_drop]
  have hBB : B1 ++ B2 = B := by rw [hB1, hB2, List.take_append_drop]
  have l1 : A1.length = k := by rw [hA1, List.length_take]; have := HL.out; omega
  have l2 : A2.length = la - k := by rw [hA2, List.length_drop]; have := HL.out; omega
  have l3 : B1.length = l := by rw [hB1, List.length_take]; have := HL.out; omega
  have l4 : B2.length = lb - l := by rw [hB2, List.length_drop]; have := HL.out; omega
  have sA1 : Srt key A1 := hA1 ▸ srt_take HA.out k
  have sA2 : Srt key A2 := hA2 ▸ srt_drop HA.out k
  have sB1 : Srt key B1 := hB1 ▸ srt_take HB.out l
  have sB2 : Srt key B2 := hB2 ▸ srt_drop HB.out l
  have st1 : Stb key A1 B1 := by rw [hA1, hB1]; exact stb_take HST.out k l
  have st2 : Stb key A2 B2 := by rw [hA2, hB2]; exact stb_drop HST.out k l
  have hc1 : Col w1 g (P ++ (A1 ++ (A2 ++ (B1 ++ (B2 ++ S))))) := by
    have h := HC1.out
    rw [HL.out.2.2.2.1, ← hAA, ← hBB] at h
    simpa using h
  have nl : n = P.length + (k + (la - k)) + (l + (lb - l)) + S.length := by have := HL.out; omega
  have pl : P.length = a := HL.out.1.symm
  have lowD : ∀ X : List Nat, X.Perm D → ∀ x ∈ X, x < N := fun X hX x hx => HLOW.out x (hX.mem_iff.1 hx)
  have permD : (P ++ (A1 ++ (B1 ++ (A2 ++ (B2 ++ S))))).Perm D := by
    rw [HL.out.2.2.2.1, ← hAA, ← hBB]
    refine List.Perm.append_left _ ?_
    rw [List.append_assoc, List.append_assoc]
    refine List.Perm.append_left _ ?_
    rw [← List.append_assoc B1 A2, ← List.append_assoc A2 B1]
    exact List.Perm.append_right _ List.perm_append_comm
  -- the three calls, and what stands where one is left out
  have ROT : Hid (k < la → 0 < l → Calls Tryz.prog 113 #[.slice (some ⟨g, 0, none⟩) n c, .int .i64 (s : Int), .int .i64 (m : Int), .int .i64 (en : Int), .func (.func 85) #[] #[.pointer (some ⟨bx, 0, none⟩)]] w1 fun e w' =>
      e = .returned (.tuple #[]) ∧ Col w' g (P ++ (A1 ++ (B1 ++ (A2 ++ (B2 ++ S))))) ∧ Fr (fun b => b = g) w1 w') := by
    intro h1 h2
    refine (rotate_any g n c s m en _ (P ++ A1) A2 B1 (B2 ++ S) w1 (by simpa using hc1) (by simp; omega) hn1 (by simp; omega) (by simp; omega) (by simp; omega) (by omega) (by omega)).mono ?_
    rintro e w' ⟨rfl, h, hf⟩
    exact ⟨rfl, by simpa using h, hf⟩
  have NROT : Hid (k = la ∨ l = 0 → Col w1 g (P ++ (A1 ++ (B1 ++ (A2 ++ (B2 ++ S)))))) := by
    rintro (h | h)
    · have e : A2 = [] := List.eq_nil_of_length_eq_zero (by omega)
      rw [e] at hc1 ⊢
      exact hc1
    · have e : B1 = [] := List.eq_nil_of_length_eq_zero (by omega)
      rw [e] at hc1 ⊢
      exact hc1
  have SY1 : Hid (∀ w2, Fr (fun b => b = g) w w2 → Col w2 g (P ++ (A1 ++ (B1 ++ (A2 ++ (B2 ++ S))))) → 0 < k → 0 < l → Calls Tryz.prog 111 #[.slice (some ⟨g, 0, none⟩) n c, .int .i64 (a : Int), .int .i64 (s : Int), .int .i64 (mid : Int), .func (.func 85) #[] #[.pointer (some ⟨bx, 0, none⟩)]] w2 fun e w' =>
      e = .returned (.tuple #[]) ∧ ∃ C, C.Perm (A1 ++ B1) ∧ Srt key C ∧ Col w' g (P ++ (C ++ (A2 ++ (B2 ++ S)))) ∧ Fr (fun b => b = g) w2 w') := by
    intro w2 hf hc2 h1 h2
    exact IH.out g n c a s mid bx N key P A1 B1 (A2 ++ (B2 ++ S)) w2 (by have := HF.out; have := HL.out; omega) hc2 (by simp; omega) hn1 pl.symm (by omega) (by omega) (by omega) (by omega) (HK.out.fr hf) (lowD _ permD) sA1 sB1 st1
  have NSY1 : Hid (k = 0 ∨ l = 0 → Srt key (A1 ++ B1)) := by
    rintro (h | h)
    · have e : A1 = [] := List.eq_nil_of_length_eq_zero (by omega)
      rw [e]; exact sB1
    · have e : B1 = [] := List.eq_nil_of_length_eq_zero (by omega)
      rw [e, List.append_nil]; exact sA1
  have SY2 : Hid (∀ w2 C1, Fr (fun b => b = g) w w2 → C1.Perm (A1 ++ B1) → Col w2 g (P ++ (C1 ++ (A2 ++ (B2 ++ S)))) → k < la → l < lb → Calls Tryz.prog 111 #[.slice (some ⟨g, 0, none⟩) n c, .int .i64 (mid : Int), .int .i64 (en : Int), .int .i64 (b : Int), .func (.func 85) #[] #[.pointer (some ⟨bx, 0, none⟩)]] w2 fun e w' =>
      e = .returned (.tuple #[]) ∧ ∃ C, C.Perm (A2 ++ B2) ∧ Srt key C ∧ Col w' g (P ++ (C1 ++ (C ++ S))) ∧ Fr (fun b => b = g) w2 w') := by
    intro w2 C1 hf hp hc2 h1 h2
    have lC : C1.length = k + l := by rw [hp.length_eq, List.length_append, l1, l3]
    have hpD : ((P ++ C1) ++ (A2 ++ (B2 ++ S))).Perm D := by
      refine List.Perm.trans ?_ permD
      rw [List.append_assoc]
      refine List.Perm.append_left _ ?_
      rw [← List.append_assoc A1]
      exact List.Perm.append_right _ hp
    refine (IH.out g n c mid en b bx N key (P ++ C1) A2 B2 S w2 (by have := HF.out; have := HL.out; omega) (by simpa using hc2) (by simp; omega) hn1 (by simp; omega) (by simp; omega) (by simp; omega) (by omega) (by omega) (HK.out.fr hf) (lowD _ hpD) sA2 sB2 st2).mono ?_
    rintro e w' ⟨rfl, C, h1, h2, h3, h4⟩
    exact ⟨rfl, C, h1, h2, by simpa using h3, h4⟩
  have NSY2 : Hid (k = la ∨ l = lb → Srt key (A2 ++ B2)) := by
    rintro (h | h)
    · have e : A2 = [] := List.eq_nil_of_length_eq_zero (by omega)
      rw [e]; exact sB2
    · have e : B2 = [] := List.eq_nil_of_length_eq_zero (by omega)
      rw [e, List.append_nil]; exact sA2
  have HEND : Hid (∀ (C1 C2 : List Nat) (w2 : World), C1.Perm (A1 ++ B1) → Srt key C1 → C2.Perm (A2 ++ B2) → Srt key C2 → Col w2 g (P ++ (C1 ++ (C2 ++ S))) → Fr (fun b => b = g) w w2 → ∃ C, C.Perm (A ++ B) ∧ Srt key C ∧ Col w2 g (P ++ (C ++ S)) ∧ Fr (fun b => b = g) w w2) := by
    intro C1 C2 w2 p1 s1 p2 s2 hc2 hf2
    refine ⟨C1 ++ C2, ?_, ?_, by simpa using hc2, hf2⟩
    · refine (p1.append p2).trans ?_
      rw [← hAA, ← hBB]
      rw [List.append_assoc, List.append_assoc]
      refine List.Perm.append_left _ ?_
      rw [← List.append_assoc, ← List.append_assoc]
      exact List.Perm.append_right _ List.perm_append_comm
    · refine srt_app.2 ⟨s1, s2, fun x hx y hy => ?_⟩
      have h := HM3.out x
      rw [← hA1, ← hA2, ← hB1, ← hB2] at h
      exact h (p1.mem_iff.1 hx) y (p2.mem_iff.1 hy)
  clear hA1 hA2 hB1 hB2 hAA hBB l1 l2 l3 l4 sA1 sA2 sB1 sB2 st1 st2 hc1 nl pl lowD permD hen hk hl hcut hm3
  clear HC HC1 HI HM3 M3 CUT IH
  rcases (show k = 0 ∨ (0 < k ∧ k < la) ∨ k = la by omega) with hk0 | ⟨hk1, hk2⟩ | hk3
  all_goals rcases (show l = 0 ∨ (0 < l ∧ l < lb) ∨ l = lb by omega) with hl0 | ⟨hl1, hl2⟩ | hl3
  · skip
    have d1 : decide (s < m) = true := by simp; omega
    have d2 : decide (m < en) = false := by simp; omega
    have d3 : decide (a < s) = false := by simp; omega
    have d4 : decide (s < mid) = false := by simp; omega
    have d5 : decide (mid < en) = true := by simp; omega
    have d6 : decide (en < b) = true := by simp; omega
    have HC2 := Lib.hid (NROT.out (by omega))
    have HF2 := HF1
    obtain ⟨C1, hC1⟩ : ∃ C1, C1 = A1 ++ B1 := ⟨_, rfl⟩
    have HP1 : Hid (C1.Perm (A1 ++ B1) ∧ Srt key C1) := Lib.hid ⟨by rw [hC1], by rw [hC1]; exact NSY1.out (by omega)⟩
    have HC3 : Hid (Col _ g (P ++ (C1 ++ (A2 ++ (B2 ++ S))))) := Lib.hid (by have h := HC2.out; rw [hC1]; simpa using h)
    have HF3 := HF2
    clear hC1
    go_wp2_with fail
    refine (SY2.out _ C1 HF3.out HP1.out.1 HC3.out (by omega) (by omega)).mono ?_
    rintro e w4 ⟨rfl, C2, hp2, hs2, hc4, hf4⟩
    have HF4 := Lib.hid (HF3.out.trans hf4 (fun _ _ h => h))
    have HC4 := Lib.hid hc4
    have HP2 := Lib.hid (And.intro hp2 hs2)
    clear hc4 hf4 hp2 hs2
    go_wp2
    go_end0
    exact ⟨rfl, HEND.out C1 C2 _ HP1.out.1 HP1.out.2 HP2.out.1 HP2.out.2 HC4.out HF4.out⟩
  · skip
    have d1 : decide (s < m) = true := by simp; omega
    have d2 : decide (m < en) = true := by simp; omega
    have d3 : decide (a < s) = false := by simp; omega
    have d4 : decide (s < mid) = true := by simp; omega
    have d5 : decide (mid < en) = true := by simp; omega
    have d6 : decide (en < b) = true := by simp; omega
    go_wp2_with fail
    refine (ROT.out (by omega) (by omega)).mono ?_
    rintro e w2 ⟨rfl, hc2, hf2⟩
    have HF2 := Lib.hid (HF1.out.trans hf2 (fun _ _ h => h))
    have HC2 := Lib.hid hc2
    clear hc2 hf2
    obtain ⟨C1, hC1⟩ : ∃ C1, C1 = A1 ++ B1 := ⟨_, rfl⟩
    have HP1 : Hid (C1.Perm (A1 ++ B1) ∧ Srt key C1) := Lib.hid ⟨by rw [hC1], by rw [hC1]; exact NSY1.out (by omega)⟩
    have HC3 : Hid (Col _ g (P ++ (C1 ++ (A2 ++ (B2 ++ S))))) := Lib.hid (by have h := HC2.out; rw [hC1]; simpa using h)
    have HF3 := HF2
    clear hC1
    go_wp2_with fail
    refine (SY2.out _ C1 HF3.out HP1.out.1 HC3.out (by omega) (by omega)).mono ?_
    rintro e w4 ⟨rfl, C2, hp2, hs2, hc4, hf4⟩
    have HF4 := Lib.hid (HF3.out.trans hf4 (fun _ _ h => h))
    have HC4 := Lib.hid hc4
    have HP2 := Lib.hid (And.intro hp2 hs2)
    clear hc4 hf4 hp2 hs2
    go_wp2
    go_end0
    exact ⟨rfl, HEND.out C1 C2 _ HP1.out.1 HP1.out.2 HP2.out.1 HP2.out.2 HC4.out HF4.out⟩
  · skip
    have d1 : decide (s < m) = true := by simp; omega
    have d2 : decide (m < en) = true := by simp; omega
    have d3 : decide (a < s) = false := by simp; omega
    have d4 : decide (s < mid) = true := by simp; omega
    have d5 : decide (mid < en) = true := by simp; omega
    have d6 : decide (en < b) = false := by simp; omega
    go_wp2_with fail
    refine (ROT.out (by omega) (by omega)).mono ?_
    rintro e w2 ⟨rfl, hc2, hf2⟩
    have HF2 := Lib.hid (HF1.out.trans hf2 (fun _ _ h => h))
    have HC2 := Lib.hid hc2
    clear hc2 hf2
    obtain ⟨C1, hC1⟩ : ∃ C1, C1 = A1 ++ B1 := ⟨_, rfl⟩
    have HP1 : Hid (C1.Perm (A1 ++ B1) ∧ Srt key C1) := Lib.hid ⟨by rw [hC1], by rw [hC1]; exact NSY1.out (by omega)⟩
    have HC3 : Hid (Col _ g (P ++ (C1 ++ (A2 ++ (B2 ++ S))))) := Lib.hid (by have h := HC2.out; rw [hC1]; simpa using h)
    have HF3 := HF2
    clear hC1
    obtain ⟨C2, hC2⟩ : ∃ C2, C2 = A2 ++ B2 := ⟨_, rfl⟩
    have HP2 : Hid (C2.Perm (A2 ++ B2) ∧ Srt key C2) := Lib.hid ⟨by rw [hC2], by rw [hC2]; exact NSY2.out (by omega)⟩
    have HC4 : Hid (Col _ g (P ++ (C1 ++ (C2 ++ S)))) := Lib.hid (by have h := HC3.out; rw [hC2]; simpa using h)
    have HF4 := HF3
    clear hC2
    go_wp2
    go_end0
    exact ⟨rfl, HEND.out C1 C2 _ HP1.out.1 HP1.out.2 HP2.out.1 HP2.out.2 HC4.out HF4.out⟩
  · skip
    have d1 : decide (s < m) = true := by simp; omega
    have d2 : decide (m < en) = false := by simp; omega
    have d3 : decide (a < s) = true := by simp; omega
    have d4 : decide (s < mid) = false := by simp; omega
    have d5 : decide (mid < en) = true := by simp; omega
    have d6 : decide (en < b) = true := by simp; omega
    have HC2 := Lib.hid (NROT.out (by omega))
    have HF2 := HF1
    obtain ⟨C1, hC1⟩ : ∃ C1, C1 = A1 ++ B1 := ⟨_, rfl⟩
    have HP1 : Hid (C1.Perm (A1 ++ B1) ∧ Srt key C1) := Lib.hid ⟨by rw [hC1], by rw [hC1]; exact NSY1.out (by omega)⟩
    have HC3 : Hid (Col _ g (P ++ (C1 ++ (A2 ++ (B2 ++ S))))) := Lib.hid (by have h := HC2.out; rw [hC1]; simpa using h)
    have HF3 := HF2
    clear hC1
    go_wp2_with fail
    refine (SY2.out _ C1 HF3.out HP1.out.1 HC3.out (by omega) (by omega)).mono ?_
    rintro e w4 ⟨rfl, C2, hp2, hs2, hc4, hf4⟩
    have HF4 := Lib.hid (HF3.out.trans hf4 (fun _ _ h => h))
    have HC4 := Lib.hid hc4
    have HP2 := Lib.hid (And.intro hp2 hs2)
    clear hc4 hf4 hp2 hs2
    go_wp2
    go_end0
    exact ⟨rfl, HEND.out C1 C2 _ HP1.out.1 HP1.out.2 HP2.out.1 HP2.out.2 HC4.out HF4.out⟩
  · skip
    have d1 : decide (s < m) = true := by simp; omega
    have d2 : decide (m < en) = true := by simp; omega
    have d3 : decide (a < s) = true := by simp; omega
    have d4 : decide (s < mid) = true := by simp; omega
    have d5 : decide (mid < en) = true := by simp; omega
    have d6 : decide (en < b) = true := by simp; omega
    go_wp2_with fail
    refine (ROT.out (by omega) (by omega)).mono ?_
    rintro e w2 ⟨rfl, hc2, hf2⟩
    have HF2 := Lib.hid (HF1.out.trans hf2 (fun _ _ h => h))
    have HC2 := Lib.hid hc2
    clear hc2 hf2
    go_wp2_with fail
    refine (SY1.out _ HF2.out HC2.out (by omega) (by omega)).mono ?_
    rintro e w3 ⟨rfl, C1, hp1, hs1, hc3, hf3⟩
    have HF3 := Lib.hid (HF2.out.trans hf3 (fun _ _ h => h))
    have HC3 := Lib.hid hc3
    have HP1 := Lib.hid (And.intro hp1 hs1)
    clear hc3 hf3 hp1 hs1
    go_wp2_with fail
    refine (SY2.out _ C1 HF3.out HP1.out.1 HC3.out (by omega) (by omega)).mono ?_
    rintro e w4 ⟨rfl, C2, hp2, hs2, hc4, hf4⟩
    have HF4 := Lib.hid (HF3.out.trans hf4 (fun _ _ h => h))
    have HC4 := Lib.hid hc4
    have HP2 := Lib.hid (And.intro hp2 hs2)
    clear hc4 hf4 hp2 hs2
    go_wp2
    go_end0
    exact ⟨rfl, HEND.out C1 C2 _ HP1.out.1 HP1.out.2 HP2.out.1 HP2.out.2 HC4.out HF4.out⟩
  · skip
    have d1 : decide (s < m) = true := by simp; omega
    have d2 : decide (m < en) = true := by simp; omega
    have d3 : decide (a < s) = true := by simp; omega
    have d4 : decide (s < mid) = true := by simp; omega
    have d5 : decide (mid < en) = true := by simp; omega
    have d6 : decide (en < b) = false := by simp; omega
    go_wp2_with fail
    refine (ROT.out (by omega) (by omega)).mono ?_
    rintro e w2 ⟨rfl, hc2, hf2⟩
    have HF2 := Lib.hid (HF1.out.trans hf2 (fun _ _ h => h))
    have HC2 := Lib.hid hc2
    clear hc2 hf2
    go_wp2_with fail
    refine (SY1.out _ HF2.out HC2.out (by omega) (by omega)).mono ?_
    rintro e w3 ⟨rfl, C1, hp1, hs1, hc3, hf3⟩
    have HF3 := Lib.hid (HF2.out.trans hf3 (fun _ _ h => h))
    have HC3 := Lib.hid hc3
    have HP1 := Lib.hid (And.intro hp1 hs1)
    clear hc3 hf3 hp1 hs1
    obtain ⟨C2, hC2⟩ : ∃ C2, C2 = A2 ++ B2 := ⟨_, rfl⟩
    have HP2 : Hid (C2.Perm (A2 ++ B2) ∧ Srt key C2) := Lib.hid ⟨by rw [hC2], by rw [hC2]; exact NSY2.out (by omega)⟩
    have HC4 : Hid (Col _ g (P ++ (C1 ++ (C2 ++ S)))) := Lib.hid (by have h := HC3.out; rw [hC2]; simpa using h)
    have HF4 := HF3
    clear hC2
    go_wp2
    go_end0
    exact ⟨rfl, HEND.out C1 C2 _ HP1.out.1 HP1.out.2 HP2.out.1 HP2.out.2 HC4.out HF4.out⟩
  · skip
    have d1 : decide (s < m) = false := by simp; omega
    have d2 : decide (m < en) = false := by simp; omega
    have d3 : decide (a < s) = true := by simp; omega
    have d4 : decide (s < mid) = false := by simp; omega
    have d5 : decide (mid < en) = false := by simp; omega
    have d6 : decide (en < b) = true := by simp; omega
    have HC2 := Lib.hid (NROT.out (by omega))
    have HF2 := HF1
    obtain ⟨C1, hC1⟩ : ∃ C1, C1 = A1 ++ B1 := ⟨_, rfl⟩
    have HP1 : Hid (C1.Perm (A1 ++ B1) ∧ Srt key C1) := Lib.hid ⟨by rw [hC1], by rw [hC1]; exact NSY1.out (by omega)⟩
    have HC3 : Hid (Col _ g (P ++ (C1 ++ (A2 ++ (B2 ++ S))))) := Lib.hid (by have h := HC2.out; rw [hC1]; simpa using h)
    have HF3 := HF2
    clear hC1
    obtain ⟨C2, hC2⟩ : ∃ C2, C2 = A2 ++ B2 := ⟨_, rfl⟩
    have HP2 : Hid (C2.Perm (A2 ++ B2) ∧ Srt key C2) := Lib.hid ⟨by rw [hC2], by rw [hC2]; exact NSY2.out (by omega)⟩
    have HC4 : Hid (Col _ g (P ++ (C1 ++ (C2 ++ S)))) := Lib.hid (by have h := HC3.out; rw [hC2]; simpa using h)
    have HF4 := HF3
    clear hC2
    go_wp2
    go_end0
    exact ⟨rfl, HEND.out C1 C2 _ HP1.out.1 HP1.out.2 HP2.out.1 HP2.out.2 HC4.out HF4.out⟩
  · skip
    have d1 : decide (s < m) = false := by simp; omega
    have d2 : decide (m < en) = true := by simp; omega
    have d3 : decide (a < s) = true := by simp; omega
    have d4 : decide (s < mid) = true := by simp; omega
    have d5 : decide (mid < en) = false := by simp; omega
    have d6 : decide (en < b) = true := by simp; omega
    have HC2 := Lib.hid (NROT.out (by omega))
    have HF2 := HF1
    go_wp2_with fail
    refine (SY1.out _ HF2.out HC2.out (by omega) (by omega)).mono ?_
    rintro e w3 ⟨rfl, C1, hp1, hs1, hc3, hf3⟩
    have HF3 := Lib.hid (HF2.out.trans hf3 (fun _ _ h => h))
    have HC3 := Lib.hid hc3
    have HP1 := Lib.hid (And.intro hp1 hs1)
    clear hc3 hf3 hp1 hs1
    obtain ⟨C2, hC2⟩ : ∃ C2, C2 = A2 ++ B2 := ⟨_, rfl⟩
    have HP2 : Hid (C2.Perm (A2 ++ B2) ∧ Srt key C2) := Lib.hid ⟨by rw [hC2], by rw [hC2]; exact NSY2.out (by omega)⟩
    have HC4 : Hid (Col _ g (P ++ (C1 ++ (C2 ++ S)))) := Lib.hid (by have h := HC3.out; rw [hC2]; simpa using h)
    have HF4 := HF3
    clear hC2
    go_wp2
    go_end0
    exact ⟨rfl, HEND.out C1 C2 _ HP1.out.1 HP1.out.2 HP2.out.1 HP2.out.2 HC4.out HF4.out⟩
  · skip
    have d1 : decide (s < m) = false := by simp; omega
    have d2 : decide (m < en) = true := by simp; omega
    have d3 : decide (a < s) = true := by simp; omega
    have d4 : decide (s < mid) = true := by simp; omega
    have d5 : decide (mid < en) = false := by simp; omega
    have d6 : decide (en < b) = false := by simp; omega
    have HC2 := Lib.hid (NROT.out (by omega))
    have HF2 := HF1
    go_wp2_with fail
    refine (SY1.out _ HF2.out HC2.out (by omega) (by omega)).mono ?_
    rintro e w3 ⟨rfl, C1, hp1, hs1, hc3, hf3⟩
    have HF3 := Lib.hid (HF2.out.trans hf3 (fun _ _ h => h))
    have HC3 := Lib.hid hc3
    have HP1 := Lib.hid (And.intro hp1 hs1)
    clear hc3 hf3 hp1 hs1
    obtain ⟨C2, hC2⟩ : ∃ C2, C2 = A2 ++ B2 := ⟨_, rfl⟩
    have HP2 : Hid (C2.Perm (A2 ++ B2) ∧ Srt key C2) := Lib.hid ⟨by rw [hC2], by rw [hC2]; exact NSY2.out (by omega)⟩
    have HC4 : Hid (Col _ g (P ++ (C1 ++ (C2 ++ S)))) := Lib.hid (by have h := HC3.out; rw [hC2]; simpa using h)
    have HF4 := HF3
    clear hC2
    go_wp2
    go_end0
    exact ⟨rfl, HEND.out C1 C2 _ HP1.out.1 HP1.out.2 HP2.out.1 HP2.out.2 HC4.out HF4.out⟩
end Go.Proofs.YtgpkiijmembggaaGreatDoor
