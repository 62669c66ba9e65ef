/-
  Layer 11, the reference: Bytes (written by gen_bytes.py).
-/
import Derived.Test.YtedmnkcoflbciaaGreatRleZa
import Derived.Test.YtedmnkcoflbciaaGreatZm20
import Derived.Test.YtedmnkcoflbciaaGreatZm35
import Derived.Test.YtedmnkcoflbciaaGreatZm04
import Derived.Deep.DeepCutAuto
import Derived.Deep.CutRange
namespace Go.Proofs.YtedmnkcoflbciaaGreat
open Go.RowKit Mem Go.Lib RleM LebM
attribute [local go_sem ↓] Go.wp_at_zero Go.wp_at_succ
set_option linter.unusedVariables false

theorem s_zero : s 0 = [0] := by rw [s_small (by omega)]; rfl
theorem own_list3 {w : World} {base c N : Nat} {A : Option Addr} {B C D : List UInt8} (hD : D = B ++ C) (hN : N = D.length) (h : w.ownsRow base 5 1 (.slice A N c) N (B.map bytec ++ C.map bytec)) : Own w base A c D := by
  unfold Own
  rw [← hN, hD, List.map_append]
  exact h
theorem puts_flat (l : List ((Bool × List UInt8) × Nat)) : puts kR l = (l.map (fun g => g.1.2)).flatten := by
  unfold puts
  rw [List.flatMap_def]
  rfl
set_option maxRecDepth 1000000 in
noncomputable def bMain : Code := ((Tryz.f27.body.bind (loopAt 10)).getD .skip)

set_option maxRecDepth 1000000 in
set_option maxHeartbeats 6400000 in
theorem bl2 (Q0 : Exit → Act → World → Prop) (s1 s2 s3 s4 s7 s8 s9 s10 s11 s12 s13 s14 s15 s16 s17 s18 s19 s20 s21 s22 s23 s24 s25 s26 s27 s28 s29 s30 s31 s32 s33 s34 s35 s36 s37 s38 s39 s40 s41 s42 s43 s44 s45 s46 s47 s48 s49 s50 s51 s52 s53 s54 s55 s56 s57 s58 s59 s60 s61 s62 s63 s64 s65 s66 s67 s68 s69 s70 s71 s72 s73 s74 s75 s76 s77 s78 s79 s80 s81 s82 s83 s84 s85 s86 s87 s88 s89 s90 s91 s92 s93 s94 s95 s96 s97 s98 s99 s100 s101 s102 s103 s104 s105 s106 s107 s108 s109 s110 s111 s112 s113 s114 s115 s116 s117 s118 s119 s120 s121 s122 s123 s124 s125 s126 s127 s128 s129 s130 s131 s132 s133 s134 s135 s136 s137 s138 s139 s140 s141 s142 s143 s144 s145 s146 s147 s148 s149 s150 s151 s152 s153 s154 s155 s156 s157 s158 s159 s160 : Value) (base : Nat) (A : Option Addr) (n c : Nat) (L : List (Bool × List UInt8)) (D0 : List ((Bool × List UInt8) × Nat)) (w wc : World) (HL : Hid (Cls sv w A n L)) (HA : Hid (∀ ad, A = some ad → ad.block < base)) (hn : n ≤ 1000000)
    (HMAY : Hid (∀ (j : Nat) (d : Bool × List UInt8), L[j]? = some d → d.1 = false → d = (false, []))) (HD0 : Hid (L = spreadG D0)) (HW0 : Hid (WF D0)) (HF0 : Hid (Fr (fun b => base ≤ b) w wc)) (HB : Hid (base ≤ w.heap.size)) (HLEN : Hid ((tellG kR D0).length ≤ 1000000000))
    (hexit : ∀ (A' : Option Addr) (c' : Nat) (R : List UInt8) (w'' : World) (r7 r8 r25 r26 r27 r28 r29 r30 r31 r32 r33 r34 r35 r36 r37 r38 r39 r40 r41 r42 r43 r44 r45 r46 r47 r48 r49 r50 r51 r52 r53 r54 r55 r56 r57 r58 r59 r60 r61 r62 r63 r64 r65 r66 r67 r68 r69 r70 r71 r72 r73 r74 r75 r76 r77 r78 r79 r80 r81 r82 r83 r84 r85 r86 r87 r88 r89 r90 r91 r92 r93 r94 r95 r96 r97 r98 r99 r100 r101 r102 r103 r104 r105 r106 r107 r108 r109 r110 r111 r112 r113 r114 r115 r116 r117 r118 r119 r120 r121 r122 r123 r124 r125 r126 r127 r128 r129 r130 r131 r132 r133 r134 r135 r136 r137 r138 r139 r140 r141 r142 r143 r144 r145 r146 r147 r148 r149 r150 r151 r152 r153 r154 r155 r156 r157 r158 r159 : Value), Hid (R = tellG kR D0) → Hid (Own w'' base A' c' R) → Hid (Fr (fun b => base ≤ b) w w'') → Q0 (.exit 2) ⟨List.toArray (.slice A n c :: s1 :: s2 :: s3 :: s4 :: .slice A' R.length c' :: .int .i64 (n : Int) :: r7 :: r8 :: s9 :: s10 :: s11 :: s12 :: s13 :: s14 :: s15 :: s16 :: s17 :: s18 :: s19 :: s20 :: s21 :: s22 :: s23 :: s24 :: r25 :: r26 :: r27 :: r28 :: r29 :: r30 :: r31 :: r32 :: r33 :: r34 :: r35 :: r36 :: r37 :: r38 :: r39 :: r40 :: r41 :: r42 :: r43 :: r44 :: r45 :: r46 :: r47 :: r48 :: r49 :: r50 :: r51 :: r52 :: r53 :: r54 :: r55 :: r56 :: r57 :: r58 :: r59 :: r60 :: r61 :: r62 :: r63 :: r64 :: r65 :: r66 :: r67 :: r68 :: r69 :: r70 :: r71 :: r72 :: r73 :: r74 :: r75 :: r76 :: r77 :: r78 :: r79 :: r80 :: r81 :: r82 :: r83 :: r84 :: r85 :: r86 :: r87 :: r88 :: r89 :: r90 :: r91 :: r92 :: r93 :: r94 :: r95 :: r96 :: r97 :: r98 :: r99 :: r100 :: r101 :: r102 :: r103 :: r104 :: r105 :: r106 :: r107 :: r108 :: r109 :: r110 :: r111 :: r112 :: r113 :: r114 :: r115 :: r116 :: r117 :: r118 :: r119 :: r120 :: r121 :: r122 :: r123 :: r124 :: r125 :: r126 :: r127 :: r128 :: r129 :: r130 :: r131 :: r132 :: r133 :: r134 :: r135 :: r136 :: r137 :: r138 :: r139 :: r140 :: r141 :: r142 :: r143 :: r144 :: r145 :: r146 :: r147 :: r148 :: r149 :: r150 :: r151 :: r152 :: r153 :: r154 :: r155 :: r156 :: r157 :: r158 :: r159 :: s160 :: []), []⟩ w'') :
    Code.wp Tryz.prog (Code.loop bMain) Q0 ⟨List.toArray (.slice A n c :: s1 :: s2 :: s3 :: s4 :: .slice none 0 0 :: .int .i64 0 :: s7 :: s8 :: s9 :: s10 :: s11 :: s12 :: s13 :: s14 :: s15 :: s16 :: s17 :: s18 :: s19 :: s20 :: s21 :: s22 :: s23 :: s24 :: s25 :: s26 :: s27 :: s28 :: s29 :: s30 :: s31 :: s32 :: s33 :: s34 :: s35 :: s36 :: s37 :: s38 :: s39 :: s40 :: s41 :: s42 :: s43 :: s44 :: s45 :: s46 :: s47 :: s48 :: s49 :: s50 :: s51 :: s52 :: s53 :: s54 :: s55 :: s56 :: s57 :: s58 :: s59 :: s60 :: s61 :: s62 :: s63 :: s64 :: s65 :: s66 :: s67 :: s68 :: s69 :: s70 :: s71 :: s72 :: s73 :: s74 :: s75 :: s76 :: s77 :: s78 :: s79 :: s80 :: s81 :: s82 :: s83 :: s84 :: s85 :: s86 :: s87 :: s88 :: s89 :: s90 :: s91 :: s92 :: s93 :: s94 :: s95 :: s96 :: s97 :: s98 :: s99 :: s100 :: s101 :: s102 :: s103 :: s104 :: s105 :: s106 :: s107 :: s108 :: s109 :: s110 :: s111 :: s112 :: s113 :: s114 :: s115 :: s116 :: s117 :: s118 :: s119 :: s120 :: s121 :: s122 :: s123 :: s124 :: s125 :: s126 :: s127 :: s128 :: s129 :: s130 :: s131 :: s132 :: s133 :: s134 :: s135 :: s136 :: s137 :: s138 :: s139 :: s140 :: s141 :: s142 :: s143 :: s144 :: s145 :: s146 :: s147 :: s148 :: s149 :: s150 :: s151 :: s152 :: s153 :: s154 :: s155 :: s156 :: s157 :: s158 :: s159 :: s160 :: []), []⟩ wc := by
  conv => arg 2; arg 1; whnf
  obtain ⟨R0, hR0⟩ : ∃ R0, R0 = tellG kR D0 := ⟨_, rfl⟩
  rw [← hR0] at HLEN hexit
  have HR0 := Lib.hid hR0
  have HLL := Lib.hid HL.out.1
  clear hR0
  go_loopw [5, 6] (fun o v wr => ∃ (i : Nat) (D : List ((Bool × List UInt8) × Nat)) (B : List UInt8) (A2 : Option Addr) (c2 : Nat), i ≤ n ∧ v = .int .i64 (i : Int) ∧ o = .slice A2 B.length c2 ∧ Hid (L.drop i = spreadG D) ∧ Hid (WF D) ∧ Hid (B ++ tellG kR D = R0) ∧ Hid (Own wr base A2 c2 B) ∧ Hid (Fr (fun b => base ≤ b) w wr)) (fun _ v _ => n - (intOf v).toNat)
  case atStart => exact ⟨0, D0, [], none, 0, Nat.zero_le _, rfl, rfl, HD0.out, HW0.out, HR0.out.symm, Own.nil _ _, HF0.out⟩
  case round =>
    obtain ⟨i, D, B, A2, c2, hi, rfl, rfl, HLD, HWD, HE, HO, HF⟩ := hrel
    rename World => wr
    have htot : n - i = total D := by rw [← spread_len, ← HLD.out, List.length_drop, HLL.out]
    match D, HLD, HWD, HE, htot with
    | [], HLD, HWD, HE, htot =>
      obtain rfl : i = n := by simp only [total] at htot; omega
      have he : R0 = B := by have h := HE.out; rw [tell_nil, List.append_nil] at h; exact h.symm
      have HE2 := Lib.hid he
      clear he htot
      go_wp2_with fail
      exact hexit _ _ _ _ _ _ _ _ _ _ _ _ _ _ _ _ _ _ _ _ _ _ _ _ _ _ _ _ _ _ _ _ _ _ _ _ _ _ _ _ _ _ _ _ _ _ _ _ _ _ _ _ _ _ _ _ _ _ _ _ _ _ _ _ _ _ _ _ _ _ _ _ _ _ _ _ _ _ _ _ _ _ _ _ _ _ _ _ _ _ _ _ _ _ _ _ _ _ _ _ _ _ _ _ _ _ _ _ _ _ _ _ _ _ _ _ _ _ _ _ _ _ _ _ _ _ _ _ _ _ _ _ _ _ _ _ _ _ _ _ _ (Lib.hid HE2.out.symm) HO HF
    | ((b, y), m) :: D', HLD, HWD, HE, htot =>
      have hm0 : 0 < m := HWD.out.1
      rw [total] at htot
      have hin : i < n := by omega
      have hat : ∀ t, L[i + t]? = (spreadG (((b, y), m) :: D'))[t]? := fun t => by rw [← HLD.out, List.getElem?_drop]
      have hci : L[i]? = some (b, y) := by have h := hat 0; rw [Nat.add_zero] at h; rw [h]; exact spread_head hm0
      have HAT := Lib.hid hat
      have HCI := Lib.hid hci
      obtain ⟨g, o, hA', hg, h1, h2⟩ := (HL.out.fr HF.out (fun ad e h => by have := HA.out ad e; omega)).2 i _ hci
      subst hA'
      simp only [sv] at h1 h2
      have HGB : Hid (g < base) := Lib.hid (HA.out _ rfl)
      obtain ⟨p, hp⟩ : ∃ p, p = i + 1 := ⟨_, rfl⟩
      have HP := Lib.hid hp
      have r1 : IntKind.i64.wrap ((i : Int) + 1) = (p : Int) := by rw [IntKind.wrap_i64]; omega
      have t0 : decide ((i : Int) < (n : Int)) = true := by simp; omega
      have t0' : decide (i < n) = true := by simp; omega
      have HLr := Lib.hid (HL.out.fr HF.out (fun ad e h => by have := HA.out ad e; omega))
      have hRl := HLEN.out
      have he := HE.out
      clear hat hci
      cases b with
      | false =>
        have hy : y = [] := by have h := HMAY.out i _ HCI.out rfl; injection h with _ h
        subst hy
        obtain ⟨e, hee⟩ : ∃ e, e = i + m := ⟨_, rfl⟩
        have hen : e ≤ n := by omega
        have hpe : p ≤ e := by omega
        have H1 : Hid (∀ j, p ≤ j → j < e → ∃ x, L[j]? = some (false, x)) := Lib.hid (fun j h3 h4 => ⟨[], by have h := HAT.out (j - i); rw [show i + (j - i) = j by omega] at h; rw [h]; exact spread_head (by omega)⟩)
        have H2 : Hid (e < n → ∃ x, L[e]? = some (true, x)) := Lib.hid (fun h => by
          obtain ⟨⟨d1, d2⟩, hd⟩ : ∃ d, L[e]? = some d := ⟨_, List.getElem?_eq_getElem (by rw [HLL.out]; exact h)⟩
          have h3 := HAT.out m
          rw [← hee, hd] at h3
          have hne := after_group HWD.out h3.symm
          cases d1 with
          | true => exact ⟨d2, hd⟩
          | false => exact absurd (HMAY.out e _ hd rfl) hne)
        have he2 : B ++ (s 0 ++ (u m ++ tellG kR D')) = R0 := by rw [← tell_none (K := kR)]; exact he
        rw [s_zero] at he2
        obtain ⟨B1, hB1⟩ : ∃ x, x = B ++ ([0] : List UInt8) := ⟨_, rfl⟩
        obtain ⟨B3, hB3⟩ : ∃ x, x = B1 ++ u m := ⟨_, rfl⟩
        have he3 : B3 ++ tellG kR D' = R0 := by rw [hB3, hB1, List.append_assoc, List.append_assoc]; exact he2
        have hl3 : B3.length ≤ 1000000000 := by rw [← he3, List.length_append] at hRl; omega
        have hl1 : B1.length ≤ 1000000000 := by rw [hB3, List.length_append] at hl3; omega
        obtain ⟨N1, hN1⟩ : ∃ x, x = B1.length := ⟨_, rfl⟩
        obtain ⟨N3, hN3⟩ : ∃ x, x = B3.length := ⟨_, rfl⟩
        have HB1 := Lib.hid hB1
        have HB3 := Lib.hid hB3
        have HN1 := Lib.hid hN1
        have HN3 := Lib.hid hN3
        have HE3 := Lib.hid he3
        have hl3' : N3 ≤ 1000000000 := by omega
        have hl1' : N1 ≤ 1000000000 := by omega
        have hm64 : m < 18446744073709551616 := by omega
        have r2 : IntKind.i64.wrap ((e : Int) - (i : Int)) = (m : Int) := by rw [IntKind.wrap_i64]; omega
        have r3 : IntKind.u64.wrap (m : Int) = (m : Int) := by rw [IntKind.wrap_u64]; omega
        have hld : L.drop e = spreadG D' := by
          have h := congrArg (List.drop m) HLD.out
          rw [List.drop_drop, ← hee] at h
          rw [h, spreadG, List.drop_left' (by simp)]
        have HLD2 := Lib.hid hld
        have HWD2 := Lib.hid HWD.out.2.2
        have hei : i < e := by omega
        clear hB1 hB3 hN1 hN3 he2 he3 he hRl hl3 hl1 hld hp hee htot h2
        go_wp2_with fail
        refine bl3 _ _ _ _ _ _ _ _ _ _ _ _ _ _ _ _ _ _ _ _ _ _ _ _ _ _ _ _ _ _ _ _ _ _ _ _ _ _ _ _ _ _ _ _ _ _ _ _ _ _ _ _ _ _ _ _ _ _ _ _ _ _ _ _ _ _ _ _ _ _ _ _ _ _ _ _ _ _ _ _ _ _ _ _ _ _ _ _ _ _ _ _ _ _ _ _ _ _ _ _ _ _ _ _ _ _ _ _ _ _ _ _ _ _ _ _ _ _ _ _ _ _ _ _ _ _ _ _ _ _ _ _ _ _ _ _ _ _ _ _ _ _ _ _ _ _ _ _ _ _ _ _ _ _ _ _ _ _ _ _ (some ⟨g, o, none⟩) n c p e L wr HLr hn hpe hen H1 H2 ?_
        intro w2 r37 r38 r39 r40 r41 r42 r43 r44 r45 r46 r47 r48 r49 r50 hf2
        have HF2 := Lib.hid (HF.out.trans (hf2.mono (T := fun b => base ≤ b) (fun _ _ h => h.elim)) (fun _ _ h => h))
        have HO2 := Lib.hid (HO.out.fr hf2)
        clear hf2 h1
        have hbs2 : base ≤ w2.heap.size := by have h1 := HF2.out.size; have h2 := HB.out; omega
        go_upto_region 16 with (at_builtin; refine wpList_appN u8T _ rfl _ _ rfl base _ _ _ rfl (HO2.out.alloc _) _ _ _ _ rfl (Rd.one _ _ _) (one_one _ _) N1 (by rw [HN1.out, HB1.out, List.length_append]; rfl) (by unfold maxLen; omega) (by omega) (by simp; omega) ?_)
        intro A5 c5 w3 _ _ hown5 hfr5 _
        have HO3 : Hid (w3.ownsRow base 5 1 (.slice A5 N1 c5) N1 (B1.map bytec)) := Lib.hid (by rw [HB1.out, List.map_append]; exact hown5)
        have HF3 := Lib.hid ((HF2.out.alloc _).trans (hfr5.mono (T := fun b => base ≤ b) (fun b _ h => (HO2.out.lt b h).1)) (fun _ _ h => h))
        clear hown5 hfr5
        go_wp2_with fail
        refine (rU_any m w3 hm64).mono ?_
        rintro e' w4 ⟨A4, c4, rfl, hO4, hf4⟩
        have HF4 := Lib.hid (HF3.out.trans (hf4.mono (T := fun b => base ≤ b) (fun _ _ h => h.elim)) (fun _ _ h => h))
        have HO4 := Lib.hid (hf4.own HO3.out (fun _ _ h => h))
        have HS4 := Lib.hid hO4
        clear hO4 hf4
        go_wp2_with (at_builtin; refine wpList_appN u8T _ rfl _ _ rfl base _ _ _ rfl HO4.out A4 _ c4 _ rfl HS4.out.rd (bytec_one _) N3 (by rw [HN3.out, HB3.out, List.length_append, HN1.out]) (by unfold maxLen; omega) (by omega) (by have h1 := HF4.out.size; have h2 := HB.out; omega) ?_)
        intro A6 c6 w5 _ _ hown6 hfr6 _
        have HO5 : Hid (Own w5 base A6 c6 B3) := Lib.hid (own_list3 HB3.out HN3.out hown6)
        have HF5 := Lib.hid (HF4.out.trans (hfr6.mono (T := fun b => base ≤ b) (fun b _ h => (HO4.out.lt b h).1)) (fun _ _ h => h))
        clear hown6 hfr6
        go_wp2
        exact ⟨⟨e, D', B3, A6, c6, hen, rfl, by rw [← HN3.out], HLD2.out, HWD2.out, HE3.out, HO5.out, HF5.out⟩, by simp [intOf]; omega⟩
      | true =>
        have hnz : ((true, y) : Bool × List UInt8) ≠ kR.zero := by intro h; injection h with h; cases h
        by_cases hm1 : 1 < m
        · -- like ones
          obtain ⟨e, hee⟩ : ∃ e, e = i + m := ⟨_, rfl⟩
          have hen : e ≤ n := by omega
          have hpe : p ≤ e := by omega
          have hpn : p < n := by omega
          have H1 : Hid (∀ j, p ≤ j → j < e → L[j]? = some (true, y)) := Lib.hid (fun j h3 h4 => by have h := HAT.out (j - i); rw [show i + (j - i) = j by omega] at h; rw [h]; exact spread_head (by omega))
          have H2 : Hid (e < n → ∃ d, L[e]? = some d ∧ d ≠ (true, y)) := Lib.hid (fun h => by
            obtain ⟨d, hd⟩ : ∃ d, L[e]? = some d := ⟨_, List.getElem?_eq_getElem (by rw [HLL.out]; exact h)⟩
            have h3 := HAT.out m
            rw [← hee, hd] at h3
            exact ⟨d, hd, after_group HWD.out h3.symm⟩)
          have hcp := H1.out p (Nat.le_refl _) (by omega)
          obtain ⟨g', o', hAA, hg', k1, k2⟩ := HLr.out.2 p _ hcp
          obtain ⟨rfl, rfl⟩ : g = g' ∧ o = o' := by injection hAA with hAA; injection hAA with e1 e2; exact ⟨e1, e2⟩
          simp only [sv] at k1 k2
          have q1 := fun (o p : Operand) (w : World) => cell_gdR .eql true true y y o p w
          have q2 := fun (w : World) => cell_eqlR true true y y w
          rw [decide_eq_true rfl] at q2
          have t1 : decide ((p : Int) < (n : Int)) = true := by simp; omega
          have t1' : decide (p < n) = true := by simp; omega
          have he2 : B ++ (s (m : Int) ++ (y ++ tellG kR D')) = R0 := by
            have h := tell_same (K := kR) hnz hm1 D'
            rw [h] at he
            exact he
          obtain ⟨B1, hB1⟩ : ∃ x, x = B ++ s (m : Int) := ⟨_, rfl⟩
          obtain ⟨B3, hB3⟩ : ∃ x, x = B1 ++ y := ⟨_, rfl⟩
          have he3 : B3 ++ tellG kR D' = R0 := by rw [hB3, hB1, List.append_assoc, List.append_assoc]; exact he2
          have hl3 : B3.length ≤ 1000000000 := by rw [← he3, List.length_append] at hRl; omega
          have hl1 : B1.length ≤ 1000000000 := by rw [hB3, List.length_append] at hl3; omega
          have HB1 := Lib.hid hB1
          have HB3 := Lib.hid hB3
          have HE3 := Lib.hid he3
          have r2 : IntKind.i64.wrap ((e : Int) - (i : Int)) = (m : Int) := by rw [IntKind.wrap_i64]; omega
          have hld : L.drop e = spreadG D' := by
            have h := congrArg (List.drop m) HLD.out
            rw [List.drop_drop, ← hee] at h
            rw [h, spreadG, List.drop_left' (by simp)]
          have HLD2 := Lib.hid hld
          have HWD2 := Lib.hid HWD.out.2.2
          have hei : i < e := by omega
          have hmlt : (m : Int) < 9223372036854775808 := by omega
          obtain ⟨Y, hY⟩ : ∃ Y, Y = txt y := ⟨_, rfl⟩
          have HY := Lib.hid hY
          clear hB1 hB3 he2 he3 he hRl hld hp hee htot hcp hAA hY hnz
          go_wp2_with fail
          go_quiet (fail)
          obtain ⟨wq, hwq⟩ : ∃ wq, wq = wr.drewN nq := ⟨_, rfl⟩
          have hfq : Fr (fun _ => False) wr wq := by rw [hwq]; exact (Fr.refl _ _).drewN nq
          rw [← hwq]
          have HLq := Lib.hid (HLr.out.fr hfq (fun _ _ h => h))
          have HFq := Lib.hid (HF.out.trans (hfq.mono (T := fun b => base ≤ b) (fun _ _ h => h.elim)) (fun _ _ h => h))
          have HOq := Lib.hid (HO.out.fr hfq)
          replace h2 := hfq.cell h2 (fun h => h)
          clear hwq hfq k1 k2 h1
          go_wp2_with fail
          refine bl4 _ _ _ _ _ _ _ _ _ _ _ _ _ _ _ _ _ _ _ _ _ _ _ _ _ _ _ _ _ _ _ _ _ _ _ _ _ _ _ _ _ _ _ _ _ _ _ _ _ _ _ _ _ _ _ _ _ _ _ _ _ _ _ _ _ _ _ _ _ _ _ _ _ _ _ _ _ _ _ _ _ _ _ _ _ _ _ _ _ _ _ _ _ _ _ _ _ _ _ _ _ _ _ _ _ _ _ _ _ _ _ _ _ _ _ _ _ _ _ _ _ _ _ _ _ _ _ _ _ _ _ _ _ _ _ _ _ _ _ _ _ _ _ _ _ _ _ _ _ _ _ _ _ _ _ _ _ _ _ (some ⟨g, o, none⟩) n c i p e true y L wq HLq hn hin HCI hpe hen H1 H2 ?_
          intro w2 r77 r78 r79 r80 r81 r82 r83 r84 r85 r86 r87 r88 r89 r90 r91 r92 r93 hf2
          have HF2 := Lib.hid (HFq.out.trans (hf2.mono (T := fun b => base ≤ b) (fun _ _ h => h.elim)) (fun _ _ h => h))
          have HO2 := Lib.hid (HOq.out.fr hf2)
          replace h2 := hf2.cell h2 (fun h => h)
          clear hf2
          go_wp2_with fail
          refine (rS_any (m : Int) w2 (by omega) hmlt).mono ?_
          rintro e' w3 ⟨A4, c4, rfl, hO4, hf4⟩
          have HF3 := Lib.hid (HF2.out.trans (hf4.mono (T := fun b => base ≤ b) (fun _ _ h => h.elim)) (fun _ _ h => h))
          have HO3 := Lib.hid (HO2.out.fr hf4)
          have HS4 := Lib.hid hO4
          replace h2 := hf4.cell h2 (fun h => h)
          rw [← HY.out] at h2
          clear hO4 hf4
          go_upto_region 22 with (at_builtin; refine wpList_appN u8T _ rfl _ _ rfl base _ _ _ rfl HO3.out A4 _ c4 _ rfl HS4.out.rd (bytec_one _) B1.length (by rw [HB1.out, List.length_append]) (by unfold maxLen; omega) (by omega) (by have h1 := HF3.out.size; have h2 := HB.out; omega) ?_)
          intro A5 c5 w4 _ _ hown5 hfr5 _
          have HO4 : Hid (Own w4 base A5 c5 B1) := Lib.hid (own_list3 HB1.out rfl hown5)
          have HF4 := Lib.hid (HF3.out.trans (hfr5.mono (T := fun b => base ≤ b) (fun b _ h => (HO3.out.lt b h).1)) (fun _ _ h => h))
          have hbk : ∀ b, (Value.slice A2 B.length c2).ownBlock = some b → base ≤ b := fun b h => (HO3.out.lt b h).1
          replace h2 := hfr5.cell h2 (fun h => by have k1 := hbk _ h; have k2 := HGB.out; simp only at k1; omega)
          have hbs4 : base ≤ w4.heap.size := by have h1 := HF4.out.size; have h2 := HB.out; omega
          clear hown5 hfr5 hbk
          go_wp2_with (at_builtin; refine wpList_app_txt Tryz.underlying34 Tryz.underlying9 (by kernel_rfl) _ rfl _ _ rfl base A5 c5 B1 y Y HY.out rfl HO4.out rfl B3 HB3.out hl3 hbs4 ?_)
          intro A6 c6 w5 hown6 hfr6
          have HO5 : Hid (Own w5 base A6 c6 B3) := Lib.hid hown6
          have HF5 := Lib.hid (HF4.out.trans (hfr6.mono (T := fun b => base ≤ b) (fun b _ h => (HO4.out.lt b h).1)) (fun _ _ h => h))
          clear hown6 hfr6 h2
          go_wp2
          exact ⟨⟨e, D', B3, A6, c6, hen, rfl, rfl, HLD2.out, HWD2.out, HE3.out, HO5.out, HF5.out⟩, by simp [intOf]; omega⟩
        · -- others
          obtain ⟨O, hO⟩ : ∃ O, O = othersG kR.zero (((true, y), m) :: D') := ⟨_, rfl⟩
          have hOp : 0 < O := by rw [hO]; exact others_pos hnz hm1 D'
          obtain ⟨DD, hDD⟩ : ∃ DD, DD = ((true, y), m) :: D' := ⟨_, rfl⟩
          rw [← hDD] at hO HWD HLD HAT
          have hOl : O ≤ DD.length := by rw [hO]; exact others_le _ _
          have hsp := fun t (h : t ≤ O) => spread_others kR.zero HWD.out t (by rw [← hO]; exact h)
          obtain ⟨e, hee⟩ : ∃ e, e = i + O := ⟨_, rfl⟩
          have hse : total DD = n - i := by rw [hDD, total]; omega
          have hOt : O ≤ total DD := by
            have h := total_take kR.zero DD HWD.out
            rw [← hO] at h
            have h2 : total DD = total (DD.take O) + total (DD.drop O) := by rw [← total_app, List.take_append_drop]
            omega
          have hen : e ≤ n := by omega
          have hpe : p ≤ e := by omega
          have hmayD : ∀ t d, t ≤ O → (DD[t]?).map (·.1) = some d → d ≠ kR.zero → d.1 = true := by
            intro t d ht hd hne
            have h := HAT.out t
            rw [hsp t ht, hd] at h
            cases hb : d.1 with
            | true => rfl
            | false => exact absurd (HMAY.out _ _ h hb) hne
          have H1 : Hid (∀ j, p ≤ j → j < e → ∃ x, L[j]? = some (true, x) ∧ (j + 1 < n → ∃ d, L[j + 1]? = some d ∧ d ≠ (true, x))) := Lib.hid (fun j h3 h4 => by
            have ht : j - i < O := by omega
            obtain ⟨⟨⟨d1, d2⟩, k⟩, hd⟩ : ∃ x, DD[j - i]? = some x := ⟨_, List.getElem?_eq_getElem (by omega)⟩
            have hmem := others_mem kR.zero DD (j - i) _ (by rw [← hO]; exact ht) hd
            have hj := HAT.out (j - i)
            rw [show i + (j - i) = j by omega, hsp _ (by omega), hd] at hj
            have hd1 : d1 = true := hmayD (j - i) (d1, d2) (by omega) (by rw [hd]; rfl) hmem.1
            subst hd1
            refine ⟨d2, hj, fun hjn => ?_⟩
            obtain ⟨d', hd'⟩ : ∃ d, L[j + 1]? = some d := ⟨_, List.getElem?_eq_getElem (by rw [HLL.out]; exact hjn)⟩
            refine ⟨d', hd', ?_⟩
            have hj1 := HAT.out (j - i + 1)
            rw [show i + (j - i + 1) = j + 1 by omega, hsp _ (by omega), hd'] at hj1
            obtain ⟨x, hx, hx2⟩ := Option.map_eq_some_iff.1 hj1.symm
            rw [← hx2]
            exact wf_adj HWD.out hd hx)
          have H2 : Hid (e < n → (∃ x, L[e]? = some (false, x)) ∨ ∃ x, L[e]? = some (true, x) ∧ L[e + 1]? = some (true, x) ∧ e + 1 < n) := Lib.hid (fun h => by
            obtain ⟨d, hd⟩ : ∃ d, L[e]? = some d := ⟨_, List.getElem?_eq_getElem (by rw [HLL.out]; exact h)⟩
            have h3 := HAT.out O
            rw [← hee, hsp O (Nat.le_refl _), hd] at h3
            obtain ⟨⟨x, k⟩, hx, hx2⟩ := Option.map_eq_some_iff.1 h3.symm
            simp only at hx2
            subst hx2
            have hst := others_stop kR.zero DD (x, k) (by rw [← hO]; exact hx)
            by_cases hz : x = kR.zero
            · left; rw [hz] at hd; exact ⟨[], hd⟩
            · right
              have hx1 : x.1 = true := hmayD O x (Nat.le_refl _) (by rw [hx]; rfl) hz
              have hk : 1 < k := by rcases hst with h | h; exact absurd h hz; exact h
              have h4 := spread_twice kR.zero HWD.out (by rw [← hO]; exact hx) hk
              rw [← hO, ← HAT.out, ← Nat.add_assoc, ← hee] at h4
              obtain ⟨x1, x2⟩ := x
              simp only at hx1
              subst hx1
              exact ⟨x2, hd, h4, by have := (List.getElem?_eq_some_iff.1 h4).1; rw [HLL.out] at this; exact this⟩)
          have HNX : Hid (p < n → ∃ d, L[p]? = some d ∧ d ≠ (true, y)) := Lib.hid (fun h => by
            obtain ⟨d, hd⟩ : ∃ d, L[p]? = some d := ⟨_, List.getElem?_eq_getElem (by rw [HLL.out]; exact h)⟩
            refine ⟨d, hd, ?_⟩
            have hj1 := HAT.out 1
            rw [← hp, hsp 1 (by omega), hd] at hj1
            obtain ⟨x, hx, hx2⟩ := Option.map_eq_some_iff.1 hj1.symm
            rw [← hx2]
            exact wf_adj HWD.out (t := 0) (a := ((true, y), m)) (by rw [hDD]; rfl) hx)
          have he2 : B ++ (s (-(O : Int)) ++ (puts kR (DD.take O) ++ tellG kR (DD.drop O))) = R0 := by
            have h := tell_other (K := kR) hnz hm1 D'
            rw [← hDD, ← hO] at h
            rw [← hDD, h] at he
            exact he
          rw [puts_flat] at he2
          obtain ⟨M, hM⟩ : ∃ M, M = (DD.take O).map (fun g => g.1.2) := ⟨_, rfl⟩
          rw [← hM] at he2
          have hMl : M.length = O := by rw [hM, List.length_map, List.length_take]; omega
          have H3 : Hid (∀ t z, M[t]? = some z → ∃ b, L[i + t]? = some (b, z)) := Lib.hid (fun t z hz => by
            rw [hM, List.getElem?_map, List.getElem?_take] at hz
            split at hz
            · next ht =>
              obtain ⟨x, hx, hx2⟩ := Option.map_eq_some_iff.1 hz
              have hj := HAT.out t
              rw [hsp t (by omega), hx] at hj
              obtain ⟨⟨x1, x2⟩, k⟩ := x
              simp only at hx2
              subst hx2
              exact ⟨x1, hj⟩
            · cases hz)
          obtain ⟨B1, hB1⟩ : ∃ x, x = B ++ s (-(O : Int)) := ⟨_, rfl⟩
          have he3 : B1 ++ M.flatten ++ tellG kR (DD.drop O) = R0 := by rw [hB1, List.append_assoc, List.append_assoc]; exact he2
          have hl3 : B1.length + M.flatten.length ≤ 1000000000 := by rw [← he3, List.length_append, List.length_append] at hRl; omega
          have HB1 := Lib.hid hB1
          have HE3 := Lib.hid he3
          have HL3 := Lib.hid hl3
          have HMe : Hid (e = i + M.length) := Lib.hid (by rw [hMl]; exact hee)
          have hl1 : B1.length ≤ 1000000000 := by omega
          have r2 : IntKind.i64.wrap ((i : Int) - (e : Int)) = -(O : Int) := by rw [IntKind.wrap_i64]; omega
          have hld : L.drop e = spreadG (DD.drop O) := by
            have h := congrArg (List.drop O) HLD.out
            rw [List.drop_drop, ← hee] at h
            rw [h, hO, spread_drop kR.zero HWD.out]
          have HLD2 := Lib.hid hld
          have HWD2 := Lib.hid (wf_drop HWD.out O)
          have hei : i < e := by omega
          have hOlt : -9223372036854775808 ≤ -(O : Int) := by omega
          have hmayD2 := HWD.out
          clear hmayD hmayD2 hsp hB1 he2 he3 he hRl hld hee htot hse hOt hO hDD hM hMl hnz hm1 hm0 hOl
          by_cases hpn : p < n
          · obtain ⟨⟨b2, y2⟩, hcp, hne⟩ := HNX.out hpn
            obtain ⟨g', o', hAA, hg', k1, k2⟩ := HLr.out.2 p _ hcp
            obtain ⟨rfl, rfl⟩ : g = g' ∧ o = o' := by injection hAA with hAA; injection hAA with e1 e2; exact ⟨e1, e2⟩
            simp only [sv] at k1 k2
            have q1 := fun (o p : Operand) (w : World) => cell_gdR .eql b2 true y2 y o p w
            have q2 := fun (w : World) => cell_eqlR b2 true y2 y w
            rw [decide_eq_false hne] at q2
            have t1 : decide ((p : Int) < (n : Int)) = true := by simp; omega
            have t1' : decide (p < n) = true := by simp; omega
            clear hcp hAA hp
            go_wp2_with fail
            go_quiet (fail)
            clear k1 k2
            obtain ⟨wq, hwq⟩ : ∃ wq, wq = wr.drewN nq := ⟨_, rfl⟩
            have hfq : Fr (fun _ => False) wr wq := by rw [hwq]; exact (Fr.refl _ _).drewN nq
            rw [← hwq]
            have HLq := Lib.hid (HLr.out.fr hfq (fun _ _ h => h))
            have HFq := Lib.hid (HF.out.trans (hfq.mono (T := fun b => base ≤ b) (fun _ _ h => h.elim)) (fun _ _ h => h))
            have HOq := Lib.hid (HO.out.fr hfq)
            clear hwq hfq h1 h2
            go_wp2_with fail
            refine bl5 _ _ _ _ _ _ _ _ _ _ _ _ _ _ _ _ _ _ _ _ _ _ _ _ _ _ _ _ _ _ _ _ _ _ _ _ _ _ _ _ _ _ _ _ _ _ _ _ _ _ _ _ _ _ _ _ _ _ _ _ _ _ _ _ _ _ _ _ _ _ _ _ _ _ _ _ _ _ _ _ _ _ _ _ _ _ _ _ _ _ _ _ _ _ _ _ _ _ _ _ _ _ _ _ _ _ _ _ _ _ _ _ _ _ _ _ _ _ _ _ _ _ _ _ _ _ _ _ _ _ _ _ _ _ _ _ _ _ _ _ _ _ _ _ _ _ _ _ _ _ _ _ _ _ _ _ _ _ _ _ (some ⟨g, o, none⟩) n c p e L wq HLq hn hpe hen H1 H2 ?_
            intro w2 r108 r109 r110 r111 r112 r113 r114 r115 r116 r117 r118 r119 r120 r121 r122 r123 r124 r125 r126 r127 r128 r129 r130 r131 r132 r133 r134 r135 r136 r137 r138 r139 hf2
            have HF2 := Lib.hid (HFq.out.trans (hf2.mono (T := fun b => base ≤ b) (fun _ _ h => h.elim)) (fun _ _ h => h))
            have HO2 := Lib.hid (HOq.out.fr hf2)
            clear hf2
            go_wp2_with fail
            refine (rS_any (-(O : Int)) w2 hOlt (by omega)).mono ?_
            rintro e' w3 ⟨A4, c4, rfl, hO4, hf4⟩
            have HF3 := Lib.hid (HF2.out.trans (hf4.mono (T := fun b => base ≤ b) (fun _ _ h => h.elim)) (fun _ _ h => h))
            have HO3 := Lib.hid (HO2.out.fr hf4)
            have HS4 := Lib.hid hO4
            clear hO4 hf4
            go_upto_region 27 with (at_builtin; refine wpList_appN u8T _ rfl _ _ rfl base _ _ _ rfl HO3.out A4 _ c4 _ rfl HS4.out.rd (bytec_one _) B1.length (by rw [HB1.out, List.length_append]) (by unfold maxLen; omega) (by omega) (by have h1 := HF3.out.size; have h2 := HB.out; omega) ?_)
            intro A5 c5 w4 _ _ hown5 hfr5 _
            have HO4 : Hid (Own w4 base A5 c5 B1) := Lib.hid (own_list3 HB1.out rfl hown5)
            have HF4 : Hid (Fr (fun b => base ≤ b) w w4) := Lib.hid (HF3.out.trans (hfr5.mono (T := fun b => base ≤ b) (fun b _ h => (HO3.out.lt b h).1)) (fun _ _ h => h))
            clear hown5 hfr5
            go_upto_region 27 with fail
            go_wp2_with fail
            refine bl6 _ _ _ _ _ _ _ _ _ _ _ _ _ _ _ _ _ _ _ _ _ _ _ _ _ _ _ _ _ _ _ _ _ _ _ _ _ _ _ _ _ _ _ _ _ _ _ _ _ _ _ _ _ _ _ _ _ _ _ _ _ _ _ _ _ _ _ _ _ _ _ _ _ _ _ _ _ _ _ _ _ _ _ _ _ _ _ _ _ _ _ _ _ _ _ _ _ _ _ _ _ _ _ _ _ _ _ _ _ _ _ _ _ _ _ _ _ _ _ _ _ _ _ _ _ _ _ _ _ _ _ _ _ _ _ _ _ _ _ _ _ _ _ _ _ _ _ _ _ _ _ _ _ _ _ _ _ _ base (some ⟨g, o, none⟩) A5 n c c5 i e L M B1 w w4 HL HA hn hen HMe H3 HO4 HF4 HB HL3 ?_
            intro A6 c6 B3 w5 r147 r148 r149 r150 r151 r152 r153 r154 r155 r156 r157 r158 HB3 HO5 HF5
            go_wp2_with fail
            exact ⟨⟨e, DD.drop O, B3, A6, c6, hen, rfl, rfl, HLD2.out, HWD2.out, by rw [HB3.out]; exact HE3.out, HO5.out, HF5.out⟩, by simp [intOf]; omega⟩
          · have t1 : decide ((p : Int) < (n : Int)) = false := by simp; omega
            have t1' : decide (p < n) = false := by simp; omega
            clear hp
            go_wp2_with fail
            go_quiet (fail)
            obtain ⟨wq, hwq⟩ : ∃ wq, wq = wr.drewN nq := ⟨_, rfl⟩
            have hfq : Fr (fun _ => False) wr wq := by rw [hwq]; exact (Fr.refl _ _).drewN nq
            rw [← hwq]
            have HLq := Lib.hid (HLr.out.fr hfq (fun _ _ h => h))
            have HFq := Lib.hid (HF.out.trans (hfq.mono (T := fun b => base ≤ b) (fun _ _ h => h.elim)) (fun _ _ h => h))
            have HOq := Lib.hid (HO.out.fr hfq)
            clear hwq hfq h1 h2
            go_wp2_with fail
            refine bl5 _ _ _ _ _ _ _ _ _ _ _ _ _ _ _ _ _ _ _ _ _ _ _ _ _ _ _ _ _ _ _ _ _ _ _ _ _ _ _ _ _ _ _ _ _ _ _ _ _ _ _ _ _ _ _ _ _ _ _ _ _ _ _ _ _ _ _ _ _ _ _ _ _ _ _ _ _ _ _ _ _ _ _ _ _ _ _ _ _ _ _ _ _ _ _ _ _ _ _ _ _ _ _ _ _ _ _ _ _ _ _ _ _ _ _ _ _ _ _ _ _ _ _ _ _ _ _ _ _ _ _ _ _ _ _ _ _ _ _ _ _ _ _ _ _ _ _ _ _ _ _ _ _ _ _ _ _ _ _ _ (some ⟨g, o, none⟩) n c p e L wq HLq hn hpe hen H1 H2 ?_
            intro w2 r108 r109 r110 r111 r112 r113 r114 r115 r116 r117 r118 r119 r120 r121 r122 r123 r124 r125 r126 r127 r128 r129 r130 r131 r132 r133 r134 r135 r136 r137 r138 r139 hf2
            have HF2 := Lib.hid (HFq.out.trans (hf2.mono (T := fun b => base ≤ b) (fun _ _ h => h.elim)) (fun _ _ h => h))
            have HO2 := Lib.hid (HOq.out.fr hf2)
            clear hf2
            go_wp2_with fail
            refine (rS_any (-(O : Int)) w2 hOlt (by omega)).mono ?_
            rintro e' w3 ⟨A4, c4, rfl, hO4, hf4⟩
            have HF3 := Lib.hid (HF2.out.trans (hf4.mono (T := fun b => base ≤ b) (fun _ _ h => h.elim)) (fun _ _ h => h))
            have HO3 := Lib.hid (HO2.out.fr hf4)
            have HS4 := Lib.hid hO4
            clear hO4 hf4
            go_upto_region 27 with (at_builtin; refine wpList_appN u8T _ rfl _ _ rfl base _ _ _ rfl HO3.out A4 _ c4 _ rfl HS4.out.rd (bytec_one _) B1.length (by rw [HB1.out, List.length_append]) (by unfold maxLen; omega) (by omega) (by have h1 := HF3.out.size; have h2 := HB.out; omega) ?_)
            intro A5 c5 w4 _ _ hown5 hfr5 _
            have HO4 : Hid (Own w4 base A5 c5 B1) := Lib.hid (own_list3 HB1.out rfl hown5)
            have HF4 : Hid (Fr (fun b => base ≤ b) w w4) := Lib.hid (HF3.out.trans (hfr5.mono (T := fun b => base ≤ b) (fun b _ h => (HO3.out.lt b h).1)) (fun _ _ h => h))
            clear hown5 hfr5
            go_upto_region 27 with fail
            go_wp2_with fail
            refine bl6 _ _ _ _ _ _ _ _ _ _ _ _ _ _ _ _ _ _ _ _ _ _ _ _ _ _ _ _ _ _ _ _ _ _ _ _ _ _ _ _ _ _ _ _ _ _ _ _ _ _ _ _ _ _ _ _ _ _ _ _ _ _ _ _ _ _ _ _ _ _ _ _ _ _ _ _ _ _ _ _ _ _ _ _ _ _ _ _ _ _ _ _ _ _ _ _ _ _ _ _ _ _ _ _ _ _ _ _ _ _ _ _ _ _ _ _ _ _ _ _ _ _ _ _ _ _ _ _ _ _ _ _ _ _ _ _ _ _ _ _ _ _ _ _ _ _ _ _ _ _ _ _ _ _ _ _ _ _ base (some ⟨g, o, none⟩) A5 n c c5 i e L M B1 w w4 HL HA hn hen HMe H3 HO4 HF4 HB HL3 ?_
            intro A6 c6 B3 w5 r147 r148 r149 r150 r151 r152 r153 r154 r155 r156 r157 r158 HB3 HO5 HF5
            go_wp2_with fail
            exact ⟨⟨e, DD.drop O, B3, A6, c6, hen, rfl, rfl, HLD2.out, HWD2.out, by rw [HB3.out]; exact HE3.out, HO5.out, HF5.out⟩, by simp [intOf]; omega⟩

end Go.Proofs.YtedmnkcoflbciaaGreat
