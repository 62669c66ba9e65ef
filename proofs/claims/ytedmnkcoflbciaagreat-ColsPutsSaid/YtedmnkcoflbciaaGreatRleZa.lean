/-
  Layer 11, the reference: Bytes's inner loops (written by gen_bytes.py).
-/
import Derived.Test.YtedmnkcoflbciaaGreatZm45
import Derived.Test.YtedmnkcoflbciaaGreatZm18
import Derived.Test.YtedmnkcoflbciaaGreatZm20
namespace Go.Proofs.YtedmnkcoflbciaaGreat
open Go.RowKit Mem Go.Lib RleM LebM
attribute [local go_sem ↓] Go.wp_at_zero Go.wp_at_succ
set_option linter.unusedVariables false

set_option maxRecDepth 1000000 in
noncomputable def bIn3 : Code := ((Tryz.f27.body.bind (loopAt 13)).getD .skip)

set_option maxRecDepth 1000000 in
set_option maxHeartbeats 3200000 in
theorem bl3 (Q0 : Exit → Act → World → Prop) (s1 s2 s3 s4 s5 s6 s8 s9 s10 s11 s12 s13 s14 s15 s16 s17 s18 s19 s20 s21 s22 s23 s24 s25 s26 s27 s28 s29 s30 s31 s32 s33 s34 s35 s36 s37 s38 s39 s40 s41 s42 s43 s44 s45 s46 s47 s48 s49 s50 s51 s52 s53 s54 s55 s56 s57 s58 s59 s60 s61 s62 s63 s64 s65 s66 s67 s68 s69 s70 s71 s72 s73 s74 s75 s76 s77 s78 s79 s80 s81 s82 s83 s84 s85 s86 s87 s88 s89 s90 s91 s92 s93 s94 s95 s96 s97 s98 s99 s100 s101 s102 s103 s104 s105 s106 s107 s108 s109 s110 s111 s112 s113 s114 s115 s116 s117 s118 s119 s120 s121 s122 s123 s124 s125 s126 s127 s128 s129 s130 s131 s132 s133 s134 s135 s136 s137 s138 s139 s140 s141 s142 s143 s144 s145 s146 s147 s148 s149 s150 s151 s152 s153 s154 s155 s156 s157 s158 s159 s160 : Value) (A : Option Addr) (n c k0 e : Nat) (L : List (Bool × List UInt8)) (wc : World) (HL : Hid (Cls sv wc A n L)) (hn : n ≤ 1000000) (hk : k0 ≤ e) (he : e ≤ n)
    (H1 : Hid (∀ j, k0 ≤ j → j < e → ∃ x, L[j]? = some (false, x))) (H2 : Hid (e < n → ∃ x, L[e]? = some (true, x)))
    (hexit : ∀ (w'' : World) (r37 r38 r39 r40 r41 r42 r43 r44 r45 r46 r47 r48 r49 r50 : Value), Fr (fun _ => False) wc w'' → Q0 (.exit 4) ⟨List.toArray (.slice A n c :: s1 :: s2 :: s3 :: s4 :: s5 :: s6 :: .int .i64 (e : Int) :: s8 :: s9 :: s10 :: s11 :: s12 :: s13 :: s14 :: s15 :: s16 :: s17 :: s18 :: s19 :: s20 :: s21 :: s22 :: s23 :: s24 :: s25 :: s26 :: s27 :: s28 :: s29 :: s30 :: s31 :: s32 :: s33 :: s34 :: s35 :: s36 :: r37 :: r38 :: r39 :: r40 :: r41 :: r42 :: r43 :: r44 :: r45 :: r46 :: r47 :: r48 :: r49 :: r50 :: s51 :: s52 :: s53 :: s54 :: s55 :: s56 :: s57 :: s58 :: s59 :: s60 :: s61 :: s62 :: s63 :: s64 :: s65 :: s66 :: s67 :: s68 :: s69 :: s70 :: s71 :: s72 :: s73 :: s74 :: s75 :: s76 :: s77 :: s78 :: s79 :: s80 :: s81 :: s82 :: s83 :: s84 :: s85 :: s86 :: s87 :: s88 :: s89 :: s90 :: s91 :: s92 :: s93 :: s94 :: s95 :: s96 :: s97 :: s98 :: s99 :: s100 :: s101 :: s102 :: s103 :: s104 :: s105 :: s106 :: s107 :: s108 :: s109 :: s110 :: s111 :: s112 :: s113 :: s114 :: s115 :: s116 :: s117 :: s118 :: s119 :: s120 :: s121 :: s122 :: s123 :: s124 :: s125 :: s126 :: s127 :: s128 :: s129 :: s130 :: s131 :: s132 :: s133 :: s134 :: s135 :: s136 :: s137 :: s138 :: s139 :: s140 :: s141 :: s142 :: s143 :: s144 :: s145 :: s146 :: s147 :: s148 :: s149 :: s150 :: s151 :: s152 :: s153 :: s154 :: s155 :: s156 :: s157 :: s158 :: s159 :: s160 :: []), []⟩ w'') :
    Code.wp Tryz.prog (Code.loop bIn3) Q0 ⟨List.toArray (.slice A n c :: s1 :: s2 :: s3 :: s4 :: s5 :: s6 :: .int .i64 (k0 : Int) :: s8 :: s9 :: s10 :: s11 :: s12 :: s13 :: s14 :: s15 :: s16 :: s17 :: s18 :: s19 :: s20 :: s21 :: s22 :: s23 :: s24 :: s25 :: s26 :: s27 :: s28 :: s29 :: s30 :: s31 :: s32 :: s33 :: s34 :: s35 :: s36 :: s37 :: s38 :: s39 :: s40 :: s41 :: s42 :: s43 :: s44 :: s45 :: s46 :: s47 :: s48 :: s49 :: s50 :: s51 :: s52 :: s53 :: s54 :: s55 :: s56 :: s57 :: s58 :: s59 :: s60 :: s61 :: s62 :: s63 :: s64 :: s65 :: s66 :: s67 :: s68 :: s69 :: s70 :: s71 :: s72 :: s73 :: s74 :: s75 :: s76 :: s77 :: s78 :: s79 :: s80 :: s81 :: s82 :: s83 :: s84 :: s85 :: s86 :: s87 :: s88 :: s89 :: s90 :: s91 :: s92 :: s93 :: s94 :: s95 :: s96 :: s97 :: s98 :: s99 :: s100 :: s101 :: s102 :: s103 :: s104 :: s105 :: s106 :: s107 :: s108 :: s109 :: s110 :: s111 :: s112 :: s113 :: s114 :: s115 :: s116 :: s117 :: s118 :: s119 :: s120 :: s121 :: s122 :: s123 :: s124 :: s125 :: s126 :: s127 :: s128 :: s129 :: s130 :: s131 :: s132 :: s133 :: s134 :: s135 :: s136 :: s137 :: s138 :: s139 :: s140 :: s141 :: s142 :: s143 :: s144 :: s145 :: s146 :: s147 :: s148 :: s149 :: s150 :: s151 :: s152 :: s153 :: s154 :: s155 :: s156 :: s157 :: s158 :: s159 :: s160 :: []), []⟩ wc := by
  conv => arg 2; arg 1; whnf
  go_loopw [7] (fun v wr => ∃ k : Nat, k0 ≤ k ∧ k ≤ e ∧ v = .int .i64 (k : Int) ∧ Hid (Fr (fun _ => False) wc wr)) (fun v _ => e - (intOf v).toNat)
  case atStart => exact ⟨k0, Nat.le_refl _, hk, rfl, Fr.refl _ _⟩
  case round =>
    obtain ⟨k, hk0, hke, rfl, HF⟩ := hrel
    rename World => wr
    by_cases hlt : k < e
    · obtain ⟨x, hx⟩ := H1.out k hk0 hlt
      obtain ⟨g, o, rfl, hg, h1, h2⟩ := (HL.out.fr HF.out (fun _ _ => id)).2 k _ hx
      simp only at h1
      have t1 : decide ((k : Int) < (n : Int)) = true := by simp; omega
      have t1' : decide (k < n) = true := by simp; omega
      have hkn : k < n := by omega
      clear hx h2
      go_wp2_with fail
      exact ⟨⟨k + 1, by omega, by omega, by go_num, HF.out⟩, by simp [intOf]; omega⟩
    · obtain rfl : k = e := by omega
      by_cases hen : k < n
      · obtain ⟨x, hx⟩ := H2.out hen
        obtain ⟨g, o, rfl, hg, h1, h2⟩ := (HL.out.fr HF.out (fun _ _ => id)).2 k _ hx
        simp only at h1
        have t1 : decide ((k : Int) < (n : Int)) = true := by simp; omega
        have t1' : decide (k < n) = true := by simp; omega
        clear hx h2
        go_wp2_with fail
        exact HF.out
      · have t1 : decide ((k : Int) < (n : Int)) = false := by simp; omega
        have t1' : decide (k < n) = false := by simp; omega
        go_wp2_with fail
        exact HF.out

set_option maxRecDepth 1000000 in
noncomputable def bIn4 : Code := ((Tryz.f27.body.bind (loopAt 19)).getD .skip)

set_option maxRecDepth 1000000 in
set_option maxHeartbeats 3200000 in
theorem bl4 (Q0 : Exit → Act → World → Prop) (s1 s2 s3 s4 s5 s8 s9 s10 s11 s12 s13 s14 s15 s16 s17 s18 s19 s20 s21 s22 s23 s24 s25 s26 s27 s28 s29 s30 s31 s32 s33 s34 s35 s36 s37 s38 s39 s40 s41 s42 s43 s44 s45 s46 s47 s48 s49 s50 s51 s52 s53 s54 s55 s56 s57 s58 s59 s60 s61 s62 s63 s64 s65 s66 s67 s68 s69 s70 s71 s72 s73 s74 s75 s76 s77 s78 s79 s80 s81 s82 s83 s84 s85 s86 s87 s88 s89 s90 s91 s92 s93 s94 s95 s96 s97 s98 s99 s100 s101 s102 s103 s104 s105 s106 s107 s108 s109 s110 s111 s112 s113 s114 s115 s116 s117 s118 s119 s120 s121 s122 s123 s124 s125 s126 s127 s128 s129 s130 s131 s132 s133 s134 s135 s136 s137 s138 s139 s140 s141 s142 s143 s144 s145 s146 s147 s148 s149 s150 s151 s152 s153 s154 s155 s156 s157 s158 s159 s160 : Value) (A : Option Addr) (n c i k0 e : Nat) (b : Bool) (y : List UInt8) (L : List (Bool × List UInt8)) (wc : World) (HL : Hid (Cls sv wc A n L)) (hn : n ≤ 1000000) (hi : i < n) (HI : Hid (L[i]? = some (b, y))) (hk : k0 ≤ e) (he : e ≤ n)
    (H1 : Hid (∀ j, k0 ≤ j → j < e → L[j]? = some (b, y))) (H2 : Hid (e < n → ∃ d, L[e]? = some d ∧ d ≠ (b, y)))
    (hexit : ∀ (w'' : World) (r77 r78 r79 r80 r81 r82 r83 r84 r85 r86 r87 r88 r89 r90 r91 r92 r93 : Value), Fr (fun _ => False) wc w'' → Q0 (.exit 6) ⟨List.toArray (.slice A n c :: s1 :: s2 :: s3 :: s4 :: s5 :: .int .i64 (i : Int) :: .int .i64 (e : Int) :: s8 :: s9 :: s10 :: s11 :: s12 :: s13 :: s14 :: s15 :: s16 :: s17 :: s18 :: s19 :: s20 :: s21 :: s22 :: s23 :: s24 :: s25 :: s26 :: s27 :: s28 :: s29 :: s30 :: s31 :: s32 :: s33 :: s34 :: s35 :: s36 :: s37 :: s38 :: s39 :: s40 :: s41 :: s42 :: s43 :: s44 :: s45 :: s46 :: s47 :: s48 :: s49 :: s50 :: s51 :: s52 :: s53 :: s54 :: s55 :: s56 :: s57 :: s58 :: s59 :: s60 :: s61 :: s62 :: s63 :: s64 :: s65 :: s66 :: s67 :: s68 :: s69 :: s70 :: s71 :: s72 :: s73 :: s74 :: s75 :: s76 :: r77 :: r78 :: r79 :: r80 :: r81 :: r82 :: r83 :: r84 :: r85 :: r86 :: r87 :: r88 :: r89 :: r90 :: r91 :: r92 :: r93 :: s94 :: s95 :: s96 :: s97 :: s98 :: s99 :: s100 :: s101 :: s102 :: s103 :: s104 :: s105 :: s106 :: s107 :: s108 :: s109 :: s110 :: s111 :: s112 :: s113 :: s114 :: s115 :: s116 :: s117 :: s118 :: s119 :: s120 :: s121 :: s122 :: s123 :: s124 :: s125 :: s126 :: s127 :: s128 :: s129 :: s130 :: s131 :: s132 :: s133 :: s134 :: s135 :: s136 :: s137 :: s138 :: s139 :: s140 :: s141 :: s142 :: s143 :: s144 :: s145 :: s146 :: s147 :: s148 :: s149 :: s150 :: s151 :: s152 :: s153 :: s154 :: s155 :: s156 :: s157 :: s158 :: s159 :: s160 :: []), []⟩ w'') :
    Code.wp Tryz.prog (Code.loop bIn4) Q0 ⟨List.toArray (.slice A n c :: s1 :: s2 :: s3 :: s4 :: s5 :: .int .i64 (i : Int) :: .int .i64 (k0 : Int) :: s8 :: s9 :: s10 :: s11 :: s12 :: s13 :: s14 :: s15 :: s16 :: s17 :: s18 :: s19 :: s20 :: s21 :: s22 :: s23 :: s24 :: s25 :: s26 :: s27 :: s28 :: s29 :: s30 :: s31 :: s32 :: s33 :: s34 :: s35 :: s36 :: s37 :: s38 :: s39 :: s40 :: s41 :: s42 :: s43 :: s44 :: s45 :: s46 :: s47 :: s48 :: s49 :: s50 :: s51 :: s52 :: s53 :: s54 :: s55 :: s56 :: s57 :: s58 :: s59 :: s60 :: s61 :: s62 :: s63 :: s64 :: s65 :: s66 :: s67 :: s68 :: s69 :: s70 :: s71 :: s72 :: s73 :: s74 :: s75 :: s76 :: s77 :: s78 :: s79 :: s80 :: s81 :: s82 :: s83 :: s84 :: s85 :: s86 :: s87 :: s88 :: s89 :: s90 :: s91 :: s92 :: s93 :: s94 :: s95 :: s96 :: s97 :: s98 :: s99 :: s100 :: s101 :: s102 :: s103 :: s104 :: s105 :: s106 :: s107 :: s108 :: s109 :: s110 :: s111 :: s112 :: s113 :: s114 :: s115 :: s116 :: s117 :: s118 :: s119 :: s120 :: s121 :: s122 :: s123 :: s124 :: s125 :: s126 :: s127 :: s128 :: s129 :: s130 :: s131 :: s132 :: s133 :: s134 :: s135 :: s136 :: s137 :: s138 :: s139 :: s140 :: s141 :: s142 :: s143 :: s144 :: s145 :: s146 :: s147 :: s148 :: s149 :: s150 :: s151 :: s152 :: s153 :: s154 :: s155 :: s156 :: s157 :: s158 :: s159 :: s160 :: []), []⟩ wc := by
  conv => arg 2; arg 1; whnf
  go_loopw [7] (fun v wr => ∃ k : Nat, k0 ≤ k ∧ k ≤ e ∧ v = .int .i64 (k : Int) ∧ Hid (Fr (fun _ => False) wc wr)) (fun v _ => e - (intOf v).toNat)
  case atStart => exact ⟨k0, Nat.le_refl _, hk, rfl, Fr.refl _ _⟩
  case round =>
    obtain ⟨k, hk0, hke, rfl, HF⟩ := hrel
    rename World => wr
    obtain ⟨g', o', hA', hg', k1, k2⟩ := (HL.out.fr HF.out (fun _ _ => id)).2 i _ HI.out
    subst hA'
    simp only [sv] at k1 k2
    by_cases hlt : k < e
    · have hx := H1.out k hk0 hlt
      obtain ⟨g, o, hAA, hg, h1, h2⟩ := (HL.out.fr HF.out (fun _ _ => id)).2 k _ hx
      obtain ⟨rfl, rfl⟩ : g' = g ∧ o' = o := by injection hAA with hAA; injection hAA with e1 e2; exact ⟨e1, e2⟩
      simp only [sv] at h1 h2
      have q1 := fun (o p : Operand) (w : World) => cell_gdR .eql b b y y o p w
      have q2 := fun (w : World) => cell_eqlR b b y y w
      rw [decide_eq_true rfl] at q2
      have t1 : decide ((k : Int) < (n : Int)) = true := by simp; omega
      have t1' : decide (k < n) = true := by simp; omega
      have hkn : k < n := by omega
      clear hx hAA
      go_wp2_with fail
      go_quiet (fail)
      have HF2 := Lib.hid (HF.out.drewN nq)
      clear h1 h2 k1 k2
      go_wp2_with fail
      exact ⟨⟨k + 1, by omega, by omega, by go_num, HF2.out⟩, by simp [intOf]; omega⟩
    · obtain rfl : k = e := by omega
      by_cases hen : k < n
      · obtain ⟨⟨b2, y2⟩, hx, hne⟩ := H2.out hen
        obtain ⟨g, o, hAA, hg, h1, h2⟩ := (HL.out.fr HF.out (fun _ _ => id)).2 k _ hx
        obtain ⟨rfl, rfl⟩ : g' = g ∧ o' = o := by injection hAA with hAA; injection hAA with e1 e2; exact ⟨e1, e2⟩
        simp only [sv] at h1 h2
        have q1 := fun (o p : Operand) (w : World) => cell_gdR .eql b2 b y2 y o p w
        have q2 := fun (w : World) => cell_eqlR b2 b y2 y w
        rw [decide_eq_false hne] at q2
        have t1 : decide ((k : Int) < (n : Int)) = true := by simp; omega
        have t1' : decide (k < n) = true := by simp; omega
        clear hx hAA
        go_wp2_with fail
        go_quiet (fail)
        have HF2 := Lib.hid (HF.out.drewN nq)
        clear h1 h2 k1 k2
        go_wp2_with fail
        exact HF2.out
      · have t1 : decide ((k : Int) < (n : Int)) = false := by simp; omega
        have t1' : decide (k < n) = false := by simp; omega
        go_wp2_with fail
        go_quiet (fail)
        have HF2 := Lib.hid (HF.out.drewN nq)
        clear k1 k2
        go_wp2_with fail
        exact HF2.out

set_option maxRecDepth 1000000 in
noncomputable def bIn5 : Code := ((Tryz.f27.body.bind (loopAt 24)).getD .skip)

set_option maxRecDepth 1000000 in
set_option maxHeartbeats 6400000 in
theorem bl5 (Q0 : Exit → Act → World → Prop) (s1 s2 s3 s4 s5 s6 s8 s9 s10 s11 s12 s13 s14 s15 s16 s17 s18 s19 s20 s21 s22 s23 s24 s25 s26 s27 s28 s29 s30 s31 s32 s33 s34 s35 s36 s37 s38 s39 s40 s41 s42 s43 s44 s45 s46 s47 s48 s49 s50 s51 s52 s53 s54 s55 s56 s57 s58 s59 s60 s61 s62 s63 s64 s65 s66 s67 s68 s69 s70 s71 s72 s73 s74 s75 s76 s77 s78 s79 s80 s81 s82 s83 s84 s85 s86 s87 s88 s89 s90 s91 s92 s93 s94 s95 s96 s97 s98 s99 s100 s101 s102 s103 s104 s105 s106 s107 s108 s109 s110 s111 s112 s113 s114 s115 s116 s117 s118 s119 s120 s121 s122 s123 s124 s125 s126 s127 s128 s129 s130 s131 s132 s133 s134 s135 s136 s137 s138 s139 s140 s141 s142 s143 s144 s145 s146 s147 s148 s149 s150 s151 s152 s153 s154 s155 s156 s157 s158 s159 s160 : Value) (A : Option Addr) (n c k0 e : Nat) (L : List (Bool × List UInt8)) (wc : World) (HL : Hid (Cls sv wc A n L)) (hn : n ≤ 1000000) (hk : k0 ≤ e) (he : e ≤ n)
    (H1 : Hid (∀ j, k0 ≤ j → j < e → ∃ x, L[j]? = some (true, x) ∧ (j + 1 < n → ∃ d, L[j + 1]? = some d ∧ d ≠ (true, x)))) (H2 : Hid (e < n → (∃ x, L[e]? = some (false, x)) ∨ ∃ x, L[e]? = some (true, x) ∧ L[e + 1]? = some (true, x) ∧ e + 1 < n))
    (hexit : ∀ (w'' : World) (r108 r109 r110 r111 r112 r113 r114 r115 r116 r117 r118 r119 r120 r121 r122 r123 r124 r125 r126 r127 r128 r129 r130 r131 r132 r133 r134 r135 r136 r137 r138 r139 : Value), Fr (fun _ => False) wc w'' → Q0 (.exit 8) ⟨List.toArray (.slice A n c :: s1 :: s2 :: s3 :: s4 :: s5 :: s6 :: .int .i64 (e : Int) :: s8 :: s9 :: s10 :: s11 :: s12 :: s13 :: s14 :: s15 :: s16 :: s17 :: s18 :: s19 :: s20 :: s21 :: s22 :: s23 :: s24 :: s25 :: s26 :: s27 :: s28 :: s29 :: s30 :: s31 :: s32 :: s33 :: s34 :: s35 :: s36 :: s37 :: s38 :: s39 :: s40 :: s41 :: s42 :: s43 :: s44 :: s45 :: s46 :: s47 :: s48 :: s49 :: s50 :: s51 :: s52 :: s53 :: s54 :: s55 :: s56 :: s57 :: s58 :: s59 :: s60 :: s61 :: s62 :: s63 :: s64 :: s65 :: s66 :: s67 :: s68 :: s69 :: s70 :: s71 :: s72 :: s73 :: s74 :: s75 :: s76 :: s77 :: s78 :: s79 :: s80 :: s81 :: s82 :: s83 :: s84 :: s85 :: s86 :: s87 :: s88 :: s89 :: s90 :: s91 :: s92 :: s93 :: s94 :: s95 :: s96 :: s97 :: s98 :: s99 :: s100 :: s101 :: s102 :: s103 :: s104 :: s105 :: s106 :: s107 :: r108 :: r109 :: r110 :: r111 :: r112 :: r113 :: r114 :: r115 :: r116 :: r117 :: r118 :: r119 :: r120 :: r121 :: r122 :: r123 :: r124 :: r125 :: r126 :: r127 :: r128 :: r129 :: r130 :: r131 :: r132 :: r133 :: r134 :: r135 :: r136 :: r137 :: r138 :: r139 :: s140 :: s141 :: s142 :: s143 :: s144 :: s145 :: s146 :: s147 :: s148 :: s149 :: s150 :: s151 :: s152 :: s153 :: s154 :: s155 :: s156 :: s157 :: s158 :: s159 :: s160 :: []), []⟩ w'') :
    Code.wp Tryz.prog (Code.loop bIn5) Q0 ⟨List.toArray (.slice A n c :: s1 :: s2 :: s3 :: s4 :: s5 :: s6 :: .int .i64 (k0 : Int) :: s8 :: s9 :: s10 :: s11 :: s12 :: s13 :: s14 :: s15 :: s16 :: s17 :: s18 :: s19 :: s20 :: s21 :: s22 :: s23 :: s24 :: s25 :: s26 :: s27 :: s28 :: s29 :: s30 :: s31 :: s32 :: s33 :: s34 :: s35 :: s36 :: s37 :: s38 :: s39 :: s40 :: s41 :: s42 :: s43 :: s44 :: s45 :: s46 :: s47 :: s48 :: s49 :: s50 :: s51 :: s52 :: s53 :: s54 :: s55 :: s56 :: s57 :: s58 :: s59 :: s60 :: s61 :: s62 :: s63 :: s64 :: s65 :: s66 :: s67 :: s68 :: s69 :: s70 :: s71 :: s72 :: s73 :: s74 :: s75 :: s76 :: s77 :: s78 :: s79 :: s80 :: s81 :: s82 :: s83 :: s84 :: s85 :: s86 :: s87 :: s88 :: s89 :: s90 :: s91 :: s92 :: s93 :: s94 :: s95 :: s96 :: s97 :: s98 :: s99 :: s100 :: s101 :: s102 :: s103 :: s104 :: s105 :: s106 :: s107 :: s108 :: s109 :: s110 :: s111 :: s112 :: s113 :: s114 :: s115 :: s116 :: s117 :: s118 :: s119 :: s120 :: s121 :: s122 :: s123 :: s124 :: s125 :: s126 :: s127 :: s128 :: s129 :: s130 :: s131 :: s132 :: s133 :: s134 :: s135 :: s136 :: s137 :: s138 :: s139 :: s140 :: s141 :: s142 :: s143 :: s144 :: s145 :: s146 :: s147 :: s148 :: s149 :: s150 :: s151 :: s152 :: s153 :: s154 :: s155 :: s156 :: s157 :: s158 :: s159 :: s160 :: []), []⟩ wc := by
  conv => arg 2; arg 1; whnf
  go_loopw [7] (fun v wr => ∃ k : Nat, k0 ≤ k ∧ k ≤ e ∧ v = .int .i64 (k : Int) ∧ Hid (Fr (fun _ => False) wc wr)) (fun v _ => e - (intOf v).toNat)
  case atStart => exact ⟨k0, Nat.le_refl _, hk, rfl, Fr.refl _ _⟩
  case round =>
    obtain ⟨k, hk0, hke, rfl, HF⟩ := hrel
    rename World => wr
    obtain ⟨p, hp⟩ : ∃ p, p = k + 1 := ⟨_, rfl⟩
    have r1 : IntKind.i64.wrap ((k : Int) + 1) = (p : Int) := by rw [IntKind.wrap_i64]; omega
    have r1' : (k : Int) + 1 = (p : Int) := by omega
    have HP := Lib.hid hp
    by_cases hlt : k < e
    · obtain ⟨x, hx, hd⟩ := H1.out k hk0 hlt
      obtain ⟨g, o, rfl, hg, h1, h2⟩ := (HL.out.fr HF.out (fun _ _ => id)).2 k _ hx
      simp only [sv] at h1 h2
      have t1 : decide ((k : Int) < (n : Int)) = true := by simp; omega
      have t1' : decide (k < n) = true := by simp; omega
      have hkn : k < n := by omega
      by_cases hpn : p < n
      · obtain ⟨⟨b2, y2⟩, hx2, hne⟩ := hd (by omega)
        rw [← hp] at hx2
        obtain ⟨g', o', hAA, hg', k1, k2⟩ := (HL.out.fr HF.out (fun _ _ => id)).2 p _ hx2
        obtain ⟨rfl, rfl⟩ : g = g' ∧ o = o' := by injection hAA with hAA; injection hAA with e1 e2; exact ⟨e1, e2⟩
        simp only [sv] at k1 k2
        have q1 := fun (o p : Operand) (w : World) => cell_gdR .neq b2 true y2 x o p w
        have q2 := fun (w : World) => cell_neqR b2 true y2 x w
        rw [decide_eq_false hne] at q2
        have t2 : ((p : Int) == (n : Int)) = false := by simp; omega
        have t2' : (p == n) = false := by simp; omega
        clear hx hd hx2 hAA hp
        go_wp2_with fail
        go_quiet (fail)
        have HF2 := Lib.hid (HF.out.drewN nq)
        clear h1 h2 k1 k2
        go_wp2_with fail
        exact ⟨⟨p, by have := HP.out; omega, by have := HP.out; omega, rfl, HF2.out⟩, by simp [intOf]; have := HP.out; omega⟩
      · have t2 : ((p : Int) == (n : Int)) = true := by simp; omega
        have t2' : (p == n) = true := by simp; omega
        clear hx hd hp
        go_wp2_with fail
        go_quiet (fail)
        have HF2 := Lib.hid (HF.out.drewN nq)
        clear h1 h2
        go_wp2_with fail
        exact ⟨⟨p, by have := HP.out; omega, by have := HP.out; omega, rfl, HF2.out⟩, by simp [intOf]; have := HP.out; omega⟩
    · obtain rfl : k = e := by omega
      by_cases hen : k < n
      · have t1 : decide ((k : Int) < (n : Int)) = true := by simp; omega
        have t1' : decide (k < n) = true := by simp; omega
        rcases H2.out hen with ⟨x, hx⟩ | ⟨x, hx, hx2, hpn⟩
        · obtain ⟨g, o, rfl, hg, h1, h2⟩ := (HL.out.fr HF.out (fun _ _ => id)).2 k _ hx
          simp only [sv] at h1 h2
          clear hx h2 hp
          go_wp2_with fail
          go_quiet (fail)
          have HF2 := Lib.hid (HF.out.drewN nq)
          clear h1
          go_wp2_with fail
          exact HF2.out
        · obtain ⟨g, o, rfl, hg, h1, h2⟩ := (HL.out.fr HF.out (fun _ _ => id)).2 k _ hx
          rw [← hp] at hx2 hpn
          obtain ⟨g', o', hAA, hg', k1, k2⟩ := (HL.out.fr HF.out (fun _ _ => id)).2 p _ hx2
          obtain ⟨rfl, rfl⟩ : g = g' ∧ o = o' := by injection hAA with hAA; injection hAA with e1 e2; exact ⟨e1, e2⟩
          simp only [sv] at h1 h2 k1 k2
          obtain ⟨b2, hb2⟩ : ∃ b2, b2 = true := ⟨_, rfl⟩
          obtain ⟨y2, hy2⟩ : ∃ y2, y2 = x := ⟨_, rfl⟩
          have q1 := fun (o p : Operand) (w : World) => cell_gdR .neq b2 true y2 x o p w
          have q2 := fun (w : World) => cell_neqR b2 true y2 x w
          rw [decide_eq_true (by rw [hb2, hy2])] at q2
          subst hb2 hy2
          have t2 : ((p : Int) == (n : Int)) = false := by simp; omega
          have t2' : (p == n) = false := by simp; omega
          clear hx hx2 hAA hp
          go_wp2_with fail
          go_quiet (fail)
          have HF2 := Lib.hid (HF.out.drewN nq)
          clear h1 h2 k1 k2
          go_wp2_with fail
          exact HF2.out
      · have t1 : decide ((k : Int) < (n : Int)) = false := by simp; omega
        have t1' : decide (k < n) = false := by simp; omega
        clear hp
        go_wp2_with fail
        go_quiet (fail)
        have HF2 := Lib.hid (HF.out.drewN nq)
        go_wp2_with fail
        exact HF2.out

set_option maxRecDepth 1000000 in
noncomputable def bIn6 : Code := ((Tryz.f27.body.bind (loopAt 28)).getD .skip)

set_option maxRecDepth 1000000 in
set_option maxHeartbeats 3200000 in
theorem bl6 (Q0 : Exit → Act → World → Prop) (s1 s2 s3 s4 s6 s9 s10 s11 s12 s13 s14 s15 s16 s17 s18 s19 s20 s21 s22 s23 s24 s25 s26 s27 s28 s29 s30 s31 s32 s33 s34 s35 s36 s37 s38 s39 s40 s41 s42 s43 s44 s45 s46 s47 s48 s49 s50 s51 s52 s53 s54 s55 s56 s57 s58 s59 s60 s61 s62 s63 s64 s65 s66 s67 s68 s69 s70 s71 s72 s73 s74 s75 s76 s77 s78 s79 s80 s81 s82 s83 s84 s85 s86 s87 s88 s89 s90 s91 s92 s93 s94 s95 s96 s97 s98 s99 s100 s101 s102 s103 s104 s105 s106 s107 s108 s109 s110 s111 s112 s113 s114 s115 s116 s117 s118 s119 s120 s121 s122 s123 s124 s125 s126 s127 s128 s129 s130 s131 s132 s133 s134 s135 s136 s137 s138 s139 s140 s141 s142 s143 s144 s145 s146 s147 s148 s149 s150 s151 s152 s153 s154 s155 s156 s157 s158 s159 s160 : Value) (base : Nat) (A A2 : Option Addr) (n c c2 i e : Nat) (L : List (Bool × List UInt8)) (M : List (List UInt8)) (B : List UInt8) (w wc : World) (HL : Hid (Cls sv w A n L)) (HA : Hid (∀ ad, A = some ad → ad.block < base)) (hn : n ≤ 1000000) (he : e ≤ n)
    (HM : Hid (e = i + M.length)) (H1 : Hid (∀ t y, M[t]? = some y → ∃ b, L[i + t]? = some (b, y))) (HO : Hid (Own wc base A2 c2 B)) (HF : Hid (Fr (fun b => base ≤ b) w wc)) (HB : Hid (base ≤ w.heap.size)) (HLEN : Hid (B.length + M.flatten.length ≤ 1000000000))
    (hexit : ∀ (A' : Option Addr) (c' : Nat) (B2 : List UInt8) (w'' : World) (r147 r148 r149 r150 r151 r152 r153 r154 r155 r156 r157 r158 : Value), Hid (B2 = B ++ M.flatten) → Hid (Own w'' base A' c' B2) → Hid (Fr (fun b => base ≤ b) w w'') → Q0 (.exit 10) ⟨List.toArray (.slice A n c :: s1 :: s2 :: s3 :: s4 :: .slice A' B2.length c' :: s6 :: .int .i64 (e : Int) :: .int .i64 (e : Int) :: s9 :: s10 :: s11 :: s12 :: s13 :: s14 :: s15 :: s16 :: s17 :: s18 :: s19 :: s20 :: s21 :: s22 :: s23 :: s24 :: s25 :: s26 :: s27 :: s28 :: s29 :: s30 :: s31 :: s32 :: s33 :: s34 :: s35 :: s36 :: s37 :: s38 :: s39 :: s40 :: s41 :: s42 :: s43 :: s44 :: s45 :: s46 :: s47 :: s48 :: s49 :: s50 :: s51 :: s52 :: s53 :: s54 :: s55 :: s56 :: s57 :: s58 :: s59 :: s60 :: s61 :: s62 :: s63 :: s64 :: s65 :: s66 :: s67 :: s68 :: s69 :: s70 :: s71 :: s72 :: s73 :: s74 :: s75 :: s76 :: s77 :: s78 :: s79 :: s80 :: s81 :: s82 :: s83 :: s84 :: s85 :: s86 :: s87 :: s88 :: s89 :: s90 :: s91 :: s92 :: s93 :: s94 :: s95 :: s96 :: s97 :: s98 :: s99 :: s100 :: s101 :: s102 :: s103 :: s104 :: s105 :: s106 :: s107 :: s108 :: s109 :: s110 :: s111 :: s112 :: s113 :: s114 :: s115 :: s116 :: s117 :: s118 :: s119 :: s120 :: s121 :: s122 :: s123 :: s124 :: s125 :: s126 :: s127 :: s128 :: s129 :: s130 :: s131 :: s132 :: s133 :: s134 :: s135 :: s136 :: s137 :: s138 :: s139 :: s140 :: s141 :: s142 :: s143 :: s144 :: s145 :: s146 :: r147 :: r148 :: r149 :: r150 :: r151 :: r152 :: r153 :: r154 :: r155 :: r156 :: r157 :: r158 :: s159 :: s160 :: []), []⟩ w'') :
    Code.wp Tryz.prog (Code.loop bIn6) Q0 ⟨List.toArray (.slice A n c :: s1 :: s2 :: s3 :: s4 :: .slice A2 B.length c2 :: s6 :: .int .i64 (e : Int) :: .int .i64 (i : Int) :: s9 :: s10 :: s11 :: s12 :: s13 :: s14 :: s15 :: s16 :: s17 :: s18 :: s19 :: s20 :: s21 :: s22 :: s23 :: s24 :: s25 :: s26 :: s27 :: s28 :: s29 :: s30 :: s31 :: s32 :: s33 :: s34 :: s35 :: s36 :: s37 :: s38 :: s39 :: s40 :: s41 :: s42 :: s43 :: s44 :: s45 :: s46 :: s47 :: s48 :: s49 :: s50 :: s51 :: s52 :: s53 :: s54 :: s55 :: s56 :: s57 :: s58 :: s59 :: s60 :: s61 :: s62 :: s63 :: s64 :: s65 :: s66 :: s67 :: s68 :: s69 :: s70 :: s71 :: s72 :: s73 :: s74 :: s75 :: s76 :: s77 :: s78 :: s79 :: s80 :: s81 :: s82 :: s83 :: s84 :: s85 :: s86 :: s87 :: s88 :: s89 :: s90 :: s91 :: s92 :: s93 :: s94 :: s95 :: s96 :: s97 :: s98 :: s99 :: s100 :: s101 :: s102 :: s103 :: s104 :: s105 :: s106 :: s107 :: s108 :: s109 :: s110 :: s111 :: s112 :: s113 :: s114 :: s115 :: s116 :: s117 :: s118 :: s119 :: s120 :: s121 :: s122 :: s123 :: s124 :: s125 :: s126 :: s127 :: s128 :: s129 :: s130 :: s131 :: s132 :: s133 :: s134 :: s135 :: s136 :: s137 :: s138 :: s139 :: s140 :: s141 :: s142 :: s143 :: s144 :: s145 :: s146 :: s147 :: s148 :: s149 :: s150 :: s151 :: s152 :: s153 :: s154 :: s155 :: s156 :: s157 :: s158 :: s159 :: s160 :: []), []⟩ wc := by
  conv => arg 2; arg 1; whnf
  go_loopw [5, 8] (fun b v wr => ∃ (k : Nat) (t : Nat) (B' : List UInt8) (A3 : Option Addr) (c3 : Nat), k ≤ e ∧ v = .int .i64 (k : Int) ∧ b = .slice A3 B'.length c3 ∧ Hid (k = i + t) ∧ Hid (B' = B ++ (M.take t).flatten) ∧ Hid (Own wr base A3 c3 B') ∧ Hid (Fr (fun b => base ≤ b) w wr)) (fun _ v _ => e - (intOf v).toNat)
  case atStart => exact ⟨i, 0, B, A2, c2, by have := HM.out; omega, rfl, rfl, (by omega : i = i + 0), (by simp : B = B ++ (M.take 0).flatten), HO.out, HF.out⟩
  case round =>
    obtain ⟨k, t, B', A3, c3, hk, rfl, rfl, HK, HB', HO3, HF3⟩ := hrel
    rename World => wr
    by_cases hlt : k < e
    · obtain ⟨y, hy⟩ : ∃ y, M[t]? = some y := ⟨_, List.getElem?_eq_getElem (by have := HM.out; have := HK.out; omega)⟩
      obtain ⟨b, hx⟩ := H1.out t y hy
      rw [← HK.out] at hx
      obtain ⟨g, o, rfl, hg, h1, h2⟩ := (HL.out.fr HF3.out (fun ad e h => by have := HA.out ad e; omega)).2 k _ hx
      simp only [sv] at h1 h2
      obtain ⟨B4, hB4⟩ : ∃ B4, B4 = B' ++ y := ⟨_, rfl⟩
      have hB4' : B4 = B ++ (M.take (t + 1)).flatten := by rw [hB4, HB'.out, List.take_add_one, hy]; simp
      have hB4l : B4.length ≤ 1000000000 := by
        have h := HLEN.out
        have e1 : M.flatten = (M.take (t + 1)).flatten ++ (M.drop (t + 1)).flatten := by rw [← List.flatten_append, List.take_append_drop]
        rw [e1, List.length_append] at h
        rw [hB4', List.length_append]
        omega
      have HB4 := Lib.hid hB4
      have HB4' := Lib.hid hB4'
      have hkn : k < n := by omega
      have hbs : base ≤ wr.heap.size := by have := HB.out; have := HF3.out.size; omega
      obtain ⟨Y, hY⟩ : ∃ Y, Y = txt y := ⟨_, rfl⟩
      rw [← hY] at h2
      have HY := Lib.hid hY
      clear hy hx hB4 hB4' hY
      go_wp2_with (at_builtin; refine wpList_app_txt Tryz.underlying34 Tryz.underlying9 (by kernel_rfl) _ rfl _ _ rfl base A3 c3 B' y Y HY.out rfl HO3.out rfl B4 HB4.out hB4l hbs ?_)
      intro A' c' w' hown' hfr'
      have HO5 : Hid (Own w' base A' c' B4) := Lib.hid hown'
      have HF5 : Hid (Fr (fun b => base ≤ b) w w') := Lib.hid (HF3.out.trans (hfr'.mono (T := fun b => base ≤ b) (fun b _ h => (HO3.out.lt b h).1)) (fun _ _ h => h))
      clear hown' hfr'
      go_wp2
      go_roundw
      case rel => exact ⟨k + 1, t + 1, B4, A', c', by omega, by go_num, rfl, (by have := HK.out; omega : k + 1 = i + (t + 1)), HB4'.out, HO5.out, HF5.out⟩
      case measure => simp [intOf] <;> omega
    · obtain rfl : k = e := by omega
      have hx : B' = B ++ M.flatten := by rw [HB'.out, List.take_of_length_le (by have := HK.out; have := HM.out; omega)]
      have HX := Lib.hid hx
      clear hx
      go_wp2_with fail
      exact hexit _ _ _ _ _ _ _ _ _ _ _ _ _ _ _ _ HX HO3 HF3

end Go.Proofs.YtedmnkcoflbciaaGreat
