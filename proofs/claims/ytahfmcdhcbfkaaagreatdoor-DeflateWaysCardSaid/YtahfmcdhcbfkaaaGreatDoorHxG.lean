/-
  The loops of the library's symMerge at numbers: two rows of swaps (written by gen_sym.py).
-/
import Derived.Test.YtahfmcdhcbfkaaaGreatDoorHxE
import Derived.Test.YtahfmcdhcbfkaaaGreatDoorZm08
namespace Go.Proofs.YtahfmcdhcbfkaaaGreatDoor
open Go.RowKit HuffM Mem Go.Lib
attribute [local go_sem ↓] Go.wp_at_zero Go.wp_at_succ
set_option linter.unusedVariables false


set_option maxRecDepth 1000000 in
noncomputable def sw1Body : Code := ((Tryz.f96.body.bind (loopAt 11)).getD .skip)
set_option maxRecDepth 1000000 in
set_option maxHeartbeats 3200000 in
theorem sw1_loop (Q0 : Exit → Act → World → Prop) (s1 s2 s3 s4 s5 s6 s7 s8 s9 s11 s12 s14 s15 s16 s17 s18 s19 s20 s21 s22 s23 s24 s25 s26 s27 s28 s29 s30 s31 s32 s33 s34 s35 s36 s37 s38 s39 s40 s41 s42 s43 s44 s45 s46 s47 s48 s49 s50 s51 s52 s53 s54 s55 s56 s57 s58 s59 s60 s61 s62 s63 s64 s65 s66 s67 s68 s69 s70 s71 s72 s73 s74 s75 s76 s77 s78 s79 s80 s81 s82 s83 s84 s85 s86 s87 s88 s89 s90 s91 s92 s93 s94 s95 s96 s97 s98 s99 s100 s101 s102 s103 s104 s105 s106 s107 s108 s109 s110 s111 s112 s113 s114 s115 s116 s117 s118 s119 s120 s121 s122 s123 s124 s125 s126 s127 s128 s129 s130 s131 s132 s133 s134 s135 s136 s137 s138 s139 s140 s141 s142 s143 s144 s145 s146 s147 s148 s149 s150 s151 s152 s153 s154 s155 s156 s157 s158 s159 s160 s161 s162 s163 s164 s165 s166 s167 s168 s169 s170 s171 s172 s173 s174 s175 s176 s177 s178 s179 s180 s181 s182 s183 s184 s185 s186 s187 s188 s189 s190 s191 s192 s193 s194 s195 s196 s197 s198 s199 s200 s201 s202 s203 s204 s205 s206 s207 s208 s209 s210 s211 s212 s213 s214 s215 s216 s217 s218 s219 : Value) (g n c i k0 x : Nat) (P B S : List Nat) (w0 : World) (HC : Hid (Col w0 g (P ++ (x :: (B ++ S))))) (HL0 : Hid (n = P.length + 1 + B.length + S.length ∧ k0 = P.length ∧ i = P.length + 1 + B.length)) (hn : n ≤ 1000) (hki : k0 < i) (hin : i ≤ n)
    (hexit : ∀  (w'' : World) (r13 r55 r56 r57 r58 r59 r60 r61 r62 r63 r64 r65 r66 r67 r68 r69 r70 r71 r72 r73 r74 r75 r76 : Value), Hid (Col w'' g (P ++ (B ++ (x :: S)))) → Hid (Fr (fun b => b = g) w0 w'') → Q0 (.exit 2) ⟨List.toArray (.slice (some ⟨g, 0, none⟩) n c :: s1 :: s2 :: s3 :: s4 :: s5 :: s6 :: s7 :: s8 :: s9 :: .int .i64 (i : Int) :: s11 :: s12 :: r13 :: s14 :: s15 :: s16 :: s17 :: s18 :: s19 :: s20 :: s21 :: s22 :: s23 :: s24 :: s25 :: s26 :: s27 :: s28 :: s29 :: s30 :: s31 :: s32 :: s33 :: s34 :: s35 :: s36 :: s37 :: s38 :: s39 :: s40 :: s41 :: s42 :: s43 :: s44 :: s45 :: s46 :: s47 :: s48 :: s49 :: s50 :: s51 :: s52 :: s53 :: s54 :: r55 :: r56 :: r57 :: r58 :: r59 :: r60 :: r61 :: r62 :: r63 :: r64 :: r65 :: r66 :: r67 :: r68 :: r69 :: r70 :: r71 :: r72 :: r73 :: r74 :: r75 :: r76 :: s77 :: s78 :: s79 :: s80 :: s81 :: s82 :: s83 :: s84 :: s85 :: s86 :: s87 :: s88 :: s89 :: s90 :: s91 :: s92 :: s93 :: s94 :: s95 :: s96 :: s97 :: s98 :: s99 :: s100 :: s101 :: s102 :: s103 :: s104 :: s105 :: s106 :: s107 :: s108 :: s109 :: s110 :: s111 :: s112 :: s113 :: s114 :: s115 :: s116 :: s117 :: s118 :: s119 :: s120 :: s121 :: s122 :: s123 :: s124 :: s125 :: s126 :: s127 :: s128 :: s129 :: s130 :: s131 :: s132 :: s133 :: s134 :: s135 :: s136 :: s137 :: s138 :: s139 :: s140 :: s141 :: s142 :: s143 :: s144 :: s145 :: s146 :: s147 :: s148 :: s149 :: s150 :: s151 :: s152 :: s153 :: s154 :: s155 :: s156 :: s157 :: s158 :: s159 :: s160 :: s161 :: s162 :: s163 :: s164 :: s165 :: s166 :: s167 :: s168 :: s169 :: s170 :: s171 :: s172 :: s173 :: s174 :: s175 :: s176 :: s177 :: s178 :: s179 :: s180 :: s181 :: s182 :: s183 :: s184 :: s185 :: s186 :: s187 :: s188 :: s189 :: s190 :: s191 :: s192 :: s193 :: s194 :: s195 :: s196 :: s197 :: s198 :: s199 :: s200 :: s201 :: s202 :: s203 :: s204 :: s205 :: s206 :: s207 :: s208 :: s209 :: s210 :: s211 :: s212 :: s213 :: s214 :: s215 :: s216 :: s217 :: s218 :: s219 :: []), []⟩ w'') :
    Code.wp Tryz.prog (Code.loop sw1Body) Q0 ⟨List.toArray (.slice (some ⟨g, 0, none⟩) n c :: s1 :: s2 :: s3 :: s4 :: s5 :: s6 :: s7 :: s8 :: s9 :: .int .i64 (i : Int) :: s11 :: s12 :: .int .i64 (k0 : Int) :: s14 :: s15 :: s16 :: s17 :: s18 :: s19 :: s20 :: s21 :: s22 :: s23 :: s24 :: s25 :: s26 :: s27 :: s28 :: s29 :: s30 :: s31 :: s32 :: s33 :: s34 :: s35 :: s36 :: s37 :: s38 :: s39 :: s40 :: s41 :: s42 :: s43 :: s44 :: s45 :: s46 :: s47 :: s48 :: s49 :: s50 :: s51 :: s52 :: s53 :: s54 :: s55 :: s56 :: s57 :: s58 :: s59 :: s60 :: s61 :: s62 :: s63 :: s64 :: s65 :: s66 :: s67 :: s68 :: s69 :: s70 :: s71 :: s72 :: s73 :: s74 :: s75 :: s76 :: s77 :: s78 :: s79 :: s80 :: s81 :: s82 :: s83 :: s84 :: s85 :: s86 :: s87 :: s88 :: s89 :: s90 :: s91 :: s92 :: s93 :: s94 :: s95 :: s96 :: s97 :: s98 :: s99 :: s100 :: s101 :: s102 :: s103 :: s104 :: s105 :: s106 :: s107 :: s108 :: s109 :: s110 :: s111 :: s112 :: s113 :: s114 :: s115 :: s116 :: s117 :: s118 :: s119 :: s120 :: s121 :: s122 :: s123 :: s124 :: s125 :: s126 :: s127 :: s128 :: s129 :: s130 :: s131 :: s132 :: s133 :: s134 :: s135 :: s136 :: s137 :: s138 :: s139 :: s140 :: s141 :: s142 :: s143 :: s144 :: s145 :: s146 :: s147 :: s148 :: s149 :: s150 :: s151 :: s152 :: s153 :: s154 :: s155 :: s156 :: s157 :: s158 :: s159 :: s160 :: s161 :: s162 :: s163 :: s164 :: s165 :: s166 :: s167 :: s168 :: s169 :: s170 :: s171 :: s172 :: s173 :: s174 :: s175 :: s176 :: s177 :: s178 :: s179 :: s180 :: s181 :: s182 :: s183 :: s184 :: s185 :: s186 :: s187 :: s188 :: s189 :: s190 :: s191 :: s192 :: s193 :: s194 :: s195 :: s196 :: s197 :: s198 :: s199 :: s200 :: s201 :: s202 :: s203 :: s204 :: s205 :: s206 :: s207 :: s208 :: s209 :: s210 :: s211 :: s212 :: s213 :: s214 :: s215 :: s216 :: s217 :: s218 :: s219 :: []), []⟩ w0 := by
  refine Code.wp_mono (onExit_imp (n := 2)) ?_
  conv => arg 2; arg 1; whnf
  obtain ⟨i1, hi1⟩ : ∃ i1, i1 = i - 1 := ⟨_, rfl⟩
  have ei : (i : Int) - 1 = (i1 : Int) := by omega
  go_loopw [13] (fun vk wr => ∃ (k : Nat) (B1 B2 : List Nat), vk = .int .i64 (k : Int) ∧ k0 ≤ k ∧ k ≤ i1 ∧ Hid (B = B1 ++ B2 ∧ k = P.length + B1.length) ∧ Hid (Col wr g (P ++ (B1 ++ (x :: (B2 ++ S))))) ∧ Fr (fun b => b = g) w0 wr)
    (fun vk _ => i1 - (intOf vk).toNat)
  case atStart => exact ⟨k0, [], B, rfl, by omega, by omega, ⟨rfl, HL0.out.2.1⟩, HC, Fr.refl _ _⟩
  case round =>
    clear HC
    obtain ⟨k, B1, B2, rfl, hk0, hki1, HB, HCj, hfr⟩ := hrel
    by_cases hlt : k < i1
    · obtain ⟨y, B3, hB2⟩ : ∃ y B3, B2 = y :: B3 := by
        cases B2 with
        | nil => have h := HB.out; have h2 := HL0.out; rw [List.append_nil] at h; rw [h.1] at h2; omega
        | cons y B3 => exact ⟨y, B3, rfl⟩
      subst hB2
      obtain ⟨kN, hkN⟩ : ∃ kN, kN = k + 1 := ⟨_, rfl⟩
      have hcol := HCj.out
      have e0 : P ++ (B1 ++ (x :: (y :: B3 ++ S))) = (P ++ B1) ++ x :: ([] ++ y :: (B3 ++ S)) := by simp
      rw [e0] at hcol
      have l1 : k = (P ++ B1).length := by have := HB.out.2; simp; omega
      have l2 : kN = (P ++ B1).length + 1 + ([] : List Nat).length := by simp at l1 ⊢; omega
      have g1 : ((P ++ B1) ++ x :: ([] ++ y :: (B3 ++ S)))[k]? = some x := getE_at _ _ _ _ l1
      have g2 : ((P ++ B1) ++ x :: ([] ++ y :: (B3 ++ S)))[kN]? = some y := by
        have := getE_at ((P ++ B1) ++ [x]) y (B3 ++ S) kN (by simp; simp at l2; omega)
        simpa using this
      have c1 := hcol.cell g1
      have c2 := hcol.cell g2
      have f1 := hcol.free k
      have f2 := hcol.free kN
      obtain ⟨u, c3⟩ := hcol.second g1 g2
      have hsw := hcol.swap g1 g2
      rw [swp_at _ _ _ _ _ _ _ l1 l2] at hsw
      have HSW := Lib.hid hsw
      have HFR := Lib.hid (hfr.trans (fr_swap wr g k kN (.int .i64 (y : Int)) (.int .i64 (x : Int))) (fun _ _ h => h))
      have ra : IntKind.i64.wrap ((k : Int) + 1) = (kN : Int) := by rw [IntKind.wrap_i64]; omega
      have p1 : kN < n := by omega
      have p3 : k < n := by omega
      have HI1 := Lib.hid hi1
      clear hcol e0 l1 l2 g1 g2 hsw hfr HCj hkN hi1
      go_wp2_with fail
      go_big_region
      generalize ((wr.setCell ⟨g, k, none⟩ (Value.int IntKind.i64 (y : Int))).setCell ⟨g, kN, none⟩ (Value.int IntKind.i64 (x : Int))).drew = w3 at HSW HFR ⊢
      clear c1 c2 c3 f1 f2 ra p1
      go_wp2
      go_roundw
      case rel =>
        refine ⟨k + 1, B1 ++ [y], B3, by go_num, by omega, by omega, ⟨by rw [HB.out.1]; simp, ?_⟩, ?_, HFR.out⟩
        · have := HB.out.2
          rw [List.length_append]
          simp
          omega
        · have h := HSW.out
          show Col _ _ _
          simpa using h
      case measure => simp [intOf] <;> omega
    · obtain rfl : k = i1 := by omega
      have hB2 : B2 = [] := by
        have h := HB.out
        have h2 := HL0.out
        rw [h.1, List.length_append] at h2
        exact List.eq_nil_of_length_eq_zero (by omega)
      subst hB2
      have hB : B = B1 := by have := HB.out.1; rwa [List.append_nil] at this
      have hcol : Col wr g (P ++ (B ++ (x :: S))) := by rw [hB]; exact HCj.out
      have HCC := Lib.hid hcol
      have HF := Lib.hid hfr
      clear hB hcol hfr HCj
      go_wp2_with fail
      exact ⟨rfl, hexit wr _ _ _ _ _ _ _ _ _ _ _ _ _ _ _ _ _ _ _ _ _ _ _ HCC HF⟩

set_option maxRecDepth 1000000 in
noncomputable def sw2Body : Code := ((Tryz.f96.body.bind (loopAt 23)).getD .skip)
set_option maxRecDepth 1000000 in
set_option maxHeartbeats 3200000 in
theorem sw2_loop (Q0 : Exit → Act → World → Prop) (s1 s2 s3 s4 s5 s6 s7 s8 s9 s10 s11 s12 s13 s15 s16 s18 s19 s20 s21 s22 s23 s24 s25 s26 s27 s28 s29 s30 s31 s32 s33 s34 s35 s36 s37 s38 s39 s40 s41 s42 s43 s44 s45 s46 s47 s48 s49 s50 s51 s52 s53 s54 s55 s56 s57 s58 s59 s60 s61 s62 s63 s64 s65 s66 s67 s68 s69 s70 s71 s72 s73 s74 s75 s76 s77 s78 s79 s80 s81 s82 s83 s84 s85 s86 s87 s88 s89 s90 s91 s92 s93 s94 s95 s96 s97 s98 s99 s100 s101 s102 s103 s104 s105 s106 s107 s108 s109 s110 s111 s112 s113 s114 s115 s116 s117 s118 s119 s120 s121 s122 s123 s124 s125 s126 s127 s128 s129 s130 s131 s132 s133 s134 s135 s136 s137 s138 s139 s140 s141 s142 s143 s144 s145 s146 s147 s148 s149 s150 s151 s152 s153 s154 s155 s156 s157 s158 s159 s160 s161 s162 s163 s164 s165 s166 s167 s168 s169 s170 s171 s172 s173 s174 s175 s176 s177 s178 s179 s180 s181 s182 s183 s184 s185 s186 s187 s188 s189 s190 s191 s192 s193 s194 s195 s196 s197 s198 s199 s200 s201 s202 s203 s204 s205 s206 s207 s208 s209 s210 s211 s212 s213 s214 s215 s216 s217 s218 s219 : Value) (g n c i k0 y : Nat) (P A S : List Nat) (w0 : World) (HC : Hid (Col w0 g (P ++ (A ++ (y :: S))))) (HL0 : Hid (n = P.length + 1 + A.length + S.length ∧ k0 = P.length + A.length ∧ i = P.length)) (hn : n ≤ 1000) (hki : i ≤ k0) (hin : k0 < n)
    (hexit : ∀  (w'' : World) (r17 r108 r109 r110 r111 r112 r113 r114 r115 r116 r117 r118 r119 r120 r121 r122 r123 r124 r125 r126 r127 r128 : Value), Hid (Col w'' g (P ++ (y :: (A ++ S)))) → Hid (Fr (fun b => b = g) w0 w'') → Q0 (.exit 6) ⟨List.toArray (.slice (some ⟨g, 0, none⟩) n c :: s1 :: s2 :: s3 :: s4 :: s5 :: s6 :: s7 :: s8 :: s9 :: s10 :: s11 :: s12 :: s13 :: .int .i64 (i : Int) :: s15 :: s16 :: r17 :: s18 :: s19 :: s20 :: s21 :: s22 :: s23 :: s24 :: s25 :: s26 :: s27 :: s28 :: s29 :: s30 :: s31 :: s32 :: s33 :: s34 :: s35 :: s36 :: s37 :: s38 :: s39 :: s40 :: s41 :: s42 :: s43 :: s44 :: s45 :: s46 :: s47 :: s48 :: s49 :: s50 :: s51 :: s52 :: s53 :: s54 :: s55 :: s56 :: s57 :: s58 :: s59 :: s60 :: s61 :: s62 :: s63 :: s64 :: s65 :: s66 :: s67 :: s68 :: s69 :: s70 :: s71 :: s72 :: s73 :: s74 :: s75 :: s76 :: s77 :: s78 :: s79 :: s80 :: s81 :: s82 :: s83 :: s84 :: s85 :: s86 :: s87 :: s88 :: s89 :: s90 :: s91 :: s92 :: s93 :: s94 :: s95 :: s96 :: s97 :: s98 :: s99 :: s100 :: s101 :: s102 :: s103 :: s104 :: s105 :: s106 :: s107 :: r108 :: r109 :: r110 :: r111 :: r112 :: r113 :: r114 :: r115 :: r116 :: r117 :: r118 :: r119 :: r120 :: r121 :: r122 :: r123 :: r124 :: r125 :: r126 :: r127 :: r128 :: s129 :: s130 :: s131 :: s132 :: s133 :: s134 :: s135 :: s136 :: s137 :: s138 :: s139 :: s140 :: s141 :: s142 :: s143 :: s144 :: s145 :: s146 :: s147 :: s148 :: s149 :: s150 :: s151 :: s152 :: s153 :: s154 :: s155 :: s156 :: s157 :: s158 :: s159 :: s160 :: s161 :: s162 :: s163 :: s164 :: s165 :: s166 :: s167 :: s168 :: s169 :: s170 :: s171 :: s172 :: s173 :: s174 :: s175 :: s176 :: s177 :: s178 :: s179 :: s180 :: s181 :: s182 :: s183 :: s184 :: s185 :: s186 :: s187 :: s188 :: s189 :: s190 :: s191 :: s192 :: s193 :: s194 :: s195 :: s196 :: s197 :: s198 :: s199 :: s200 :: s201 :: s202 :: s203 :: s204 :: s205 :: s206 :: s207 :: s208 :: s209 :: s210 :: s211 :: s212 :: s213 :: s214 :: s215 :: s216 :: s217 :: s218 :: s219 :: []), []⟩ w'') :
    Code.wp Tryz.prog (Code.loop sw2Body) Q0 ⟨List.toArray (.slice (some ⟨g, 0, none⟩) n c :: s1 :: s2 :: s3 :: s4 :: s5 :: s6 :: s7 :: s8 :: s9 :: s10 :: s11 :: s12 :: s13 :: .int .i64 (i : Int) :: s15 :: s16 :: .int .i64 (k0 : Int) :: s18 :: s19 :: s20 :: s21 :: s22 :: s23 :: s24 :: s25 :: s26 :: s27 :: s28 :: s29 :: s30 :: s31 :: s32 :: s33 :: s34 :: s35 :: s36 :: s37 :: s38 :: s39 :: s40 :: s41 :: s42 :: s43 :: s44 :: s45 :: s46 :: s47 :: s48 :: s49 :: s50 :: s51 :: s52 :: s53 :: s54 :: s55 :: s56 :: s57 :: s58 :: s59 :: s60 :: s61 :: s62 :: s63 :: s64 :: s65 :: s66 :: s67 :: s68 :: s69 :: s70 :: s71 :: s72 :: s73 :: s74 :: s75 :: s76 :: s77 :: s78 :: s79 :: s80 :: s81 :: s82 :: s83 :: s84 :: s85 :: s86 :: s87 :: s88 :: s89 :: s90 :: s91 :: s92 :: s93 :: s94 :: s95 :: s96 :: s97 :: s98 :: s99 :: s100 :: s101 :: s102 :: s103 :: s104 :: s105 :: s106 :: s107 :: s108 :: s109 :: s110 :: s111 :: s112 :: s113 :: s114 :: s115 :: s116 :: s117 :: s118 :: s119 :: s120 :: s121 :: s122 :: s123 :: s124 :: s125 :: s126 :: s127 :: s128 :: s129 :: s130 :: s131 :: s132 :: s133 :: s134 :: s135 :: s136 :: s137 :: s138 :: s139 :: s140 :: s141 :: s142 :: s143 :: s144 :: s145 :: s146 :: s147 :: s148 :: s149 :: s150 :: s151 :: s152 :: s153 :: s154 :: s155 :: s156 :: s157 :: s158 :: s159 :: s160 :: s161 :: s162 :: s163 :: s164 :: s165 :: s166 :: s167 :: s168 :: s169 :: s170 :: s171 :: s172 :: s173 :: s174 :: s175 :: s176 :: s177 :: s178 :: s179 :: s180 :: s181 :: s182 :: s183 :: s184 :: s185 :: s186 :: s187 :: s188 :: s189 :: s190 :: s191 :: s192 :: s193 :: s194 :: s195 :: s196 :: s197 :: s198 :: s199 :: s200 :: s201 :: s202 :: s203 :: s204 :: s205 :: s206 :: s207 :: s208 :: s209 :: s210 :: s211 :: s212 :: s213 :: s214 :: s215 :: s216 :: s217 :: s218 :: s219 :: []), []⟩ w0 := by
  refine Code.wp_mono (onExit_imp (n := 6)) ?_
  conv => arg 2; arg 1; whnf
  go_loopw [17] (fun vk wr => ∃ (k : Nat) (A1 A2 : List Nat), vk = .int .i64 (k : Int) ∧ i ≤ k ∧ k ≤ k0 ∧ Hid (A = A1 ++ A2 ∧ k = P.length + A1.length) ∧ Hid (Col wr g (P ++ (A1 ++ (y :: (A2 ++ S))))) ∧ Fr (fun b => b = g) w0 wr)
    (fun vk _ => (intOf vk).toNat)
  case atStart => exact ⟨k0, A, [], rfl, by omega, by omega, ⟨by simp, HL0.out.2.1⟩, HC, Fr.refl _ _⟩
  case round =>
    clear HC
    obtain ⟨k, A1, A2, rfl, hk0, hki1, HB, HCj, hfr⟩ := hrel
    by_cases hlt : i < k
    · obtain ⟨A3, z, hA1⟩ := snoc_of (C := A1) (by
        rintro rfl
        have h := HB.out.2
        have h2 := HL0.out.2.2
        simp at h
        omega)
      subst hA1
      obtain ⟨kp, rfl⟩ : ∃ kp, k = kp + 1 := ⟨k - 1, by omega⟩
      obtain ⟨kN, hkN⟩ : ∃ kN, kN = kp + 1 := ⟨_, rfl⟩
      have hcol := HCj.out
      have e0 : P ++ (A3 ++ [z] ++ (y :: (A2 ++ S))) = (P ++ A3) ++ z :: ([] ++ y :: (A2 ++ S)) := by simp
      rw [e0] at hcol
      have l1 : kp = (P ++ A3).length := by have := HB.out.2; simp at this ⊢; omega
      have l2 : kN = (P ++ A3).length + 1 + ([] : List Nat).length := by simp at l1 ⊢; omega
      have g1 : ((P ++ A3) ++ z :: ([] ++ y :: (A2 ++ S)))[kp]? = some z := getE_at _ _ _ _ l1
      have g2 : ((P ++ A3) ++ z :: ([] ++ y :: (A2 ++ S)))[kN]? = some y := by
        have := getE_at ((P ++ A3) ++ [z]) y (A2 ++ S) kN (by simp; simp at l2; omega)
        simpa using this
      have c1 := hcol.cell g1
      have c2 := hcol.cell g2
      have f1 := hcol.free kp
      have f2 := hcol.free kN
      obtain ⟨u, c3⟩ := hcol.second g2 g1
      have hsw := hcol.swap g2 g1
      rw [swp_comm, swp_at _ _ _ _ _ _ _ l1 l2] at hsw
      have HSW := Lib.hid hsw
      have HFR := Lib.hid (hfr.trans (fr_swap wr g kN kp (.int .i64 (z : Int)) (.int .i64 (y : Int))) (fun _ _ h => h))
      have ea : ((kp : Int) + 1).toNat = kN := by omega
      have ra : IntKind.i64.wrap ((kp : Int) + 1) = (kp : Int) + 1 := by rw [IntKind.wrap_i64]; omega
      have rb : IntKind.i64.wrap (kp : Int) = (kp : Int) := by rw [IntKind.wrap_i64]; omega
      have p1 : (kp : Int) + 1 < (n : Int) := by omega
      have p2 : (0 : Int) ≤ (kp : Int) + 1 := by omega
      have p3 : kp < n := by omega
      have p4 : (i : Int) < (kp : Int) + 1 := by omega
      clear hcol e0 l1 l2 g1 g2 hsw hfr HCj hkN
      go_wp2_with fail
      go_big_region
      generalize ((wr.setCell ⟨g, kN, none⟩ (Value.int IntKind.i64 (z : Int))).setCell ⟨g, kp, none⟩ (Value.int IntKind.i64 (y : Int))).drew = w3 at HSW HFR ⊢
      clear c1 c2 c3 f1 f2 ea ra rb p1 p2
      go_wp2
      go_roundw
      case rel =>
        refine ⟨kp, A3, z :: A2, by first | rfl | go_num | (congr 1; omega), by omega, by omega, ⟨by rw [HB.out.1]; simp, ?_⟩, ?_, HFR.out⟩
        · have := HB.out.2
          rw [List.length_append] at this
          simp at this
          omega
        · have h := HSW.out
          show Col _ _ _
          simpa using h
      case measure => simp [intOf] <;> omega
    · obtain rfl : k = i := by omega
      have hA1 : A1 = [] := List.eq_nil_of_length_eq_zero (by have := HB.out.2; have := HL0.out.2.2; omega)
      subst hA1
      have hB : A = A2 := HB.out.1
      have hcol : Col wr g (P ++ (y :: (A ++ S))) := by rw [hB]; exact HCj.out
      have HCC := Lib.hid hcol
      have HF := Lib.hid hfr
      clear hB hcol hfr HCj
      go_wp2_with fail
      exact ⟨rfl, hexit wr _ _ _ _ _ _ _ _ _ _ _ _ _ _ _ _ _ _ _ _ _ _ HCC HF⟩
end Go.Proofs.YtahfmcdhcbfkaaaGreatDoor
