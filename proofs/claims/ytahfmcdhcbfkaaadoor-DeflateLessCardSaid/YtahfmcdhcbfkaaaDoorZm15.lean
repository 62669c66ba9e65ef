/-
  The loops of the library's symMerge at numbers: two rows of swaps (written by gen_sym.py).
  The library's symMerge at numbers: two sorted pieces that lie side by side become one (written by gen_sym2.py).
  The library's stable sort at numbers, by keys: the numbers, in order; of one key, as they stood.
  The program's coded: the symbols that have codes, by their lengths, then by their numbers.
-/
import Derived.Test.YtahfmcdhcbfkaaaDoorZm14
import Derived.Test.YtahfmcdhcbfkaaaDoorZm09
import Derived.Test.YtahfmcdhcbfkaaaDoorZm13
import Derived.Deep.DeepCutAuto
namespace Go.Proofs.YtahfmcdhcbfkaaaDoor
open Go.RowKit HuffM Mem Go.Lib
attribute [local go_sem ↓] Go.wp_at_zero Go.wp_at_succ
set_option linter.unusedVariables false


set_option maxRecDepth 1000000 in
noncomputable def sw1Body : Code := ((Tryd.f100.body.bind (loopAt 11)).getD .skip)
set_option maxRecDepth 1000000 in
set_option maxHeartbeats 3200000 in
theorem sw1_loop (Q0 : Exit → Act → World → Prop) (s1 s2 s3 s4 s5 s6 s7 s8 s9 s11 s12 s14 s15 s16 s17 s18 s19 s20 s21 s22 s23 s24 s25 s26 s27 s28 s29 s30 s31 s32 s33 s34 s35 s36 s37 s38 s39 s40 s41 s42 s43 s44 s45 s46 s47 s48 s49 s50 s51 s52 s53 s54 s55 s56 s57 s58 s59 s60 s61 s62 s63 s64 s65 s66 s67 s68 s69 s70 s71 s72 s73 s74 s75 s76 s77 s78 s79 s80 s81 s82 s83 s84 s85 s86 s87 s88 s89 s90 s91 s92 s93 s94 s95 s96 s97 s98 s99 s100 s101 s102 s103 s104 s105 s106 s107 s108 s109 s110 s111 s112 s113 s114 s115 s116 s117 s118 s119 s120 s121 s122 s123 s124 s125 s126 s127 s128 s129 s130 s131 s132 s133 s134 s135 s136 s137 s138 s139 s140 s141 s142 s143 s144 s145 s146 s147 s148 s149 s150 s151 s152 s153 s154 s155 s156 s157 s158 s159 s160 s161 s162 s163 s164 s165 s166 s167 s168 s169 s170 s171 s172 s173 s174 s175 s176 s177 s178 s179 s180 s181 s182 s183 s184 s185 s186 s187 s188 s189 s190 s191 s192 s193 s194 s195 s196 s197 s198 s199 s200 s201 s202 s203 s204 s205 s206 s207 s208 s209 s210 s211 s212 s213 s214 s215 s216 s217 s218 s219 : Value) (g n c i k0 x : Nat) (P B S : List Nat) (w0 : World) (HC : Hid (Col w0 g (P ++ (x :: (B ++ S))))) (HL0 : Hid (n = P.length + 1 + B.length + S.length ∧ k0 = P.length ∧ i = P.length + 1 + B.length)) (hn : n ≤ 1000) (hki : k0 < i) (hin : i ≤ n)
    (hexit : ∀  (w'' : World) (r13 r55 r56 r57 r58 r59 r60 r61 r62 r63 r64 r65 r66 r67 r68 r69 r70 r71 r72 r73 r74 r75 r76 : Value), Hid (Col w'' g (P ++ (B ++ (x :: S)))) → Hid (Fr (fun b => b = g) w0 w'') → Q0 (.exit 2) ⟨List.toArray (.slice (some ⟨g, 0, none⟩) n c :: s1 :: s2 :: s3 :: s4 :: s5 :: s6 :: s7 :: s8 :: s9 :: .int .i64 (i : Int) :: s11 :: s12 :: r13 :: s14 :: s15 :: s16 :: s17 :: s18 :: s19 :: s20 :: s21 :: s22 :: s23 :: s24 :: s25 :: s26 :: s27 :: s28 :: s29 :: s30 :: s31 :: s32 :: s33 :: s34 :: s35 :: s36 :: s37 :: s38 :: s39 :: s40 :: s41 :: s42 :: s43 :: s44 :: s45 :: s46 :: s47 :: s48 :: s49 :: s50 :: s51 :: s52 :: s53 :: s54 :: r55 :: r56 :: r57 :: r58 :: r59 :: r60 :: r61 :: r62 :: r63 :: r64 :: r65 :: r66 :: r67 :: r68 :: r69 :: r70 :: r71 :: r72 :: r73 :: r74 :: r75 :: r76 :: s77 :: s78 :: s79 :: s80 :: s81 :: s82 :: s83 :: s84 :: s85 :: s86 :: s87 :: s88 :: s89 :: s90 :: s91 :: s92 :: s93 :: s94 :: s95 :: s96 :: s97 :: s98 :: s99 :: s100 :: s101 :: s102 :: s103 :: s104 :: s105 :: s106 :: s107 :: s108 :: s109 :: s110 :: s111 :: s112 :: s113 :: s114 :: s115 :: s116 :: s117 :: s118 :: s119 :: s120 :: s121 :: s122 :: s123 :: s124 :: s125 :: s126 :: s127 :: s128 :: s129 :: s130 :: s131 :: s132 :: s133 :: s134 :: s135 :: s136 :: s137 :: s138 :: s139 :: s140 :: s141 :: s142 :: s143 :: s144 :: s145 :: s146 :: s147 :: s148 :: s149 :: s150 :: s151 :: s152 :: s153 :: s154 :: s155 :: s156 :: s157 :: s158 :: s159 :: s160 :: s161 :: s162 :: s163 :: s164 :: s165 :: s166 :: s167 :: s168 :: s169 :: s170 :: s171 :: s172 :: s173 :: s174 :: s175 :: s176 :: s177 :: s178 :: s179 :: s180 :: s181 :: s182 :: s183 :: s184 :: s185 :: s186 :: s187 :: s188 :: s189 :: s190 :: s191 :: s192 :: s193 :: s194 :: s195 :: s196 :: s197 :: s198 :: s199 :: s200 :: s201 :: s202 :: s203 :: s204 :: s205 :: s206 :: s207 :: s208 :: s209 :: s210 :: s211 :: s212 :: s213 :: s214 :: s215 :: s216 :: s217 :: s218 :: s219 :: []), []⟩ w'') :
    Code.wp Tryd.prog (Code.loop sw1Body) Q0 ⟨List.toArray (.slice (some ⟨g, 0, none⟩) n c :: s1 :: s2 :: s3 :: s4 :: s5 :: s6 :: s7 :: s8 :: s9 :: .int .i64 (i : Int) :: s11 :: s12 :: .int .i64 (k0 : Int) :: s14 :: s15 :: s16 :: s17 :: s18 :: s19 :: s20 :: s21 :: s22 :: s23 :: s24 :: s25 :: s26 :: s27 :: s28 :: s29 :: s30 :: s31 :: s32 :: s33 :: s34 :: s35 :: s36 :: s37 :: s38 :: s39 :: s40 :: s41 :: s42 :: s43 :: s44 :: s45 :: s46 :: s47 :: s48 :: s49 :: s50 :: s51 :: s52 :: s53 :: s54 :: s55 :: s56 :: s57 :: s58 :: s59 :: s60 :: s61 :: s62 :: s63 :: s64 :: s65 :: s66 :: s67 :: s68 :: s69 :: s70 :: s71 :: s72 :: s73 :: s74 :: s75 :: s76 :: s77 :: s78 :: s79 :: s80 :: s81 :: s82 :: s83 :: s84 :: s85 :: s86 :: s87 :: s88 :: s89 :: s90 :: s91 :: s92 :: s93 :: s94 :: s95 :: s96 :: s97 :: s98 :: s99 :: s100 :: s101 :: s102 :: s103 :: s104 :: s105 :: s106 :: s107 :: s108 :: s109 :: s110 :: s111 :: s112 :: s113 :: s114 :: s115 :: s116 :: s117 :: s118 :: s119 :: s120 :: s121 :: s122 :: s123 :: s124 :: s125 :: s126 :: s127 :: s128 :: s129 :: s130 :: s131 :: s132 :: s133 :: s134 :: s135 :: s136 :: s137 :: s138 :: s139 :: s140 :: s141 :: s142 :: s143 :: s144 :: s145 :: s146 :: s147 :: s148 :: s149 :: s150 :: s151 :: s152 :: s153 :: s154 :: s155 :: s156 :: s157 :: s158 :: s159 :: s160 :: s161 :: s162 :: s163 :: s164 :: s165 :: s166 :: s167 :: s168 :: s169 :: s170 :: s171 :: s172 :: s173 :: s174 :: s175 :: s176 :: s177 :: s178 :: s179 :: s180 :: s181 :: s182 :: s183 :: s184 :: s185 :: s186 :: s187 :: s188 :: s189 :: s190 :: s191 :: s192 :: s193 :: s194 :: s195 :: s196 :: s197 :: s198 :: s199 :: s200 :: s201 :: s202 :: s203 :: s204 :: s205 :: s206 :: s207 :: s208 :: s209 :: s210 :: s211 :: s212 :: s213 :: s214 :: s215 :: s216 :: s217 :: s218 :: s219 :: []), []⟩ w0 := by
  refine Code.wp_mono (onExit_imp (n := 2)) ?_
  conv => arg 2; arg 1; whnf
  obtain ⟨i1, hi1⟩ : ∃ i1, i1 = i - 1 := ⟨_, rfl⟩
  have ei : (i : Int) - 1 = (i1 : Int) := by omega
  go_loopw [13] (fun vk wr => ∃ (k : Nat) (B1 B2 : List Nat), vk = .int .i64 (k : Int) ∧ k0 ≤ k ∧ k ≤ i1 ∧ Hid (B = B1 ++ B2 ∧ k = P.length + B1.length) ∧ Hid (Col wr g (P ++ (B1 ++ (x :: (B2 ++ S))))) ∧ Fr (fun b => b = g) w0 wr)
    (fun vk _ => i1 - (intOf vk).toNat)
  case atStart => exact ⟨k0, [], B, rfl, by omega, by omega, ⟨rfl, HL0.out.2.1⟩, HC, Fr.refl _ _⟩
  case round =>
    clear HC
    obtain ⟨k, B1, B2, rfl, hk0, hki1, HB, HCj, hfr⟩ := hrel
    by_cases hlt : k < i1
    · obtain ⟨y, B3, hB2⟩ : ∃ y B3, B2 = y :: B3 := by
        cases B2 with
        | nil => have h := HB.out; have h2 := HL0.out; rw [List.append_nil] at h; rw [h.1] at h2; omega
        | cons y B3 => exact ⟨y, B3, rfl⟩
      subst hB2
      obtain ⟨kN, hkN⟩ : ∃ kN, kN = k + 1 := ⟨_, rfl⟩
      have hcol := HCj.out
      have e0 : P ++ (B1 ++ (x :: (y :: B3 ++ S))) = (P ++ B1) ++ x :: ([] ++ y :: (B3 ++ S)) := by simp
      rw [e0] at hcol
      have l1 : k = (P ++ B1).length := by have := HB.out.2; simp; omega
      have l2 : kN = (P ++ B1).length + 1 + ([] : List Nat).length := by simp at l1 ⊢; omega
      have g1 : ((P ++ B1) ++ x :: ([] ++ y :: (B3 ++ S)))[k]? = some x := getE_at _ _ _ _ l1
      have g2 : ((P ++ B1) ++ x :: ([] ++ y :: (B3 ++ S)))[kN]? = some y := by
        have := getE_at ((P ++ B1) ++ [x]) y (B3 ++ S) kN (by simp; simp at l2; omega)
        simpa using this
      have c1 := hcol.cell g1
      have c2 := hcol.cell g2
      have f1 := hcol.free k
      have f2 := hcol.free kN
      obtain ⟨u, c3⟩ := hcol.second g1 g2
      have hsw := hcol.swap g1 g2
      rw [swp_at _ _ _ _ _ _ _ l1 l2] at hsw
      have HSW := Lib.hid hsw
      have HFR := Lib.hid (hfr.trans (fr_swap wr g k kN (.int .i64 (y : Int)) (.int .i64 (x : Int))) (fun _ _ h => h))
      have ra : IntKind.i64.wrap ((k : Int) + 1) = (kN : Int) := by rw [IntKind.wrap_i64]; omega
      have p1 : kN < n := by omega
      have p3 : k < n := by omega
      have HI1 := Lib.hid hi1
      clear hcol e0 l1 l2 g1 g2 hsw hfr HCj hkN hi1
      go_wp2_with fail
      go_big_region
      generalize ((wr.setCell ⟨g, k, none⟩ (Value.int IntKind.i64 (y : Int))).setCell ⟨g, kN, none⟩ (Value.int IntKind.i64 (x : Int))).drew = w3 at HSW HFR ⊢
      clear c1 c2 c3 f1 f2 ra p1
      go_wp2
      go_roundw
      case rel =>
        refine ⟨k + 1, B1 ++ [y], B3, by go_num, by omega, by omega, ⟨by rw [HB.out.1]; simp, ?_⟩, ?_, HFR.out⟩
        · have := HB.out.2
          rw [List.length_append]
          simp
          omega
        · have h := HSW.out
          show Col _ _ _
          simpa using h
      case measure => simp [intOf] <;> omega
    · obtain rfl : k = i1 := by omega
      have hB2 : B2 = [] := by
        have h := HB.out
        have h2 := HL0.out
        rw [h.1, List.length_append] at h2
        exact List.eq_nil_of_length_eq_zero (by omega)
      subst hB2
      have hB : B = B1 := by have := HB.out.1; rwa [List.append_nil] at this
      have hcol : Col wr g (P ++ (B ++ (x :: S))) := by rw [hB]; exact HCj.out
      have HCC := Lib.hid hcol
      have HF := Lib.hid hfr
      clear hB hcol hfr HCj
      go_wp2_with fail
      exact ⟨rfl, hexit wr _ _ _ _ _ _ _ _ _ _ _ _ _ _ _ _ _ _ _ _ _ _ _ HCC HF⟩

set_option maxRecDepth 1000000 in
noncomputable def sw2Body : Code := ((Tryd.f100.body.bind (loopAt 23)).getD .skip)
set_option maxRecDepth 1000000 in
set_option maxHeartbeats 3200000 in
theorem sw2_loop (Q0 : Exit → Act → World → Prop) (s1 s2 s3 s4 s5 s6 s7 s8 s9 s10 s11 s12 s13 s15 s16 s18 s19 s20 s21 s22 s23 s24 s25 s26 s27 s28 s29 s30 s31 s32 s33 s34 s35 s36 s37 s38 s39 s40 s41 s42 s43 s44 s45 s46 s47 s48 s49 s50 s51 s52 s53 s54 s55 s56 s57 s58 s59 s60 s61 s62 s63 s64 s65 s66 s67 s68 s69 s70 s71 s72 s73 s74 s75 s76 s77 s78 s79 s80 s81 s82 s83 s84 s85 s86 s87 s88 s89 s90 s91 s92 s93 s94 s95 s96 s97 s98 s99 s100 s101 s102 s103 s104 s105 s106 s107 s108 s109 s110 s111 s112 s113 s114 s115 s116 s117 s118 s119 s120 s121 s122 s123 s124 s125 s126 s127 s128 s129 s130 s131 s132 s133 s134 s135 s136 s137 s138 s139 s140 s141 s142 s143 s144 s145 s146 s147 s148 s149 s150 s151 s152 s153 s154 s155 s156 s157 s158 s159 s160 s161 s162 s163 s164 s165 s166 s167 s168 s169 s170 s171 s172 s173 s174 s175 s176 s177 s178 s179 s180 s181 s182 s183 s184 s185 s186 s187 s188 s189 s190 s191 s192 s193 s194 s195 s196 s197 s198 s199 s200 s201 s202 s203 s204 s205 s206 s207 s208 s209 s210 s211 s212 s213 s214 s215 s216 s217 s218 s219 : Value) (g n c i k0 y : Nat) (P A S : List Nat) (w0 : World) (HC : Hid (Col w0 g (P ++ (A ++ (y :: S))))) (HL0 : Hid (n = P.length + 1 + A.length + S.length ∧ k0 = P.length + A.length ∧ i = P.length)) (hn : n ≤ 1000) (hki : i ≤ k0) (hin : k0 < n)
    (hexit : ∀  (w'' : World) (r17 r108 r109 r110 r111 r112 r113 r114 r115 r116 r117 r118 r119 r120 r121 r122 r123 r124 r125 r126 r127 r128 : Value), Hid (Col w'' g (P ++ (y :: (A ++ S)))) → Hid (Fr (fun b => b = g) w0 w'') → Q0 (.exit 6) ⟨List.toArray (.slice (some ⟨g, 0, none⟩) n c :: s1 :: s2 :: s3 :: s4 :: s5 :: s6 :: s7 :: s8 :: s9 :: s10 :: s11 :: s12 :: s13 :: .int .i64 (i : Int) :: s15 :: s16 :: r17 :: s18 :: s19 :: s20 :: s21 :: s22 :: s23 :: s24 :: s25 :: s26 :: s27 :: s28 :: s29 :: s30 :: s31 :: s32 :: s33 :: s34 :: s35 :: s36 :: s37 :: s38 :: s39 :: s40 :: s41 :: s42 :: s43 :: s44 :: s45 :: s46 :: s47 :: s48 :: s49 :: s50 :: s51 :: s52 :: s53 :: s54 :: s55 :: s56 :: s57 :: s58 :: s59 :: s60 :: s61 :: s62 :: s63 :: s64 :: s65 :: s66 :: s67 :: s68 :: s69 :: s70 :: s71 :: s72 :: s73 :: s74 :: s75 :: s76 :: s77 :: s78 :: s79 :: s80 :: s81 :: s82 :: s83 :: s84 :: s85 :: s86 :: s87 :: s88 :: s89 :: s90 :: s91 :: s92 :: s93 :: s94 :: s95 :: s96 :: s97 :: s98 :: s99 :: s100 :: s101 :: s102 :: s103 :: s104 :: s105 :: s106 :: s107 :: r108 :: r109 :: r110 :: r111 :: r112 :: r113 :: r114 :: r115 :: r116 :: r117 :: r118 :: r119 :: r120 :: r121 :: r122 :: r123 :: r124 :: r125 :: r126 :: r127 :: r128 :: s129 :: s130 :: s131 :: s132 :: s133 :: s134 :: s135 :: s136 :: s137 :: s138 :: s139 :: s140 :: s141 :: s142 :: s143 :: s144 :: s145 :: s146 :: s147 :: s148 :: s149 :: s150 :: s151 :: s152 :: s153 :: s154 :: s155 :: s156 :: s157 :: s158 :: s159 :: s160 :: s161 :: s162 :: s163 :: s164 :: s165 :: s166 :: s167 :: s168 :: s169 :: s170 :: s171 :: s172 :: s173 :: s174 :: s175 :: s176 :: s177 :: s178 :: s179 :: s180 :: s181 :: s182 :: s183 :: s184 :: s185 :: s186 :: s187 :: s188 :: s189 :: s190 :: s191 :: s192 :: s193 :: s194 :: s195 :: s196 :: s197 :: s198 :: s199 :: s200 :: s201 :: s202 :: s203 :: s204 :: s205 :: s206 :: s207 :: s208 :: s209 :: s210 :: s211 :: s212 :: s213 :: s214 :: s215 :: s216 :: s217 :: s218 :: s219 :: []), []⟩ w'') :
    Code.wp Tryd.prog (Code.loop sw2Body) Q0 ⟨List.toArray (.slice (some ⟨g, 0, none⟩) n c :: s1 :: s2 :: s3 :: s4 :: s5 :: s6 :: s7 :: s8 :: s9 :: s10 :: s11 :: s12 :: s13 :: .int .i64 (i : Int) :: s15 :: s16 :: .int .i64 (k0 : Int) :: s18 :: s19 :: s20 :: s21 :: s22 :: s23 :: s24 :: s25 :: s26 :: s27 :: s28 :: s29 :: s30 :: s31 :: s32 :: s33 :: s34 :: s35 :: s36 :: s37 :: s38 :: s39 :: s40 :: s41 :: s42 :: s43 :: s44 :: s45 :: s46 :: s47 :: s48 :: s49 :: s50 :: s51 :: s52 :: s53 :: s54 :: s55 :: s56 :: s57 :: s58 :: s59 :: s60 :: s61 :: s62 :: s63 :: s64 :: s65 :: s66 :: s67 :: s68 :: s69 :: s70 :: s71 :: s72 :: s73 :: s74 :: s75 :: s76 :: s77 :: s78 :: s79 :: s80 :: s81 :: s82 :: s83 :: s84 :: s85 :: s86 :: s87 :: s88 :: s89 :: s90 :: s91 :: s92 :: s93 :: s94 :: s95 :: s96 :: s97 :: s98 :: s99 :: s100 :: s101 :: s102 :: s103 :: s104 :: s105 :: s106 :: s107 :: s108 :: s109 :: s110 :: s111 :: s112 :: s113 :: s114 :: s115 :: s116 :: s117 :: s118 :: s119 :: s120 :: s121 :: s122 :: s123 :: s124 :: s125 :: s126 :: s127 :: s128 :: s129 :: s130 :: s131 :: s132 :: s133 :: s134 :: s135 :: s136 :: s137 :: s138 :: s139 :: s140 :: s141 :: s142 :: s143 :: s144 :: s145 :: s146 :: s147 :: s148 :: s149 :: s150 :: s151 :: s152 :: s153 :: s154 :: s155 :: s156 :: s157 :: s158 :: s159 :: s160 :: s161 :: s162 :: s163 :: s164 :: s165 :: s166 :: s167 :: s168 :: s169 :: s170 :: s171 :: s172 :: s173 :: s174 :: s175 :: s176 :: s177 :: s178 :: s179 :: s180 :: s181 :: s182 :: s183 :: s184 :: s185 :: s186 :: s187 :: s188 :: s189 :: s190 :: s191 :: s192 :: s193 :: s194 :: s195 :: s196 :: s197 :: s198 :: s199 :: s200 :: s201 :: s202 :: s203 :: s204 :: s205 :: s206 :: s207 :: s208 :: s209 :: s210 :: s211 :: s212 :: s213 :: s214 :: s215 :: s216 :: s217 :: s218 :: s219 :: []), []⟩ w0 := by
  refine Code.wp_mono (onExit_imp (n := 6)) ?_
  conv => arg 2; arg 1; whnf
  go_loopw [17] (fun vk wr => ∃ (k : Nat) (A1 A2 : List Nat), vk = .int .i64 (k : Int) ∧ i ≤ k ∧ k ≤ k0 ∧ Hid (A = A1 ++ A2 ∧ k = P.length + A1.length) ∧ Hid (Col wr g (P ++ (A1 ++ (y :: (A2 ++ S))))) ∧ Fr (fun b => b = g) w0 wr)
    (fun vk _ => (intOf vk).toNat)
  case atStart => exact ⟨k0, A, [], rfl, by omega, by omega, ⟨by simp, HL0.out.2.1⟩, HC, Fr.refl _ _⟩
  case round =>
    clear HC
    obtain ⟨k, A1, A2, rfl, hk0, hki1, HB, HCj, hfr⟩ := hrel
    by_cases hlt : i < k
    · obtain ⟨A3, z, hA1⟩ := snoc_of (C := A1) (by
        rintro rfl
        have h := HB.out.2
        have h2 := HL0.out.2.2
        simp at h
        omega)
      subst hA1
      obtain ⟨kp, rfl⟩ : ∃ kp, k = kp + 1 := ⟨k - 1, by omega⟩
      obtain ⟨kN, hkN⟩ : ∃ kN, kN = kp + 1 := ⟨_, rfl⟩
      have hcol := HCj.out
      have e0 : P ++ (A3 ++ [z] ++ (y :: (A2 ++ S))) = (P ++ A3) ++ z :: ([] ++ y :: (A2 ++ S)) := by simp
      rw [e0] at hcol
      have l1 : kp = (P ++ A3).length := by have := HB.out.2; simp at this ⊢; omega
      have l2 : kN = (P ++ A3).length + 1 + ([] : List Nat).length := by simp at l1 ⊢; omega
      have g1 : ((P ++ A3) ++ z :: ([] ++ y :: (A2 ++ S)))[kp]? = some z := getE_at _ _ _ _ l1
      have g2 : ((P ++ A3) ++ z :: ([] ++ y :: (A2 ++ S)))[kN]? = some y := by
        have := getE_at ((P ++ A3) ++ [z]) y (A2 ++ S) kN (by simp; simp at l2; omega)
        simpa using this
      have c1 := hcol.cell g1
      have c2 := hcol.cell g2
      have f1 := hcol.free kp
      have f2 := hcol.free kN
      obtain ⟨u, c3⟩ := hcol.second g2 g1
      have hsw := hcol.swap g2 g1
      rw [swp_comm, swp_at _ _ _ _ _ _ _ l1 l2] at hsw
      have HSW := Lib.hid hsw
      have HFR := Lib.hid (hfr.trans (fr_swap wr g kN kp (.int .i64 (z : Int)) (.int .i64 (y : Int))) (fun _ _ h => h))
      have ea : ((kp : Int) + 1).toNat = kN := by omega
      have ra : IntKind.i64.wrap ((kp : Int) + 1) = (kp : Int) + 1 := by rw [IntKind.wrap_i64]; omega
      have rb : IntKind.i64.wrap (kp : Int) = (kp : Int) := by rw [IntKind.wrap_i64]; omega
      have p1 : (kp : Int) + 1 < (n : Int) := by omega
      have p2 : (0 : Int) ≤ (kp : Int) + 1 := by omega
      have p3 : kp < n := by omega
      have p4 : (i : Int) < (kp : Int) + 1 := by omega
      clear hcol e0 l1 l2 g1 g2 hsw hfr HCj hkN
      go_wp2_with fail
      go_big_region
      generalize ((wr.setCell ⟨g, kN, none⟩ (Value.int IntKind.i64 (z : Int))).setCell ⟨g, kp, none⟩ (Value.int IntKind.i64 (y : Int))).drew = w3 at HSW HFR ⊢
      clear c1 c2 c3 f1 f2 ea ra rb p1 p2
      go_wp2
      go_roundw
      case rel =>
        refine ⟨kp, A3, z :: A2, by first | rfl | go_num | (congr 1; omega), by omega, by omega, ⟨by rw [HB.out.1]; simp, ?_⟩, ?_, HFR.out⟩
        · have := HB.out.2
          rw [List.length_append] at this
          simp at this
          omega
        · have h := HSW.out
          show Col _ _ _
          simpa using h
      case measure => simp [intOf] <;> omega
    · obtain rfl : k = i := by omega
      have hA1 : A1 = [] := List.eq_nil_of_length_eq_zero (by have := HB.out.2; have := HL0.out.2.2; omega)
      subst hA1
      have hB : A = A2 := HB.out.1
      have hcol : Col wr g (P ++ (y :: (A ++ S))) := by rw [hB]; exact HCj.out
      have HCC := Lib.hid hcol
      have HF := Lib.hid hfr
      clear hB hcol hfr HCj
      go_wp2_with fail
      exact ⟨rfl, hexit wr _ _ _ _ _ _ _ _ _ _ _ _ _ _ _ _ _ _ _ _ _ _ HCC HF⟩
end Go.Proofs.YtahfmcdhcbfkaaaDoor
namespace Go.Proofs.YtahfmcdhcbfkaaaDoor
open Go.RowKit HuffM Mem Go.Lib
attribute [local go_sem ↓] Go.wp_at_zero Go.wp_at_succ
set_option linter.unusedVariables false

set_option maxRecDepth 1000000 in
set_option maxHeartbeats 6400000 in
theorem sym_any (F : Nat) : ∀ (g n c a m b bx N : Nat) (key : Nat → Nat) (P A B S : List Nat) (w : World), A.length + B.length ≤ F → Col w g (P ++ (A ++ (B ++ S))) → n = P.length + A.length + B.length + S.length → n ≤ 1000 →
    a = P.length → m = P.length + A.length → b = P.length + A.length + B.length → 1 ≤ A.length → 1 ≤ B.length → CmpK g bx key N w → (∀ x ∈ P ++ (A ++ (B ++ S)), x < N) → Srt key A → Srt key B → Stb key A B →
    Calls Tryd.prog 100 #[.slice (some ⟨g, 0, none⟩) n c, .int .i64 (a : Int), .int .i64 (m : Int), .int .i64 (b : Int), .func (.func 91) #[] #[.pointer (some ⟨bx, 0, none⟩)]] w fun e w' =>
      e = .returned (.tuple #[]) ∧ ∃ C, C.Perm (A ++ B) ∧ Srt key C ∧ Col w' g (P ++ (C ++ S)) ∧ Fr (fun b => b = g) w w' := by
  induction F with
  | zero => intro g n c a m b bx N key P A B S w hF hc hn hn1 ha hm hb h1; omega
  | succ F ih =>
  intro g n c a m b bx N key P A B S w hF hc hn hn1 ha hm hb h1 h2 K hlow hA hB hst
  obtain ⟨la, hla⟩ : ∃ la, la = A.length := ⟨_, rfl⟩
  obtain ⟨lb, hlb⟩ : ∃ lb, lb = B.length := ⟨_, rfl⟩
  obtain ⟨D, hD⟩ : ∃ D, D = P ++ (A ++ (B ++ S)) := ⟨_, rfl⟩
  have hDl : D.length = n := by rw [hD]; simp; omega
  rw [← hD] at hlow hc
  have e1 : (m : Int) - (a : Int) = (la : Int) := by omega
  have e2 : (b : Int) - (m : Int) = (lb : Int) := by omega
  have q1 : m ≤ a + la := by omega
  have q1' : a + la ≤ m := by omega
  have q2 : b ≤ m + lb := by omega
  have q2' : m + lb ≤ b := by omega
  have q3 : b ≤ n := by omega
  have q4 : 1 ≤ la := by omega
  have q5 : 1 ≤ lb := by omega
  have HC := Lib.hid hc
  have HL := Lib.hid (And.intro ha (And.intro hla (And.intro hlb (And.intro hD (And.intro hDl hn)))))
  have HK := Lib.hid K
  have HLOW := Lib.hid hlow
  have HA := Lib.hid hA
  have HB := Lib.hid hB
  have HST := Lib.hid hst
  have HF := Lib.hid hF
  have kda : ∀ i k, i = a + k → k < la → kd key D i = key (A.getD k 0) := by
    intro i k hi hk
    unfold kd
    rw [hD, getD_seg P _ i k (by omega), getD_fst _ _ _ (by omega)]
  have kdb : ∀ i k, i = m + k → k < lb → kd key D i = key (B.getD k 0) := by
    intro i k hi hk
    unfold kd
    have := getD_seg (P ++ A) (B ++ S) i k (by rw [List.length_append]; omega)
    rw [List.append_assoc, ← hD] at this
    rw [this, getD_fst _ _ _ (by omega)]
  have KDA := Lib.hid kda
  have KDB := Lib.hid kdb
  have IH := Lib.hid ih
  clear ih hc hn ha hm hb h1 h2 K hlow hA hB hst hla hlb hD hDl hF kda kdb
  by_cases c1 : la = 1
  · -- one symbol ahead
    have t1 : ((la : Int) == 1) = true := by simp; omega
    obtain ⟨x, hx⟩ : ∃ x, A = [x] := by
      match A, HL.out.2.1 with
      | [x], _ => exact ⟨x, rfl⟩
      | [], h => simp at h; omega
      | _ :: _ :: _, h => simp at h; omega
    have HX := Lib.hid hx
    clear hx
    have HEND : Hid (∀ (I : Nat) (w2 : World), m ≤ I → I ≤ b → ((I = m ∨ kd key D (I - 1) < kd key D a) ∧ (I = b ∨ ¬ kd key D I < kd key D a)) → Col w2 g (P ++ (B.take (I - m) ++ (x :: (B.drop (I - m) ++ S)))) → Fr (fun b => b = g) w w2 →
        ∃ C, C.Perm (A ++ B) ∧ Srt key C ∧ Col w2 g (P ++ (C ++ S)) ∧ Fr (fun b => b = g) w w2) := by
      intro I w2 hI1 hI2 HI hc2 hf2
      have kx : kd key D a = key x := by rw [KDA.out a 0 rfl (by omega), HX.out]; rfl
      refine ⟨B.take (I - m) ++ x :: B.drop (I - m), ?_, ?_, ?_, hf2⟩
      · rw [HX.out]
        have h1 : (B.take (I - m) ++ x :: B.drop (I - m)).Perm (x :: (B.take (I - m) ++ B.drop (I - m))) := List.perm_middle
        rw [List.take_append_drop] at h1
        exact h1
      · have hst := HST.out
        rw [HX.out] at hst
        refine merge1 HB.out hst (by have := HL.out; omega) ?_ ?_
        · by_cases h : I = m
          · left; omega
          · right
            have h1 := HI.1.resolve_left h
            rw [kx, KDB.out (I - 1) (I - m - 1) (by omega) (by omega)] at h1
            exact h1
        · by_cases h : I = b
          · left; have := HL.out; omega
          · right
            have h1 := HI.2.resolve_left h
            rw [kx, KDB.out I (I - m) (by omega) (by omega)] at h1
            exact h1
      · simpa using hc2
    go_enter Tryd.func100, Tryd.ntmps100
    go_wp2_with fail
    refine bs1_loop _ _ _ _ _ _ _ _ _ _ _ _ _ _ _ _ _ _ _ _ _ _ _ _ _ _ _ _ _ _ _ _ _ _ _ _ _ _ _ _ _ _ _ _ _ _ _ _ _ _ _ _ _ _ _ _ _ _ _ _ _ _ _ _ _ _ _ _ _ _ _ _ _ _ _ _ _ _ _ _ _ _ _ _ _ _ _ _ _ _ _ _ _ _ _ _ _ _ _ _ _ _ _ _ _ _ _ _ _ _ _ _ _ _ _ _ _ _ _ _ _ _ _ _ _ _ _ _ _ _ _ _ _ _ _ _ _ _ _ _ _ _ _ _ _ _ _ _ _ _ _ _ _ _ _ _ _ _ _ _ _ _ _ _ _ _ _ _ _ _ _ _ _ _ _ _ _ _ _ _ _ _ _ _ _ _ _ _ _ _ _ _ _ _ _ _ _ _ _ _ _ _ _ _ _ _ _ _ _ _ _ _ _ _ _ _ g n c bx N m b a key D _ HC HK (Lib.hid HL.out.2.2.2.2.1) hn1 HLOW.out (by omega) (by omega) q3 ?_
    intro I w1 r11 r12 r31 r32 r33 r34 r35 r36 r37 r38 r39 r40 r41 r42 r43 r44 r45 r46 r47 r48 r49 r50 r51 r52 r53 hI1 hI2 HI HC1 HF1
    have HC1' : Hid (Col w1 g (P ++ (x :: (B.take (I - m) ++ (B.drop (I - m) ++ S))))) := by
      have h := HC1.out
      rw [HL.out.2.2.2.1, HX.out] at h
      show Col _ _ _
      rw [← List.append_assoc (B.take _), List.take_append_drop]
      exact h
    have HLS : Hid (n = P.length + 1 + (B.take (I - m)).length + (B.drop (I - m) ++ S).length ∧ a = P.length ∧ I = P.length + 1 + (B.take (I - m)).length) := by
      have h := HL.out
      rw [HX.out] at h
      show _ ∧ _ ∧ _
      rw [List.length_append, List.length_take, List.length_drop]
      simp at h
      omega
    clear HC HC1
    go_wp2_with fail
    refine sw1_loop _ _ _ _ _ _ _ _ _ _ _ _ _ _ _ _ _ _ _ _ _ _ _ _ _ _ _ _ _ _ _ _ _ _ _ _ _ _ _ _ _ _ _ _ _ _ _ _ _ _ _ _ _ _ _ _ _ _ _ _ _ _ _ _ _ _ _ _ _ _ _ _ _ _ _ _ _ _ _ _ _ _ _ _ _ _ _ _ _ _ _ _ _ _ _ _ _ _ _ _ _ _ _ _ _ _ _ _ _ _ _ _ _ _ _ _ _ _ _ _ _ _ _ _ _ _ _ _ _ _ _ _ _ _ _ _ _ _ _ _ _ _ _ _ _ _ _ _ _ _ _ _ _ _ _ _ _ _ _ _ _ _ _ _ _ _ _ _ _ _ _ _ _ _ _ _ _ _ _ _ _ _ _ _ _ _ _ _ _ _ _ _ _ _ _ _ _ _ _ _ _ _ _ _ _ _ _ _ _ _ _ _ _ _ _ _ _ _ g n c I a x P (B.take (I - m)) (B.drop (I - m) ++ S) _ HC1' HLS hn1 (by omega) (by omega) ?_
    intro w2 q13 q55 q56 q57 q58 q59 q60 q61 q62 q63 q64 q65 q66 q67 q68 q69 q70 q71 q72 q73 q74 q75 q76 HC2 HF2
    have HF3 := Lib.hid (HF1.out.trans HF2.out (fun _ _ h => h))
    clear HC1' HF1 HF2
    go_wp2
    exact bodyPost_ret (results_none rfl _ _ _) rfl ⟨rfl, HEND.out I w2 hI1 hI2 HI.out HC2.out HF3.out⟩
  have t1 : ((la : Int) == 1) = false := by simp; omega
  by_cases c2 : lb = 1
  · -- one symbol behind
    have t2 : ((lb : Int) == 1) = true := by simp; omega
    obtain ⟨y, hy⟩ : ∃ y, B = [y] := by
      match B, HL.out.2.2.1 with
      | [y], _ => exact ⟨y, rfl⟩
      | [], h => simp at h; omega
      | _ :: _ :: _, h => simp at h; omega
    have HY := Lib.hid hy
    clear hy
    have HEND : Hid (∀ (I : Nat) (w2 : World), a ≤ I → I ≤ m → ((I = a ∨ ¬ kd key D m < kd key D (I - 1)) ∧ (I = m ∨ ¬ ¬ kd key D m < kd key D I)) → Col w2 g ((P ++ A.take (I - a)) ++ (y :: (A.drop (I - a) ++ S))) → Fr (fun b => b = g) w w2 →
        ∃ C, C.Perm (A ++ B) ∧ Srt key C ∧ Col w2 g (P ++ (C ++ S)) ∧ Fr (fun b => b = g) w w2) := by
      intro I w2 hI1 hI2 HI hc2 hf2
      have ky : kd key D m = key y := by rw [KDB.out m 0 rfl (by omega), HY.out]; rfl
      refine ⟨A.take (I - a) ++ y :: A.drop (I - a), ?_, ?_, ?_, hf2⟩
      · rw [HY.out]
        have h1 : (A.take (I - a) ++ y :: A.drop (I - a)).Perm (y :: (A.take (I - a) ++ A.drop (I - a))) := List.perm_middle
        rw [List.take_append_drop] at h1
        exact h1.trans (List.perm_append_comm (l₁ := [y]))
      · have hst := HST.out
        rw [HY.out] at hst
        refine merge2 HA.out hst (by have := HL.out; omega) ?_ ?_
        · by_cases h : I = a
          · left; omega
          · right
            have h1 := HI.1.resolve_left h
            rw [ky, KDA.out (I - 1) (I - a - 1) (by omega) (by omega)] at h1
            exact h1
        · by_cases h : I = m
          · left; have := HL.out; omega
          · right
            have h1 := HI.2.resolve_left h
            rw [ky, KDA.out I (I - a) (by omega) (by omega)] at h1
            exact Classical.not_not.1 h1
      · simpa using hc2
    go_enter Tryd.func100, Tryd.ntmps100
    go_wp2_with fail
    refine bs2_loop _ _ _ _ _ _ _ _ _ _ _ _ _ _ _ _ _ _ _ _ _ _ _ _ _ _ _ _ _ _ _ _ _ _ _ _ _ _ _ _ _ _ _ _ _ _ _ _ _ _ _ _ _ _ _ _ _ _ _ _ _ _ _ _ _ _ _ _ _ _ _ _ _ _ _ _ _ _ _ _ _ _ _ _ _ _ _ _ _ _ _ _ _ _ _ _ _ _ _ _ _ _ _ _ _ _ _ _ _ _ _ _ _ _ _ _ _ _ _ _ _ _ _ _ _ _ _ _ _ _ _ _ _ _ _ _ _ _ _ _ _ _ _ _ _ _ _ _ _ _ _ _ _ _ _ _ _ _ _ _ _ _ _ _ _ _ _ _ _ _ _ _ _ _ _ _ _ _ _ _ _ _ _ _ _ _ _ _ _ _ _ _ _ _ _ _ _ _ _ _ _ _ _ _ _ _ _ _ _ _ _ _ _ _ _ _ g n c bx N a m m key D _ HC HK (Lib.hid HL.out.2.2.2.2.1) hn1 HLOW.out (by omega) (by omega) (by omega) ?_
    intro I w1 r15 r16 r83 r84 r85 r86 r87 r88 r89 r90 r91 r92 r93 r94 r95 r96 r97 r98 r99 r100 r101 r102 r103 r104 r105 r106 hI1 hI2 HI HC1 HF1
    have HC1' : Hid (Col w1 g ((P ++ A.take (I - a)) ++ (A.drop (I - a) ++ (y :: S)))) := by
      have h := HC1.out
      rw [HL.out.2.2.2.1, HY.out] at h
      show Col _ _ _
      rw [List.append_assoc, ← List.append_assoc (A.take _), List.take_append_drop]
      simpa using h
    have HLS : Hid (n = (P ++ A.take (I - a)).length + 1 + (A.drop (I - a)).length + S.length ∧ m = (P ++ A.take (I - a)).length + (A.drop (I - a)).length ∧ I = (P ++ A.take (I - a)).length) := by
      have h := HL.out
      rw [HY.out] at h
      show _ ∧ _ ∧ _
      rw [List.length_append, List.length_take, List.length_drop]
      simp at h
      omega
    clear HC HC1
    go_wp2_with fail
    refine sw2_loop _ _ _ _ _ _ _ _ _ _ _ _ _ _ _ _ _ _ _ _ _ _ _ _ _ _ _ _ _ _ _ _ _ _ _ _ _ _ _ _ _ _ _ _ _ _ _ _ _ _ _ _ _ _ _ _ _ _ _ _ _ _ _ _ _ _ _ _ _ _ _ _ _ _ _ _ _ _ _ _ _ _ _ _ _ _ _ _ _ _ _ _ _ _ _ _ _ _ _ _ _ _ _ _ _ _ _ _ _ _ _ _ _ _ _ _ _ _ _ _ _ _ _ _ _ _ _ _ _ _ _ _ _ _ _ _ _ _ _ _ _ _ _ _ _ _ _ _ _ _ _ _ _ _ _ _ _ _ _ _ _ _ _ _ _ _ _ _ _ _ _ _ _ _ _ _ _ _ _ _ _ _ _ _ _ _ _ _ _ _ _ _ _ _ _ _ _ _ _ _ _ _ _ _ _ _ _ _ _ _ _ _ _ _ _ _ _ _ g n c I m y (P ++ A.take (I - a)) (A.drop (I - a)) S _ HC1' HLS hn1 (by omega) (by omega) ?_
    intro w2 q17 q108 q109 q110 q111 q112 q113 q114 q115 q116 q117 q118 q119 q120 q121 q122 q123 q124 q125 q126 q127 q128 HC2 HF2
    have HF3 := Lib.hid (HF1.out.trans HF2.out (fun _ _ h => h))
    clear HC1' HF1 HF2
    go_wp2
    exact bodyPost_ret (results_none rfl _ _ _) rfl ⟨rfl, HEND.out I w2 hI1 hI2 HI.out HC2.out HF3.out⟩
  have t2 : ((lb : Int) == 1) = false := by simp; omega
  obtain ⟨mid, hmid⟩ : ∃ mid, mid = (a + b) / 2 := ⟨_, rfl⟩
  obtain ⟨nn, hnn⟩ : ∃ nn, nn = mid + m := ⟨_, rfl⟩
  obtain ⟨p, hp⟩ : ∃ p, p = nn - 1 := ⟨_, rfl⟩
  obtain ⟨lo, hi, hlh⟩ : ∃ lo hi, (mid < m ∧ lo = nn - b ∧ hi = mid) ∨ (m ≤ mid ∧ lo = a ∧ hi = m) := by
    rcases Nat.lt_or_ge mid m with h | h
    · exact ⟨_, _, .inl ⟨h, rfl, rfl⟩⟩
    · exact ⟨_, _, .inr ⟨h, rfl, rfl⟩⟩
  have em : ((a : Int) + (b : Int)) / 2 = (mid : Int) := by omega
  have en1 : (mid : Int) + (m : Int) = (nn : Int) := by omega
  have ep : (nn : Int) - 1 = (p : Int) := by omega
  have HE := Lib.hid (And.intro em (And.intro en1 ep))
  have HLH := Lib.hid (And.intro hlh (And.intro hp (And.intro hnn hmid)))
  have hlohi : lo ≤ hi := by omega
  have hpn : p - lo < n := by omega
  have hp2 : p ≤ 2000 := by omega
  have hhi : hi ≤ p + 1 := by omega
  have hhn : hi ≤ n := by omega
  have hmn : mid ≤ n := by omega
  -- what the cut gives
  have CUT : Hid (∀ s, lo ≤ s → s ≤ hi → a ≤ s ∧ s ≤ m ∧ s ≤ mid ∧ m ≤ nn - s ∧ nn - s ≤ b ∧ s ≤ nn) := by
    intro s h1 h2
    have := HLH.out
    omega
  have M3 : Hid (∀ s, lo ≤ s → s ≤ hi → ((s = lo ∨ ¬ kd key D (p - (s - 1)) < kd key D (s - 1)) ∧ (s = hi ∨ ¬ ¬ kd key D (p - s) < kd key D s)) → ∀ x ∈ A.take (s - a) ++ B.take (mid - s), ∀ y ∈ A.drop (s - a) ++ B.drop (mid - s), lx key x y) := by
    intro s h1 h2 HI
    have h3 := CUT.out s h1 h2
    have h4 := HLH.out
    have h5 := HL.out
    refine merge3 HA.out HB.out HST.out (by omega) (by omega) ?_ ?_
    · by_cases hk : s - a = 0
      · exact .inl hk
      · by_cases hl : mid - s = B.length
        · exact .inr (.inl hl)
        · by_cases hs : s = lo
          · omega
          · have h := HI.1.resolve_left hs
            rw [KDB.out (p - (s - 1)) (mid - s) (by omega) (by omega), KDA.out (s - 1) (s - a - 1) (by omega) (by omega)] at h
            exact .inr (.inr h)
    · by_cases hk : s - a = A.length
      · exact .inl hk
      · by_cases hl : mid - s = 0
        · exact .inr (.inl hl)
        · by_cases hs : s = hi
          · omega
          · have h := Classical.not_not.1 (HI.2.resolve_left hs)
            rw [KDB.out (p - s) (mid - s - 1) (by omega) (by omega), KDA.out s (s - a) (by omega) (by omega)] at h
            exact .inr (.inr h)
  clear hlh hp hnn hmid em en1 ep
  go_enter Tryd.func100, Tryd.ntmps100
  have em := HE.out.1
  have en1 := HE.out.2.1
  have ep := HE.out.2.2
  go_upto_if 140 with fail
  go_cut [20, 21] (fun u v wx => u = .int .i64 (lo : Int) ∧ v = .int .i64 (hi : Int) ∧ w = wx)
  case first =>
    rcases HLH.out.1 with ⟨h1, h2, h3⟩ | ⟨h1, h2, h3⟩
    · have e3 : (nn : Int) - (b : Int) = (lo : Int) := by have := HLH.out; omega
      subst h3
      clear h2
      go_wp2
      go_meet
      exact ⟨rfl, rfl, rfl⟩
    · have t3 : ¬ mid < m := by omega
      subst h2 h3
      go_wp2
      go_meet
      exact ⟨rfl, rfl, rfl⟩
  case rest =>
  obtain ⟨rfl, rfl, rfl⟩ := hcut
  go_wp2_with fail
  refine bs3_loop _ _ _ _ _ _ _ _ _ _ _ _ _ _ _ _ _ _ _ _ _ _ _ _ _ _ _ _ _ _ _ _ _ _ _ _ _ _ _ _ _ _ _ _ _ _ _ _ _ _ _ _ _ _ _ _ _ _ _ _ _ _ _ _ _ _ _ _ _ _ _ _ _ _ _ _ _ _ _ _ _ _ _ _ _ _ _ _ _ _ _ _ _ _ _ _ _ _ _ _ _ _ _ _ _ _ _ _ _ _ _ _ _ _ _ _ _ _ _ _ _ _ _ _ _ _ _ _ _ _ _ _ _ _ _ _ _ _ _ _ _ _ _ _ _ _ _ _ _ _ _ _ _ _ _ _ _ _ _ _ _ _ _ _ _ _ _ _ _ _ _ _ _ _ _ _ _ _ _ _ _ _ _ _ _ _ _ _ _ _ _ _ _ _ _ _ _ _ _ _ _ _ _ _ _ _ _ _ _ _ _ _ _ _ _ _ g n c bx N lo hi p key D _ HC HK (Lib.hid HL.out.2.2.2.2.1) hn1 HLOW.out hlohi hpn hp2 hhi hhn ?_
  intro s w1 r21 r23 r149 r150 r151 r152 r153 r154 r155 r156 r157 r158 r159 r160 r161 r162 r163 r164 r165 r166 r167 r168 r169 r170 r171 r172 r173 r174 hs1 hs2 HI HC1 HF1
  obtain ⟨en, hen⟩ : ∃ en, en = nn - s := ⟨_, rfl⟩
  obtain ⟨k, hk⟩ : ∃ k, k = s - a := ⟨_, rfl⟩
  obtain ⟨l, hl⟩ : ∃ l, l = mid - s := ⟨_, rfl⟩
  have hcut := CUT.out s hs1 hs2
  have hm3 := M3.out s hs1 hs2 HI.out
  rw [← hk, ← hl] at hm3
  have HM3 := Lib.hid hm3
  have ee : (nn : Int) - (s : Int) = (en : Int) := by omega
  have x1 : s ≤ a + k := by omega
  have x1' : a + k ≤ s := by omega
  have x2 : mid ≤ s + l := by omega
  have x2' : s + l ≤ mid := by omega
  have x3 : en ≤ m + l := by have := HLH.out; omega
  have x3' : m + l ≤ en := by have := HLH.out; omega
  have x4 : k ≤ la := by omega
  have x5 : l ≤ lb := by omega
  have x6 : mid < b := by have := HLH.out; omega
  have x7 : a < mid := by have := HLH.out; omega
  obtain ⟨A1, hA1⟩ : ∃ A1, A1 = A.take k := ⟨_, rfl⟩
  obtain ⟨A2, hA2⟩ : ∃ A2, A2 = A.drop k := ⟨_, rfl⟩
  obtain ⟨B1, hB1⟩ : ∃ B1, B1 = B.take l := ⟨_, rfl⟩
  obtain ⟨B2, hB2⟩ : ∃ B2, B2 = B.drop l := ⟨_, rfl⟩
  have hAA : A1 ++ A2 = A := by rw [hA1, hA2, List.take_append_drop]
  have hBB : B1 ++ B2 = B := by rw [hB1, hB2, List.take_append_drop]
  have l1 : A1.length = k := by rw [hA1, List.length_take]; have := HL.out; omega
  have l2 : A2.length = la - k := by rw [hA2, List.length_drop]; have := HL.out; omega
  have l3 : B1.length = l := by rw [hB1, List.length_take]; have := HL.out; omega
  have l4 : B2.length = lb - l := by rw [hB2, List.length_drop]; have := HL.out; omega
  have sA1 : Srt key A1 := hA1 ▸ srt_take HA.out k
  have sA2 : Srt key A2 := hA2 ▸ srt_drop HA.out k
  have sB1 : Srt key B1 := hB1 ▸ srt_take HB.out l
  have sB2 : Srt key B2 := hB2 ▸ srt_drop HB.out l
  have st1 : Stb key A1 B1 := by rw [hA1, hB1]; exact stb_take HST.out k l
  have st2 : Stb key A2 B2 := by rw [hA2, hB2]; exact stb_drop HST.out k l
  have hc1 : Col w1 g (P ++ (A1 ++ (A2 ++ (B1 ++ (B2 ++ S))))) := by
    have h := HC1.out
    rw [HL.out.2.2.2.1, ← hAA, ← hBB] at h
    simpa using h
  have nl : n = P.length + (k + (la - k)) + (l + (lb - l)) + S.length := by have := HL.out; omega
  have pl : P.length = a := HL.out.1.symm
  have lowD : ∀ X : List Nat, X.Perm D → ∀ x ∈ X, x < N := fun X hX x hx => HLOW.out x (hX.mem_iff.1 hx)
  have permD : (P ++ (A1 ++ (B1 ++ (A2 ++ (B2 ++ S))))).Perm D := by
    rw [HL.out.2.2.2.1, ← hAA, ← hBB]
    refine List.Perm.append_left _ ?_
    rw [List.append_assoc, List.append_assoc]
    refine List.Perm.append_left _ ?_
    rw [← List.append_assoc B1 A2, ← List.append_assoc A2 B1]
    exact List.Perm.append_right _ List.perm_append_comm
  -- the three calls, and what stands where one is left out
  have ROT : Hid (k < la → 0 < l → Calls Tryd.prog 101 #[.slice (some ⟨g, 0, none⟩) n c, .int .i64 (s : Int), .int .i64 (m : Int), .int .i64 (en : Int), .func (.func 91) #[] #[.pointer (some ⟨bx, 0, none⟩)]] w1 fun e w' =>
      e = .returned (.tuple #[]) ∧ Col w' g (P ++ (A1 ++ (B1 ++ (A2 ++ (B2 ++ S))))) ∧ Fr (fun b => b = g) w1 w') := by
    intro h1 h2
    refine (rotate_any g n c s m en _ (P ++ A1) A2 B1 (B2 ++ S) w1 (by simpa using hc1) (by simp; omega) hn1 (by simp; omega) (by simp; omega) (by simp; omega) (by omega) (by omega)).mono ?_
    rintro e w' ⟨rfl, h, hf⟩
    exact ⟨rfl, by simpa using h, hf⟩
  have NROT : Hid (k = la ∨ l = 0 → Col w1 g (P ++ (A1 ++ (B1 ++ (A2 ++ (B2 ++ S)))))) := by
    rintro (h | h)
    · have e : A2 = [] := List.eq_nil_of_length_eq_zero (by omega)
      rw [e] at hc1 ⊢
      exact hc1
    · have e : B1 = [] := List.eq_nil_of_length_eq_zero (by omega)
      rw [e] at hc1 ⊢
      exact hc1
  have SY1 : Hid (∀ w2, Fr (fun b => b = g) w w2 → Col w2 g (P ++ (A1 ++ (B1 ++ (A2 ++ (B2 ++ S))))) → 0 < k → 0 < l → Calls Tryd.prog 100 #[.slice (some ⟨g, 0, none⟩) n c, .int .i64 (a : Int), .int .i64 (s : Int), .int .i64 (mid : Int), .func (.func 91) #[] #[.pointer (some ⟨bx, 0, none⟩)]] w2 fun e w' =>
      e = .returned (.tuple #[]) ∧ ∃ C, C.Perm (A1 ++ B1) ∧ Srt key C ∧ Col w' g (P ++ (C ++ (A2 ++ (B2 ++ S)))) ∧ Fr (fun b => b = g) w2 w') := by
    intro w2 hf hc2 h1 h2
    exact IH.out g n c a s mid bx N key P A1 B1 (A2 ++ (B2 ++ S)) w2 (by have := HF.out; have := HL.out; omega) hc2 (by simp; omega) hn1 pl.symm (by omega) (by omega) (by omega) (by omega) (HK.out.fr hf) (lowD _ permD) sA1 sB1 st1
  have NSY1 : Hid (k = 0 ∨ l = 0 → Srt key (A1 ++ B1)) := by
    rintro (h | h)
    · have e : A1 = [] := List.eq_nil_of_length_eq_zero (by omega)
      rw [e]; exact sB1
    · have e : B1 = [] := List.eq_nil_of_length_eq_zero (by omega)
      rw [e, List.append_nil]; exact sA1
  have SY2 : Hid (∀ w2 C1, Fr (fun b => b = g) w w2 → C1.Perm (A1 ++ B1) → Col w2 g (P ++ (C1 ++ (A2 ++ (B2 ++ S)))) → k < la → l < lb → Calls Tryd.prog 100 #[.slice (some ⟨g, 0, none⟩) n c, .int .i64 (mid : Int), .int .i64 (en : Int), .int .i64 (b : Int), .func (.func 91) #[] #[.pointer (some ⟨bx, 0, none⟩)]] w2 fun e w' =>
      e = .returned (.tuple #[]) ∧ ∃ C, C.Perm (A2 ++ B2) ∧ Srt key C ∧ Col w' g (P ++ (C1 ++ (C ++ S))) ∧ Fr (fun b => b = g) w2 w') := by
    intro w2 C1 hf hp hc2 h1 h2
    have lC : C1.length = k + l := by rw [hp.length_eq, List.length_append, l1, l3]
    have hpD : ((P ++ C1) ++ (A2 ++ (B2 ++ S))).Perm D := by
      refine List.Perm.trans ?_ permD
      rw [List.append_assoc]
      refine List.Perm.append_left _ ?_
      rw [← List.append_assoc A1]
      exact List.Perm.append_right _ hp
    refine (IH.out g n c mid en b bx N key (P ++ C1) A2 B2 S w2 (by have := HF.out; have := HL.out; omega) (by simpa using hc2) (by simp; omega) hn1 (by simp; omega) (by simp; omega) (by simp; omega) (by omega) (by omega) (HK.out.fr hf) (lowD _ hpD) sA2 sB2 st2).mono ?_
    rintro e w' ⟨rfl, C, h1, h2, h3, h4⟩
    exact ⟨rfl, C, h1, h2, by simpa using h3, h4⟩
  have NSY2 : Hid (k = la ∨ l = lb → Srt key (A2 ++ B2)) := by
    rintro (h | h)
    · have e : A2 = [] := List.eq_nil_of_length_eq_zero (by omega)
      rw [e]; exact sB2
    · have e : B2 = [] := List.eq_nil_of_length_eq_zero (by omega)
      rw [e, List.append_nil]; exact sA2
  have HEND : Hid (∀ (C1 C2 : List Nat) (w2 : World), C1.Perm (A1 ++ B1) → Srt key C1 → C2.Perm (A2 ++ B2) → Srt key C2 → Col w2 g (P ++ (C1 ++ (C2 ++ S))) → Fr (fun b => b = g) w w2 → ∃ C, C.Perm (A ++ B) ∧ Srt key C ∧ Col w2 g (P ++ (C ++ S)) ∧ Fr (fun b => b = g) w w2) := by
    intro C1 C2 w2 p1 s1 p2 s2 hc2 hf2
    refine ⟨C1 ++ C2, ?_, ?_, by simpa using hc2, hf2⟩
    · refine (p1.append p2).trans ?_
      rw [← hAA, ← hBB]
      rw [List.append_assoc, List.append_assoc]
      refine List.Perm.append_left _ ?_
      rw [← List.append_assoc, ← List.append_assoc]
      exact List.Perm.append_right _ List.perm_append_comm
    · refine srt_app.2 ⟨s1, s2, fun x hx y hy => ?_⟩
      have h := HM3.out x
      rw [← hA1, ← hA2, ← hB1, ← hB2] at h
      exact h (p1.mem_iff.1 hx) y (p2.mem_iff.1 hy)
  clear hA1 hA2 hB1 hB2 hAA hBB l1 l2 l3 l4 sA1 sA2 sB1 sB2 st1 st2 hc1 nl pl lowD permD hen hk hl hcut hm3
  clear HC HC1 HI HM3 M3 CUT IH
  rcases (show k = 0 ∨ (0 < k ∧ k < la) ∨ k = la by omega) with hk0 | ⟨hk1, hk2⟩ | hk3
  all_goals rcases (show l = 0 ∨ (0 < l ∧ l < lb) ∨ l = lb by omega) with hl0 | ⟨hl1, hl2⟩ | hl3
  · skip
    have d1 : decide (s < m) = true := by simp; omega
    have d2 : decide (m < en) = false := by simp; omega
    have d3 : decide (a < s) = false := by simp; omega
    have d4 : decide (s < mid) = false := by simp; omega
    have d5 : decide (mid < en) = true := by simp; omega
    have d6 : decide (en < b) = true := by simp; omega
    have HC2 := Lib.hid (NROT.out (by omega))
    have HF2 := HF1
    obtain ⟨C1, hC1⟩ : ∃ C1, C1 = A1 ++ B1 := ⟨_, rfl⟩
    have HP1 : Hid (C1.Perm (A1 ++ B1) ∧ Srt key C1) := Lib.hid ⟨by rw [hC1], by rw [hC1]; exact NSY1.out (by omega)⟩
    have HC3 : Hid (Col _ g (P ++ (C1 ++ (A2 ++ (B2 ++ S))))) := Lib.hid (by have h := HC2.out; rw [hC1]; simpa using h)
    have HF3 := HF2
    clear hC1
    go_wp2_with fail
    refine (SY2.out _ C1 HF3.out HP1.out.1 HC3.out (by omega) (by omega)).mono ?_
    rintro e w4 ⟨rfl, C2, hp2, hs2, hc4, hf4⟩
    have HF4 := Lib.hid (HF3.out.trans hf4 (fun _ _ h => h))
    have HC4 := Lib.hid hc4
    have HP2 := Lib.hid (And.intro hp2 hs2)
    clear hc4 hf4 hp2 hs2
    go_wp2
    go_end0
    exact ⟨rfl, HEND.out C1 C2 _ HP1.out.1 HP1.out.2 HP2.out.1 HP2.out.2 HC4.out HF4.out⟩
  · skip
    have d1 : decide (s < m) = true := by simp; omega
    have d2 : decide (m < en) = true := by simp; omega
    have d3 : decide (a < s) = false := by simp; omega
    have d4 : decide (s < mid) = true := by simp; omega
    have d5 : decide (mid < en) = true := by simp; omega
    have d6 : decide (en < b) = true := by simp; omega
    go_wp2_with fail
    refine (ROT.out (by omega) (by omega)).mono ?_
    rintro e w2 ⟨rfl, hc2, hf2⟩
    have HF2 := Lib.hid (HF1.out.trans hf2 (fun _ _ h => h))
    have HC2 := Lib.hid hc2
    clear hc2 hf2
    obtain ⟨C1, hC1⟩ : ∃ C1, C1 = A1 ++ B1 := ⟨_, rfl⟩
    have HP1 : Hid (C1.Perm (A1 ++ B1) ∧ Srt key C1) := Lib.hid ⟨by rw [hC1], by rw [hC1]; exact NSY1.out (by omega)⟩
    have HC3 : Hid (Col _ g (P ++ (C1 ++ (A2 ++ (B2 ++ S))))) := Lib.hid (by have h := HC2.out; rw [hC1]; simpa using h)
    have HF3 := HF2
    clear hC1
    go_wp2_with fail
    refine (SY2.out _ C1 HF3.out HP1.out.1 HC3.out (by omega) (by omega)).mono ?_
    rintro e w4 ⟨rfl, C2, hp2, hs2, hc4, hf4⟩
    have HF4 := Lib.hid (HF3.out.trans hf4 (fun _ _ h => h))
    have HC4 := Lib.hid hc4
    have HP2 := Lib.hid (And.intro hp2 hs2)
    clear hc4 hf4 hp2 hs2
    go_wp2
    go_end0
    exact ⟨rfl, HEND.out C1 C2 _ HP1.out.1 HP1.out.2 HP2.out.1 HP2.out.2 HC4.out HF4.out⟩
  · skip
    have d1 : decide (s < m) = true := by simp; omega
    have d2 : decide (m < en) = true := by simp; omega
    have d3 : decide (a < s) = false := by simp; omega
    have d4 : decide (s < mid) = true := by simp; omega
    have d5 : decide (mid < en) = true := by simp; omega
    have d6 : decide (en < b) = false := by simp; omega
    go_wp2_with fail
    refine (ROT.out (by omega) (by omega)).mono ?_
    rintro e w2 ⟨rfl, hc2, hf2⟩
    have HF2 := Lib.hid (HF1.out.trans hf2 (fun _ _ h => h))
    have HC2 := Lib.hid hc2
    clear hc2 hf2
    obtain ⟨C1, hC1⟩ : ∃ C1, C1 = A1 ++ B1 := ⟨_, rfl⟩
    have HP1 : Hid (C1.Perm (A1 ++ B1) ∧ Srt key C1) := Lib.hid ⟨by rw [hC1], by rw [hC1]; exact NSY1.out (by omega)⟩
    have HC3 : Hid (Col _ g (P ++ (C1 ++ (A2 ++ (B2 ++ S))))) := Lib.hid (by have h := HC2.out; rw [hC1]; simpa using h)
    have HF3 := HF2
    clear hC1
    obtain ⟨C2, hC2⟩ : ∃ C2, C2 = A2 ++ B2 := ⟨_, rfl⟩
    have HP2 : Hid (C2.Perm (A2 ++ B2) ∧ Srt key C2) := Lib.hid ⟨by rw [hC2], by rw [hC2]; exact NSY2.out (by omega)⟩
    have HC4 : Hid (Col _ g (P ++ (C1 ++ (C2 ++ S)))) := Lib.hid (by have h := HC3.out; rw [hC2]; simpa using h)
    have HF4 := HF3
    clear hC2
    go_wp2
    go_end0
    exact ⟨rfl, HEND.out C1 C2 _ HP1.out.1 HP1.out.2 HP2.out.1 HP2.out.2 HC4.out HF4.out⟩
  · skip
    have d1 : decide (s < m) = true := by simp; omega
    have d2 : decide (m < en) = false := by simp; omega
    have d3 : decide (a < s) = true := by simp; omega
    have d4 : decide (s < mid) = false := by simp; omega
    have d5 : decide (mid < en) = true := by simp; omega
    have d6 : decide (en < b) = true := by simp; omega
    have HC2 := Lib.hid (NROT.out (by omega))
    have HF2 := HF1
    obtain ⟨C1, hC1⟩ : ∃ C1, C1 = A1 ++ B1 := ⟨_, rfl⟩
    have HP1 : Hid (C1.Perm (A1 ++ B1) ∧ Srt key C1) := Lib.hid ⟨by rw [hC1], by rw [hC1]; exact NSY1.out (by omega)⟩
    have HC3 : Hid (Col _ g (P ++ (C1 ++ (A2 ++ (B2 ++ S))))) := Lib.hid (by have h := HC2.out; rw [hC1]; simpa using h)
    have HF3 := HF2
    clear hC1
    go_wp2_with fail
    refine (SY2.out _ C1 HF3.out HP1.out.1 HC3.out (by omega) (by omega)).mono ?_
    rintro e w4 ⟨rfl, C2, hp2, hs2, hc4, hf4⟩
    have HF4 := Lib.hid (HF3.out.trans hf4 (fun _ _ h => h))
    have HC4 := Lib.hid hc4
    have HP2 := Lib.hid (And.intro hp2 hs2)
    clear hc4 hf4 hp2 hs2
    go_wp2
    go_end0
    exact ⟨rfl, HEND.out C1 C2 _ HP1.out.1 HP1.out.2 HP2.out.1 HP2.out.2 HC4.out HF4.out⟩
  · skip
    have d1 : decide (s < m) = true := by simp; omega
    have d2 : decide (m < en) = true := by simp; omega
    have d3 : decide (a < s) = true := by simp; omega
    have d4 : decide (s < mid) = true := by simp; omega
    have d5 : decide (mid < en) = true := by simp; omega
    have d6 : decide (en < b) = true := by simp; omega
    go_wp2_with fail
    refine (ROT.out (by omega) (by omega)).mono ?_
    rintro e w2 ⟨rfl, hc2, hf2⟩
    have HF2 := Lib.hid (HF1.out.trans hf2 (fun _ _ h => h))
    have HC2 := Lib.hid hc2
    clear hc2 hf2
    go_wp2_with fail
    refine (SY1.out _ HF2.out HC2.out (by omega) (by omega)).mono ?_
    rintro e w3 ⟨rfl, C1, hp1, hs1, hc3, hf3⟩
    have HF3 := Lib.hid (HF2.out.trans hf3 (fun _ _ h => h))
    have HC3 := Lib.hid hc3
    have HP1 := Lib.hid (And.intro hp1 hs1)
    clear hc3 hf3 hp1 hs1
    go_wp2_with fail
    refine (SY2.out _ C1 HF3.out HP1.out.1 HC3.out (by omega) (by omega)).mono ?_
    rintro e w4 ⟨rfl, C2, hp2, hs2, hc4, hf4⟩
    have HF4 := Lib.hid (HF3.out.trans hf4 (fun _ _ h => h))
    have HC4 := Lib.hid hc4
    have HP2 := Lib.hid (And.intro hp2 hs2)
    clear hc4 hf4 hp2 hs2
    go_wp2
    go_end0
    exact ⟨rfl, HEND.out C1 C2 _ HP1.out.1 HP1.out.2 HP2.out.1 HP2.out.2 HC4.out HF4.out⟩
  · skip
    have d1 : decide (s < m) = true := by simp; omega
    have d2 : decide (m < en) = true := by simp; omega
    have d3 : decide (a < s) = true := by simp; omega
    have d4 : decide (s < mid) = true := by simp; omega
    have d5 : decide (mid < en) = true := by simp; omega
    have d6 : decide (en < b) = false := by simp; omega
    go_wp2_with fail
    refine (ROT.out (by omega) (by omega)).mono ?_
    rintro e w2 ⟨rfl, hc2, hf2⟩
    have HF2 := Lib.hid (HF1.out.trans hf2 (fun _ _ h => h))
    have HC2 := Lib.hid hc2
    clear hc2 hf2
    go_wp2_with fail
    refine (SY1.out _ HF2.out HC2.out (by omega) (by omega)).mono ?_
    rintro e w3 ⟨rfl, C1, hp1, hs1, hc3, hf3⟩
    have HF3 := Lib.hid (HF2.out.trans hf3 (fun _ _ h => h))
    have HC3 := Lib.hid hc3
    have HP1 := Lib.hid (And.intro hp1 hs1)
    clear hc3 hf3 hp1 hs1
    obtain ⟨C2, hC2⟩ : ∃ C2, C2 = A2 ++ B2 := ⟨_, rfl⟩
    have HP2 : Hid (C2.Perm (A2 ++ B2) ∧ Srt key C2) := Lib.hid ⟨by rw [hC2], by rw [hC2]; exact NSY2.out (by omega)⟩
    have HC4 : Hid (Col _ g (P ++ (C1 ++ (C2 ++ S)))) := Lib.hid (by have h := HC3.out; rw [hC2]; simpa using h)
    have HF4 := HF3
    clear hC2
    go_wp2
    go_end0
    exact ⟨rfl, HEND.out C1 C2 _ HP1.out.1 HP1.out.2 HP2.out.1 HP2.out.2 HC4.out HF4.out⟩
  · skip
    have d1 : decide (s < m) = false := by simp; omega
    have d2 : decide (m < en) = false := by simp; omega
    have d3 : decide (a < s) = true := by simp; omega
    have d4 : decide (s < mid) = false := by simp; omega
    have d5 : decide (mid < en) = false := by simp; omega
    have d6 : decide (en < b) = true := by simp; omega
    have HC2 := Lib.hid (NROT.out (by omega))
    have HF2 := HF1
    obtain ⟨C1, hC1⟩ : ∃ C1, C1 = A1 ++ B1 := ⟨_, rfl⟩
    have HP1 : Hid (C1.Perm (A1 ++ B1) ∧ Srt key C1) := Lib.hid ⟨by rw [hC1], by rw [hC1]; exact NSY1.out (by omega)⟩
    have HC3 : Hid (Col _ g (P ++ (C1 ++ (A2 ++ (B2 ++ S))))) := Lib.hid (by have h := HC2.out; rw [hC1]; simpa using h)
    have HF3 := HF2
    clear hC1
    obtain ⟨C2, hC2⟩ : ∃ C2, C2 = A2 ++ B2 := ⟨_, rfl⟩
    have HP2 : Hid (C2.Perm (A2 ++ B2) ∧ Srt key C2) := Lib.hid ⟨by rw [hC2], by rw [hC2]; exact NSY2.out (by omega)⟩
    have HC4 : Hid (Col _ g (P ++ (C1 ++ (C2 ++ S)))) := Lib.hid (by have h := HC3.out; rw [hC2]; simpa using h)
    have HF4 := HF3
    clear hC2
    go_wp2
    go_end0
    exact ⟨rfl, HEND.out C1 C2 _ HP1.out.1 HP1.out.2 HP2.out.1 HP2.out.2 HC4.out HF4.out⟩
  · skip
    have d1 : decide (s < m) = false := by simp; omega
    have d2 : decide (m < en) = true := by simp; omega
    have d3 : decide (a < s) = true := by simp; omega
    have d4 : decide (s < mid) = true := by simp; omega
    have d5 : decide (mid < en) = false := by simp; omega
    have d6 : decide (en < b) = true := by simp; omega
    have HC2 := Lib.hid (NROT.out (by omega))
    have HF2 := HF1
    go_wp2_with fail
    refine (SY1.out _ HF2.out HC2.out (by omega) (by omega)).mono ?_
    rintro e w3 ⟨rfl, C1, hp1, hs1, hc3, hf3⟩
    have HF3 := Lib.hid (HF2.out.trans hf3 (fun _ _ h => h))
    have HC3 := Lib.hid hc3
    have HP1 := Lib.hid (And.intro hp1 hs1)
    clear hc3 hf3 hp1 hs1
    obtain ⟨C2, hC2⟩ : ∃ C2, C2 = A2 ++ B2 := ⟨_, rfl⟩
    have HP2 : Hid (C2.Perm (A2 ++ B2) ∧ Srt key C2) := Lib.hid ⟨by rw [hC2], by rw [hC2]; exact NSY2.out (by omega)⟩
    have HC4 : Hid (Col _ g (P ++ (C1 ++ (C2 ++ S)))) := Lib.hid (by have h := HC3.out; rw [hC2]; simpa using h)
    have HF4 := HF3
    clear hC2
    go_wp2
    go_end0
    exact ⟨rfl, HEND.out C1 C2 _ HP1.out.1 HP1.out.2 HP2.out.1 HP2.out.2 HC4.out HF4.out⟩
  · skip
    have d1 : decide (s < m) = false := by simp; omega
    have d2 : decide (m < en) = true := by simp; omega
    have d3 : decide (a < s) = true := by simp; omega
    have d4 : decide (s < mid) = true := by simp; omega
    have d5 : decide (mid < en) = false := by simp; omega
    have d6 : decide (en < b) = false := by simp; omega
    have HC2 := Lib.hid (NROT.out (by omega))
    have HF2 := HF1
    go_wp2_with fail
    refine (SY1.out _ HF2.out HC2.out (by omega) (by omega)).mono ?_
    rintro e w3 ⟨rfl, C1, hp1, hs1, hc3, hf3⟩
    have HF3 := Lib.hid (HF2.out.trans hf3 (fun _ _ h => h))
    have HC3 := Lib.hid hc3
    have HP1 := Lib.hid (And.intro hp1 hs1)
    clear hc3 hf3 hp1 hs1
    obtain ⟨C2, hC2⟩ : ∃ C2, C2 = A2 ++ B2 := ⟨_, rfl⟩
    have HP2 : Hid (C2.Perm (A2 ++ B2) ∧ Srt key C2) := Lib.hid ⟨by rw [hC2], by rw [hC2]; exact NSY2.out (by omega)⟩
    have HC4 : Hid (Col _ g (P ++ (C1 ++ (C2 ++ S)))) := Lib.hid (by have h := HC3.out; rw [hC2]; simpa using h)
    have HF4 := HF3
    clear hC2
    go_wp2
    go_end0
    exact ⟨rfl, HEND.out C1 C2 _ HP1.out.1 HP1.out.2 HP2.out.1 HP2.out.2 HC4.out HF4.out⟩
end Go.Proofs.YtahfmcdhcbfkaaaDoor
namespace Go.Proofs.YtahfmcdhcbfkaaaDoor
open Go.RowKit HuffM Mem Go.Lib
attribute [local go_sem ↓] Go.wp_at_zero Go.wp_at_succ

set_option maxRecDepth 1000000 in
set_option maxHeartbeats 6400000 in
theorem stable_any (g n c bx N : Nat) (key : Nat → Nat) (d : List Nat) (w : World) (hc : Col w g d) (hn : d.length = n) (hn1 : n ≤ 1000) (K : CmpK g bx key N w) (hlow : ∀ x ∈ d, x < N) (hst : Sta key d) :
    Calls Tryd.prog 98 #[.slice (some ⟨g, 0, none⟩) n c, .int .i64 (n : Int), .func (.func 91) #[] #[.pointer (some ⟨bx, 0, none⟩)]] w fun e w' =>
      e = .returned (.tuple #[]) ∧ ∃ C, C.Perm d ∧ Srt key C ∧ Col w' g C ∧ Fr (fun b => b = g) w w' := by
  have HC := Lib.hid hc
  have HN := Lib.hid hn
  have HK := Lib.hid K
  have HLOW := Lib.hid hlow
  have HST := Lib.hid hst
  clear hc hn K hlow hst
  go_enter Tryd.func98, Tryd.ntmps98
  go_wp2
  go_loopw [7, 8] (fun va vb wr => ∃ (a b : Nat) (L : List (List Nat)) (R : List Nat), va = .int .i64 (a : Int) ∧ vb = .int .i64 (b : Int) ∧ a ≤ n ∧ b ≤ a + 20 ∧ a + 20 ≤ b ∧ Hid (Bks key 20 L ∧ L.flatten.length = a ∧ a + R.length = n) ∧ Hid ((L.flatten ++ R).Perm d ∧ Sta key (L.flatten ++ R)) ∧ Hid (Col wr g (L.flatten ++ R)) ∧ Fr (fun b => b = g) w wr)
    (fun va _ _ => n - (intOf va).toNat)
  case atStart => exact ⟨0, 20, [], d, rfl, rfl, by omega, by omega, by omega, ⟨fun C h => by simp at h, rfl, by rw [HN.out, Nat.zero_add]⟩, ⟨List.Perm.refl _, HST.out⟩, HC, Fr.refl _ _⟩
  case round =>
    clear HC
    obtain ⟨a, b, L, R, rfl, rfl, han, hb1, hb2, HL, HP, HCj, hfr⟩ := hrel
    by_cases hlt : a + 20 ≤ n
    · obtain ⟨R1, hR1⟩ : ∃ R1, R1 = R.take 20 := ⟨_, rfl⟩
      obtain ⟨R2, hR2⟩ : ∃ R2, R2 = R.drop 20 := ⟨_, rfl⟩
      have hR : R = R1 ++ R2 := by rw [hR1, hR2, List.take_append_drop]
      have l1 : R1.length = 20 := by rw [hR1, List.length_take]; have := HL.out; omega
      clear hR1 hR2
      subst hR
      have hb : b = a + 20 := by omega
      have tb : decide ((b : Int) ≤ (n : Int)) = true := by simp; omega
      have tb' : b ≤ n := by omega
      have hsub := sta_stb (sta_stb HP.out.2).2.1
      have hcall := ins_any g n c a b bx N key L.flatten R1 R2 wr HCj.out (by have := HL.out; rw [List.length_append] at this; omega) hn1 HL.out.2.1.symm (by have := HL.out; omega) (HK.out.fr hfr)
        (fun x hx => HLOW.out x (HP.out.1.mem_iff.1 (by simp [hx]))) hsub.1
      have HCALL := Lib.hid hcall
      have HB := Lib.hid (And.intro hb l1)
      clear hcall hb l1 hsub hlt
      go_wp2_with fail
      refine HCALL.out.mono ?_
      rintro e w2 ⟨rfl, C, hp2, hs2, hc2, hf2⟩
      have HC2 := Lib.hid hc2
      have HP2 := Lib.hid (And.intro hp2 hs2)
      have HF2 := Lib.hid (hfr.trans hf2 (fun _ _ h => h))
      clear hc2 hp2 hs2 hf2 hfr HCALL HCj
      go_wp2
      go_roundw
      case rel =>
        refine ⟨b, b + 20, L ++ [C], R2, rfl, by go_num, tb', by omega, by omega, ⟨HL.out.1.snoc (by rw [HP2.out.1.length_eq, HB.out.2]) HP2.out.2, ?_, ?_⟩, ⟨?_, ?_⟩, ?_, HF2.out⟩
        · rw [flat_snoc, List.length_append, HP2.out.1.length_eq, HB.out.2, HL.out.2.1, HB.out.1]
        · have h := HL.out.2.2
          rw [List.length_append] at h
          have := HB.out
          omega
        · rw [flat_snoc, List.append_assoc]
          exact perm_in HP.out.1 HP2.out.1
        · rw [flat_snoc, List.append_assoc]
          exact sta_in HP.out.2 HP2.out.1 HP2.out.2
        · show Col _ _ _
          rw [flat_snoc, List.append_assoc]
          exact HC2.out
      case measure => have := HB.out; simp [intOf]; omega
    · have t1 : ¬ b ≤ n := by omega
      have hcall := ins_any g n c a n bx N key L.flatten R [] wr (by rw [List.append_nil]; exact HCj.out) (by have := HL.out; simp; simp at this; omega) hn1 HL.out.2.1.symm (by have := HL.out; omega) (HK.out.fr hfr)
        (fun x hx => HLOW.out x (HP.out.1.mem_iff.1 (by simp [hx]))) (sta_stb HP.out.2).2.1
      have HCALL := Lib.hid hcall
      have HLT := Lib.hid hlt
      clear hcall hlt
      go_wp2_with fail
      refine HCALL.out.mono ?_
      rintro e w2 ⟨rfl, T, hp2, hs2, hc2, hf2⟩
      have HL2 : Hid (Bks key 20 L ∧ T.length < 20 ∧ L.flatten.length + T.length = n ∧ Srt key T) := ⟨HL.out.1, by rw [hp2.length_eq]; have := HL.out; have := HLT.out; omega, by rw [hp2.length_eq, HL.out.2.1]; exact HL.out.2.2, hs2⟩
      have HP2 : Hid ((L.flatten ++ T).Perm d ∧ Sta key (L.flatten ++ T)) := by
        refine ⟨(List.Perm.append_left _ hp2).trans HP.out.1, ?_⟩
        have h := sta_in (S := []) (by rw [List.append_nil]; exact HP.out.2) hp2 hs2
        rwa [List.append_nil] at h
      have HC2 : Hid (Col w2 g (L.flatten ++ T)) := by rw [List.append_nil] at hc2; exact hc2
      have HF2 := Lib.hid (hfr.trans hf2 (fun _ _ h => h))
      clear hc2 hp2 hs2 hf2 hfr HCALL HCj HL HP t1 HLT
      go_wp2_with fail
      go_loopw [6] (fun vs wr => ∃ (bs : Nat) (L : List (List Nat)) (T : List Nat), vs = .int .i64 (bs : Int) ∧ 20 ≤ bs ∧ bs ≤ 2000 ∧ Hid (Bks key bs L ∧ T.length < bs ∧ L.flatten.length + T.length = n ∧ Srt key T) ∧ Hid ((L.flatten ++ T).Perm d ∧ Sta key (L.flatten ++ T)) ∧ Hid (Col wr g (L.flatten ++ T)) ∧ Fr (fun b => b = g) w wr)
        (fun vs _ => n - (intOf vs).toNat)
      case atStart => exact ⟨20, L, T, rfl, by omega, by omega, HL2, HP2, HC2, HF2.out⟩
      case round =>
        clear HL2 HP2 HC2 HF2 han
        obtain ⟨bs, L, T, rfl, hb20, hb2, HL, HP, HCj, hfr⟩ := hrel
        by_cases hlt : bs < n
        · have HF := Lib.hid hfr
          rename World => wo
          clear hfr
          go_wp2_with fail
          go_loopw [7, 8] (fun va vb wr => ∃ (a b : Nat) (Q L2 : List (List Nat)), va = .int .i64 (a : Int) ∧ vb = .int .i64 (b : Int) ∧ a ≤ n ∧ b ≤ a + 2 * bs ∧ a + 2 * bs ≤ b ∧
              Hid (Bks key (2 * bs) Q ∧ Bks key bs L2 ∧ Q.flatten.length = a ∧ a + L2.flatten.length + T.length = n) ∧ Hid ((Q.flatten ++ (L2.flatten ++ T)).Perm d ∧ Sta key (Q.flatten ++ (L2.flatten ++ T))) ∧ Hid (Col wr g (Q.flatten ++ (L2.flatten ++ T))) ∧ Fr (fun b => b = g) w wr)
            (fun va _ _ => n - (intOf va).toNat)
          case atStart => exact ⟨0, 2 * bs, [], L, rfl, by go_num, by omega, by omega, by omega, ⟨fun C h => by simp at h, HL.out.1, rfl, by have := HL.out.2.2.1; omega⟩, HP, HCj, HF.out⟩
          case round =>
            have HT := Lib.hid (And.intro HL.out.2.1 HL.out.2.2.2)
            clear HP HCj HF HL
            obtain ⟨a, b, Q, L2, rfl, rfl, han, hb1, hb2, HL, HP, HCj, hfr⟩ := hrel
            by_cases hbn : b ≤ n
            · obtain ⟨C1, C2, L3, hL2⟩ : ∃ C1 C2 L3, L2 = C1 :: C2 :: L3 := by
                have h := HL.out
                have hT := HT.out.1
                match L2, h with
                | [], h => have := h.2.2.2; simp at this; omega
                | [C1], h => have h1 := h.2.2.2; have h2 := (h.2.1 C1 (by simp)).1; simp at h1; omega
                | C1 :: C2 :: L3, _ => exact ⟨C1, C2, L3, rfl⟩
              subst hL2
              have k1 := HL.out.2.1 C1 (by simp)
              have k2 := HL.out.2.1 C2 (by simp)
              have k3 : Bks key bs L3 := fun C hC => HL.out.2.1 C (by simp [hC])
              have hcol := HCj.out
              have hpp := HP.out
              rw [show (C1 :: C2 :: L3).flatten ++ T = C1 ++ (C2 ++ (L3.flatten ++ T)) from by simp] at hcol hpp
              have hlen := HL.out.2.2
              rw [show (C1 :: C2 :: L3).flatten.length = C1.length + C2.length + L3.flatten.length from by simp; omega, k1.1, k2.1] at hlen
              obtain ⟨m, hm⟩ : ∃ m, m = a + bs := ⟨_, rfl⟩
              have em : (a : Int) + (bs : Int) = (m : Int) := by omega
              have hcall := sym_any n g n c a m b bx N key Q.flatten C1 C2 (L3.flatten ++ T) wr (by omega) hcol (by rw [List.length_append]; omega) hn1 hlen.1.symm (by omega) (by omega) (by omega) (by omega) (HK.out.fr hfr)
                (fun x hx => HLOW.out x (hpp.1.mem_iff.1 hx)) k1.2 k2.2 (fun x hx y hy => (sta_stb (sta_stb hpp.2).2.1).2.2 x hx y (by simp [hy]))
              have HCALL := Lib.hid hcall
              have HM := Lib.hid (And.intro hm (And.intro k1 (And.intro k2 (And.intro k3 (And.intro hpp hlen)))))
              have hmn : m ≤ n := by omega
              clear hcall hm k1 k2 k3 hcol hpp hlen HCj HP
              go_wp2_with fail
              refine HCALL.out.mono ?_
              rintro e w2 ⟨rfl, C, hp2, hs2, hc2, hf2⟩
              have HC2 := Lib.hid hc2
              have HP2 := Lib.hid (And.intro hp2 hs2)
              have HF2 := Lib.hid (hfr.trans hf2 (fun _ _ h => h))
              clear hc2 hp2 hs2 hf2 hfr HCALL em
              go_wp2
              go_roundw
              case rel =>
                have hl : C.length = 2 * bs := by rw [HP2.out.1.length_eq, List.length_append, HM.out.2.1.1, HM.out.2.2.1.1]; omega
                refine ⟨b, b + 2 * bs, Q ++ [C], L3, rfl, by first | go_num | (congr 1; omega), hbn, by omega, by omega, ⟨HL.out.1.snoc hl HP2.out.2, HM.out.2.2.2.1, ?_, ?_⟩, ⟨?_, ?_⟩, ?_, HF2.out⟩
                · rw [flat_snoc, List.length_append, hl, HL.out.2.2.1]; omega
                · have := HM.out.2.2.2.2.2; omega
                · rw [flat_snoc, List.append_assoc]
                  exact perm_in (X := C1 ++ C2) (by rw [List.append_assoc]; exact HM.out.2.2.2.2.1.1) HP2.out.1
                · rw [flat_snoc, List.append_assoc]
                  exact sta_in (X := C1 ++ C2) (by rw [List.append_assoc]; exact HM.out.2.2.2.2.1.2) HP2.out.1 HP2.out.2
                · show Col _ _ _
                  rw [flat_snoc, List.append_assoc]
                  exact HC2.out
              case measure => simp [intOf]; omega
            · obtain ⟨m, hm⟩ : ∃ m, m = a + bs := ⟨_, rfl⟩
              have em : (a : Int) + (bs : Int) = (m : Int) := by omega
              by_cases hmn : m < n
              · obtain ⟨C1, hL2⟩ : ∃ C1, L2 = [C1] := by
                  have h := HL.out
                  have hT := HT.out.1
                  match L2, h with
                  | [], h => have := h.2.2.2; simp at this; omega
                  | [C1], h => exact ⟨C1, rfl⟩
                  | C1 :: C2 :: L3, h =>
                    have h1 := h.2.2.2
                    have h2 := (h.2.1 C1 (by simp)).1
                    have h3 := (h.2.1 C2 (by simp)).1
                    simp at h1
                    omega
                subst hL2
                have k1 := HL.out.2.1 C1 (by simp)
                have hcol := HCj.out
                have hpp := HP.out
                rw [show [C1].flatten ++ T = C1 ++ T from by simp] at hcol hpp
                have hlen := HL.out.2.2
                rw [show [C1].flatten.length = C1.length from by simp, k1.1] at hlen
                have hcall := sym_any n g n c a m n bx N key Q.flatten C1 T [] wr (by omega) (by rw [List.append_nil]; exact hcol) (by simp; simp at hlen; omega) hn1 hlen.1.symm (by omega) (by omega) (by omega) (by omega) (HK.out.fr hfr)
                  (fun x hx => HLOW.out x (hpp.1.mem_iff.1 (by rw [List.append_nil] at hx; exact hx))) k1.2 HT.out.2 (sta_stb (sta_stb hpp.2).2.1).2.2
                have HCALL := Lib.hid hcall
                have HM := Lib.hid (And.intro hm (And.intro k1 (And.intro hpp hlen)))
                have hm2 : m ≤ n := by omega
                clear hcall hm k1 hcol hpp hlen HCj HP
                go_wp2_with fail
                refine HCALL.out.mono ?_
                rintro e w2 ⟨rfl, C, hp2, hs2, hc2, hf2⟩
                have HC2 := Lib.hid hc2
                have HP2 := Lib.hid (And.intro hp2 hs2)
                have HF2 := Lib.hid (hfr.trans hf2 (fun _ _ h => h))
                clear hc2 hp2 hs2 hf2 hfr HCALL em
                go_wp2
                go_roundw
                case rel =>
                  have hl : C.length = bs + T.length := by rw [HP2.out.1.length_eq, List.length_append, HM.out.2.1.1]
                  have hT := HT.out.1
                  have hh := HM.out.2.2
                  refine ⟨2 * bs, Q, C, by first | go_num | (congr 1; omega), by omega, by omega, ⟨HL.out.1, by omega, by omega, HP2.out.2⟩, ⟨?_, ?_⟩, ?_, HF2.out⟩
                  · exact (List.Perm.append_left _ HP2.out.1).trans hh.1.1
                  · have h := sta_in (S := []) (by rw [List.append_nil]; exact hh.1.2) HP2.out.1 HP2.out.2
                    rwa [List.append_nil] at h
                  · have h := HC2.out
                    rw [List.append_nil] at h
                    exact h
                case measure => simp [intOf] <;> omega
              · -- nothing is left that is to be merged
                have hT' : ∃ T', L2.flatten ++ T = T' ∧ T'.length < 2 * bs ∧ Srt key T' := by
                  have h := HL.out
                  have hT := HT.out
                  match L2, h with
                  | [], h => exact ⟨T, rfl, by omega, hT.2⟩
                  | [C1], h =>
                    have h2 := h.2.1 C1 (by simp)
                    have h3 := h.2.2.2
                    simp at h3
                    have hT0 : T = [] := List.eq_nil_of_length_eq_zero (by omega)
                    exact ⟨C1, by rw [hT0]; simp, by omega, h2.2⟩
                  | C1 :: C2 :: L3, h =>
                    have h1 := h.2.2.2
                    have h2 := (h.2.1 C1 (by simp)).1
                    have h3 := (h.2.1 C2 (by simp)).1
                    simp at h1
                    omega
                obtain ⟨T', e, h1, h2⟩ := hT'
                have hpp := HP.out
                have hcol := HCj.out
                rw [e] at hpp hcol
                have hlen : Q.flatten.length + T'.length = n := by
                  rw [← e, List.length_append]
                  have := HL.out.2.2
                  omega
                have HQ := Lib.hid (And.intro HL.out.1 (And.intro h1 (And.intro hlen h2)))
                have HPP := Lib.hid hpp
                have HCC := Lib.hid hcol
                have HM := Lib.hid hm
                clear e h1 h2 hpp hcol hlen HP HCj hm
                go_wp2
                go_roundw
                case rel => exact ⟨2 * bs, Q, T', by first | go_num | (congr 1; omega), by omega, by omega, HQ, HPP, HCC, hfr⟩
                case measure => simp [intOf] <;> omega
        · have hend : Srt key (L.flatten ++ T) := by
            have h := HL.out
            cases L with
            | nil => exact h.2.2.2
            | cons C L =>
              have hC := h.1 C (List.mem_cons_self ..)
              have hlen := h.2.2.1
              rw [List.flatten_cons, List.length_append, hC.1] at hlen
              have e1 : L.flatten = [] := List.eq_nil_of_length_eq_zero (by omega)
              have e2 : T = [] := List.eq_nil_of_length_eq_zero (by omega)
              rw [List.flatten_cons, e1, e2, List.append_nil, List.append_nil]
              exact hC.2
          have HEND := Lib.hid hend
          clear hend
          go_wp2
          go_end0
          exact ⟨rfl, _, HP.out.1, HEND.out, HCj.out, hfr⟩
end Go.Proofs.YtahfmcdhcbfkaaaDoor
namespace Go.Proofs.YtahfmcdhcbfkaaaDoor
open Go.RowKit HuffM Mem Go.Lib
attribute [local go_sem ↓] Go.wp_at_zero Go.wp_at_succ

set_option maxRecDepth 1000000 in
set_option maxHeartbeats 3200000 in
theorem sortStable_any (g n c bx N : Nat) (key : Nat → Nat) (d : List Nat) (w : World) (hc : Col w g d) (hn : d.length = n) (hn1 : n ≤ 1000) (K : CmpK g bx key N w) (hlow : ∀ x ∈ d, x < N) (hst : Sta key d) :
    Calls Tryd.prog 90 #[.slice (some ⟨g, 0, none⟩) n c, .func (.func 91) #[] #[.pointer (some ⟨bx, 0, none⟩)]] w fun e w' =>
      e = .returned (.tuple #[]) ∧ ∃ C, C.Perm d ∧ Srt key C ∧ Col w' g C ∧ Fr (fun b => b = g) w w' := by
  have H := Lib.hid (stable_any g n c bx N key d w hc hn hn1 K hlow hst)
  clear hc hn K hlow hst
  go_enter Tryd.func90, Tryd.ntmps90
  go_wp2_with fail
  refine H.out.mono ?_
  rintro e w' ⟨rfl, h⟩
  have HE := Lib.hid h
  clear h
  go_wp2
  go_end0
  exact ⟨rfl, HE.out⟩

theorem col_of_own {w : World} {base q c : Nat} {A : Option Addr} {xs : List Nat} (h : w.ownsRow base 3 1 (.slice A q c) q (xs.map natc)) (hq : 0 < q) : ∃ g, A = some ⟨g, 0, none⟩ ∧ base ≤ g ∧ Col w g xs := by
  rcases h.2 with ⟨hv, rfl⟩ | ⟨g, cap, cur, hv, hb, hg, _, _, _, ht⟩
  · omega
  · injection hv with hA
    refine ⟨g, hA, hb, cur.toList.drop q, ?_⟩
    unfold Row
    rw [← ht, Nat.mul_one, List.take_append_drop]
    exact hg
theorem Col.rd {w : World} {g n : Nat} {d : List Nat} (h : Col w g d) (hn : d.length = n) : Rd w (some ⟨g, 0, none⟩) n (d.map natc) := by
  obtain ⟨r, h⟩ := h
  have := h.rd 0 n (by simp; omega)
  rw [List.drop_zero, List.take_append_of_le_length (by simp; omega), List.take_of_length_le (by simp; omega)] at this
  exact this

set_option maxRecDepth 1000000 in
set_option maxHeartbeats 3200000 in
theorem coded_any (A : Option Addr) (n c : Nat) (L : List Int) (w : World) (hr : Rd w A n (L.map intc)) (hn : n ≤ 1000) (hA : ∀ ad, A = some ad → ad.block < w.heap.size) (hR : rightB L = true) :
    Calls Tryd.prog 82 #[.slice A n c] w fun e w' => ∃ g m c', e = .returned (.slice (some ⟨g, 0, none⟩) m c') ∧ m = (codedL L).length ∧ m ≤ c' ∧ m ≤ n ∧ w.heap.size ≤ g ∧ Col w' g (codedL L) ∧ Fr (fun _ => False) w w' := by
  have hln : L.length = n := by simpa using hr.1
  have HL := Lib.hid (right_in hR)
  have HS := Lib.hid (right_some hR)
  have HLN := Lib.hid hln
  obtain ⟨w0, hw0⟩ : ∃ w0, w0 = w.alloc (.cells #[.slice A n c] 54) := ⟨_, rfl⟩
  obtain ⟨bx, hbx⟩ : ∃ bx, bx = w.heap.size := ⟨_, rfl⟩
  have hbox : w0.heap[bx]? = some (.cells #[.slice A n c] 54 (0, 0)) := by rw [hw0, hbx]; exact heap_alloc_new w _
  have hf0 : Fr (fun _ => False) w w0 := by rw [hw0]; exact (Fr.refl _ _).alloc _
  have hs0 : bx < w0.heap.size := by rw [hw0, hbx]; simp
  have hr0 := hr.fr hf0 (fun _ _ h => h)
  have HB := Lib.hid hbox
  have HR := Lib.hid hr0
  have HF0 := Lib.hid hf0
  have HA' := Lib.hid (fun (ad : Addr) (h : A = some ad) => (by have := hA ad h; omega : ad.block < bx))
  have HW := Lib.hid (And.intro hw0 hbx)
  clear hr hln hA hR hw0 hbx hbox hf0 hr0
  go_enter Tryd.func82, Tryd.ntmps82
  go_upto_region 1 with fail
  rw [← HW.out.1, ← HW.out.2]
  have hcb : w0.cell? ⟨bx, 0, none⟩ = some (.slice A n c) := by rw [cell_of HB.out]; rfl
  go_wp2_with fail
  clear hcb
  go_loopw [3, 8] (fun v i wr => ∃ (k q : Nat) (A' : Option Addr) (c' : Nat), k ≤ n ∧ i = .int .i64 (k : Int) ∧ v = .slice A' q c' ∧ q ≤ k ∧ q ≤ c' ∧ Hid (q = (syms L k).length) ∧ Hid (wr.ownsRow w0.heap.size 3 1 (.slice A' q c') q ((syms L k).map natc)) ∧ Fr (fun _ => False) w0 wr)
    (fun _ i _ => n - (intOf i).toNat)
  case atStart => exact ⟨0, 0, none, 0, by omega, rfl, rfl, by omega, by omega, rfl, World.ownsRow_nil _ _ _ _, Fr.refl _ _⟩
  case round =>
    obtain ⟨k, q, A', c', hk, rfl, rfl, hqk, hqc, HQ, HO, hfr⟩ := hrel
    by_cases hlt : k < n
    · obtain ⟨ad, u, rfl, hu, hcell⟩ := (HR.out.fr hfr (fun _ _ h => h)).at_ hlt
      obtain ⟨x, hx⟩ : ∃ x, L[k]? = some x := ⟨_, List.getElem?_eq_getElem (by have := HLN.out; omega)⟩
      obtain rfl : intc x = u := by simpa [hx] using hu
      unfold intc at hcell
      have hgd : L.getD k 0 = x := by rw [List.getD_eq_getElem?_getD, hx]; rfl
      have hsy := syms_succ L k
      rw [hgd] at hsy
      have hsz := hfr.size
      by_cases hx0 : 0 < x
      · rw [if_pos hx0] at hsy
        have HSY := Lib.hid hsy
        have HHO := HO.out.alloc (.cells #[.int .i64 (k : Int)] 3)
        have HO' := Lib.hid HHO
        clear hu hx hgd hsy HHO
        go_wp2_with (at_builtin; refine wpList_appN intT _ rfl _ _ rfl w0.heap.size _ _ _ rfl HO'.out _ _ _ _ rfl (Rd.one _ _ _) (one_one _ _) (q + 1) rfl (by unfold maxLen; omega) (by omega) (by simp; omega) ?_)
        intro A2 c2 w2 h1 h2 hown2 hf2 _
        have HO2 : Hid (w2.ownsRow w0.heap.size 3 1 (.slice A2 (q + 1) c2) (q + 1) ((syms L (k + 1)).map natc)) := by
          show w2.ownsRow _ _ _ _ _ _
          rw [HSY.out, List.map_append]
          exact hown2
        have HF2 := Lib.hid ((hfr.alloc _).trans hf2 (fun b hb h => by have := (HO'.out.lt b h).1; omega))
        clear hown2 hf2 hfr HO HO'
        go_wp2
        go_roundw
        case rel => exact ⟨k + 1, q + 1, A2, c2, by omega, by go_num, by first | rfl | (congr 1), by omega, by omega, by show _ = _; rw [HSY.out, List.length_append, ← HQ.out]; rfl, HO2, HF2.out⟩
        case measure => simp [intOf] <;> omega
      · rw [if_neg hx0] at hsy
        have HSY := Lib.hid hsy
        clear hu hx hgd hsy
        go_wp2
        go_roundw
        case rel => exact ⟨k + 1, q, A', c', by omega, by go_num, rfl, by omega, by omega, by show _ = _; rw [HSY.out]; exact HQ.out, by show World.ownsRow _ _ _ _ _ _ _; rw [HSY.out]; exact HO.out, hfr⟩
        case measure => simp [intOf] <;> omega
    · obtain rfl : k = n := by omega
      have hq : 0 < q := by rw [HQ.out, ← HLN.out]; exact HS.out
      obtain ⟨g, rfl, hg, hcol⟩ := col_of_own HO.out hq
      have hcb : wr.cell? ⟨bx, 0, none⟩ = some (.slice A k c) := by rw [cell_of (hfr.blk HB.out (fun h => h))]; rfl
      have hcall := sortStable_any g q c' bx k (kl L) (syms L k) wr hcol HQ.out.symm (by omega) (cmpK_of g bx k c A L wr hcb (HR.out.fr hfr (fun _ _ h => h)) HL.out (by omega) (fun ad h => by have := HA'.out ad h; omega)) (fun x hx => (syms_mem.1 hx).1) (syms_sta _ _ _)
      have HCALL := Lib.hid hcall
      have HG := Lib.hid hg
      clear hcall hcb hg hcol HO
      go_wp2_with fail
      refine HCALL.out.mono ?_
      rintro e w2 ⟨rfl, C, hp, hs, hc2, hf2⟩
      have e1 : C = codedL L := by
        rw [← HLN.out] at hp
        exact coded_eq HL.out hp hs
      subst e1
      have hl : (codedL L).length = q := by rw [hp.length_eq, ← HQ.out]
      have HE := Lib.hid (And.intro hl (And.intro hc2 (HF0.out.trans (hfr.trans hf2 (fun b hb e => by have := HG.out; omega)) (fun _ _ h => h))))
      clear hp hs hc2 hf2 hl HCALL
      go_wp2
      go_ret
      exact ⟨g, q, c', rfl, HE.out.1.symm, hqc, hqk, by have := HG.out; have := HF0.out.size; omega, HE.out.2.1, HE.out.2.2⟩
end Go.Proofs.YtahfmcdhcbfkaaaDoor
