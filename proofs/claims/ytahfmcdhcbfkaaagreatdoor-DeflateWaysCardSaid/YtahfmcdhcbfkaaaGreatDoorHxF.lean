/-
  The loops of the library's symMerge at numbers: three searches by halves, two rows of swaps (written by gen_sym.py).
-/
import Derived.Test.YtahfmcdhcbfkaaaGreatDoorHxE
import Derived.Test.YtahfmcdhcbfkaaaGreatDoorZm08
namespace Go.Proofs.YtahfmcdhcbfkaaaGreatDoor
open Go.RowKit HuffM Mem Go.Lib
attribute [local go_sem ↓] Go.wp_at_zero Go.wp_at_succ
set_option linter.unusedVariables false

/-- the key at a place -/
def kd (key : Nat → Nat) (d : List Nat) (i : Nat) : Nat := key (d.getD i 0)
theorem getE_D {d : List Nat} {i : Nat} (h : i < d.length) : d[i]? = some (d.getD i 0) := by rw [List.getD_eq_getElem?_getD, List.getElem?_eq_getElem h]; rfl
theorem half_mid {i j h : Nat} (h1 : i < j) (hh : h = (i + j) / 2) : i ≤ h ∧ h < j := by omega

set_option maxRecDepth 1000000 in
noncomputable def bs1Body : Code := ((Tryz.f96.body.bind (loopAt 3)).getD .skip)
set_option maxRecDepth 1000000 in
set_option maxHeartbeats 3200000 in
theorem bs1_loop (Q0 : Exit → Act → World → Prop) (s2 s3 s5 s6 s7 s8 s9 s12 s13 s14 s15 s16 s17 s18 s19 s20 s21 s22 s23 s24 s25 s26 s27 s28 s29 s30 s31 s32 s33 s34 s35 s36 s37 s38 s39 s40 s41 s42 s43 s44 s45 s46 s47 s48 s49 s50 s51 s52 s53 s54 s55 s56 s57 s58 s59 s60 s61 s62 s63 s64 s65 s66 s67 s68 s69 s70 s71 s72 s73 s74 s75 s76 s77 s78 s79 s80 s81 s82 s83 s84 s85 s86 s87 s88 s89 s90 s91 s92 s93 s94 s95 s96 s97 s98 s99 s100 s101 s102 s103 s104 s105 s106 s107 s108 s109 s110 s111 s112 s113 s114 s115 s116 s117 s118 s119 s120 s121 s122 s123 s124 s125 s126 s127 s128 s129 s130 s131 s132 s133 s134 s135 s136 s137 s138 s139 s140 s141 s142 s143 s144 s145 s146 s147 s148 s149 s150 s151 s152 s153 s154 s155 s156 s157 s158 s159 s160 s161 s162 s163 s164 s165 s166 s167 s168 s169 s170 s171 s172 s173 s174 s175 s176 s177 s178 s179 s180 s181 s182 s183 s184 s185 s186 s187 s188 s189 s190 s191 s192 s193 s194 s195 s196 s197 s198 s199 s200 s201 s202 s203 s204 s205 s206 s207 s208 s209 s210 s211 s212 s213 s214 s215 s216 s217 s218 s219 : Value) (g n c bx N lo hi a : Nat) (key : Nat → Nat) (d : List Nat) (w0 : World) (HC : Hid (Col w0 g d)) (HK : Hid (CmpK g bx key N w0)) (HN : Hid (d.length = n)) (hn : n ≤ 1000) (hlow : ∀ x ∈ d, x < N) (hlohi : lo ≤ hi) (han : a < n) (hhi : hi ≤ n)
    (hexit : ∀ (I : Nat) (w'' : World) (r11 r12 r31 r32 r33 r34 r35 r36 r37 r38 r39 r40 r41 r42 r43 r44 r45 r46 r47 r48 r49 r50 r51 r52 r53 : Value), lo ≤ I → I ≤ hi → Hid ((I = lo ∨ kd key d (I - 1) < kd key d a) ∧ (I = hi ∨ ¬ (kd key d I < kd key d a))) → Hid (Col w'' g d) → Hid (Fr (fun b => b = g) w0 w'') → Q0 (.exit 0) ⟨List.toArray (.slice (some ⟨g, 0, none⟩) n c :: .int .i64 (a : Int) :: s2 :: s3 :: .func (.func 87) #[] #[.pointer (some ⟨bx, 0, none⟩)] :: s5 :: s6 :: s7 :: s8 :: s9 :: .int .i64 (I : Int) :: r11 :: r12 :: s13 :: s14 :: s15 :: s16 :: s17 :: s18 :: s19 :: s20 :: s21 :: s22 :: s23 :: s24 :: s25 :: s26 :: s27 :: s28 :: s29 :: s30 :: r31 :: r32 :: r33 :: r34 :: r35 :: r36 :: r37 :: r38 :: r39 :: r40 :: r41 :: r42 :: r43 :: r44 :: r45 :: r46 :: r47 :: r48 :: r49 :: r50 :: r51 :: r52 :: r53 :: s54 :: s55 :: s56 :: s57 :: s58 :: s59 :: s60 :: s61 :: s62 :: s63 :: s64 :: s65 :: s66 :: s67 :: s68 :: s69 :: s70 :: s71 :: s72 :: s73 :: s74 :: s75 :: s76 :: s77 :: s78 :: s79 :: s80 :: s81 :: s82 :: s83 :: s84 :: s85 :: s86 :: s87 :: s88 :: s89 :: s90 :: s91 :: s92 :: s93 :: s94 :: s95 :: s96 :: s97 :: s98 :: s99 :: s100 :: s101 :: s102 :: s103 :: s104 :: s105 :: s106 :: s107 :: s108 :: s109 :: s110 :: s111 :: s112 :: s113 :: s114 :: s115 :: s116 :: s117 :: s118 :: s119 :: s120 :: s121 :: s122 :: s123 :: s124 :: s125 :: s126 :: s127 :: s128 :: s129 :: s130 :: s131 :: s132 :: s133 :: s134 :: s135 :: s136 :: s137 :: s138 :: s139 :: s140 :: s141 :: s142 :: s143 :: s144 :: s145 :: s146 :: s147 :: s148 :: s149 :: s150 :: s151 :: s152 :: s153 :: s154 :: s155 :: s156 :: s157 :: s158 :: s159 :: s160 :: s161 :: s162 :: s163 :: s164 :: s165 :: s166 :: s167 :: s168 :: s169 :: s170 :: s171 :: s172 :: s173 :: s174 :: s175 :: s176 :: s177 :: s178 :: s179 :: s180 :: s181 :: s182 :: s183 :: s184 :: s185 :: s186 :: s187 :: s188 :: s189 :: s190 :: s191 :: s192 :: s193 :: s194 :: s195 :: s196 :: s197 :: s198 :: s199 :: s200 :: s201 :: s202 :: s203 :: s204 :: s205 :: s206 :: s207 :: s208 :: s209 :: s210 :: s211 :: s212 :: s213 :: s214 :: s215 :: s216 :: s217 :: s218 :: s219 :: []), []⟩ w'') :
    Code.wp Tryz.prog (Code.loop bs1Body) Q0 ⟨List.toArray (.slice (some ⟨g, 0, none⟩) n c :: .int .i64 (a : Int) :: s2 :: s3 :: .func (.func 87) #[] #[.pointer (some ⟨bx, 0, none⟩)] :: s5 :: s6 :: s7 :: s8 :: s9 :: .int .i64 (lo : Int) :: .int .i64 (hi : Int) :: s12 :: s13 :: s14 :: s15 :: s16 :: s17 :: s18 :: s19 :: s20 :: s21 :: s22 :: s23 :: s24 :: s25 :: s26 :: s27 :: s28 :: s29 :: s30 :: s31 :: s32 :: s33 :: s34 :: s35 :: s36 :: s37 :: s38 :: s39 :: s40 :: s41 :: s42 :: s43 :: s44 :: s45 :: s46 :: s47 :: s48 :: s49 :: s50 :: s51 :: s52 :: s53 :: s54 :: s55 :: s56 :: s57 :: s58 :: s59 :: s60 :: s61 :: s62 :: s63 :: s64 :: s65 :: s66 :: s67 :: s68 :: s69 :: s70 :: s71 :: s72 :: s73 :: s74 :: s75 :: s76 :: s77 :: s78 :: s79 :: s80 :: s81 :: s82 :: s83 :: s84 :: s85 :: s86 :: s87 :: s88 :: s89 :: s90 :: s91 :: s92 :: s93 :: s94 :: s95 :: s96 :: s97 :: s98 :: s99 :: s100 :: s101 :: s102 :: s103 :: s104 :: s105 :: s106 :: s107 :: s108 :: s109 :: s110 :: s111 :: s112 :: s113 :: s114 :: s115 :: s116 :: s117 :: s118 :: s119 :: s120 :: s121 :: s122 :: s123 :: s124 :: s125 :: s126 :: s127 :: s128 :: s129 :: s130 :: s131 :: s132 :: s133 :: s134 :: s135 :: s136 :: s137 :: s138 :: s139 :: s140 :: s141 :: s142 :: s143 :: s144 :: s145 :: s146 :: s147 :: s148 :: s149 :: s150 :: s151 :: s152 :: s153 :: s154 :: s155 :: s156 :: s157 :: s158 :: s159 :: s160 :: s161 :: s162 :: s163 :: s164 :: s165 :: s166 :: s167 :: s168 :: s169 :: s170 :: s171 :: s172 :: s173 :: s174 :: s175 :: s176 :: s177 :: s178 :: s179 :: s180 :: s181 :: s182 :: s183 :: s184 :: s185 :: s186 :: s187 :: s188 :: s189 :: s190 :: s191 :: s192 :: s193 :: s194 :: s195 :: s196 :: s197 :: s198 :: s199 :: s200 :: s201 :: s202 :: s203 :: s204 :: s205 :: s206 :: s207 :: s208 :: s209 :: s210 :: s211 :: s212 :: s213 :: s214 :: s215 :: s216 :: s217 :: s218 :: s219 :: []), []⟩ w0 := by
  refine Code.wp_mono (onExit_imp (n := 0)) ?_
  conv => arg 2; arg 1; whnf
  have HNx := Lib.hid hlow
  clear hlow
  go_loopw [10, 11] (fun vi vj wr => ∃ i j : Nat, vi = .int .i64 (i : Int) ∧ vj = .int .i64 (j : Int) ∧ lo ≤ i ∧ i ≤ j ∧ j ≤ hi ∧ Hid ((i = lo ∨ kd key d (i - 1) < kd key d a) ∧ (j = hi ∨ ¬ (kd key d j < kd key d a))) ∧ Hid (Col wr g d) ∧ Fr (fun b => b = g) w0 wr)
    (fun vi vj _ => (intOf vj).toNat - (intOf vi).toNat)
  case atStart => exact ⟨lo, hi, rfl, rfl, by omega, hlohi, by omega, ⟨.inl rfl, .inl rfl⟩, HC, Fr.refl _ _⟩
  case round =>
    clear HC
    obtain ⟨i, j, rfl, rfl, hli, hij, hjh, HI, HCj, hfr⟩ := hrel
    by_cases hlt : i < j
    · obtain ⟨h, hh⟩ : ∃ h, h = (i + j) / 2 := ⟨_, rfl⟩
      obtain ⟨hm1, hm2⟩ := half_mid hlt hh
      have hd : ((i : Int) + (j : Int)) / 2 = (h : Int) := by omega
      have HD := Lib.hid hd
      clear hh

      obtain ⟨x, hx⟩ : ∃ x, x = d.getD h 0 := ⟨_, rfl⟩
      obtain ⟨y, hy⟩ : ∃ y, y = d.getD a 0 := ⟨_, rfl⟩
      have gx := getE_D (d := d) (i := h) (by rw [HN.out]; omega)
      have gy := getE_D (d := d) (i := a) (by rw [HN.out]; omega)
      rw [← hx] at gx
      rw [← hy] at gy
      have cx := HCj.out.cell gx
      have cy := HCj.out.cell gy
      have hcmp := fun q => HK.out.call (wr.drewN q) x y (hfr.drewN q) (HNx.out x (List.mem_of_getElem? gx)) (HNx.out y (List.mem_of_getElem? gy))
      obtain ⟨kx, hkx⟩ : ∃ kx, kx = key x := ⟨_, rfl⟩
      obtain ⟨ky, hky⟩ : ∃ ky, ky = key y := ⟨_, rfl⟩
      rw [← hkx, ← hky] at hcmp
      have bkx := HK.out.few x
      have bky := HK.out.few y
      rw [← hkx] at bkx
      rw [← hky] at bky
      rw [hx] at hkx
      rw [hy] at hky
      clear hx hy
      replace hkx : kx = kd key d h := hkx
      replace hky : ky = kd key d a := hky
      by_cases hless : kx < ky
      · skip
        have tl : decide ((kx : Int) - (ky : Int) < 0) = true := by simp; omega
        have tl' : (kx : Int) - (ky : Int) < 0 := by omega
        have HUP := Lib.hid (show kd key d h < kd key d a from by rw [← hkx, ← hky]; omega)
        clear hless hkx hky gx gy
        go_wp2_with fail
        go_quiet ((go_at_call 87; refine Calls.quiet_of (hcmp _)))
        have HF2 := Lib.hid (hfr.drewN nq)
        have HC2 : Hid (Col (wr.drewN nq) g d) := HCj
        generalize wr.drewN nq = w3 at HF2 HC2 ⊢
        clear hcmp hfr cx cy HCj tl tl' 
        go_wp2
        go_roundw
        case rel => exact ⟨h + 1, j, by go_num, rfl, by omega, by omega, by omega, Lib.hid (And.intro (Or.inr (by rw [Nat.add_sub_cancel]; exact HUP.out)) HI.out.2), HC2, HF2.out⟩
        case measure => simp [intOf] <;> omega
      · skip
        have tl : decide ((kx : Int) - (ky : Int) < 0) = false := by simp; omega
        have tl' : ¬ (kx : Int) - (ky : Int) < 0 := by omega
        have HUP := Lib.hid (show ¬ (kd key d h < kd key d a) from by rw [← hkx, ← hky]; omega)
        clear hless hkx hky gx gy
        go_wp2_with fail
        go_quiet ((go_at_call 87; refine Calls.quiet_of (hcmp _)))
        have HF2 := Lib.hid (hfr.drewN nq)
        have HC2 : Hid (Col (wr.drewN nq) g d) := HCj
        generalize wr.drewN nq = w3 at HF2 HC2 ⊢
        clear hcmp hfr cx cy HCj tl tl' 
        go_wp2
        go_roundw
        case rel => exact ⟨i, h, rfl, rfl, by omega, by omega, by omega, Lib.hid (And.intro HI.out.1 (Or.inr HUP.out)), HC2, HF2.out⟩
        case measure => simp [intOf] <;> omega
    · obtain rfl : i = j := by omega
      go_wp2_with fail
      exact ⟨rfl, hexit i wr _ _ _ _ _ _ _ _ _ _ _ _ _ _ _ _ _ _ _ _ _ _ _ _ _ hli hjh HI HCj (Lib.hid hfr)⟩

set_option maxRecDepth 1000000 in
noncomputable def bs2Body : Code := ((Tryz.f96.body.bind (loopAt 15)).getD .skip)
set_option maxRecDepth 1000000 in
set_option maxHeartbeats 3200000 in
theorem bs2_loop (Q0 : Exit → Act → World → Prop) (s1 s3 s5 s6 s7 s8 s9 s10 s11 s12 s13 s16 s17 s18 s19 s20 s21 s22 s23 s24 s25 s26 s27 s28 s29 s30 s31 s32 s33 s34 s35 s36 s37 s38 s39 s40 s41 s42 s43 s44 s45 s46 s47 s48 s49 s50 s51 s52 s53 s54 s55 s56 s57 s58 s59 s60 s61 s62 s63 s64 s65 s66 s67 s68 s69 s70 s71 s72 s73 s74 s75 s76 s77 s78 s79 s80 s81 s82 s83 s84 s85 s86 s87 s88 s89 s90 s91 s92 s93 s94 s95 s96 s97 s98 s99 s100 s101 s102 s103 s104 s105 s106 s107 s108 s109 s110 s111 s112 s113 s114 s115 s116 s117 s118 s119 s120 s121 s122 s123 s124 s125 s126 s127 s128 s129 s130 s131 s132 s133 s134 s135 s136 s137 s138 s139 s140 s141 s142 s143 s144 s145 s146 s147 s148 s149 s150 s151 s152 s153 s154 s155 s156 s157 s158 s159 s160 s161 s162 s163 s164 s165 s166 s167 s168 s169 s170 s171 s172 s173 s174 s175 s176 s177 s178 s179 s180 s181 s182 s183 s184 s185 s186 s187 s188 s189 s190 s191 s192 s193 s194 s195 s196 s197 s198 s199 s200 s201 s202 s203 s204 s205 s206 s207 s208 s209 s210 s211 s212 s213 s214 s215 s216 s217 s218 s219 : Value) (g n c bx N lo hi m : Nat) (key : Nat → Nat) (d : List Nat) (w0 : World) (HC : Hid (Col w0 g d)) (HK : Hid (CmpK g bx key N w0)) (HN : Hid (d.length = n)) (hn : n ≤ 1000) (hlow : ∀ x ∈ d, x < N) (hlohi : lo ≤ hi) (han : m < n) (hhi : hi ≤ n)
    (hexit : ∀ (I : Nat) (w'' : World) (r15 r16 r83 r84 r85 r86 r87 r88 r89 r90 r91 r92 r93 r94 r95 r96 r97 r98 r99 r100 r101 r102 r103 r104 r105 r106 : Value), lo ≤ I → I ≤ hi → Hid ((I = lo ∨ ¬ kd key d m < kd key d (I - 1)) ∧ (I = hi ∨ ¬ (¬ kd key d m < kd key d I))) → Hid (Col w'' g d) → Hid (Fr (fun b => b = g) w0 w'') → Q0 (.exit 4) ⟨List.toArray (.slice (some ⟨g, 0, none⟩) n c :: s1 :: .int .i64 (m : Int) :: s3 :: .func (.func 87) #[] #[.pointer (some ⟨bx, 0, none⟩)] :: s5 :: s6 :: s7 :: s8 :: s9 :: s10 :: s11 :: s12 :: s13 :: .int .i64 (I : Int) :: r15 :: r16 :: s17 :: s18 :: s19 :: s20 :: s21 :: s22 :: s23 :: s24 :: s25 :: s26 :: s27 :: s28 :: s29 :: s30 :: s31 :: s32 :: s33 :: s34 :: s35 :: s36 :: s37 :: s38 :: s39 :: s40 :: s41 :: s42 :: s43 :: s44 :: s45 :: s46 :: s47 :: s48 :: s49 :: s50 :: s51 :: s52 :: s53 :: s54 :: s55 :: s56 :: s57 :: s58 :: s59 :: s60 :: s61 :: s62 :: s63 :: s64 :: s65 :: s66 :: s67 :: s68 :: s69 :: s70 :: s71 :: s72 :: s73 :: s74 :: s75 :: s76 :: s77 :: s78 :: s79 :: s80 :: s81 :: s82 :: r83 :: r84 :: r85 :: r86 :: r87 :: r88 :: r89 :: r90 :: r91 :: r92 :: r93 :: r94 :: r95 :: r96 :: r97 :: r98 :: r99 :: r100 :: r101 :: r102 :: r103 :: r104 :: r105 :: r106 :: s107 :: s108 :: s109 :: s110 :: s111 :: s112 :: s113 :: s114 :: s115 :: s116 :: s117 :: s118 :: s119 :: s120 :: s121 :: s122 :: s123 :: s124 :: s125 :: s126 :: s127 :: s128 :: s129 :: s130 :: s131 :: s132 :: s133 :: s134 :: s135 :: s136 :: s137 :: s138 :: s139 :: s140 :: s141 :: s142 :: s143 :: s144 :: s145 :: s146 :: s147 :: s148 :: s149 :: s150 :: s151 :: s152 :: s153 :: s154 :: s155 :: s156 :: s157 :: s158 :: s159 :: s160 :: s161 :: s162 :: s163 :: s164 :: s165 :: s166 :: s167 :: s168 :: s169 :: s170 :: s171 :: s172 :: s173 :: s174 :: s175 :: s176 :: s177 :: s178 :: s179 :: s180 :: s181 :: s182 :: s183 :: s184 :: s185 :: s186 :: s187 :: s188 :: s189 :: s190 :: s191 :: s192 :: s193 :: s194 :: s195 :: s196 :: s197 :: s198 :: s199 :: s200 :: s201 :: s202 :: s203 :: s204 :: s205 :: s206 :: s207 :: s208 :: s209 :: s210 :: s211 :: s212 :: s213 :: s214 :: s215 :: s216 :: s217 :: s218 :: s219 :: []), []⟩ w'') :
    Code.wp Tryz.prog (Code.loop bs2Body) Q0 ⟨List.toArray (.slice (some ⟨g, 0, none⟩) n c :: s1 :: .int .i64 (m : Int) :: s3 :: .func (.func 87) #[] #[.pointer (some ⟨bx, 0, none⟩)] :: s5 :: s6 :: s7 :: s8 :: s9 :: s10 :: s11 :: s12 :: s13 :: .int .i64 (lo : Int) :: .int .i64 (hi : Int) :: s16 :: s17 :: s18 :: s19 :: s20 :: s21 :: s22 :: s23 :: s24 :: s25 :: s26 :: s27 :: s28 :: s29 :: s30 :: s31 :: s32 :: s33 :: s34 :: s35 :: s36 :: s37 :: s38 :: s39 :: s40 :: s41 :: s42 :: s43 :: s44 :: s45 :: s46 :: s47 :: s48 :: s49 :: s50 :: s51 :: s52 :: s53 :: s54 :: s55 :: s56 :: s57 :: s58 :: s59 :: s60 :: s61 :: s62 :: s63 :: s64 :: s65 :: s66 :: s67 :: s68 :: s69 :: s70 :: s71 :: s72 :: s73 :: s74 :: s75 :: s76 :: s77 :: s78 :: s79 :: s80 :: s81 :: s82 :: s83 :: s84 :: s85 :: s86 :: s87 :: s88 :: s89 :: s90 :: s91 :: s92 :: s93 :: s94 :: s95 :: s96 :: s97 :: s98 :: s99 :: s100 :: s101 :: s102 :: s103 :: s104 :: s105 :: s106 :: s107 :: s108 :: s109 :: s110 :: s111 :: s112 :: s113 :: s114 :: s115 :: s116 :: s117 :: s118 :: s119 :: s120 :: s121 :: s122 :: s123 :: s124 :: s125 :: s126 :: s127 :: s128 :: s129 :: s130 :: s131 :: s132 :: s133 :: s134 :: s135 :: s136 :: s137 :: s138 :: s139 :: s140 :: s141 :: s142 :: s143 :: s144 :: s145 :: s146 :: s147 :: s148 :: s149 :: s150 :: s151 :: s152 :: s153 :: s154 :: s155 :: s156 :: s157 :: s158 :: s159 :: s160 :: s161 :: s162 :: s163 :: s164 :: s165 :: s166 :: s167 :: s168 :: s169 :: s170 :: s171 :: s172 :: s173 :: s174 :: s175 :: s176 :: s177 :: s178 :: s179 :: s180 :: s181 :: s182 :: s183 :: s184 :: s185 :: s186 :: s187 :: s188 :: s189 :: s190 :: s191 :: s192 :: s193 :: s194 :: s195 :: s196 :: s197 :: s198 :: s199 :: s200 :: s201 :: s202 :: s203 :: s204 :: s205 :: s206 :: s207 :: s208 :: s209 :: s210 :: s211 :: s212 :: s213 :: s214 :: s215 :: s216 :: s217 :: s218 :: s219 :: []), []⟩ w0 := by
  refine Code.wp_mono (onExit_imp (n := 4)) ?_
  conv => arg 2; arg 1; whnf
  have HNx := Lib.hid hlow
  clear hlow
  go_loopw [14, 15] (fun vi vj wr => ∃ i j : Nat, vi = .int .i64 (i : Int) ∧ vj = .int .i64 (j : Int) ∧ lo ≤ i ∧ i ≤ j ∧ j ≤ hi ∧ Hid ((i = lo ∨ ¬ kd key d m < kd key d (i - 1)) ∧ (j = hi ∨ ¬ (¬ kd key d m < kd key d j))) ∧ Hid (Col wr g d) ∧ Fr (fun b => b = g) w0 wr)
    (fun vi vj _ => (intOf vj).toNat - (intOf vi).toNat)
  case atStart => exact ⟨lo, hi, rfl, rfl, by omega, hlohi, by omega, ⟨.inl rfl, .inl rfl⟩, HC, Fr.refl _ _⟩
  case round =>
    clear HC
    obtain ⟨i, j, rfl, rfl, hli, hij, hjh, HI, HCj, hfr⟩ := hrel
    by_cases hlt : i < j
    · obtain ⟨h, hh⟩ : ∃ h, h = (i + j) / 2 := ⟨_, rfl⟩
      obtain ⟨hm1, hm2⟩ := half_mid hlt hh
      have hd : ((i : Int) + (j : Int)) / 2 = (h : Int) := by omega
      have HD := Lib.hid hd
      clear hh

      obtain ⟨x, hx⟩ : ∃ x, x = d.getD m 0 := ⟨_, rfl⟩
      obtain ⟨y, hy⟩ : ∃ y, y = d.getD h 0 := ⟨_, rfl⟩
      have gx := getE_D (d := d) (i := m) (by rw [HN.out]; omega)
      have gy := getE_D (d := d) (i := h) (by rw [HN.out]; omega)
      rw [← hx] at gx
      rw [← hy] at gy
      have cx := HCj.out.cell gx
      have cy := HCj.out.cell gy
      have hcmp := fun q => HK.out.call (wr.drewN q) x y (hfr.drewN q) (HNx.out x (List.mem_of_getElem? gx)) (HNx.out y (List.mem_of_getElem? gy))
      obtain ⟨kx, hkx⟩ : ∃ kx, kx = key x := ⟨_, rfl⟩
      obtain ⟨ky, hky⟩ : ∃ ky, ky = key y := ⟨_, rfl⟩
      rw [← hkx, ← hky] at hcmp
      have bkx := HK.out.few x
      have bky := HK.out.few y
      rw [← hkx] at bkx
      rw [← hky] at bky
      rw [hx] at hkx
      rw [hy] at hky
      clear hx hy
      replace hkx : kx = kd key d m := hkx
      replace hky : ky = kd key d h := hky
      by_cases hless : kx < ky
      · skip
        have tl : decide ((kx : Int) - (ky : Int) < 0) = true := by simp; omega
        have tl' : (kx : Int) - (ky : Int) < 0 := by omega
        have HUP := Lib.hid (show ¬ (¬ kd key d m < kd key d h) from by rw [← hkx, ← hky]; omega)
        clear hless hkx hky gx gy
        go_wp2_with fail
        go_quiet ((go_at_call 87; refine Calls.quiet_of (hcmp _)))
        have HF2 := Lib.hid (hfr.drewN nq)
        have HC2 : Hid (Col (wr.drewN nq) g d) := HCj
        generalize wr.drewN nq = w3 at HF2 HC2 ⊢
        clear hcmp hfr cx cy HCj tl tl' 
        go_wp2
        go_roundw
        case rel => exact ⟨i, h, rfl, rfl, by omega, by omega, by omega, Lib.hid (And.intro HI.out.1 (Or.inr HUP.out)), HC2, HF2.out⟩
        case measure => simp [intOf] <;> omega
      · skip
        have tl : decide ((kx : Int) - (ky : Int) < 0) = false := by simp; omega
        have tl' : ¬ (kx : Int) - (ky : Int) < 0 := by omega
        have HUP := Lib.hid (show ¬ kd key d m < kd key d h from by rw [← hkx, ← hky]; omega)
        clear hless hkx hky gx gy
        go_wp2_with fail
        go_quiet ((go_at_call 87; refine Calls.quiet_of (hcmp _)))
        have HF2 := Lib.hid (hfr.drewN nq)
        have HC2 : Hid (Col (wr.drewN nq) g d) := HCj
        generalize wr.drewN nq = w3 at HF2 HC2 ⊢
        clear hcmp hfr cx cy HCj tl tl' 
        go_wp2
        go_roundw
        case rel => exact ⟨h + 1, j, by go_num, rfl, by omega, by omega, by omega, Lib.hid (And.intro (Or.inr (by rw [Nat.add_sub_cancel]; exact HUP.out)) HI.out.2), HC2, HF2.out⟩
        case measure => simp [intOf] <;> omega
    · obtain rfl : i = j := by omega
      go_wp2_with fail
      exact ⟨rfl, hexit i wr _ _ _ _ _ _ _ _ _ _ _ _ _ _ _ _ _ _ _ _ _ _ _ _ _ _ hli hjh HI HCj (Lib.hid hfr)⟩

set_option maxRecDepth 1000000 in
noncomputable def bs3Body : Code := ((Tryz.f96.body.bind (loopAt 33)).getD .skip)
set_option maxRecDepth 1000000 in
set_option maxHeartbeats 3200000 in
theorem bs3_loop (Q0 : Exit → Act → World → Prop) (s1 s2 s3 s5 s6 s7 s8 s9 s10 s11 s12 s13 s14 s15 s16 s17 s18 s19 s23 s24 s25 s26 s27 s28 s29 s30 s31 s32 s33 s34 s35 s36 s37 s38 s39 s40 s41 s42 s43 s44 s45 s46 s47 s48 s49 s50 s51 s52 s53 s54 s55 s56 s57 s58 s59 s60 s61 s62 s63 s64 s65 s66 s67 s68 s69 s70 s71 s72 s73 s74 s75 s76 s77 s78 s79 s80 s81 s82 s83 s84 s85 s86 s87 s88 s89 s90 s91 s92 s93 s94 s95 s96 s97 s98 s99 s100 s101 s102 s103 s104 s105 s106 s107 s108 s109 s110 s111 s112 s113 s114 s115 s116 s117 s118 s119 s120 s121 s122 s123 s124 s125 s126 s127 s128 s129 s130 s131 s132 s133 s134 s135 s136 s137 s138 s139 s140 s141 s142 s143 s144 s145 s146 s147 s148 s149 s150 s151 s152 s153 s154 s155 s156 s157 s158 s159 s160 s161 s162 s163 s164 s165 s166 s167 s168 s169 s170 s171 s172 s173 s174 s175 s176 s177 s178 s179 s180 s181 s182 s183 s184 s185 s186 s187 s188 s189 s190 s191 s192 s193 s194 s195 s196 s197 s198 s199 s200 s201 s202 s203 s204 s205 s206 s207 s208 s209 s210 s211 s212 s213 s214 s215 s216 s217 s218 s219 : Value) (g n c bx N lo hi p : Nat) (key : Nat → Nat) (d : List Nat) (w0 : World) (HC : Hid (Col w0 g d)) (HK : Hid (CmpK g bx key N w0)) (HN : Hid (d.length = n)) (hn : n ≤ 1000) (hlow : ∀ x ∈ d, x < N) (hlohi : lo ≤ hi) (hpn : p - lo < n) (hp2 : p ≤ 2000) (hhi : hi ≤ p + 1) (hhn : hi ≤ n)
    (hexit : ∀ (I : Nat) (w'' : World) (r21 r23 r149 r150 r151 r152 r153 r154 r155 r156 r157 r158 r159 r160 r161 r162 r163 r164 r165 r166 r167 r168 r169 r170 r171 r172 r173 r174 : Value), lo ≤ I → I ≤ hi → Hid ((I = lo ∨ ¬ kd key d (p - (I - 1)) < kd key d (I - 1)) ∧ (I = hi ∨ ¬ (¬ kd key d (p - I) < kd key d I))) → Hid (Col w'' g d) → Hid (Fr (fun b => b = g) w0 w'') → Q0 (.exit 8) ⟨List.toArray (.slice (some ⟨g, 0, none⟩) n c :: s1 :: s2 :: s3 :: .func (.func 87) #[] #[.pointer (some ⟨bx, 0, none⟩)] :: s5 :: s6 :: s7 :: s8 :: s9 :: s10 :: s11 :: s12 :: s13 :: s14 :: s15 :: s16 :: s17 :: s18 :: s19 :: .int .i64 (I : Int) :: r21 :: .int .i64 (p : Int) :: r23 :: s24 :: s25 :: s26 :: s27 :: s28 :: s29 :: s30 :: s31 :: s32 :: s33 :: s34 :: s35 :: s36 :: s37 :: s38 :: s39 :: s40 :: s41 :: s42 :: s43 :: s44 :: s45 :: s46 :: s47 :: s48 :: s49 :: s50 :: s51 :: s52 :: s53 :: s54 :: s55 :: s56 :: s57 :: s58 :: s59 :: s60 :: s61 :: s62 :: s63 :: s64 :: s65 :: s66 :: s67 :: s68 :: s69 :: s70 :: s71 :: s72 :: s73 :: s74 :: s75 :: s76 :: s77 :: s78 :: s79 :: s80 :: s81 :: s82 :: s83 :: s84 :: s85 :: s86 :: s87 :: s88 :: s89 :: s90 :: s91 :: s92 :: s93 :: s94 :: s95 :: s96 :: s97 :: s98 :: s99 :: s100 :: s101 :: s102 :: s103 :: s104 :: s105 :: s106 :: s107 :: s108 :: s109 :: s110 :: s111 :: s112 :: s113 :: s114 :: s115 :: s116 :: s117 :: s118 :: s119 :: s120 :: s121 :: s122 :: s123 :: s124 :: s125 :: s126 :: s127 :: s128 :: s129 :: s130 :: s131 :: s132 :: s133 :: s134 :: s135 :: s136 :: s137 :: s138 :: s139 :: s140 :: s141 :: s142 :: s143 :: s144 :: s145 :: s146 :: s147 :: s148 :: r149 :: r150 :: r151 :: r152 :: r153 :: r154 :: r155 :: r156 :: r157 :: r158 :: r159 :: r160 :: r161 :: r162 :: r163 :: r164 :: r165 :: r166 :: r167 :: r168 :: r169 :: r170 :: r171 :: r172 :: r173 :: r174 :: s175 :: s176 :: s177 :: s178 :: s179 :: s180 :: s181 :: s182 :: s183 :: s184 :: s185 :: s186 :: s187 :: s188 :: s189 :: s190 :: s191 :: s192 :: s193 :: s194 :: s195 :: s196 :: s197 :: s198 :: s199 :: s200 :: s201 :: s202 :: s203 :: s204 :: s205 :: s206 :: s207 :: s208 :: s209 :: s210 :: s211 :: s212 :: s213 :: s214 :: s215 :: s216 :: s217 :: s218 :: s219 :: []), []⟩ w'') :
    Code.wp Tryz.prog (Code.loop bs3Body) Q0 ⟨List.toArray (.slice (some ⟨g, 0, none⟩) n c :: s1 :: s2 :: s3 :: .func (.func 87) #[] #[.pointer (some ⟨bx, 0, none⟩)] :: s5 :: s6 :: s7 :: s8 :: s9 :: s10 :: s11 :: s12 :: s13 :: s14 :: s15 :: s16 :: s17 :: s18 :: s19 :: .int .i64 (lo : Int) :: .int .i64 (hi : Int) :: .int .i64 (p : Int) :: s23 :: s24 :: s25 :: s26 :: s27 :: s28 :: s29 :: s30 :: s31 :: s32 :: s33 :: s34 :: s35 :: s36 :: s37 :: s38 :: s39 :: s40 :: s41 :: s42 :: s43 :: s44 :: s45 :: s46 :: s47 :: s48 :: s49 :: s50 :: s51 :: s52 :: s53 :: s54 :: s55 :: s56 :: s57 :: s58 :: s59 :: s60 :: s61 :: s62 :: s63 :: s64 :: s65 :: s66 :: s67 :: s68 :: s69 :: s70 :: s71 :: s72 :: s73 :: s74 :: s75 :: s76 :: s77 :: s78 :: s79 :: s80 :: s81 :: s82 :: s83 :: s84 :: s85 :: s86 :: s87 :: s88 :: s89 :: s90 :: s91 :: s92 :: s93 :: s94 :: s95 :: s96 :: s97 :: s98 :: s99 :: s100 :: s101 :: s102 :: s103 :: s104 :: s105 :: s106 :: s107 :: s108 :: s109 :: s110 :: s111 :: s112 :: s113 :: s114 :: s115 :: s116 :: s117 :: s118 :: s119 :: s120 :: s121 :: s122 :: s123 :: s124 :: s125 :: s126 :: s127 :: s128 :: s129 :: s130 :: s131 :: s132 :: s133 :: s134 :: s135 :: s136 :: s137 :: s138 :: s139 :: s140 :: s141 :: s142 :: s143 :: s144 :: s145 :: s146 :: s147 :: s148 :: s149 :: s150 :: s151 :: s152 :: s153 :: s154 :: s155 :: s156 :: s157 :: s158 :: s159 :: s160 :: s161 :: s162 :: s163 :: s164 :: s165 :: s166 :: s167 :: s168 :: s169 :: s170 :: s171 :: s172 :: s173 :: s174 :: s175 :: s176 :: s177 :: s178 :: s179 :: s180 :: s181 :: s182 :: s183 :: s184 :: s185 :: s186 :: s187 :: s188 :: s189 :: s190 :: s191 :: s192 :: s193 :: s194 :: s195 :: s196 :: s197 :: s198 :: s199 :: s200 :: s201 :: s202 :: s203 :: s204 :: s205 :: s206 :: s207 :: s208 :: s209 :: s210 :: s211 :: s212 :: s213 :: s214 :: s215 :: s216 :: s217 :: s218 :: s219 :: []), []⟩ w0 := by
  refine Code.wp_mono (onExit_imp (n := 8)) ?_
  conv => arg 2; arg 1; whnf
  have HNx := Lib.hid hlow
  clear hlow
  go_loopw [20, 21] (fun vi vj wr => ∃ i j : Nat, vi = .int .i64 (i : Int) ∧ vj = .int .i64 (j : Int) ∧ lo ≤ i ∧ i ≤ j ∧ j ≤ hi ∧ Hid ((i = lo ∨ ¬ kd key d (p - (i - 1)) < kd key d (i - 1)) ∧ (j = hi ∨ ¬ (¬ kd key d (p - j) < kd key d j))) ∧ Hid (Col wr g d) ∧ Fr (fun b => b = g) w0 wr)
    (fun vi vj _ => (intOf vj).toNat - (intOf vi).toNat)
  case atStart => exact ⟨lo, hi, rfl, rfl, by omega, hlohi, by omega, ⟨.inl rfl, .inl rfl⟩, HC, Fr.refl _ _⟩
  case round =>
    clear HC
    obtain ⟨i, j, rfl, rfl, hli, hij, hjh, HI, HCj, hfr⟩ := hrel
    by_cases hlt : i < j
    · obtain ⟨h, hh⟩ : ∃ h, h = (i + j) / 2 := ⟨_, rfl⟩
      obtain ⟨hm1, hm2⟩ := half_mid hlt hh
      have hd : ((i : Int) + (j : Int)) / 2 = (h : Int) := by omega
      have HD := Lib.hid hd
      clear hh
      obtain ⟨u, hu⟩ : ∃ u, u = p - h := ⟨_, rfl⟩
      have ru : IntKind.i64.wrap ((p : Int) - (h : Int)) = (u : Int) := by rw [IntKind.wrap_i64]; omega
      have hun : u < n := by omega
      have HU := Lib.hid hu
      clear hu

      obtain ⟨x, hx⟩ : ∃ x, x = d.getD u 0 := ⟨_, rfl⟩
      obtain ⟨y, hy⟩ : ∃ y, y = d.getD h 0 := ⟨_, rfl⟩
      have gx := getE_D (d := d) (i := u) (by rw [HN.out]; omega)
      have gy := getE_D (d := d) (i := h) (by rw [HN.out]; omega)
      rw [← hx] at gx
      rw [← hy] at gy
      have cx := HCj.out.cell gx
      have cy := HCj.out.cell gy
      have hcmp := fun q => HK.out.call (wr.drewN q) x y (hfr.drewN q) (HNx.out x (List.mem_of_getElem? gx)) (HNx.out y (List.mem_of_getElem? gy))
      obtain ⟨kx, hkx⟩ : ∃ kx, kx = key x := ⟨_, rfl⟩
      obtain ⟨ky, hky⟩ : ∃ ky, ky = key y := ⟨_, rfl⟩
      rw [← hkx, ← hky] at hcmp
      have bkx := HK.out.few x
      have bky := HK.out.few y
      rw [← hkx] at bkx
      rw [← hky] at bky
      rw [hx] at hkx
      rw [hy] at hky
      clear hx hy
      replace hkx : kx = kd key d u := hkx
      replace hky : ky = kd key d h := hky
      by_cases hless : kx < ky
      · skip
        have tl : decide ((kx : Int) - (ky : Int) < 0) = true := by simp; omega
        have tl' : (kx : Int) - (ky : Int) < 0 := by omega
        have HUP := Lib.hid (show ¬ (¬ kd key d (p - h) < kd key d h) from by rw [← HU.out, ← hkx, ← hky]; omega)
        clear hless hkx hky gx gy
        go_wp2_with fail
        go_quiet ((go_at_call 87; refine Calls.quiet_of (hcmp _)))
        have HF2 := Lib.hid (hfr.drewN nq)
        have HC2 : Hid (Col (wr.drewN nq) g d) := HCj
        generalize wr.drewN nq = w3 at HF2 HC2 ⊢
        clear hcmp hfr cx cy HCj tl tl' 
        go_wp2
        go_roundw
        case rel => exact ⟨i, h, rfl, rfl, by omega, by omega, by omega, Lib.hid (And.intro HI.out.1 (Or.inr HUP.out)), HC2, HF2.out⟩
        case measure => simp [intOf] <;> omega
      · skip
        have tl : decide ((kx : Int) - (ky : Int) < 0) = false := by simp; omega
        have tl' : ¬ (kx : Int) - (ky : Int) < 0 := by omega
        have HUP := Lib.hid (show ¬ kd key d (p - h) < kd key d h from by rw [← HU.out, ← hkx, ← hky]; omega)
        clear hless hkx hky gx gy
        go_wp2_with fail
        go_quiet ((go_at_call 87; refine Calls.quiet_of (hcmp _)))
        have HF2 := Lib.hid (hfr.drewN nq)
        have HC2 : Hid (Col (wr.drewN nq) g d) := HCj
        generalize wr.drewN nq = w3 at HF2 HC2 ⊢
        clear hcmp hfr cx cy HCj tl tl' 
        go_wp2
        go_roundw
        case rel => exact ⟨h + 1, j, by go_num, rfl, by omega, by omega, by omega, Lib.hid (And.intro (Or.inr (by rw [Nat.add_sub_cancel]; exact HUP.out)) HI.out.2), HC2, HF2.out⟩
        case measure => simp [intOf] <;> omega
    · obtain rfl : i = j := by omega
      go_wp2_with fail
      exact ⟨rfl, hexit i wr _ _ _ _ _ _ _ _ _ _ _ _ _ _ _ _ _ _ _ _ _ _ _ _ _ _ _ _ hli hjh HI HCj (Lib.hid hfr)⟩
end Go.Proofs.YtahfmcdhcbfkaaaGreatDoor
