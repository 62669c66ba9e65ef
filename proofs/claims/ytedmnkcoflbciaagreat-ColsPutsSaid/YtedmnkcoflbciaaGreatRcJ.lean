/-
  Layer 19, the reference's Put: all columns (written by gen_rput19.py).
-/
import Derived.Test.YtedmnkcoflbciaaGreatZm48
import Derived.Test.YtedmnkcoflbciaaGreatZm51
import Derived.Test.YtedmnkcoflbciaaGreatZm04
import Derived.Test.YtedmnkcoflbciaaGreatZm20
namespace Go.Proofs.YtedmnkcoflbciaaGreat
open Go.RowKit Mem Go.Lib LebM UtfM VaM OpM AcM RleM CsM DirM
attribute [local go_sem ↓] Go.wp_at_zero Go.wp_at_succ
set_option linter.unusedVariables false

theorem refW_len {L : List (Bool × List UInt8)} {N : Nat} (h : ∀ x ∈ L, mayW x ∧ x.2.length ≤ 4000) (hl : L.length ≤ N) (hN : N ≤ 3000) : (tellG kR (gatherG (L.map refW))).length ≤ 1000000000 := by
  have h1 := (tell_le (K := kR) (L.map refW) 4010 N (by rw [List.length_map]; exact hl) (by omega) (fun c hc => by
    obtain ⟨d, hd, rfl⟩ := List.mem_map.1 hc
    have hm := (h d hd).2
    show (refW d).2.length ≤ 4010
    unfold refW
    split
    · exact Nat.zero_le _
    · rw [List.length_append]
      have := u_len10 (n := d.2.length) (by omega)
      omega)).1
  have h2 := Nat.mul_le_mul_right (20 + 4010) hN
  omega
set_option maxRecDepth 1000000 in
noncomputable def rput31Code : Code := ((Tryz.f12.body.bind (regionAt 31)).getD .skip)
set_option maxRecDepth 1000000 in
set_option maxHeartbeats 12800000 in
theorem rput31_any (Q0 : Exit → Act → World → Prop) (s0 s1 s2 s3 s4 s8 s9 s10 s11 s12 s13 s14 s15 s16 s17 s20 s21 s22 s23 s24 s25 s26 s27 s28 s29 s30 s31 s32 s33 s34 s35 s36 s37 s38 s39 s40 s41 s42 s43 s44 s45 s46 s47 s48 s49 s50 s51 s52 s53 s54 s55 s56 s57 s58 s59 s60 s61 s62 s63 s64 s65 s66 s67 s68 s69 s70 s71 s72 s73 s74 s75 s76 s77 s78 s79 s80 s81 s82 s83 s84 s85 s86 s87 s88 s89 s90 s91 s92 s93 s94 s95 s96 s97 s98 s99 s100 s101 s102 s103 s104 s105 s106 s107 s108 s109 s110 s111 s112 s113 s114 s115 s116 s117 s118 s119 s120 s121 s122 s123 s124 s125 s126 s127 s128 s129 s130 s131 s132 s133 s134 s135 s136 s137 s138 s139 s140 s141 s142 s143 s144 s145 s146 s147 s148 s149 s150 s151 s152 s153 s154 s155 s156 s157 s158 s159 s160 s161 s162 s163 s164 s165 s166 s167 s168 s169 s170 s171 s172 s173 s174 s175 s176 s177 s178 s179 s180 s181 s182 s183 s184 s185 s186 s187 s188 s189 s190 s191 s192 s193 s194 s195 s196 s197 s198 s199 s200 s201 s202 s203 s204 s205 s206 s207 s208 s209 s210 s211 s212 s213 s214 s215 s216 s217 s218 s219 s220 s221 s222 s223 s224 s225 s226 s227 s228 s229 s230 s231 s232 s233 s234 s235 s236 s237 s238 s239 s240 s241 s242 s243 s244 s245 : Value) (w : World) (g n m : Nat) (A0 A1 A2 A3 A6 A9 A10 A11 A12 A13 A15 A16 : Option Addr) (c0 c1 c2 c3 c6 c9 c10 c11 c12 c13 c15 c16 : Nat) (L0 L1 L2 L3 L6 L9 L10 L11 : List C) (L12 : List (Bool × List UInt8)) (L13 : List Bool) (M P : List UInt8) (bM bP : Nat)
    (hn : n ≤ 3000) (hm : m ≤ 1000000) (HC : Hid (∀ w', Fr (fun _ => False) w w' → w'.cell? ⟨g, 0, none⟩ = some (.slice A0 n c0) ∧ w'.cell? ⟨g, 1, none⟩ = some (.slice A1 n c1) ∧ w'.cell? ⟨g, 2, none⟩ = some (.slice A2 n c2) ∧ w'.cell? ⟨g, 3, none⟩ = some (.slice A3 n c3) ∧ w'.cell? ⟨g, 6, none⟩ = some (.slice A6 n c6) ∧ w'.cell? ⟨g, 9, none⟩ = some (.slice A9 n c9) ∧ w'.cell? ⟨g, 10, none⟩ = some (.slice A10 m c10) ∧ w'.cell? ⟨g, 11, none⟩ = some (.slice A11 m c11)))
    (H0 : Hid (Cls nv w A0 n L0)) (HM0 : Hid (∀ x ∈ L0, mayU x)) (H1 : Hid (Cls nv w A1 n L1)) (HM1 : Hid (∀ x ∈ L1, mayU x)) (H2 : Hid (Cls nv w A2 n L2)) (HM2 : Hid (∀ x ∈ L2, mayU x)) (H3 : Hid (Cls nv w A3 n L3)) (HM3 : Hid (∀ x ∈ L3, mayS x)) (H6 : Hid (Cls nv w A6 n L6)) (HM6 : Hid (∀ x ∈ L6, mayU x)) (H9 : Hid (Cls nv w A9 n L9)) (HM9 : Hid (∀ x ∈ L9, mayU x)) (H10 : Hid (Cls nv w A10 m L10)) (HM10 : Hid (∀ x ∈ L10, mayU x)) (H11 : Hid (Cls nv w A11 m L11)) (HM11 : Hid (∀ x ∈ L11, mayS x)) (H12 : Hid (Cls sv w A12 n L12)) (HM12 : Hid (∀ x ∈ L12, mayW x ∧ x.2.length ≤ 4000)) (H13 : Hid (Rd w A13 n (L13.map boc))) (HB15 : Hid (Own w bM A15 c15 M)) (HB16 : Hid (Own w bP A16 c16 P))
    (hexit : ∀ (ga : Nat) (w' : World) (r176 r177 r178 r179 r180 r181 r182 r183 r184 r185 r186 r187 r188 r189 r190 r191 r192 r193 r194 r195 r196 r197 r198 r199 r200 r201 r202 r203 r204 r205 r206 r207 r208 r209 r210 r211 r212 r213 r214 r215 r216 r217 r218 r219 r220 r221 r222 r223 r224 r225 : Value), Hid (Row w' ga 39 (([(1, tU L0), (2, tU L1), (17, tU L2), (19, tD L3), (21, tW L12), (52, BooM.putB L13), (66, tU L6), (86, M), (87, P), (112, tU L9), (113, tU L10), (115, tD L11)] : List Col).flatMap (pcells ridc rtxt))) → Hid (w.heap.size ≤ ga ∧ Fr (fun _ => False) w w') → Q0 .normal ⟨List.toArray (s0 :: s1 :: s2 :: s3 :: s4 :: .pointer (some ⟨g, 0, none⟩) :: .slice A12 n c12 :: .slice A13 n c13 :: s8 :: s9 :: s10 :: s11 :: s12 :: s13 :: s14 :: s15 :: s16 :: s17 :: .slice A15 M.length c15 :: .slice A16 P.length c16 :: .slice (some ⟨ga, 0, none⟩) 12 12 :: s21 :: s22 :: s23 :: s24 :: s25 :: s26 :: s27 :: s28 :: s29 :: s30 :: s31 :: s32 :: s33 :: s34 :: s35 :: s36 :: s37 :: s38 :: s39 :: s40 :: s41 :: s42 :: s43 :: s44 :: s45 :: s46 :: s47 :: s48 :: s49 :: s50 :: s51 :: s52 :: s53 :: s54 :: s55 :: s56 :: s57 :: s58 :: s59 :: s60 :: s61 :: s62 :: s63 :: s64 :: s65 :: s66 :: s67 :: s68 :: s69 :: s70 :: s71 :: s72 :: s73 :: s74 :: s75 :: s76 :: s77 :: s78 :: s79 :: s80 :: s81 :: s82 :: s83 :: s84 :: s85 :: s86 :: s87 :: s88 :: s89 :: s90 :: s91 :: s92 :: s93 :: s94 :: s95 :: s96 :: s97 :: s98 :: s99 :: s100 :: s101 :: s102 :: s103 :: s104 :: s105 :: s106 :: s107 :: s108 :: s109 :: s110 :: s111 :: s112 :: s113 :: s114 :: s115 :: s116 :: s117 :: s118 :: s119 :: s120 :: s121 :: s122 :: s123 :: s124 :: s125 :: s126 :: s127 :: s128 :: s129 :: s130 :: s131 :: s132 :: s133 :: s134 :: s135 :: s136 :: s137 :: s138 :: s139 :: s140 :: s141 :: s142 :: s143 :: s144 :: s145 :: s146 :: s147 :: s148 :: s149 :: s150 :: s151 :: s152 :: s153 :: s154 :: s155 :: s156 :: s157 :: s158 :: s159 :: s160 :: s161 :: s162 :: s163 :: s164 :: s165 :: s166 :: s167 :: s168 :: s169 :: s170 :: s171 :: s172 :: s173 :: s174 :: s175 :: r176 :: r177 :: r178 :: r179 :: r180 :: r181 :: r182 :: r183 :: r184 :: r185 :: r186 :: r187 :: r188 :: r189 :: r190 :: r191 :: r192 :: r193 :: r194 :: r195 :: r196 :: r197 :: r198 :: r199 :: r200 :: r201 :: r202 :: r203 :: r204 :: r205 :: r206 :: r207 :: r208 :: r209 :: r210 :: r211 :: r212 :: r213 :: r214 :: r215 :: r216 :: r217 :: r218 :: r219 :: r220 :: r221 :: r222 :: r223 :: r224 :: r225 :: s226 :: s227 :: s228 :: s229 :: s230 :: s231 :: s232 :: s233 :: s234 :: s235 :: s236 :: s237 :: s238 :: s239 :: s240 :: s241 :: s242 :: s243 :: s244 :: s245 :: []), []⟩ w') :
    Code.wp Tryz.prog rput31Code Q0 ⟨List.toArray (s0 :: s1 :: s2 :: s3 :: s4 :: .pointer (some ⟨g, 0, none⟩) :: .slice A12 n c12 :: .slice A13 n c13 :: s8 :: s9 :: s10 :: s11 :: s12 :: s13 :: s14 :: s15 :: s16 :: s17 :: .slice A15 M.length c15 :: .slice A16 P.length c16 :: s20 :: s21 :: s22 :: s23 :: s24 :: s25 :: s26 :: s27 :: s28 :: s29 :: s30 :: s31 :: s32 :: s33 :: s34 :: s35 :: s36 :: s37 :: s38 :: s39 :: s40 :: s41 :: s42 :: s43 :: s44 :: s45 :: s46 :: s47 :: s48 :: s49 :: s50 :: s51 :: s52 :: s53 :: s54 :: s55 :: s56 :: s57 :: s58 :: s59 :: s60 :: s61 :: s62 :: s63 :: s64 :: s65 :: s66 :: s67 :: s68 :: s69 :: s70 :: s71 :: s72 :: s73 :: s74 :: s75 :: s76 :: s77 :: s78 :: s79 :: s80 :: s81 :: s82 :: s83 :: s84 :: s85 :: s86 :: s87 :: s88 :: s89 :: s90 :: s91 :: s92 :: s93 :: s94 :: s95 :: s96 :: s97 :: s98 :: s99 :: s100 :: s101 :: s102 :: s103 :: s104 :: s105 :: s106 :: s107 :: s108 :: s109 :: s110 :: s111 :: s112 :: s113 :: s114 :: s115 :: s116 :: s117 :: s118 :: s119 :: s120 :: s121 :: s122 :: s123 :: s124 :: s125 :: s126 :: s127 :: s128 :: s129 :: s130 :: s131 :: s132 :: s133 :: s134 :: s135 :: s136 :: s137 :: s138 :: s139 :: s140 :: s141 :: s142 :: s143 :: s144 :: s145 :: s146 :: s147 :: s148 :: s149 :: s150 :: s151 :: s152 :: s153 :: s154 :: s155 :: s156 :: s157 :: s158 :: s159 :: s160 :: s161 :: s162 :: s163 :: s164 :: s165 :: s166 :: s167 :: s168 :: s169 :: s170 :: s171 :: s172 :: s173 :: s174 :: s175 :: s176 :: s177 :: s178 :: s179 :: s180 :: s181 :: s182 :: s183 :: s184 :: s185 :: s186 :: s187 :: s188 :: s189 :: s190 :: s191 :: s192 :: s193 :: s194 :: s195 :: s196 :: s197 :: s198 :: s199 :: s200 :: s201 :: s202 :: s203 :: s204 :: s205 :: s206 :: s207 :: s208 :: s209 :: s210 :: s211 :: s212 :: s213 :: s214 :: s215 :: s216 :: s217 :: s218 :: s219 :: s220 :: s221 :: s222 :: s223 :: s224 :: s225 :: s226 :: s227 :: s228 :: s229 :: s230 :: s231 :: s232 :: s233 :: s234 :: s235 :: s236 :: s237 :: s238 :: s239 :: s240 :: s241 :: s242 :: s243 :: s244 :: s245 :: []), []⟩ w := by
  conv => arg 2; whnf
  obtain ⟨B0, hB0⟩ : ∃ B, B = tU L0 := ⟨_, rfl⟩
  obtain ⟨B1, hB1⟩ : ∃ B, B = tU L1 := ⟨_, rfl⟩
  obtain ⟨B2, hB2⟩ : ∃ B, B = tU L2 := ⟨_, rfl⟩
  obtain ⟨B3, hB3⟩ : ∃ B, B = tD L3 := ⟨_, rfl⟩
  obtain ⟨B12, hB12⟩ : ∃ B, B = tW L12 := ⟨_, rfl⟩
  obtain ⟨B13, hB13⟩ : ∃ B, B = BooM.putB L13 := ⟨_, rfl⟩
  obtain ⟨B6, hB6⟩ : ∃ B, B = tU L6 := ⟨_, rfl⟩
  obtain ⟨B9, hB9⟩ : ∃ B, B = tU L9 := ⟨_, rfl⟩
  obtain ⟨B10, hB10⟩ : ∃ B, B = tU L10 := ⟨_, rfl⟩
  obtain ⟨B11, hB11⟩ : ∃ B, B = tD L11 := ⟨_, rfl⟩
  simp only [← hB0, ← hB1, ← hB2, ← hB3, ← hB12, ← hB13, ← hB6, ← hB9, ← hB10, ← hB11] at hexit
  have HP0 : Hid (∀ w', Fr (fun _ => False) w w' → Calls Tryz.prog 25 #[.slice A0 n c0] w' (fun e w2 => e = .returned (.string (txt B0)) ∧ Fr (fun _ => False) w' w2)) := Lib.hid (fun w' hf => by rw [hB0]; exact rplain_any A0 n c0 L0 w' (H0.out.fr hf (fun _ _ h => h)) (by omega) HM0.out)
  have HP1 : Hid (∀ w', Fr (fun _ => False) w w' → Calls Tryz.prog 25 #[.slice A1 n c1] w' (fun e w2 => e = .returned (.string (txt B1)) ∧ Fr (fun _ => False) w' w2)) := Lib.hid (fun w' hf => by rw [hB1]; exact rplain_any A1 n c1 L1 w' (H1.out.fr hf (fun _ _ h => h)) (by omega) HM1.out)
  have HP2 : Hid (∀ w', Fr (fun _ => False) w w' → Calls Tryz.prog 25 #[.slice A2 n c2] w' (fun e w2 => e = .returned (.string (txt B2)) ∧ Fr (fun _ => False) w' w2)) := Lib.hid (fun w' hf => by rw [hB2]; exact rplain_any A2 n c2 L2 w' (H2.out.fr hf (fun _ _ h => h)) (by omega) HM2.out)
  have HP3 : Hid (∀ w', Fr (fun _ => False) w w' → Calls Tryz.prog 26 #[.slice A3 n c3] w' (Gives w' B3)) := Lib.hid (fun w' hf => by rw [hB3]; exact rsteps_any A3 n c3 L3 w' (H3.out.fr hf (fun _ _ h => h)) (by omega) HM3.out)
  have HP12 : Hid (∀ w', Fr (fun _ => False) w w' → Calls Tryz.prog 28 #[.slice A12 n c12] w' (fun e w2 => ∃ A' c', e = .returned (.slice A' n c') ∧ Cls sv w2 A' n (L12.map refW) ∧ Fr (fun _ => False) w' w2)) := Lib.hid (fun w' hf => (rWords_any A12 n c12 L12 w' (H12.out.fr hf (fun _ _ h => h)) (by omega) (fun k t ht => by have := (HM12.out t (List.mem_of_getElem? ht)).2; omega)).mono (fun e w2 h => by
    obtain ⟨A', c', rfl, ho, hf2⟩ := h
    have h := ho.cls
    rw [List.length_map, H12.out.1] at h ⊢
    exact ⟨A', c', rfl, h, hf2⟩))
  have HP13 : Hid (∀ w', Fr (fun _ => False) w w' → Calls Tryz.prog 29 #[.slice A13 n c13] w' (Gives w' B13)) := Lib.hid (fun w' hf => by rw [hB13]; exact rbytes13_any A13 n c13 L13 w' (H13.out.fr hf (fun _ _ h => h)) (by omega))
  have HP6 : Hid (∀ w', Fr (fun _ => False) w w' → Calls Tryz.prog 25 #[.slice A6 n c6] w' (fun e w2 => e = .returned (.string (txt B6)) ∧ Fr (fun _ => False) w' w2)) := Lib.hid (fun w' hf => by rw [hB6]; exact rplain_any A6 n c6 L6 w' (H6.out.fr hf (fun _ _ h => h)) (by omega) HM6.out)
  have HP9 : Hid (∀ w', Fr (fun _ => False) w w' → Calls Tryz.prog 25 #[.slice A9 n c9] w' (fun e w2 => e = .returned (.string (txt B9)) ∧ Fr (fun _ => False) w' w2)) := Lib.hid (fun w' hf => by rw [hB9]; exact rplain_any A9 n c9 L9 w' (H9.out.fr hf (fun _ _ h => h)) (by omega) HM9.out)
  have HP10 : Hid (∀ w', Fr (fun _ => False) w w' → Calls Tryz.prog 25 #[.slice A10 m c10] w' (fun e w2 => e = .returned (.string (txt B10)) ∧ Fr (fun _ => False) w' w2)) := Lib.hid (fun w' hf => by rw [hB10]; exact rplain_any A10 m c10 L10 w' (H10.out.fr hf (fun _ _ h => h)) (by omega) HM10.out)
  have HP11 : Hid (∀ w', Fr (fun _ => False) w w' → Calls Tryz.prog 26 #[.slice A11 m c11] w' (Gives w' B11)) := Lib.hid (fun w' hf => by rw [hB11]; exact rsteps_any A11 m c11 L11 w' (H11.out.fr hf (fun _ _ h => h)) (by omega) HM11.out)
  have hW := hn
  have HWB : Hid (∀ (A' : Option Addr) (c' : Nat) (w' : World), Cls sv w' A' n (L12.map refW) → Calls Tryz.prog 27 #[.slice A' n c'] w' (Gives w' B12)) := Lib.hid (fun A' c' w' hc => by
    rw [hB12]
    show Calls Tryz.prog 27 #[.slice A' n c'] w' (Gives w' (tellW kW (gatherG L12)))
    rw [← ref_W (fun c hc => (HM12.out c hc).1)]
    exact rBytes_any A' n c' _ w' hc (by omega) refW_none (refW_len HM12.out (by rw [H12.out.1]; exact Nat.le_refl n) hW))
  clear H0 HM0 H1 HM1 H2 HM2 H3 HM3 H6 HM6 H9 HM9 H10 HM10 H11 HM11 hB0 hB1 hB2 hB3 hB12 hB13 hB6 hB9 hB10 hB11 H12 HM12 H13 hW
  have HF0 : Hid (Fr (fun _ => False) w w.drew) := Lib.hid (Fr.refl _ _).drew
  refine wp_region_noPanic ?_
  refine wp_region_held_drew (S := fun w' => Fr (fun _ => False) w.drew w') (by kernel_rfl) (Fr.refl _ _) (fun hH => ?_)
  refine tk 0 hH ?_
  refine tk 1 hH ?_ (hy := by intro w1 hSw; (try dsimp only at hSw); obtain ⟨k0, k1, k2, k3, k6, k9, k10, k11⟩ := HC.out w1 (HF0.out.trans hSw (fun _ _ h => h)); go_simp; try (with_reducible rfl))
  refine tk 4 hH ?_
  refine tk 5 hH ?_ (hy := by intro w1 hSw; (try dsimp only at hSw); obtain ⟨k0, k1, k2, k3, k6, k9, k10, k11⟩ := HC.out w1 (HF0.out.trans hSw (fun _ _ h => h)); go_simp; try (with_reducible rfl))
  refine tk 8 hH ?_
  refine tk 9 hH ?_ (hy := by intro w1 hSw; (try dsimp only at hSw); obtain ⟨k0, k1, k2, k3, k6, k9, k10, k11⟩ := HC.out w1 (HF0.out.trans hSw (fun _ _ h => h)); go_simp; try (with_reducible rfl))
  refine tk 12 hH ?_
  refine tk 13 hH ?_ (hy := by intro w1 hSw; (try dsimp only at hSw); obtain ⟨k0, k1, k2, k3, k6, k9, k10, k11⟩ := HC.out w1 (HF0.out.trans hSw (fun _ _ h => h)); go_simp; try (with_reducible rfl))
  refine tk 17 hH ?_
  refine tk 22 hH ?_
  refine tk 26 hH ?_
  refine tk 27 hH ?_ (hy := by intro w1 hSw; (try dsimp only at hSw); obtain ⟨k0, k1, k2, k3, k6, k9, k10, k11⟩ := HC.out w1 (HF0.out.trans hSw (fun _ _ h => h)); go_simp; try (with_reducible rfl))
  refine tk 30 hH ?_
  refine tk 33 hH ?_
  refine tk 36 hH ?_
  refine tk 37 hH ?_ (hy := by intro w1 hSw; (try dsimp only at hSw); obtain ⟨k0, k1, k2, k3, k6, k9, k10, k11⟩ := HC.out w1 (HF0.out.trans hSw (fun _ _ h => h)); go_simp; try (with_reducible rfl))
  refine tk 40 hH ?_
  refine tk 41 hH ?_ (hy := by intro w1 hSw; (try dsimp only at hSw); obtain ⟨k0, k1, k2, k3, k6, k9, k10, k11⟩ := HC.out w1 (HF0.out.trans hSw (fun _ _ h => h)); go_simp; try (with_reducible rfl))
  refine tk 44 hH ?_
  refine tk 45 hH ?_ (hy := by intro w1 hSw; (try dsimp only at hSw); obtain ⟨k0, k1, k2, k3, k6, k9, k10, k11⟩ := HC.out w1 (HF0.out.trans hSw (fun _ _ h => h)); go_simp; try (with_reducible rfl))
  refine tk 31 hH ?_ (hy := by intro w1 hSw; (try dsimp only at hSw); have hst := (HB15.out.fr (HF0.out.trans hSw (fun _ _ h => h))).str; go_simp; try (with_reducible rfl))
  refine tk 32 hH ?_
  refine tk 34 hH ?_ (hy := by intro w1 hSw; (try dsimp only at hSw); have hst := (HB16.out.fr (HF0.out.trans hSw (fun _ _ h => h))).str; go_simp; try (with_reducible rfl))
  refine tk 35 hH ?_
  clear hH HC HB15 HB16
  refine rd1 2 (fun K hK => ?_)
  go_simp
  refine (HP0.out _ HF0.out).mono ?_
  rintro e w1 ⟨rfl, hf⟩
  have HF1 := Lib.hid (HF0.out.trans hf (fun _ _ h => h))
  refine hK.out _ _ hf ?_
  clear hK K
  refine wpAnyH_more (fun w' => Fr (fun _ => False) w1 w') (fun _ h => hf.trans h (fun _ _ h => h)) (Fr.refl _ _) (fun hH => ?_)
  clear hf HF0
  refine tk 3 hH ?_
  clear hH
  refine rd1 6 (fun K hK => ?_)
  go_simp
  refine (HP1.out _ HF1.out).mono ?_
  rintro e w2 ⟨rfl, hf⟩
  have HF2 := Lib.hid (HF1.out.trans hf (fun _ _ h => h))
  refine hK.out _ _ hf ?_
  clear hK K
  refine wpAnyH_more (fun w' => Fr (fun _ => False) w2 w') (fun _ h => hf.trans h (fun _ _ h => h)) (Fr.refl _ _) (fun hH => ?_)
  clear hf HF1
  refine tk 7 hH ?_
  clear hH
  refine rd1 10 (fun K hK => ?_)
  go_simp
  refine (HP2.out _ HF2.out).mono ?_
  rintro e w3 ⟨rfl, hf⟩
  have HF3 := Lib.hid (HF2.out.trans hf (fun _ _ h => h))
  refine hK.out _ _ hf ?_
  clear hK K
  refine wpAnyH_more (fun w' => Fr (fun _ => False) w3 w') (fun _ h => hf.trans h (fun _ _ h => h)) (Fr.refl _ _) (fun hH => ?_)
  clear hf HF2
  refine tk 11 hH ?_
  clear hH
  refine rd1 14 (fun K hK => ?_)
  go_simp
  refine (HP3.out _ HF3.out).mono ?_
  rintro e w4 ⟨Ab, cb, rfl, ho, hf⟩
  have HF4 := Lib.hid (HF3.out.trans hf (fun _ _ h => h))
  have HOB := Lib.hid ho
  clear ho
  refine hK.out _ _ hf ?_
  clear hK K
  refine wpAnyH_more (fun w' => Fr (fun _ => False) w4 w') (fun _ h => hf.trans h (fun _ _ h => h)) (Fr.refl _ _) (fun hH => ?_)
  clear hf HF3
  refine tk 15 hH ?_ (hy := by intro w1 hSw; (try dsimp only at hSw); have hst := (HOB.out.fr hSw).str; go_simp; try (with_reducible rfl))
  clear HOB
  refine tk 16 hH ?_
  clear hH
  refine rd1 18 (fun K hK => ?_)
  go_simp
  refine (HP12.out _ HF4.out).mono ?_
  rintro e w5 ⟨Aw, cw, rfl, hcw, hf⟩
  have HF5 := Lib.hid (HF4.out.trans hf (fun _ _ h => h))
  have HCW := Lib.hid hcw
  clear hcw
  refine hK.out _ _ hf ?_
  clear hK K
  refine wpAnyH_more (fun w' => Fr (fun _ => False) w5 w') (fun _ h => hf.trans h (fun _ _ h => h)) (Fr.refl _ _) (fun hH => ?_)
  clear hf HF4
  refine rd1 19 (fun K hK => ?_)
  go_simp
  refine (HWB.out Aw cw _ HCW.out).mono ?_
  rintro e w6 ⟨Ab, cb, rfl, ho, hf⟩
  have HF6 := Lib.hid (HF5.out.trans hf (fun _ _ h => h))
  have HOB := Lib.hid ho
  clear ho
  refine hK.out _ _ hf ?_
  clear hK K
  refine wpAnyH_more (fun w' => Fr (fun _ => False) w6 w') (fun _ h => hf.trans h (fun _ _ h => h)) (Fr.refl _ _) (fun hH => ?_)
  clear hf HF5
  refine tk 20 hH ?_ (hy := by intro w1 hSw; (try dsimp only at hSw); have hst := (HOB.out.fr hSw).str; go_simp; try (with_reducible rfl))
  clear HOB
  refine tk 21 hH ?_
  clear hH
  refine rd1 23 (fun K hK => ?_)
  go_simp
  refine (HP13.out _ HF6.out).mono ?_
  rintro e w7 ⟨Ab, cb, rfl, ho, hf⟩
  have HF7 := Lib.hid (HF6.out.trans hf (fun _ _ h => h))
  have HOB := Lib.hid ho
  clear ho
  refine hK.out _ _ hf ?_
  clear hK K
  refine wpAnyH_more (fun w' => Fr (fun _ => False) w7 w') (fun _ h => hf.trans h (fun _ _ h => h)) (Fr.refl _ _) (fun hH => ?_)
  clear hf HF6
  refine tk 24 hH ?_ (hy := by intro w1 hSw; (try dsimp only at hSw); have hst := (HOB.out.fr hSw).str; go_simp; try (with_reducible rfl))
  clear HOB
  refine tk 25 hH ?_
  clear hH
  refine rd1 28 (fun K hK => ?_)
  go_simp
  refine (HP6.out _ HF7.out).mono ?_
  rintro e w8 ⟨rfl, hf⟩
  have HF8 := Lib.hid (HF7.out.trans hf (fun _ _ h => h))
  refine hK.out _ _ hf ?_
  clear hK K
  refine wpAnyH_more (fun w' => Fr (fun _ => False) w8 w') (fun _ h => hf.trans h (fun _ _ h => h)) (Fr.refl _ _) (fun hH => ?_)
  clear hf HF7
  refine tk 29 hH ?_
  clear hH
  refine rd1 38 (fun K hK => ?_)
  go_simp
  refine (HP9.out _ HF8.out).mono ?_
  rintro e w9 ⟨rfl, hf⟩
  have HF9 := Lib.hid (HF8.out.trans hf (fun _ _ h => h))
  refine hK.out _ _ hf ?_
  clear hK K
  refine wpAnyH_more (fun w' => Fr (fun _ => False) w9 w') (fun _ h => hf.trans h (fun _ _ h => h)) (Fr.refl _ _) (fun hH => ?_)
  clear hf HF8
  refine tk 39 hH ?_
  clear hH
  refine rd1 42 (fun K hK => ?_)
  go_simp
  refine (HP10.out _ HF9.out).mono ?_
  rintro e w10 ⟨rfl, hf⟩
  have HF10 := Lib.hid (HF9.out.trans hf (fun _ _ h => h))
  refine hK.out _ _ hf ?_
  clear hK K
  refine wpAnyH_more (fun w' => Fr (fun _ => False) w10 w') (fun _ h => hf.trans h (fun _ _ h => h)) (Fr.refl _ _) (fun hH => ?_)
  clear hf HF9
  refine tk 43 hH ?_
  clear hH
  refine rd1 46 (fun K hK => ?_)
  go_simp
  refine (HP11.out _ HF10.out).mono ?_
  rintro e w11 ⟨Ab, cb, rfl, ho, hf⟩
  have HF11 := Lib.hid (HF10.out.trans hf (fun _ _ h => h))
  have HOB := Lib.hid ho
  clear ho
  refine hK.out _ _ hf ?_
  clear hK K
  refine wpAnyH_more (fun w' => Fr (fun _ => False) w11 w') (fun _ h => hf.trans h (fun _ _ h => h)) (Fr.refl _ _) (fun hH => ?_)
  clear hf HF10
  refine tk 47 hH ?_ (hy := by intro w1 hSw; (try dsimp only at hSw); have hst := (HOB.out.fr hSw).str; go_simp; try (with_reducible rfl))
  clear HOB
  refine tk 48 hH ?_
  clear hH
  refine rd1 49 (fun K hK => ?_)
  go_simp
  obtain ⟨ga, hga⟩ : ∃ r, w11.heap.size = r := ⟨_, rfl⟩
  obtain ⟨wf, hwf⟩ : ∃ y, w11.alloc (.cells #[.int .i64 1, .string (txt B0), .int .i64 2, .string (txt B1), .int .i64 17, .string (txt B2), .int .i64 19, .string (txt B3), .int .i64 21, .string (txt B12), .int .i64 52, .string (txt B13), .int .i64 66, .string (txt B6), .int .i64 86, .string (txt M), .int .i64 87, .string (txt P), .int .i64 112, .string (txt B9), .int .i64 113, .string (txt B10), .int .i64 115, .string (txt B11)] 39) = y := ⟨_, rfl⟩
  rw [hga, hwf]
  have hff : Fr (fun _ => False) w11 wf := by rw [← hwf]; exact (Fr.refl _ _).alloc _
  have hrow : Row wf ga 39 (([(1, B0), (2, B1), (17, B2), (19, B3), (21, B12), (52, B13), (66, B6), (86, M), (87, P), (112, B9), (113, B10), (115, B11)] : List Col).flatMap (pcells ridc rtxt)) := by rw [← hwf, ← hga]; exact Row.new w11 _ _
  have HR := Lib.hid hrow
  have HX : Hid (w.heap.size ≤ ga ∧ Fr (fun _ => False) w wf) := Lib.hid ⟨by rw [← hga]; exact HF11.out.size, HF11.out.trans hff (fun _ _ h => h)⟩
  refine hK.out _ _ hff ?_
  clear hK K hga hwf hrow
  refine tk 50 hff ?_
  refine wpAnyH_done (by kernel_rfl) ?_ _
  refine NoPanic.normal ?_
  exact hexit _ _ _ _ _ _ _ _ _ _ _ _ _ _ _ _ _ _ _ _ _ _ _ _ _ _ _ _ _ _ _ _ _ _ _ _ _ _ _ _ _ _ _ _ _ _ _ _ _ _ _ _ HR HX
end Go.Proofs.YtedmnkcoflbciaaGreat
