/-
  Layer 19, the reference's Put: four columns at once (written by gen_rgn.py).
-/
import Derived.Test.YtedmnkcoflbciaaGreatZm40
import Derived.Test.YtedmnkcoflbciaaGreatZm29
import Derived.Test.YtedmnkcoflbciaaGreatZm20
import Derived.Test.YtedmnkcoflbciaaGreatZm28
namespace Go.Proofs.YtedmnkcoflbciaaGreat
open Go.RowKit Mem Go.Lib LebM UtfM VaM OpM AcM RleM CsM
attribute [local go_sem ↓] Go.wp_at_zero Go.wp_at_succ
set_option linter.unusedVariables false

set_option maxRecDepth 1000000 in
noncomputable def rput18Code : Code := ((Tryz.f12.body.bind (regionAt 18)).getD .skip)
set_option maxRecDepth 1000000 in
set_option maxHeartbeats 12800000 in
theorem rput18_any (Q0 : Exit → Act → World → Prop) (s0 s1 s2 s3 s4 s6 s7 s8 s9 s10 s15 s16 s17 s18 s19 s20 s21 s22 s23 s24 s25 s26 s27 s28 s29 s30 s31 s32 s33 s34 s35 s36 s37 s38 s39 s40 s41 s42 s43 s44 s45 s46 s47 s48 s49 s50 s51 s52 s53 s54 s55 s56 s57 s58 s59 s60 s61 s62 s63 s64 s65 s66 s67 s68 s69 s70 s71 s72 s73 s74 s75 s76 s77 s78 s79 s80 s81 s82 s83 s84 s85 s86 s87 s88 s89 s90 s91 s92 s93 s94 s95 s96 s97 s98 s99 s100 s101 s102 s103 s104 s105 s106 s107 s108 s109 s110 s111 s112 s113 s114 s115 s116 s117 s118 s119 s120 s121 s122 s123 s124 s125 s126 s127 s128 s129 s130 s131 s132 s133 s134 s135 s136 s137 s138 s139 s140 s141 s142 s143 s144 s145 s146 s147 s148 s149 s150 s151 s152 s153 s154 s155 s156 s157 s158 s159 s160 s161 s162 s163 s164 s165 s166 s167 s168 s169 s170 s171 s172 s173 s174 s175 s176 s177 s178 s179 s180 s181 s182 s183 s184 s185 s186 s187 s188 s189 s190 s191 s192 s193 s194 s195 s196 s197 s198 s199 s200 s201 s202 s203 s204 s205 s206 s207 s208 s209 s210 s211 s212 s213 s214 s215 s216 s217 s218 s219 s220 s221 s222 s223 s224 s225 s226 s227 s228 s229 s230 s231 s232 s233 s234 s235 s236 s237 s238 s239 s240 s241 s242 s243 s244 s245 : Value) (wc : World) (base g n : Nat) (D : Nat → Prop) (RT : List Rw) (q0 q1 q2 q3 : Nat) (VT : List Value) (i0 i1 i2 i3 : Bool) (v0 v1 v2 v3 : Int)
    (X0 X1 X2 X3 : List Value) (A0 A1 A2 A3 : Option Addr) (c0 c1 c2 c3 : Nat)
    (hS0 : Hid (ShL 75 wc base g D (.slice A0 n c0 :: .slice A1 n c1 :: .slice A2 n c2 :: .slice A3 n c3 :: VT) (⟨⟨77, 2, n, X0⟩, A0, c0⟩ :: ⟨⟨77, 2, n, X1⟩, A1, c1⟩ :: ⟨⟨77, 2, n, X2⟩, A2, c2⟩ :: ⟨⟨77, 2, n, X3⟩, A3, c3⟩ :: RT))) (hn : n ≤ 1000000) (hb : Hid (base ≤ wc.heap.size))
    (HC : Hid (∀ w', Fr (fun k => base ≤ k ∧ ¬ D k) wc w' → w'.cell? ⟨q0, 0, none⟩ = some (.bool i0) ∧ w'.cell? ⟨q0, 1, none⟩ = some (.int .i64 v0) ∧ w'.cell? ⟨q1, 0, none⟩ = some (.bool i1) ∧ w'.cell? ⟨q1, 1, none⟩ = some (.int .i64 v1) ∧ w'.cell? ⟨q2, 0, none⟩ = some (.bool i2) ∧ w'.cell? ⟨q2, 1, none⟩ = some (.int .i64 v2) ∧ w'.cell? ⟨q3, 0, none⟩ = some (.bool i3) ∧ w'.cell? ⟨q3, 1, none⟩ = some (.int .i64 v3)))
    (hexit : ∀ (A0' A1' A2' A3' : Option Addr) (c0' c1' c2' c3' : Nat) (w'' : World) (r78 r79 r80 r81 r82 r83 r84 r85 r86 r87 r88 r89 r90 r91 r92 r93 r94 r95 r96 r97 r98 r99 r100 r101 : Value), Hid (ShL 75 w'' base g D (.slice A0' (n + 1) c0' :: .slice A1' (n + 1) c1' :: .slice A2' (n + 1) c2' :: .slice A3' (n + 1) c3' :: VT) (⟨⟨77, 2, n + 1, X0 ++ [Value.bool i0, Value.int IntKind.i64 v0]⟩, A0', c0'⟩ :: ⟨⟨77, 2, n + 1, X1 ++ [Value.bool i1, Value.int IntKind.i64 v1]⟩, A1', c1'⟩ :: ⟨⟨77, 2, n + 1, X2 ++ [Value.bool i2, Value.int IntKind.i64 v2]⟩, A2', c2'⟩ :: ⟨⟨77, 2, n + 1, X3 ++ [Value.bool i3, Value.int IntKind.i64 v3]⟩, A3', c3'⟩ :: RT)) → Hid (Fr (fun k => base ≤ k ∧ ¬ D k) wc w'') → Q0 .normal ⟨List.toArray (s0 :: s1 :: s2 :: s3 :: s4 :: .pointer (some ⟨g, 0, none⟩) :: s6 :: s7 :: s8 :: s9 :: s10 :: .pointer (some ⟨q0, 0, none⟩) :: .pointer (some ⟨q1, 0, none⟩) :: .pointer (some ⟨q2, 0, none⟩) :: .pointer (some ⟨q3, 0, none⟩) :: s15 :: s16 :: s17 :: s18 :: s19 :: s20 :: s21 :: s22 :: s23 :: s24 :: s25 :: s26 :: s27 :: s28 :: s29 :: s30 :: s31 :: s32 :: s33 :: s34 :: s35 :: s36 :: s37 :: s38 :: s39 :: s40 :: s41 :: s42 :: s43 :: s44 :: s45 :: s46 :: s47 :: s48 :: s49 :: s50 :: s51 :: s52 :: s53 :: s54 :: s55 :: s56 :: s57 :: s58 :: s59 :: s60 :: s61 :: s62 :: s63 :: s64 :: s65 :: s66 :: s67 :: s68 :: s69 :: s70 :: s71 :: s72 :: s73 :: s74 :: s75 :: s76 :: s77 :: r78 :: r79 :: r80 :: r81 :: r82 :: r83 :: r84 :: r85 :: r86 :: r87 :: r88 :: r89 :: r90 :: r91 :: r92 :: r93 :: r94 :: r95 :: r96 :: r97 :: r98 :: r99 :: r100 :: r101 :: s102 :: s103 :: s104 :: s105 :: s106 :: s107 :: s108 :: s109 :: s110 :: s111 :: s112 :: s113 :: s114 :: s115 :: s116 :: s117 :: s118 :: s119 :: s120 :: s121 :: s122 :: s123 :: s124 :: s125 :: s126 :: s127 :: s128 :: s129 :: s130 :: s131 :: s132 :: s133 :: s134 :: s135 :: s136 :: s137 :: s138 :: s139 :: s140 :: s141 :: s142 :: s143 :: s144 :: s145 :: s146 :: s147 :: s148 :: s149 :: s150 :: s151 :: s152 :: s153 :: s154 :: s155 :: s156 :: s157 :: s158 :: s159 :: s160 :: s161 :: s162 :: s163 :: s164 :: s165 :: s166 :: s167 :: s168 :: s169 :: s170 :: s171 :: s172 :: s173 :: s174 :: s175 :: s176 :: s177 :: s178 :: s179 :: s180 :: s181 :: s182 :: s183 :: s184 :: s185 :: s186 :: s187 :: s188 :: s189 :: s190 :: s191 :: s192 :: s193 :: s194 :: s195 :: s196 :: s197 :: s198 :: s199 :: s200 :: s201 :: s202 :: s203 :: s204 :: s205 :: s206 :: s207 :: s208 :: s209 :: s210 :: s211 :: s212 :: s213 :: s214 :: s215 :: s216 :: s217 :: s218 :: s219 :: s220 :: s221 :: s222 :: s223 :: s224 :: s225 :: s226 :: s227 :: s228 :: s229 :: s230 :: s231 :: s232 :: s233 :: s234 :: s235 :: s236 :: s237 :: s238 :: s239 :: s240 :: s241 :: s242 :: s243 :: s244 :: s245 :: []), []⟩ w'') :
    Code.wp Tryz.prog rput18Code Q0 ⟨List.toArray (s0 :: s1 :: s2 :: s3 :: s4 :: .pointer (some ⟨g, 0, none⟩) :: s6 :: s7 :: s8 :: s9 :: s10 :: .pointer (some ⟨q0, 0, none⟩) :: .pointer (some ⟨q1, 0, none⟩) :: .pointer (some ⟨q2, 0, none⟩) :: .pointer (some ⟨q3, 0, none⟩) :: s15 :: s16 :: s17 :: s18 :: s19 :: s20 :: s21 :: s22 :: s23 :: s24 :: s25 :: s26 :: s27 :: s28 :: s29 :: s30 :: s31 :: s32 :: s33 :: s34 :: s35 :: s36 :: s37 :: s38 :: s39 :: s40 :: s41 :: s42 :: s43 :: s44 :: s45 :: s46 :: s47 :: s48 :: s49 :: s50 :: s51 :: s52 :: s53 :: s54 :: s55 :: s56 :: s57 :: s58 :: s59 :: s60 :: s61 :: s62 :: s63 :: s64 :: s65 :: s66 :: s67 :: s68 :: s69 :: s70 :: s71 :: s72 :: s73 :: s74 :: s75 :: s76 :: s77 :: s78 :: s79 :: s80 :: s81 :: s82 :: s83 :: s84 :: s85 :: s86 :: s87 :: s88 :: s89 :: s90 :: s91 :: s92 :: s93 :: s94 :: s95 :: s96 :: s97 :: s98 :: s99 :: s100 :: s101 :: s102 :: s103 :: s104 :: s105 :: s106 :: s107 :: s108 :: s109 :: s110 :: s111 :: s112 :: s113 :: s114 :: s115 :: s116 :: s117 :: s118 :: s119 :: s120 :: s121 :: s122 :: s123 :: s124 :: s125 :: s126 :: s127 :: s128 :: s129 :: s130 :: s131 :: s132 :: s133 :: s134 :: s135 :: s136 :: s137 :: s138 :: s139 :: s140 :: s141 :: s142 :: s143 :: s144 :: s145 :: s146 :: s147 :: s148 :: s149 :: s150 :: s151 :: s152 :: s153 :: s154 :: s155 :: s156 :: s157 :: s158 :: s159 :: s160 :: s161 :: s162 :: s163 :: s164 :: s165 :: s166 :: s167 :: s168 :: s169 :: s170 :: s171 :: s172 :: s173 :: s174 :: s175 :: s176 :: s177 :: s178 :: s179 :: s180 :: s181 :: s182 :: s183 :: s184 :: s185 :: s186 :: s187 :: s188 :: s189 :: s190 :: s191 :: s192 :: s193 :: s194 :: s195 :: s196 :: s197 :: s198 :: s199 :: s200 :: s201 :: s202 :: s203 :: s204 :: s205 :: s206 :: s207 :: s208 :: s209 :: s210 :: s211 :: s212 :: s213 :: s214 :: s215 :: s216 :: s217 :: s218 :: s219 :: s220 :: s221 :: s222 :: s223 :: s224 :: s225 :: s226 :: s227 :: s228 :: s229 :: s230 :: s231 :: s232 :: s233 :: s234 :: s235 :: s236 :: s237 :: s238 :: s239 :: s240 :: s241 :: s242 :: s243 :: s244 :: s245 :: []), []⟩ wc := by
  conv => arg 2; whnf
  have hSS : ∀ (w2 : World) (D2 : Nat → Prop) (R2 : List Rw), ShL 75 w2 base g D2 (.slice A0 n c0 :: .slice A1 n c1 :: .slice A2 n c2 :: .slice A3 n c3 :: VT) R2 → Fr (fun k => base ≤ k ∧ ¬ D k) wc w2 → w2.cell? ⟨g, 0, none⟩ = some (.slice A0 n c0) ∧ w2.cell? ⟨g, 1, none⟩ = some (.slice A1 n c1) ∧ w2.cell? ⟨g, 2, none⟩ = some (.slice A2 n c2) ∧ w2.cell? ⟨g, 3, none⟩ = some (.slice A3 n c3) ∧ w2.cell? ⟨q0, 0, none⟩ = some (.bool i0) ∧ w2.cell? ⟨q0, 1, none⟩ = some (.int .i64 v0) ∧ w2.cell? ⟨q1, 0, none⟩ = some (.bool i1) ∧ w2.cell? ⟨q1, 1, none⟩ = some (.int .i64 v1) ∧ w2.cell? ⟨q2, 0, none⟩ = some (.bool i2) ∧ w2.cell? ⟨q2, 1, none⟩ = some (.int .i64 v2) ∧ w2.cell? ⟨q3, 0, none⟩ = some (.bool i3) ∧ w2.cell? ⟨q3, 1, none⟩ = some (.int .i64 v3) := fun w2 D2 R2 hs hf => ⟨hs.row.cell rfl, hs.row.cell rfl, hs.row.cell rfl, hs.row.cell rfl, HC.out w2 hf⟩
  have HSS := Lib.hid hSS
  have hdr : Fr (fun k => base ≤ k ∧ ¬ D k) wc wc.drew := (Fr.refl _ _).drew
  have hs1 := hS0.out.fr0 (Fr.refl (fun _ => False) wc).drew
  refine wp_region_noPanic ?_
  refine wp_region_head 21 (fun w' => w'.cell? ⟨g, 0, none⟩ = some (.slice A0 n c0) ∧ w'.cell? ⟨g, 1, none⟩ = some (.slice A1 n c1) ∧ w'.cell? ⟨g, 2, none⟩ = some (.slice A2 n c2) ∧ w'.cell? ⟨g, 3, none⟩ = some (.slice A3 n c3) ∧ w'.cell? ⟨q0, 0, none⟩ = some (.bool i0) ∧ w'.cell? ⟨q0, 1, none⟩ = some (.int .i64 v0) ∧ w'.cell? ⟨q1, 0, none⟩ = some (.bool i1) ∧ w'.cell? ⟨q1, 1, none⟩ = some (.int .i64 v1) ∧ w'.cell? ⟨q2, 0, none⟩ = some (.bool i2) ∧ w'.cell? ⟨q2, 1, none⟩ = some (.int .i64 v2) ∧ w'.cell? ⟨q3, 0, none⟩ = some (.bool i3) ∧ w'.cell? ⟨q3, 1, none⟩ = some (.int .i64 v3)) (hSS _ _ _ hs1 hdr) (fun hH => ?_)
  refine tk 0 hH ?_
  refine tk 1 hH ?_
  refine tk 2 hH ?_
  refine tk 5 hH ?_
  refine tk 6 hH ?_
  refine tk 7 hH ?_
  refine tk 10 hH ?_
  refine tk 11 hH ?_
  refine tk 12 hH ?_
  refine tk 15 hH ?_
  refine tk 16 hH ?_
  refine tk 17 hH ?_
  clear hH hSS
  refine wpAnyH_inv (f0 := 0) (fun k l a w' => ∃ (b0 b1 b2 b3 a0 a1 a2 a3 : Bool) (x0 x1 x2 x3 y0 y1 y2 y3 yl : Value) (D' : Nat → Prop) (z0 z1 z2 z3 : Rw), l = List.toArray [true, true, true, b0, a0, true, true, true, b1, a1, true, true, true, b2, a2, true, true, true, b3, a3, a0] ∧ a = ⟨List.toArray (s0 :: s1 :: s2 :: s3 :: s4 :: .pointer (some ⟨g, 0, none⟩) :: s6 :: s7 :: s8 :: s9 :: s10 :: .pointer (some ⟨q0, 0, none⟩) :: .pointer (some ⟨q1, 0, none⟩) :: .pointer (some ⟨q2, 0, none⟩) :: .pointer (some ⟨q3, 0, none⟩) :: s15 :: s16 :: s17 :: s18 :: s19 :: s20 :: s21 :: s22 :: s23 :: s24 :: s25 :: s26 :: s27 :: s28 :: s29 :: s30 :: s31 :: s32 :: s33 :: s34 :: s35 :: s36 :: s37 :: s38 :: s39 :: s40 :: s41 :: s42 :: s43 :: s44 :: s45 :: s46 :: s47 :: s48 :: s49 :: s50 :: s51 :: s52 :: s53 :: s54 :: s55 :: s56 :: s57 :: s58 :: s59 :: s60 :: s61 :: s62 :: s63 :: s64 :: s65 :: s66 :: s67 :: s68 :: s69 :: s70 :: s71 :: s72 :: s73 :: s74 :: s75 :: s76 :: s77 :: .pointer (some ⟨g, 0, none⟩) :: .slice A0 n c0 :: .agg #[.bool i0, .int .i64 v0] :: x0 :: y0 :: .pointer (some ⟨g, 1, none⟩) :: .slice A1 n c1 :: .agg #[.bool i1, .int .i64 v1] :: x1 :: y1 :: .pointer (some ⟨g, 2, none⟩) :: .slice A2 n c2 :: .agg #[.bool i2, .int .i64 v2] :: x2 :: y2 :: .pointer (some ⟨g, 3, none⟩) :: .slice A3 n c3 :: .agg #[.bool i3, .int .i64 v3] :: x3 :: y3 :: yl :: s99 :: s100 :: s101 :: s102 :: s103 :: s104 :: s105 :: s106 :: s107 :: s108 :: s109 :: s110 :: s111 :: s112 :: s113 :: s114 :: s115 :: s116 :: s117 :: s118 :: s119 :: s120 :: s121 :: s122 :: s123 :: s124 :: s125 :: s126 :: s127 :: s128 :: s129 :: s130 :: s131 :: s132 :: s133 :: s134 :: s135 :: s136 :: s137 :: s138 :: s139 :: s140 :: s141 :: s142 :: s143 :: s144 :: s145 :: s146 :: s147 :: s148 :: s149 :: s150 :: s151 :: s152 :: s153 :: s154 :: s155 :: s156 :: s157 :: s158 :: s159 :: s160 :: s161 :: s162 :: s163 :: s164 :: s165 :: s166 :: s167 :: s168 :: s169 :: s170 :: s171 :: s172 :: s173 :: s174 :: s175 :: s176 :: s177 :: s178 :: s179 :: s180 :: s181 :: s182 :: s183 :: s184 :: s185 :: s186 :: s187 :: s188 :: s189 :: s190 :: s191 :: s192 :: s193 :: s194 :: s195 :: s196 :: s197 :: s198 :: s199 :: s200 :: s201 :: s202 :: s203 :: s204 :: s205 :: s206 :: s207 :: s208 :: s209 :: s210 :: s211 :: s212 :: s213 :: s214 :: s215 :: s216 :: s217 :: s218 :: s219 :: s220 :: s221 :: s222 :: s223 :: s224 :: s225 :: s226 :: s227 :: s228 :: s229 :: s230 :: s231 :: s232 :: s233 :: s234 :: s235 :: s236 :: s237 :: s238 :: s239 :: s240 :: s241 :: s242 :: s243 :: s244 :: s245 :: []), []⟩ ∧ ok4 b0 b1 b2 b3 a0 a1 a2 a3 = true ∧ k = cnt4 b0 b1 b2 b3 a0 a1 a2 a3 + (bif a0 then 0 else 1) ∧ Hid (a0 = true → yl = .pointer (some ⟨g, 0, none⟩)) ∧ Hid (ShL 75 w' base g D' (.slice A0 n c0 :: .slice A1 n c1 :: .slice A2 n c2 :: .slice A3 n c3 :: VT) (z0 :: z1 :: z2 :: z3 :: RT)) ∧ Hid (∀ k, D k → D' k) ∧ Hid (Fr (fun k => base ≤ k ∧ ¬ D k) wc w') ∧ Hid (Chn w' D' ⟨⟨77, 2, n, X0⟩, A0, c0⟩ [Value.bool i0, Value.int IntKind.i64 v0] b0 a0 x0 y0 z0) ∧ Hid (Chn w' D' ⟨⟨77, 2, n, X1⟩, A1, c1⟩ [Value.bool i1, Value.int IntKind.i64 v1] b1 a1 x1 y1 z1) ∧ Hid (Chn w' D' ⟨⟨77, 2, n, X2⟩, A2, c2⟩ [Value.bool i2, Value.int IntKind.i64 v2] b2 a2 x2 y2 z2) ∧ Hid (Chn w' D' ⟨⟨77, 2, n, X3⟩, A3, c3⟩ [Value.bool i3, Value.int IntKind.i64 v3] b3 a3 x3 y3 z3)) ?_ ?_ 9 _ _ _ ?_
  · intro l a w' hI
    obtain ⟨b0, b1, b2, b3, a0, a1, a2, a3, x0, x1, x2, x3, y0, y1, y2, y3, yl, D', z0, z1, z2, z3, rfl, rfl, hok, hk, HYL, HS, HD, HF, C0, C1, C2, C3⟩ := hI
    have hk2 := hk
    replace hk : 0 = cnt4 b0 b1 b2 b3 a0 a1 a2 a3 := by omega
    clear hk2
    obtain ⟨rfl, rfl, rfl, rfl, rfl, rfl, rfl, rfl⟩ := cnt4_zero hk
    obtain ⟨A0', c0', rfl, rfl⟩ := C0.out.done rfl
    obtain ⟨A1', c1', rfl, rfl⟩ := C1.out.done rfl
    obtain ⟨A2', c2', rfl, rfl⟩ := C2.out.done rfl
    obtain ⟨A3', c3', rfl, rfl⟩ := C3.out.done rfl
    have hyl := HYL.out rfl
    subst hyl
    have HS2 := Lib.hid (HS.out.less HD.out)
    clear hok hk HSS HC HS HD C0 C1 C2 C3
    refine hdone ?_
    obtain ⟨wa, hwa⟩ : ∃ v, w'.setCell ⟨g, 0, none⟩ (.slice A0' (n + 1) c0') = v := ⟨_, rfl⟩
    obtain ⟨wb, hwb⟩ : ∃ v, wa.setCell ⟨g, 1, none⟩ (.slice A1' (n + 1) c1') = v := ⟨_, rfl⟩
    obtain ⟨wd, hwd⟩ : ∃ v, wb.setCell ⟨g, 2, none⟩ (.slice A2' (n + 1) c2') = v := ⟨_, rfl⟩
    obtain ⟨we, hwe⟩ : ∃ v, wd.setCell ⟨g, 3, none⟩ (.slice A3' (n + 1) c3') = v := ⟨_, rfl⟩
    have hsa := HS2.out.store 0 (.slice A0' (n + 1) c0')
    rw [hwa] at hsa
    have hsb := hsa.store 1 (.slice A1' (n + 1) c1')
    rw [hwb] at hsb
    have hsd := hsb.store 2 (.slice A2' (n + 1) c2')
    rw [hwd] at hsd
    have hse := hsd.store 3 (.slice A3' (n + 1) c3')
    rw [hwe] at hse
    have fe : Fr (fun k => base ≤ k ∧ ¬ D k) wc we := by
      have hg : base ≤ g ∧ ¬ D g := ⟨HS2.out.base, fun hd => (HS2.out.far g hd).1 rfl⟩
      have ga : Fr (fun k => k = g) w' wa := by rw [← hwa]; exact Fr.set1 _ _ _ _
      have gb : Fr (fun k => k = g) wa wb := by rw [← hwb]; exact Fr.set1 _ _ _ _
      have gd : Fr (fun k => k = g) wb wd := by rw [← hwd]; exact Fr.set1 _ _ _ _
      have ge : Fr (fun k => k = g) wd we := by rw [← hwe]; exact Fr.set1 _ _ _ _
      exact (((HF.out.trans ga (fun _ _ h => by rw [h]; exact hg)).trans gb (fun _ _ h => by rw [h]; exact hg)).trans gd (fun _ _ h => by rw [h]; exact hg)).trans ge (fun _ _ h => by rw [h]; exact hg)
    have HSE := Lib.hid hse
    have HFE := Lib.hid fe
    have t0 : w'.cell? ⟨g, 0, none⟩ = some (.slice A0 n c0) := HS2.out.row.cell rfl
    have f0 := HS2.out.row.free 0
    have t1 : wa.cell? ⟨g, 1, none⟩ = some (.slice A1 n c1) := hsa.row.cell rfl
    have f1 := hsa.row.free 1
    have t2 : wb.cell? ⟨g, 2, none⟩ = some (.slice A2 n c2) := hsb.row.cell rfl
    have f2 := hsb.row.free 2
    have t3 : wd.cell? ⟨g, 3, none⟩ = some (.slice A3 n c3) := hsd.row.cell rfl
    have f3 := hsd.row.free 3
    clear hsa hsb hsd hse fe HS2 HF
    go_wp2_with fail
    refine NoPanic.normal ?_
    exact hexit _ _ _ _ _ _ _ _ _ _ _ _ _ _ _ _ _ _ _ _ _ _ _ _ _ _ _ _ _ _ _ _ _ HSE HFE
  · intro k l a w' hI hrec
    have HREC := Lib.hid hrec
    clear hrec
    obtain ⟨b0, b1, b2, b3, a0, a1, a2, a3, x0, x1, x2, x3, y0, y1, y2, y3, yl, D', z0, z1, z2, z3, rfl, rfl, hok, hk, HYL, HS, HD, HF, C0, C1, C2, C3⟩ := hI
    have hfull : (b0 && b1 && b2 && b3 && a0 && a1 && a2 && a3) = false := by
      cases hf : (b0 && b1 && b2 && b3 && a0 && a1 && a2 && a3) with
      | false => rfl
      | true =>
        simp only [Bool.and_eq_true] at hf
        obtain ⟨⟨⟨⟨⟨⟨⟨h0, h1⟩, h2⟩, h3⟩, h4⟩, h5⟩, h6⟩, h7⟩ := hf
        subst_vars
        simp [cnt4] at hk
    refine rdy4 (fun b0 b1 b2 b3 a0 a1 a2 a3 => List.toArray [true, true, true, b0, a0, true, true, true, b1, a1, true, true, true, b2, a2, true, true, true, b3, a3, a0]) 3 8 13 18 4 9 14 19 (by kernel_rfl) hok hfull ?_ ?_ ?_ ?_ ?_ ?_ ?_ ?_
    · intro e1
      obtain rfl := e1
      intro K hK
      have e2 : a0 = false := ok4_b0 hok
      obtain rfl := e2
      replace hok := ok4_c0 hok
      refine wpOp_at rfl ?_
      go_simp
      obtain ⟨kb, hkb⟩ : ∃ k, w'.heap.size = k := ⟨_, rfl⟩
      obtain ⟨w2, hw2⟩ : ∃ v, w'.alloc (.cells #[Value.bool i0, Value.int IntKind.i64 v0] 77) = v := ⟨_, rfl⟩
      rw [hkb, hw2]
      have hf2 : Fr (fun _ => False) w' w2 := by rw [← hw2]; exact (Fr.refl _ _).alloc _
      have hr2 : Row w2 kb 77 [Value.bool i0, Value.int IntKind.i64 v0] := by rw [← hw2, ← hkb]; exact Row.new w' _ _
      have hs2 := HS.out.more (D' := fun j => D' j ∨ j = kb) hf2 (fun j h => by
        rcases h with h | rfl
        · exact ⟨.inl h, Nat.lt_of_lt_of_le (HS.out.lt j h) hf2.size⟩
        · exact ⟨.inr (by omega), hr2.lt⟩)
      have hfw := HF.out.trans hf2 (fun _ _ h => h.elim)
      refine hK.out _ _ (HSS.out _ _ _ hs2 hfw) (HREC.out _ (Nat.le_refl _) _ _ _ ?_)
      exact ⟨true, b1, b2, b3, false, a1, a2, a3, .slice (some ⟨kb, 0, none⟩) 1 1, x1, x2, x3, y0, y1, y2, y3, yl, _, z0, z1, z2, z3, (by simp only [List.setIfInBounds_toArray, List.set_cons_zero, List.set_cons_succ]), rfl, hok, (by simp only [cnt4, cond_true, cond_false] at hk ⊢; omega), (fun h => by cases h), hs2, fun j h => .inl (HD.out j h), hfw, ⟨C0.out.old, fun _ _ => ⟨kb, rfl, hr2, .inr rfl⟩, (fun h => by cases h)⟩, C1.out.fr hf2 (fun _ _ h => h) (fun _ h => .inl h), C2.out.fr hf2 (fun _ _ h => h) (fun _ h => .inl h), C3.out.fr hf2 (fun _ _ h => h) (fun _ h => .inl h)⟩
    · intro e1
      obtain rfl := e1
      intro K hK
      have e2 : a1 = false := ok4_b1 hok
      obtain rfl := e2
      replace hok := ok4_c1 hok
      refine wpOp_at rfl ?_
      go_simp
      obtain ⟨kb, hkb⟩ : ∃ k, w'.heap.size = k := ⟨_, rfl⟩
      obtain ⟨w2, hw2⟩ : ∃ v, w'.alloc (.cells #[Value.bool i1, Value.int IntKind.i64 v1] 77) = v := ⟨_, rfl⟩
      rw [hkb, hw2]
      have hf2 : Fr (fun _ => False) w' w2 := by rw [← hw2]; exact (Fr.refl _ _).alloc _
      have hr2 : Row w2 kb 77 [Value.bool i1, Value.int IntKind.i64 v1] := by rw [← hw2, ← hkb]; exact Row.new w' _ _
      have hs2 := HS.out.more (D' := fun j => D' j ∨ j = kb) hf2 (fun j h => by
        rcases h with h | rfl
        · exact ⟨.inl h, Nat.lt_of_lt_of_le (HS.out.lt j h) hf2.size⟩
        · exact ⟨.inr (by omega), hr2.lt⟩)
      have hfw := HF.out.trans hf2 (fun _ _ h => h.elim)
      refine hK.out _ _ (HSS.out _ _ _ hs2 hfw) (HREC.out _ (Nat.le_refl _) _ _ _ ?_)
      exact ⟨b0, true, b2, b3, a0, false, a2, a3, x0, .slice (some ⟨kb, 0, none⟩) 1 1, x2, x3, y0, y1, y2, y3, yl, _, z0, z1, z2, z3, (by simp only [List.setIfInBounds_toArray, List.set_cons_zero, List.set_cons_succ]), rfl, hok, (by simp only [cnt4, cond_true, cond_false] at hk ⊢; omega), HYL.out, hs2, fun j h => .inl (HD.out j h), hfw, C0.out.fr hf2 (fun _ _ h => h) (fun _ h => .inl h), ⟨C1.out.old, fun _ _ => ⟨kb, rfl, hr2, .inr rfl⟩, (fun h => by cases h)⟩, C2.out.fr hf2 (fun _ _ h => h) (fun _ h => .inl h), C3.out.fr hf2 (fun _ _ h => h) (fun _ h => .inl h)⟩
    · intro e1
      obtain rfl := e1
      intro K hK
      have e2 : a2 = false := ok4_b2 hok
      obtain rfl := e2
      replace hok := ok4_c2 hok
      refine wpOp_at rfl ?_
      go_simp
      obtain ⟨kb, hkb⟩ : ∃ k, w'.heap.size = k := ⟨_, rfl⟩
      obtain ⟨w2, hw2⟩ : ∃ v, w'.alloc (.cells #[Value.bool i2, Value.int IntKind.i64 v2] 77) = v := ⟨_, rfl⟩
      rw [hkb, hw2]
      have hf2 : Fr (fun _ => False) w' w2 := by rw [← hw2]; exact (Fr.refl _ _).alloc _
      have hr2 : Row w2 kb 77 [Value.bool i2, Value.int IntKind.i64 v2] := by rw [← hw2, ← hkb]; exact Row.new w' _ _
      have hs2 := HS.out.more (D' := fun j => D' j ∨ j = kb) hf2 (fun j h => by
        rcases h with h | rfl
        · exact ⟨.inl h, Nat.lt_of_lt_of_le (HS.out.lt j h) hf2.size⟩
        · exact ⟨.inr (by omega), hr2.lt⟩)
      have hfw := HF.out.trans hf2 (fun _ _ h => h.elim)
      refine hK.out _ _ (HSS.out _ _ _ hs2 hfw) (HREC.out _ (Nat.le_refl _) _ _ _ ?_)
      exact ⟨b0, b1, true, b3, a0, a1, false, a3, x0, x1, .slice (some ⟨kb, 0, none⟩) 1 1, x3, y0, y1, y2, y3, yl, _, z0, z1, z2, z3, (by simp only [List.setIfInBounds_toArray, List.set_cons_zero, List.set_cons_succ]), rfl, hok, (by simp only [cnt4, cond_true, cond_false] at hk ⊢; omega), HYL.out, hs2, fun j h => .inl (HD.out j h), hfw, C0.out.fr hf2 (fun _ _ h => h) (fun _ h => .inl h), C1.out.fr hf2 (fun _ _ h => h) (fun _ h => .inl h), ⟨C2.out.old, fun _ _ => ⟨kb, rfl, hr2, .inr rfl⟩, (fun h => by cases h)⟩, C3.out.fr hf2 (fun _ _ h => h) (fun _ h => .inl h)⟩
    · intro e1
      obtain rfl := e1
      intro K hK
      have e2 : a3 = false := ok4_b3 hok
      obtain rfl := e2
      replace hok := ok4_c3 hok
      refine wpOp_at rfl ?_
      go_simp
      obtain ⟨kb, hkb⟩ : ∃ k, w'.heap.size = k := ⟨_, rfl⟩
      obtain ⟨w2, hw2⟩ : ∃ v, w'.alloc (.cells #[Value.bool i3, Value.int IntKind.i64 v3] 77) = v := ⟨_, rfl⟩
      rw [hkb, hw2]
      have hf2 : Fr (fun _ => False) w' w2 := by rw [← hw2]; exact (Fr.refl _ _).alloc _
      have hr2 : Row w2 kb 77 [Value.bool i3, Value.int IntKind.i64 v3] := by rw [← hw2, ← hkb]; exact Row.new w' _ _
      have hs2 := HS.out.more (D' := fun j => D' j ∨ j = kb) hf2 (fun j h => by
        rcases h with h | rfl
        · exact ⟨.inl h, Nat.lt_of_lt_of_le (HS.out.lt j h) hf2.size⟩
        · exact ⟨.inr (by omega), hr2.lt⟩)
      have hfw := HF.out.trans hf2 (fun _ _ h => h.elim)
      refine hK.out _ _ (HSS.out _ _ _ hs2 hfw) (HREC.out _ (Nat.le_refl _) _ _ _ ?_)
      exact ⟨b0, b1, b2, true, a0, a1, a2, false, x0, x1, x2, .slice (some ⟨kb, 0, none⟩) 1 1, y0, y1, y2, y3, yl, _, z0, z1, z2, z3, (by simp only [List.setIfInBounds_toArray, List.set_cons_zero, List.set_cons_succ]), rfl, hok, (by simp only [cnt4, cond_true, cond_false] at hk ⊢; omega), HYL.out, hs2, fun j h => .inl (HD.out j h), hfw, C0.out.fr hf2 (fun _ _ h => h) (fun _ h => .inl h), C1.out.fr hf2 (fun _ _ h => h) (fun _ h => .inl h), C2.out.fr hf2 (fun _ _ h => h) (fun _ h => .inl h), ⟨C3.out.old, fun _ _ => ⟨kb, rfl, hr2, .inr rfl⟩, (fun h => by cases h)⟩⟩
    · intro e1 e2
      obtain rfl := e1
      obtain rfl := e2
      have hea := ok4_e hok
      intro K hK
      replace hok := ok4_d0 hok
      obtain ⟨kb, rfl, hrk, hdk⟩ := C0.out.made rfl rfl
      have ez := C0.out.old rfl
      subst ez
      have hmem : (⟨⟨77, 2, n, X0⟩, A0, c0⟩ : Rw) ∈ (⟨⟨77, 2, n, X0⟩, A0, c0⟩ : Rw) :: z1 :: z2 :: z3 :: RT := List.mem_cons_self ..
      have how := HS.out.all _ hmem
      unfold Rw.own Rw.v at how
      simp only at how
      have hbw : base ≤ w'.heap.size := by have h1 := hb.out; have h2 := HF.out.size; omega
      refine wpOp_at rfl ?_
      refine step_appS cellTC w' rfl (.tmp 79) (.tmp 81) rfl base (.slice A0 n c0) n X0 rfl how ⟨kb, 0, none⟩ 1 [Value.bool i0, Value.int IntKind.i64 v0] rfl rfl (fun j u h => by rw [Mem.addr_add]; exact hrk.cell h) (two_one _ _) (n + 1) rfl (by unfold maxLen; omega) (by omega) hbw ?_
      intro A' c' w2 hown2 hle hf2 hat
      have hs2 := HS.out.turn (i := 0) (r := ⟨⟨77, 2, n, X0⟩, A0, c0⟩) (q := ⟨⟨77, 2, n + 1, X0 ++ [Value.bool i0, Value.int IntKind.i64 v0]⟩, A', c'⟩) rfl hf2 hown2 hat
      have hfar : ∀ j, D' j → ¬ ((Value.slice A0 n c0).ownBlock = some j) := fun j hd => (HS.out.far j hd).2 _ hmem
      have hfw := HF.out.trans hf2 (fun j hj h => ⟨(how.lt j h).1, fun hd => hfar j (HD.out j hd) h⟩)
      obtain ⟨km, rfl⟩ : ∃ j, k = j + 1 := ⟨k - 1, by simp only [cnt4, cond_true, cond_false] at hk; omega⟩
      refine hK.out _ _ (HSS.out _ _ _ hs2 hfw) ?_
      obtain ⟨rfl, rfl, rfl⟩ := hea
      refine tk 20 (HSS.out _ _ _ hs2 hfw) ?_ (hf := by cases b1 <;> cases b2 <;> cases b3 <;> kernel_rfl) (hr := by cases b1 <;> cases b2 <;> cases b3 <;> kernel_rfl)
      refine HREC.out km (by omega) _ _ _ ?_
      exact ⟨true, b1, b2, b3, true, false, false, false, _, x1, x2, x3, (.slice A' (n + 1) c'), y1, y2, y3, _, D', ⟨⟨77, 2, n + 1, X0 ++ [Value.bool i0, Value.int IntKind.i64 v0]⟩, A', c'⟩, z1, z2, z3, (by simp only [List.setIfInBounds_toArray, List.set_cons_zero, List.set_cons_succ]), rfl, hok, (by simp only [cnt4, cond_true, cond_false] at hk ⊢; omega), (fun _ => rfl), hs2, HD.out, hfw, ⟨(fun h => by cases h), (fun _ h => by cases h), fun _ => ⟨A', c', rfl, rfl⟩⟩, C1.out.fr hf2 hfar (fun _ h => h), C2.out.fr hf2 hfar (fun _ h => h), C3.out.fr hf2 hfar (fun _ h => h)⟩
    · intro e1 e2 e3
      obtain rfl := e1
      obtain rfl := e2
      obtain rfl := e3
      intro K hK
      replace hok := ok4_d1 hok
      obtain ⟨kb, rfl, hrk, hdk⟩ := C1.out.made rfl rfl
      have ez := C1.out.old rfl
      subst ez
      have hmem : (⟨⟨77, 2, n, X1⟩, A1, c1⟩ : Rw) ∈ z0 :: (⟨⟨77, 2, n, X1⟩, A1, c1⟩ : Rw) :: z2 :: z3 :: RT := List.mem_cons_of_mem _ (List.mem_cons_self ..)
      have how := HS.out.all _ hmem
      unfold Rw.own Rw.v at how
      simp only at how
      have hbw : base ≤ w'.heap.size := by have h1 := hb.out; have h2 := HF.out.size; omega
      refine wpOp_at rfl ?_
      refine step_appS cellTC w' rfl (.tmp 84) (.tmp 86) rfl base (.slice A1 n c1) n X1 rfl how ⟨kb, 0, none⟩ 1 [Value.bool i1, Value.int IntKind.i64 v1] rfl rfl (fun j u h => by rw [Mem.addr_add]; exact hrk.cell h) (two_one _ _) (n + 1) rfl (by unfold maxLen; omega) (by omega) hbw ?_
      intro A' c' w2 hown2 hle hf2 hat
      have hs2 := HS.out.turn (i := 1) (r := ⟨⟨77, 2, n, X1⟩, A1, c1⟩) (q := ⟨⟨77, 2, n + 1, X1 ++ [Value.bool i1, Value.int IntKind.i64 v1]⟩, A', c'⟩) rfl hf2 hown2 hat
      have hfar : ∀ j, D' j → ¬ ((Value.slice A1 n c1).ownBlock = some j) := fun j hd => (HS.out.far j hd).2 _ hmem
      have hfw := HF.out.trans hf2 (fun j hj h => ⟨(how.lt j h).1, fun hd => hfar j (HD.out j hd) h⟩)
      refine hK.out _ _ (HSS.out _ _ _ hs2 hfw) (HREC.out _ (Nat.le_refl _) _ _ _ ?_)
      exact ⟨b0, true, b2, b3, true, true, a2, a3, x0, _, x2, x3, y0, (.slice A' (n + 1) c'), y2, y3, yl, D', z0, ⟨⟨77, 2, n + 1, X1 ++ [Value.bool i1, Value.int IntKind.i64 v1]⟩, A', c'⟩, z2, z3, (by simp only [List.setIfInBounds_toArray, List.set_cons_zero, List.set_cons_succ]), rfl, hok, (by simp only [cnt4, cond_true, cond_false] at hk ⊢; omega), HYL.out, hs2, HD.out, hfw, C0.out.fr hf2 hfar (fun _ h => h), ⟨(fun h => by cases h), (fun _ h => by cases h), fun _ => ⟨A', c', rfl, rfl⟩⟩, C2.out.fr hf2 hfar (fun _ h => h), C3.out.fr hf2 hfar (fun _ h => h)⟩
    · intro e1 e2 e3
      obtain rfl := e1
      obtain rfl := e2
      obtain rfl := e3
      intro K hK
      replace hok := ok4_d2 hok
      obtain ⟨kb, rfl, hrk, hdk⟩ := C2.out.made rfl rfl
      have ez := C2.out.old rfl
      subst ez
      have hmem : (⟨⟨77, 2, n, X2⟩, A2, c2⟩ : Rw) ∈ z0 :: z1 :: (⟨⟨77, 2, n, X2⟩, A2, c2⟩ : Rw) :: z3 :: RT := List.mem_cons_of_mem _ (List.mem_cons_of_mem _ (List.mem_cons_self ..))
      have how := HS.out.all _ hmem
      unfold Rw.own Rw.v at how
      simp only at how
      have hbw : base ≤ w'.heap.size := by have h1 := hb.out; have h2 := HF.out.size; omega
      refine wpOp_at rfl ?_
      refine step_appS cellTC w' rfl (.tmp 89) (.tmp 91) rfl base (.slice A2 n c2) n X2 rfl how ⟨kb, 0, none⟩ 1 [Value.bool i2, Value.int IntKind.i64 v2] rfl rfl (fun j u h => by rw [Mem.addr_add]; exact hrk.cell h) (two_one _ _) (n + 1) rfl (by unfold maxLen; omega) (by omega) hbw ?_
      intro A' c' w2 hown2 hle hf2 hat
      have hs2 := HS.out.turn (i := 2) (r := ⟨⟨77, 2, n, X2⟩, A2, c2⟩) (q := ⟨⟨77, 2, n + 1, X2 ++ [Value.bool i2, Value.int IntKind.i64 v2]⟩, A', c'⟩) rfl hf2 hown2 hat
      have hfar : ∀ j, D' j → ¬ ((Value.slice A2 n c2).ownBlock = some j) := fun j hd => (HS.out.far j hd).2 _ hmem
      have hfw := HF.out.trans hf2 (fun j hj h => ⟨(how.lt j h).1, fun hd => hfar j (HD.out j hd) h⟩)
      refine hK.out _ _ (HSS.out _ _ _ hs2 hfw) (HREC.out _ (Nat.le_refl _) _ _ _ ?_)
      exact ⟨b0, b1, true, b3, a0, true, true, a3, x0, x1, _, x3, y0, y1, (.slice A' (n + 1) c'), y3, yl, D', z0, z1, ⟨⟨77, 2, n + 1, X2 ++ [Value.bool i2, Value.int IntKind.i64 v2]⟩, A', c'⟩, z3, (by simp only [List.setIfInBounds_toArray, List.set_cons_zero, List.set_cons_succ]), rfl, hok, (by simp only [cnt4, cond_true, cond_false] at hk ⊢; omega), HYL.out, hs2, HD.out, hfw, C0.out.fr hf2 hfar (fun _ h => h), C1.out.fr hf2 hfar (fun _ h => h), ⟨(fun h => by cases h), (fun _ h => by cases h), fun _ => ⟨A', c', rfl, rfl⟩⟩, C3.out.fr hf2 hfar (fun _ h => h)⟩
    · intro e1 e2 e3
      obtain rfl := e1
      obtain rfl := e2
      obtain rfl := e3
      intro K hK
      replace hok := ok4_d3 hok
      obtain ⟨kb, rfl, hrk, hdk⟩ := C3.out.made rfl rfl
      have ez := C3.out.old rfl
      subst ez
      have hmem : (⟨⟨77, 2, n, X3⟩, A3, c3⟩ : Rw) ∈ z0 :: z1 :: z2 :: (⟨⟨77, 2, n, X3⟩, A3, c3⟩ : Rw) :: RT := List.mem_cons_of_mem _ (List.mem_cons_of_mem _ (List.mem_cons_of_mem _ (List.mem_cons_self ..)))
      have how := HS.out.all _ hmem
      unfold Rw.own Rw.v at how
      simp only at how
      have hbw : base ≤ w'.heap.size := by have h1 := hb.out; have h2 := HF.out.size; omega
      refine wpOp_at rfl ?_
      refine step_appS cellTC w' rfl (.tmp 94) (.tmp 96) rfl base (.slice A3 n c3) n X3 rfl how ⟨kb, 0, none⟩ 1 [Value.bool i3, Value.int IntKind.i64 v3] rfl rfl (fun j u h => by rw [Mem.addr_add]; exact hrk.cell h) (two_one _ _) (n + 1) rfl (by unfold maxLen; omega) (by omega) hbw ?_
      intro A' c' w2 hown2 hle hf2 hat
      have hs2 := HS.out.turn (i := 3) (r := ⟨⟨77, 2, n, X3⟩, A3, c3⟩) (q := ⟨⟨77, 2, n + 1, X3 ++ [Value.bool i3, Value.int IntKind.i64 v3]⟩, A', c'⟩) rfl hf2 hown2 hat
      have hfar : ∀ j, D' j → ¬ ((Value.slice A3 n c3).ownBlock = some j) := fun j hd => (HS.out.far j hd).2 _ hmem
      have hfw := HF.out.trans hf2 (fun j hj h => ⟨(how.lt j h).1, fun hd => hfar j (HD.out j hd) h⟩)
      refine hK.out _ _ (HSS.out _ _ _ hs2 hfw) (HREC.out _ (Nat.le_refl _) _ _ _ ?_)
      exact ⟨b0, b1, b2, true, a0, a1, true, true, x0, x1, x2, _, y0, y1, y2, (.slice A' (n + 1) c'), yl, D', z0, z1, z2, ⟨⟨77, 2, n + 1, X3 ++ [Value.bool i3, Value.int IntKind.i64 v3]⟩, A', c'⟩, (by simp only [List.setIfInBounds_toArray, List.set_cons_zero, List.set_cons_succ]), rfl, hok, (by simp only [cnt4, cond_true, cond_false] at hk ⊢; omega), HYL.out, hs2, HD.out, hfw, C0.out.fr hf2 hfar (fun _ h => h), C1.out.fr hf2 hfar (fun _ h => h), C2.out.fr hf2 hfar (fun _ h => h), ⟨(fun h => by cases h), (fun _ h => by cases h), fun _ => ⟨A', c', rfl, rfl⟩⟩⟩
  · exact ⟨false, false, false, false, false, false, false, false, _, _, _, _, _, _, _, _, _, D, ⟨⟨77, 2, n, X0⟩, A0, c0⟩, ⟨⟨77, 2, n, X1⟩, A1, c1⟩, ⟨⟨77, 2, n, X2⟩, A2, c2⟩, ⟨⟨77, 2, n, X3⟩, A3, c3⟩, rfl, rfl, rfl, rfl, (fun h => by cases h), hs1, fun _ h => h, hdr, Chn.zero, Chn.zero, Chn.zero, Chn.zero⟩
end Go.Proofs.YtedmnkcoflbciaaGreat
