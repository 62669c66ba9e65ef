/-
  Layer 19, the reference's Put: texts, truths, values at once (written by gen_rgn.py).
-/
import Derived.Test.YtedmnkcoflbciaaGreatZm40
import Derived.Test.YtedmnkcoflbciaaGreatZm29
import Derived.Test.YtedmnkcoflbciaaGreatZm20
import Derived.Test.YtedmnkcoflbciaaGreatZm28
namespace Go.Proofs.YtedmnkcoflbciaaGreat
open Go.RowKit Mem Go.Lib LebM UtfM VaM OpM AcM RleM CsM
attribute [local go_sem ↓] Go.wp_at_zero Go.wp_at_succ
set_option linter.unusedVariables false

theorem boolTS9 : ElemTyS Tryz.prog 69 4 (.bool false) 1 1 := ⟨Tryz.underlying69, by kernel_rfl, rfl, by decide⟩
set_option maxRecDepth 1000000 in
noncomputable def rput29Code : Code := ((Tryz.f12.body.bind (regionAt 29)).getD .skip)
set_option maxRecDepth 1000000 in
set_option maxHeartbeats 12800000 in
theorem rput29_any (Q0 : Exit → Act → World → Prop) (s0 s1 s2 s3 s4 s5 s9 s11 s12 s13 s14 s15 s16 s18 s19 s20 s21 s22 s23 s24 s25 s26 s27 s28 s29 s30 s31 s32 s33 s34 s35 s36 s37 s38 s39 s40 s41 s42 s43 s44 s45 s46 s47 s48 s49 s50 s51 s52 s53 s54 s55 s56 s57 s58 s59 s60 s61 s62 s63 s64 s65 s66 s67 s68 s69 s70 s71 s72 s73 s74 s75 s76 s77 s78 s79 s80 s81 s82 s83 s84 s85 s86 s87 s88 s89 s90 s91 s92 s93 s94 s95 s96 s97 s98 s99 s100 s101 s102 s103 s104 s105 s106 s107 s108 s109 s110 s111 s112 s113 s114 s115 s116 s117 s118 s119 s120 s121 s122 s123 s124 s125 s126 s127 s128 s129 s130 s131 s132 s133 s134 s135 s136 s137 s138 s139 s140 s141 s142 s143 s144 s145 s146 s147 s148 s149 s150 s151 s152 s153 s154 s155 s156 s157 s158 s159 s160 s161 s162 s163 s164 s165 s166 s167 s168 s169 s170 s171 s172 s173 s174 s175 s176 s177 s178 s179 s180 s181 s182 s183 s184 s185 s186 s187 s188 s189 s190 s191 s192 s193 s194 s195 s196 s197 s198 s199 s200 s201 s202 s203 s204 s205 s206 s207 s208 s209 s210 s211 s212 s213 s214 s215 s216 s217 s218 s219 s220 s221 s222 s223 s224 s225 s226 s227 s228 s229 s230 s231 s232 s233 s234 s235 s236 s237 s238 s239 s240 s241 s242 s243 s244 s245 : Value) (wc : World) (base g n : Nat) (D : Nat → Prop) (RT : List Rw) (q qw : Nat) (V : List Value) (iw iI : Bool) (sw ss : ByteArray) (kk uu nn : Int) (p0 p1 p2 p3 p4 p5 p6 p7 p8 p9 p10 p11 : Rw)
    (X0 X1 X2 : List Value) (A0 A1 A2 : Option Addr) (c0 c1 c2 : Nat)
    (hS0 : Hid (ShL 75 wc base g D (V) (p0 :: p1 :: p2 :: p3 :: p4 :: p5 :: p6 :: p7 :: p8 :: p9 :: p10 :: p11 :: ⟨⟨80, 2, n, X0⟩, A0, c0⟩ :: ⟨⟨4, 1, n, X1⟩, A1, c1⟩ :: ⟨⟨52, 4, n, X2⟩, A2, c2⟩ :: RT))) (hn : n ≤ 1000000) (hb : Hid (base ≤ wc.heap.size))
    (HC : Hid (∀ w', Fr (fun k => base ≤ k ∧ ¬ D k) wc w' → w'.cell? ⟨qw, 0, none⟩ = some (.bool iw) ∧ w'.cell? ⟨qw, 1, none⟩ = some (.string sw) ∧ w'.cell? ⟨q, 6, none⟩ = some (.bool iI) ∧ w'.cell? ⟨q, 8, none⟩ = some (.int .i64 kk) ∧ w'.cell? ⟨q, 9, none⟩ = some (.int .u64 uu) ∧ w'.cell? ⟨q, 10, none⟩ = some (.int .i64 nn) ∧ w'.cell? ⟨q, 11, none⟩ = some (.string ss)))
    (hexit : ∀ (A0' A1' A2' : Option Addr) (c0' c1' c2' : Nat) (w'' : World) (r157 r158 r159 r160 r161 r162 r163 r164 r165 r166 r167 r168 r169 r170 : Value), Hid (ShL 75 w'' base g D (V) (p0 :: p1 :: p2 :: p3 :: p4 :: p5 :: p6 :: p7 :: p8 :: p9 :: p10 :: p11 :: ⟨⟨80, 2, n + 1, X0 ++ [Value.bool iw, Value.string sw]⟩, A0', c0'⟩ :: ⟨⟨4, 1, n + 1, X1 ++ [Value.bool iI]⟩, A1', c1'⟩ :: ⟨⟨52, 4, n + 1, X2 ++ [Value.int IntKind.i64 kk, Value.int IntKind.u64 uu, Value.int IntKind.i64 nn, Value.string ss]⟩, A2', c2'⟩ :: RT)) → Hid (Fr (fun k => base ≤ k ∧ ¬ D k) wc w'') → Q0 .normal ⟨List.toArray (s0 :: s1 :: s2 :: s3 :: s4 :: s5 :: .slice A0' (n + 1) c0' :: .slice A1' (n + 1) c1' :: .slice A2' (n + 1) c2' :: s9 :: .pointer (some ⟨q, 0, none⟩) :: s11 :: s12 :: s13 :: s14 :: s15 :: s16 :: .pointer (some ⟨qw, 0, none⟩) :: s18 :: s19 :: s20 :: s21 :: s22 :: s23 :: s24 :: s25 :: s26 :: s27 :: s28 :: s29 :: s30 :: s31 :: s32 :: s33 :: s34 :: s35 :: s36 :: s37 :: s38 :: s39 :: s40 :: s41 :: s42 :: s43 :: s44 :: s45 :: s46 :: s47 :: s48 :: s49 :: s50 :: s51 :: s52 :: s53 :: s54 :: s55 :: s56 :: s57 :: s58 :: s59 :: s60 :: s61 :: s62 :: s63 :: s64 :: s65 :: s66 :: s67 :: s68 :: s69 :: s70 :: s71 :: s72 :: s73 :: s74 :: s75 :: s76 :: s77 :: s78 :: s79 :: s80 :: s81 :: s82 :: s83 :: s84 :: s85 :: s86 :: s87 :: s88 :: s89 :: s90 :: s91 :: s92 :: s93 :: s94 :: s95 :: s96 :: s97 :: s98 :: s99 :: s100 :: s101 :: s102 :: s103 :: s104 :: s105 :: s106 :: s107 :: s108 :: s109 :: s110 :: s111 :: s112 :: s113 :: s114 :: s115 :: s116 :: s117 :: s118 :: s119 :: s120 :: s121 :: s122 :: s123 :: s124 :: s125 :: s126 :: s127 :: s128 :: s129 :: s130 :: s131 :: s132 :: s133 :: s134 :: s135 :: s136 :: s137 :: s138 :: s139 :: s140 :: s141 :: s142 :: s143 :: s144 :: s145 :: s146 :: s147 :: s148 :: s149 :: s150 :: s151 :: s152 :: s153 :: s154 :: s155 :: s156 :: r157 :: r158 :: r159 :: r160 :: r161 :: r162 :: r163 :: r164 :: r165 :: r166 :: r167 :: r168 :: r169 :: r170 :: s171 :: s172 :: s173 :: s174 :: s175 :: s176 :: s177 :: s178 :: s179 :: s180 :: s181 :: s182 :: s183 :: s184 :: s185 :: s186 :: s187 :: s188 :: s189 :: s190 :: s191 :: s192 :: s193 :: s194 :: s195 :: s196 :: s197 :: s198 :: s199 :: s200 :: s201 :: s202 :: s203 :: s204 :: s205 :: s206 :: s207 :: s208 :: s209 :: s210 :: s211 :: s212 :: s213 :: s214 :: s215 :: s216 :: s217 :: s218 :: s219 :: s220 :: s221 :: s222 :: s223 :: s224 :: s225 :: s226 :: s227 :: s228 :: s229 :: s230 :: s231 :: s232 :: s233 :: s234 :: s235 :: s236 :: s237 :: s238 :: s239 :: s240 :: s241 :: s242 :: s243 :: s244 :: s245 :: []), []⟩ w'') :
    Code.wp Tryz.prog rput29Code Q0 ⟨List.toArray (s0 :: s1 :: s2 :: s3 :: s4 :: s5 :: .slice A0 n c0 :: .slice A1 n c1 :: .slice A2 n c2 :: s9 :: .pointer (some ⟨q, 0, none⟩) :: s11 :: s12 :: s13 :: s14 :: s15 :: s16 :: .pointer (some ⟨qw, 0, none⟩) :: s18 :: s19 :: s20 :: s21 :: s22 :: s23 :: s24 :: s25 :: s26 :: s27 :: s28 :: s29 :: s30 :: s31 :: s32 :: s33 :: s34 :: s35 :: s36 :: s37 :: s38 :: s39 :: s40 :: s41 :: s42 :: s43 :: s44 :: s45 :: s46 :: s47 :: s48 :: s49 :: s50 :: s51 :: s52 :: s53 :: s54 :: s55 :: s56 :: s57 :: s58 :: s59 :: s60 :: s61 :: s62 :: s63 :: s64 :: s65 :: s66 :: s67 :: s68 :: s69 :: s70 :: s71 :: s72 :: s73 :: s74 :: s75 :: s76 :: s77 :: s78 :: s79 :: s80 :: s81 :: s82 :: s83 :: s84 :: s85 :: s86 :: s87 :: s88 :: s89 :: s90 :: s91 :: s92 :: s93 :: s94 :: s95 :: s96 :: s97 :: s98 :: s99 :: s100 :: s101 :: s102 :: s103 :: s104 :: s105 :: s106 :: s107 :: s108 :: s109 :: s110 :: s111 :: s112 :: s113 :: s114 :: s115 :: s116 :: s117 :: s118 :: s119 :: s120 :: s121 :: s122 :: s123 :: s124 :: s125 :: s126 :: s127 :: s128 :: s129 :: s130 :: s131 :: s132 :: s133 :: s134 :: s135 :: s136 :: s137 :: s138 :: s139 :: s140 :: s141 :: s142 :: s143 :: s144 :: s145 :: s146 :: s147 :: s148 :: s149 :: s150 :: s151 :: s152 :: s153 :: s154 :: s155 :: s156 :: s157 :: s158 :: s159 :: s160 :: s161 :: s162 :: s163 :: s164 :: s165 :: s166 :: s167 :: s168 :: s169 :: s170 :: s171 :: s172 :: s173 :: s174 :: s175 :: s176 :: s177 :: s178 :: s179 :: s180 :: s181 :: s182 :: s183 :: s184 :: s185 :: s186 :: s187 :: s188 :: s189 :: s190 :: s191 :: s192 :: s193 :: s194 :: s195 :: s196 :: s197 :: s198 :: s199 :: s200 :: s201 :: s202 :: s203 :: s204 :: s205 :: s206 :: s207 :: s208 :: s209 :: s210 :: s211 :: s212 :: s213 :: s214 :: s215 :: s216 :: s217 :: s218 :: s219 :: s220 :: s221 :: s222 :: s223 :: s224 :: s225 :: s226 :: s227 :: s228 :: s229 :: s230 :: s231 :: s232 :: s233 :: s234 :: s235 :: s236 :: s237 :: s238 :: s239 :: s240 :: s241 :: s242 :: s243 :: s244 :: s245 :: []), []⟩ wc := by
  conv => arg 2; whnf
  have hSS : ∀ (w2 : World) (D2 : Nat → Prop) (R2 : List Rw), ShL 75 w2 base g D2 (V) R2 → Fr (fun k => base ≤ k ∧ ¬ D k) wc w2 → w2.cell? ⟨qw, 0, none⟩ = some (.bool iw) ∧ w2.cell? ⟨qw, 1, none⟩ = some (.string sw) ∧ w2.cell? ⟨q, 6, none⟩ = some (.bool iI) ∧ w2.cell? ⟨q, 8, none⟩ = some (.int .i64 kk) ∧ w2.cell? ⟨q, 9, none⟩ = some (.int .u64 uu) ∧ w2.cell? ⟨q, 10, none⟩ = some (.int .i64 nn) ∧ w2.cell? ⟨q, 11, none⟩ = some (.string ss) := fun w2 D2 R2 hs hf => HC.out w2 hf
  have HSS := Lib.hid hSS
  have hdr : Fr (fun k => base ≤ k ∧ ¬ D k) wc wc.drew := (Fr.refl _ _).drew
  have hs1 := hS0.out.fr0 (Fr.refl (fun _ => False) wc).drew
  refine wp_region_noPanic ?_
  refine wp_region_head 14 (fun w' => w'.cell? ⟨qw, 0, none⟩ = some (.bool iw) ∧ w'.cell? ⟨qw, 1, none⟩ = some (.string sw) ∧ w'.cell? ⟨q, 6, none⟩ = some (.bool iI) ∧ w'.cell? ⟨q, 8, none⟩ = some (.int .i64 kk) ∧ w'.cell? ⟨q, 9, none⟩ = some (.int .u64 uu) ∧ w'.cell? ⟨q, 10, none⟩ = some (.int .i64 nn) ∧ w'.cell? ⟨q, 11, none⟩ = some (.string ss)) (hSS _ _ _ hs1 hdr) (fun hH => ?_)
  refine tk 0 hH ?_
  refine tk 1 hH ?_
  refine tk 4 hH ?_
  refine tk 5 hH ?_
  refine tk 6 hH ?_
  refine tk 9 hH ?_
  refine tk 10 hH ?_
  refine tk 11 hH ?_
  clear hH hSS
  refine wpAnyH_inv (f0 := 0) (fun k l a w' => ∃ (b0 b1 b2 a0 a1 a2 : Bool) (x0 x1 x2 y0 y1 y2 : Value) (D' : Nat → Prop) (z0 z1 z2 : Rw), l = List.toArray [true, true, b0, a0, true, true, true, b1, a1, true, true, true, b2, a2] ∧ a = ⟨List.toArray (s0 :: s1 :: s2 :: s3 :: s4 :: s5 :: .slice A0 n c0 :: .slice A1 n c1 :: .slice A2 n c2 :: s9 :: .pointer (some ⟨q, 0, none⟩) :: s11 :: s12 :: s13 :: s14 :: s15 :: s16 :: .pointer (some ⟨qw, 0, none⟩) :: s18 :: s19 :: s20 :: s21 :: s22 :: s23 :: s24 :: s25 :: s26 :: s27 :: s28 :: s29 :: s30 :: s31 :: s32 :: s33 :: s34 :: s35 :: s36 :: s37 :: s38 :: s39 :: s40 :: s41 :: s42 :: s43 :: s44 :: s45 :: s46 :: s47 :: s48 :: s49 :: s50 :: s51 :: s52 :: s53 :: s54 :: s55 :: s56 :: s57 :: s58 :: s59 :: s60 :: s61 :: s62 :: s63 :: s64 :: s65 :: s66 :: s67 :: s68 :: s69 :: s70 :: s71 :: s72 :: s73 :: s74 :: s75 :: s76 :: s77 :: s78 :: s79 :: s80 :: s81 :: s82 :: s83 :: s84 :: s85 :: s86 :: s87 :: s88 :: s89 :: s90 :: s91 :: s92 :: s93 :: s94 :: s95 :: s96 :: s97 :: s98 :: s99 :: s100 :: s101 :: s102 :: s103 :: s104 :: s105 :: s106 :: s107 :: s108 :: s109 :: s110 :: s111 :: s112 :: s113 :: s114 :: s115 :: s116 :: s117 :: s118 :: s119 :: s120 :: s121 :: s122 :: s123 :: s124 :: s125 :: s126 :: s127 :: s128 :: s129 :: s130 :: s131 :: s132 :: s133 :: s134 :: s135 :: s136 :: s137 :: s138 :: s139 :: s140 :: s141 :: s142 :: s143 :: s144 :: s145 :: s146 :: s147 :: s148 :: s149 :: s150 :: s151 :: s152 :: s153 :: s154 :: s155 :: s156 :: .slice A0 n c0 :: .agg #[.bool iw, .string sw] :: x0 :: y0 :: .slice A1 n c1 :: .pointer (some ⟨q, 6, none⟩) :: .bool iI :: x1 :: y1 :: .slice A2 n c2 :: .pointer (some ⟨q, 8, none⟩) :: .agg #[.int .i64 kk, .int .u64 uu, .int .i64 nn, .string ss] :: x2 :: y2 :: s171 :: s172 :: s173 :: s174 :: s175 :: s176 :: s177 :: s178 :: s179 :: s180 :: s181 :: s182 :: s183 :: s184 :: s185 :: s186 :: s187 :: s188 :: s189 :: s190 :: s191 :: s192 :: s193 :: s194 :: s195 :: s196 :: s197 :: s198 :: s199 :: s200 :: s201 :: s202 :: s203 :: s204 :: s205 :: s206 :: s207 :: s208 :: s209 :: s210 :: s211 :: s212 :: s213 :: s214 :: s215 :: s216 :: s217 :: s218 :: s219 :: s220 :: s221 :: s222 :: s223 :: s224 :: s225 :: s226 :: s227 :: s228 :: s229 :: s230 :: s231 :: s232 :: s233 :: s234 :: s235 :: s236 :: s237 :: s238 :: s239 :: s240 :: s241 :: s242 :: s243 :: s244 :: s245 :: []), []⟩ ∧ ok3 b0 b1 b2 a0 a1 a2 = true ∧ k = cnt3 b0 b1 b2 a0 a1 a2 ∧ Hid (ShL 75 w' base g D' (V) (p0 :: p1 :: p2 :: p3 :: p4 :: p5 :: p6 :: p7 :: p8 :: p9 :: p10 :: p11 :: z0 :: z1 :: z2 :: RT)) ∧ Hid (∀ k, D k → D' k) ∧ Hid (Fr (fun k => base ≤ k ∧ ¬ D k) wc w') ∧ Hid (Chn w' D' ⟨⟨80, 2, n, X0⟩, A0, c0⟩ [Value.bool iw, Value.string sw] b0 a0 x0 y0 z0) ∧ Hid (Chn w' D' ⟨⟨4, 1, n, X1⟩, A1, c1⟩ [Value.bool iI] b1 a1 x1 y1 z1) ∧ Hid (Chn w' D' ⟨⟨52, 4, n, X2⟩, A2, c2⟩ [Value.int IntKind.i64 kk, Value.int IntKind.u64 uu, Value.int IntKind.i64 nn, Value.string ss] b2 a2 x2 y2 z2)) ?_ ?_ 6 _ _ _ ?_
  · intro l a w' hI
    obtain ⟨b0, b1, b2, a0, a1, a2, x0, x1, x2, y0, y1, y2, D', z0, z1, z2, rfl, rfl, hok, hk, HS, HD, HF, C0, C1, C2⟩ := hI
    obtain ⟨rfl, rfl, rfl, rfl, rfl, rfl⟩ := cnt3_zero hk
    obtain ⟨A0', c0', rfl, rfl⟩ := C0.out.done rfl
    obtain ⟨A1', c1', rfl, rfl⟩ := C1.out.done rfl
    obtain ⟨A2', c2', rfl, rfl⟩ := C2.out.done rfl
    have HS2 := Lib.hid (HS.out.less HD.out)
    clear hok hk HSS HC HS HD C0 C1 C2
    refine hdone ?_
    have HFE := Lib.hid HF.out
    clear HF
    go_wp2_with fail
    refine NoPanic.normal ?_
    exact hexit _ _ _ _ _ _ _ _ _ _ _ _ _ _ _ _ _ _ _ _ _ HS2 HFE
  · intro k l a w' hI hrec
    have HREC := Lib.hid hrec
    clear hrec
    obtain ⟨b0, b1, b2, a0, a1, a2, x0, x1, x2, y0, y1, y2, D', z0, z1, z2, rfl, rfl, hok, hk, HS, HD, HF, C0, C1, C2⟩ := hI
    have hfull := cnt3_full hk
    refine rdy3 (fun b0 b1 b2 a0 a1 a2 => List.toArray [true, true, b0, a0, true, true, true, b1, a1, true, true, true, b2, a2]) 2 7 12 3 8 13 (by kernel_rfl) hok hfull ?_ ?_ ?_ ?_ ?_ ?_
    · intro e1
      obtain rfl := e1
      intro K hK
      have e2 : a0 = false := ok3_b0 hok
      obtain rfl := e2
      replace hok := ok3_c0 hok
      refine wpOp_at rfl ?_
      go_simp
      obtain ⟨kb, hkb⟩ : ∃ k, w'.heap.size = k := ⟨_, rfl⟩
      obtain ⟨w2, hw2⟩ : ∃ v, w'.alloc (.cells #[Value.bool iw, Value.string sw] 80) = v := ⟨_, rfl⟩
      rw [hkb, hw2]
      have hf2 : Fr (fun _ => False) w' w2 := by rw [← hw2]; exact (Fr.refl _ _).alloc _
      have hr2 : Row w2 kb 80 [Value.bool iw, Value.string sw] := by rw [← hw2, ← hkb]; exact Row.new w' _ _
      have hs2 := HS.out.more (D' := fun j => D' j ∨ j = kb) hf2 (fun j h => by
        rcases h with h | rfl
        · exact ⟨.inl h, Nat.lt_of_lt_of_le (HS.out.lt j h) hf2.size⟩
        · exact ⟨.inr (by omega), hr2.lt⟩)
      have hfw := HF.out.trans hf2 (fun _ _ h => h.elim)
      refine hK.out _ _ (HSS.out _ _ _ hs2 hfw) (HREC.out _ (Nat.le_refl _) _ _ _ ?_)
      exact ⟨true, b1, b2, false, a1, a2, .slice (some ⟨kb, 0, none⟩) 1 1, x1, x2, y0, y1, y2, _, z0, z1, z2, (by simp only [List.setIfInBounds_toArray, List.set_cons_zero, List.set_cons_succ]), rfl, hok, (by simp only [cnt3, cond_true, cond_false] at hk ⊢; omega), hs2, fun j h => .inl (HD.out j h), hfw, ⟨C0.out.old, fun _ _ => ⟨kb, rfl, hr2, .inr rfl⟩, (fun h => by cases h)⟩, C1.out.fr hf2 (fun _ _ h => h) (fun _ h => .inl h), C2.out.fr hf2 (fun _ _ h => h) (fun _ h => .inl h)⟩
    · intro e1
      obtain rfl := e1
      intro K hK
      have e2 : a1 = false := ok3_b1 hok
      obtain rfl := e2
      replace hok := ok3_c1 hok
      refine wpOp_at rfl ?_
      go_simp
      obtain ⟨kb, hkb⟩ : ∃ k, w'.heap.size = k := ⟨_, rfl⟩
      obtain ⟨w2, hw2⟩ : ∃ v, w'.alloc (.cells #[Value.bool iI] 4) = v := ⟨_, rfl⟩
      rw [hkb, hw2]
      have hf2 : Fr (fun _ => False) w' w2 := by rw [← hw2]; exact (Fr.refl _ _).alloc _
      have hr2 : Row w2 kb 4 [Value.bool iI] := by rw [← hw2, ← hkb]; exact Row.new w' _ _
      have hs2 := HS.out.more (D' := fun j => D' j ∨ j = kb) hf2 (fun j h => by
        rcases h with h | rfl
        · exact ⟨.inl h, Nat.lt_of_lt_of_le (HS.out.lt j h) hf2.size⟩
        · exact ⟨.inr (by omega), hr2.lt⟩)
      have hfw := HF.out.trans hf2 (fun _ _ h => h.elim)
      refine hK.out _ _ (HSS.out _ _ _ hs2 hfw) (HREC.out _ (Nat.le_refl _) _ _ _ ?_)
      exact ⟨b0, true, b2, a0, false, a2, x0, .slice (some ⟨kb, 0, none⟩) 1 1, x2, y0, y1, y2, _, z0, z1, z2, (by simp only [List.setIfInBounds_toArray, List.set_cons_zero, List.set_cons_succ]), rfl, hok, (by simp only [cnt3, cond_true, cond_false] at hk ⊢; omega), hs2, fun j h => .inl (HD.out j h), hfw, C0.out.fr hf2 (fun _ _ h => h) (fun _ h => .inl h), ⟨C1.out.old, fun _ _ => ⟨kb, rfl, hr2, .inr rfl⟩, (fun h => by cases h)⟩, C2.out.fr hf2 (fun _ _ h => h) (fun _ h => .inl h)⟩
    · intro e1
      obtain rfl := e1
      intro K hK
      have e2 : a2 = false := ok3_b2 hok
      obtain rfl := e2
      replace hok := ok3_c2 hok
      refine wpOp_at rfl ?_
      go_simp
      obtain ⟨kb, hkb⟩ : ∃ k, w'.heap.size = k := ⟨_, rfl⟩
      obtain ⟨w2, hw2⟩ : ∃ v, w'.alloc (.cells #[Value.int IntKind.i64 kk, Value.int IntKind.u64 uu, Value.int IntKind.i64 nn, Value.string ss] 52) = v := ⟨_, rfl⟩
      rw [hkb, hw2]
      have hf2 : Fr (fun _ => False) w' w2 := by rw [← hw2]; exact (Fr.refl _ _).alloc _
      have hr2 : Row w2 kb 52 [Value.int IntKind.i64 kk, Value.int IntKind.u64 uu, Value.int IntKind.i64 nn, Value.string ss] := by rw [← hw2, ← hkb]; exact Row.new w' _ _
      have hs2 := HS.out.more (D' := fun j => D' j ∨ j = kb) hf2 (fun j h => by
        rcases h with h | rfl
        · exact ⟨.inl h, Nat.lt_of_lt_of_le (HS.out.lt j h) hf2.size⟩
        · exact ⟨.inr (by omega), hr2.lt⟩)
      have hfw := HF.out.trans hf2 (fun _ _ h => h.elim)
      refine hK.out _ _ (HSS.out _ _ _ hs2 hfw) (HREC.out _ (Nat.le_refl _) _ _ _ ?_)
      exact ⟨b0, b1, true, a0, a1, false, x0, x1, .slice (some ⟨kb, 0, none⟩) 1 1, y0, y1, y2, _, z0, z1, z2, (by simp only [List.setIfInBounds_toArray, List.set_cons_zero, List.set_cons_succ]), rfl, hok, (by simp only [cnt3, cond_true, cond_false] at hk ⊢; omega), hs2, fun j h => .inl (HD.out j h), hfw, C0.out.fr hf2 (fun _ _ h => h) (fun _ h => .inl h), C1.out.fr hf2 (fun _ _ h => h) (fun _ h => .inl h), ⟨C2.out.old, fun _ _ => ⟨kb, rfl, hr2, .inr rfl⟩, (fun h => by cases h)⟩⟩
    · intro e1 e2
      obtain rfl := e1
      obtain rfl := e2
      intro K hK
      replace hok := ok3_d0 hok
      obtain ⟨kb, rfl, hrk, hdk⟩ := C0.out.made rfl rfl
      have ez := C0.out.old rfl
      subst ez
      have hmem : (⟨⟨80, 2, n, X0⟩, A0, c0⟩ : Rw) ∈ p0 :: p1 :: p2 :: p3 :: p4 :: p5 :: p6 :: p7 :: p8 :: p9 :: p10 :: p11 :: (⟨⟨80, 2, n, X0⟩, A0, c0⟩ : Rw) :: z1 :: z2 :: RT := (by simp)
      have how := HS.out.all _ hmem
      unfold Rw.own Rw.v at how
      simp only at how
      have hbw : base ≤ w'.heap.size := by have h1 := hb.out; have h2 := HF.out.size; omega
      refine wpOp_at rfl ?_
      refine step_appS cellTW w' rfl (.tmp 157) (.tmp 159) rfl base (.slice A0 n c0) n X0 rfl how ⟨kb, 0, none⟩ 1 [Value.bool iw, Value.string sw] rfl rfl (fun j u h => by rw [Mem.addr_add]; exact hrk.cell h) (by intro u hu; simp at hu; rcases hu with rfl | rfl <;> rfl) (n + 1) rfl (by unfold maxLen; omega) (by omega) hbw ?_
      intro A' c' w2 hown2 hle hf2 hat
      have hs2 := HS.out.turn (i := 12) (r := ⟨⟨80, 2, n, X0⟩, A0, c0⟩) (q := ⟨⟨80, 2, n + 1, X0 ++ [Value.bool iw, Value.string sw]⟩, A', c'⟩) rfl hf2 hown2 hat
      have hfar : ∀ j, D' j → ¬ ((Value.slice A0 n c0).ownBlock = some j) := fun j hd => (HS.out.far j hd).2 _ hmem
      have hfw := HF.out.trans hf2 (fun j hj h => ⟨(how.lt j h).1, fun hd => hfar j (HD.out j hd) h⟩)
      refine hK.out _ _ (HSS.out _ _ _ hs2 hfw) (HREC.out _ (Nat.le_refl _) _ _ _ ?_)
      exact ⟨true, b1, b2, true, a1, a2, _, x1, x2, (.slice A' (n + 1) c'), y1, y2, D', ⟨⟨80, 2, n + 1, X0 ++ [Value.bool iw, Value.string sw]⟩, A', c'⟩, z1, z2, (by simp only [List.setIfInBounds_toArray, List.set_cons_zero, List.set_cons_succ]), rfl, hok, (by simp only [cnt3, cond_true, cond_false] at hk ⊢; omega), hs2, HD.out, hfw, ⟨(fun h => by cases h), (fun _ h => by cases h), fun _ => ⟨A', c', rfl, rfl⟩⟩, C1.out.fr hf2 hfar (fun _ h => h), C2.out.fr hf2 hfar (fun _ h => h)⟩
    · intro e1 e2 e3
      obtain rfl := e1
      obtain rfl := e2
      obtain rfl := e3
      intro K hK
      replace hok := ok3_d1 hok
      obtain ⟨kb, rfl, hrk, hdk⟩ := C1.out.made rfl rfl
      have ez := C1.out.old rfl
      subst ez
      have hmem : (⟨⟨4, 1, n, X1⟩, A1, c1⟩ : Rw) ∈ p0 :: p1 :: p2 :: p3 :: p4 :: p5 :: p6 :: p7 :: p8 :: p9 :: p10 :: p11 :: z0 :: (⟨⟨4, 1, n, X1⟩, A1, c1⟩ : Rw) :: z2 :: RT := (by simp)
      have how := HS.out.all _ hmem
      unfold Rw.own Rw.v at how
      simp only at how
      have hbw : base ≤ w'.heap.size := by have h1 := hb.out; have h2 := HF.out.size; omega
      refine wpOp_at rfl ?_
      refine step_appS boolTS9 w' rfl (.tmp 161) (.tmp 164) rfl base (.slice A1 n c1) n X1 rfl how ⟨kb, 0, none⟩ 1 [Value.bool iI] rfl rfl (fun j u h => by rw [Mem.addr_add]; exact hrk.cell h) (by intro u hu; simp at hu; rcases hu with rfl <;> rfl) (n + 1) rfl (by unfold maxLen; omega) (by omega) hbw ?_
      intro A' c' w2 hown2 hle hf2 hat
      have hs2 := HS.out.turn (i := 13) (r := ⟨⟨4, 1, n, X1⟩, A1, c1⟩) (q := ⟨⟨4, 1, n + 1, X1 ++ [Value.bool iI]⟩, A', c'⟩) rfl hf2 hown2 hat
      have hfar : ∀ j, D' j → ¬ ((Value.slice A1 n c1).ownBlock = some j) := fun j hd => (HS.out.far j hd).2 _ hmem
      have hfw := HF.out.trans hf2 (fun j hj h => ⟨(how.lt j h).1, fun hd => hfar j (HD.out j hd) h⟩)
      refine hK.out _ _ (HSS.out _ _ _ hs2 hfw) (HREC.out _ (Nat.le_refl _) _ _ _ ?_)
      exact ⟨b0, true, b2, true, true, a2, x0, _, x2, y0, (.slice A' (n + 1) c'), y2, D', z0, ⟨⟨4, 1, n + 1, X1 ++ [Value.bool iI]⟩, A', c'⟩, z2, (by simp only [List.setIfInBounds_toArray, List.set_cons_zero, List.set_cons_succ]), rfl, hok, (by simp only [cnt3, cond_true, cond_false] at hk ⊢; omega), hs2, HD.out, hfw, C0.out.fr hf2 hfar (fun _ h => h), ⟨(fun h => by cases h), (fun _ h => by cases h), fun _ => ⟨A', c', rfl, rfl⟩⟩, C2.out.fr hf2 hfar (fun _ h => h)⟩
    · intro e1 e2 e3
      obtain rfl := e1
      obtain rfl := e2
      obtain rfl := e3
      intro K hK
      replace hok := ok3_d2 hok
      obtain ⟨kb, rfl, hrk, hdk⟩ := C2.out.made rfl rfl
      have ez := C2.out.old rfl
      subst ez
      have hmem : (⟨⟨52, 4, n, X2⟩, A2, c2⟩ : Rw) ∈ p0 :: p1 :: p2 :: p3 :: p4 :: p5 :: p6 :: p7 :: p8 :: p9 :: p10 :: p11 :: z0 :: z1 :: (⟨⟨52, 4, n, X2⟩, A2, c2⟩ : Rw) :: RT := (by simp)
      have how := HS.out.all _ hmem
      unfold Rw.own Rw.v at how
      simp only at how
      have hbw : base ≤ w'.heap.size := by have h1 := hb.out; have h2 := HF.out.size; omega
      refine wpOp_at rfl ?_
      refine step_appS valTC w' rfl (.tmp 166) (.tmp 169) rfl base (.slice A2 n c2) n X2 rfl how ⟨kb, 0, none⟩ 1 [Value.int IntKind.i64 kk, Value.int IntKind.u64 uu, Value.int IntKind.i64 nn, Value.string ss] rfl rfl (fun j u h => by rw [Mem.addr_add]; exact hrk.cell h) (by intro u hu; simp at hu; rcases hu with rfl | rfl | rfl | rfl <;> rfl) (n + 1) rfl (by unfold maxLen; omega) (by omega) hbw ?_
      intro A' c' w2 hown2 hle hf2 hat
      have hs2 := HS.out.turn (i := 14) (r := ⟨⟨52, 4, n, X2⟩, A2, c2⟩) (q := ⟨⟨52, 4, n + 1, X2 ++ [Value.int IntKind.i64 kk, Value.int IntKind.u64 uu, Value.int IntKind.i64 nn, Value.string ss]⟩, A', c'⟩) rfl hf2 hown2 hat
      have hfar : ∀ j, D' j → ¬ ((Value.slice A2 n c2).ownBlock = some j) := fun j hd => (HS.out.far j hd).2 _ hmem
      have hfw := HF.out.trans hf2 (fun j hj h => ⟨(how.lt j h).1, fun hd => hfar j (HD.out j hd) h⟩)
      refine hK.out _ _ (HSS.out _ _ _ hs2 hfw) (HREC.out _ (Nat.le_refl _) _ _ _ ?_)
      exact ⟨b0, b1, true, a0, true, true, x0, x1, _, y0, y1, (.slice A' (n + 1) c'), D', z0, z1, ⟨⟨52, 4, n + 1, X2 ++ [Value.int IntKind.i64 kk, Value.int IntKind.u64 uu, Value.int IntKind.i64 nn, Value.string ss]⟩, A', c'⟩, (by simp only [List.setIfInBounds_toArray, List.set_cons_zero, List.set_cons_succ]), rfl, hok, (by simp only [cnt3, cond_true, cond_false] at hk ⊢; omega), hs2, HD.out, hfw, C0.out.fr hf2 hfar (fun _ h => h), C1.out.fr hf2 hfar (fun _ h => h), ⟨(fun h => by cases h), (fun _ h => by cases h), fun _ => ⟨A', c', rfl, rfl⟩⟩⟩
  · exact ⟨false, false, false, false, false, false, _, _, _, _, _, _, D, ⟨⟨80, 2, n, X0⟩, A0, c0⟩, ⟨⟨4, 1, n, X1⟩, A1, c1⟩, ⟨⟨52, 4, n, X2⟩, A2, c2⟩, rfl, rfl, rfl, rfl, hs1, fun _ h => h, hdr, Chn.zero, Chn.zero, Chn.zero⟩
end Go.Proofs.YtedmnkcoflbciaaGreat
