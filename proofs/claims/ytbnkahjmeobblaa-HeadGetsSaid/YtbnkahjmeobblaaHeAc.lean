/-
  Layer 20, the reference's Get: its number with a sign (written by gen_rsgn.py).
-/
import Derived.Test.YtbnkahjmeobblaaHeU
import Derived.Test.YtbnkahjmeobblaaCut
import Derived.Test.YtbnkahjmeobblaaVaN
import Derived.IntWalk
namespace Go.Proofs.Ytbnkahjmeobblaa
open Go.RowKit Mem Go.Lib LebM UtfM VaM AcM OpM HeM
attribute [local go_sem ↓] Go.wp_at_zero Go.wp_at_succ
set_option linter.unusedVariables false

set_option maxRecDepth 1000000 in
noncomputable def sgnBody : Code := ((Try.f16.body.bind (loopAt 36)).getD .skip)

set_option maxRecDepth 1000000 in
set_option maxHeartbeats 6400000 in
theorem sgn_loop (Q0 : Exit → Act → World → Prop) (s1 s2 s3 s4 s5 s6 s7 s8 s9 s10 s11 s12 s13 s14 s15 s16 s17 s18 s19 s20 s22 s24 s27 s28 s29 s30 s31 s32 s33 s34 s35 s36 s37 s38 s39 s40 s41 s42 s43 s44 s45 s46 s47 s48 s49 s50 s51 s52 s53 s54 s55 s56 s57 s58 s59 s60 s61 s62 s63 s64 s65 s66 s67 s68 s69 s70 s71 s72 s73 s74 s75 s76 s77 s78 s79 s80 s81 s82 s83 s84 s85 s86 s87 s88 s89 s90 s91 s92 s93 s94 s95 s96 s97 s98 s99 s100 s101 s102 s103 s104 s105 s106 s107 s108 s109 s110 s111 s112 s113 s114 s115 s116 s117 s118 s119 s120 s121 s122 s123 s124 s125 s126 s127 s128 s129 s130 s131 s132 s133 s134 s135 s136 s137 s138 s139 s140 s141 s142 s143 s144 s145 s146 s147 s148 s149 s150 s151 s152 s153 s154 s155 s156 s157 s158 s159 s160 s161 s162 s163 s164 s165 s166 s167 s168 s169 s170 s171 s172 s173 s174 s175 s176 s177 s178 s179 s180 s181 s182 s183 s184 s185 s186 s187 s188 s189 s190 s191 s192 s193 s194 s195 s196 s197 s198 s199 s200 s201 s202 s203 s204 s205 s206 s207 s208 s209 s210 s211 s212 s213 s214 s215 s216 s217 s218 s219 s220 s221 s222 s223 s224 s225 s226 s227 s228 s229 s230 : Value) (A : Option Addr) (n c s k k1 : Nat) (B X : List UInt8) (w : World)
    (HRD : Hid (Rd w A n (B.map bytec))) (hs : s + k ≤ n) (hn : n ≤ 1000000) (hk1 : k1 + 1 = k) (HX : Hid ((B.drop s).take k = X)) (HXL : Hid (X.length = k))
    (hexit : ∀ (r26 r138 r139 r140 r141 r142 r143 r144 r145 r146 r147 r148 r149 r150 r151 r152 : Value), Q0 (.exit 4) ⟨List.toArray (.slice A n c :: s1 :: s2 :: s3 :: s4 :: s5 :: s6 :: s7 :: s8 :: s9 :: s10 :: s11 :: s12 :: s13 :: s14 :: s15 :: s16 :: s17 :: s18 :: s19 :: s20 :: .int .i64 (s : Int) :: s22 :: .int .i64 (k : Int) :: s24 :: .int .u64 (vd X 0 : Int) :: r26 :: s27 :: s28 :: s29 :: s30 :: s31 :: s32 :: s33 :: s34 :: s35 :: s36 :: s37 :: s38 :: s39 :: s40 :: s41 :: s42 :: s43 :: s44 :: s45 :: s46 :: s47 :: s48 :: s49 :: s50 :: s51 :: s52 :: s53 :: s54 :: s55 :: s56 :: s57 :: s58 :: s59 :: s60 :: s61 :: s62 :: s63 :: s64 :: s65 :: s66 :: s67 :: s68 :: s69 :: s70 :: s71 :: s72 :: s73 :: s74 :: s75 :: s76 :: s77 :: s78 :: s79 :: s80 :: s81 :: s82 :: s83 :: s84 :: s85 :: s86 :: s87 :: s88 :: s89 :: s90 :: s91 :: s92 :: s93 :: s94 :: s95 :: s96 :: s97 :: s98 :: s99 :: s100 :: s101 :: s102 :: s103 :: s104 :: s105 :: s106 :: s107 :: s108 :: s109 :: s110 :: s111 :: s112 :: s113 :: s114 :: s115 :: s116 :: s117 :: s118 :: s119 :: s120 :: s121 :: s122 :: s123 :: s124 :: s125 :: s126 :: s127 :: s128 :: s129 :: s130 :: s131 :: s132 :: s133 :: s134 :: s135 :: s136 :: s137 :: r138 :: r139 :: r140 :: r141 :: r142 :: r143 :: r144 :: r145 :: r146 :: r147 :: r148 :: r149 :: r150 :: r151 :: r152 :: s153 :: s154 :: s155 :: s156 :: s157 :: s158 :: s159 :: s160 :: s161 :: s162 :: s163 :: s164 :: s165 :: s166 :: s167 :: s168 :: s169 :: s170 :: s171 :: s172 :: s173 :: s174 :: s175 :: s176 :: s177 :: s178 :: s179 :: s180 :: s181 :: s182 :: s183 :: s184 :: s185 :: s186 :: s187 :: s188 :: s189 :: s190 :: s191 :: s192 :: s193 :: s194 :: s195 :: s196 :: s197 :: s198 :: s199 :: s200 :: s201 :: s202 :: s203 :: s204 :: s205 :: s206 :: s207 :: s208 :: s209 :: s210 :: s211 :: s212 :: s213 :: s214 :: s215 :: s216 :: s217 :: s218 :: s219 :: s220 :: s221 :: s222 :: s223 :: s224 :: s225 :: s226 :: s227 :: s228 :: s229 :: s230 :: []), []⟩ w) :
    Code.wp Try.prog (Code.loop sgnBody) Q0 ⟨List.toArray (.slice A n c :: s1 :: s2 :: s3 :: s4 :: s5 :: s6 :: s7 :: s8 :: s9 :: s10 :: s11 :: s12 :: s13 :: s14 :: s15 :: s16 :: s17 :: s18 :: s19 :: s20 :: .int .i64 (s : Int) :: s22 :: .int .i64 (k : Int) :: s24 :: .int .u64 0 :: .int .i64 (k1 : Int) :: s27 :: s28 :: s29 :: s30 :: s31 :: s32 :: s33 :: s34 :: s35 :: s36 :: s37 :: s38 :: s39 :: s40 :: s41 :: s42 :: s43 :: s44 :: s45 :: s46 :: s47 :: s48 :: s49 :: s50 :: s51 :: s52 :: s53 :: s54 :: s55 :: s56 :: s57 :: s58 :: s59 :: s60 :: s61 :: s62 :: s63 :: s64 :: s65 :: s66 :: s67 :: s68 :: s69 :: s70 :: s71 :: s72 :: s73 :: s74 :: s75 :: s76 :: s77 :: s78 :: s79 :: s80 :: s81 :: s82 :: s83 :: s84 :: s85 :: s86 :: s87 :: s88 :: s89 :: s90 :: s91 :: s92 :: s93 :: s94 :: s95 :: s96 :: s97 :: s98 :: s99 :: s100 :: s101 :: s102 :: s103 :: s104 :: s105 :: s106 :: s107 :: s108 :: s109 :: s110 :: s111 :: s112 :: s113 :: s114 :: s115 :: s116 :: s117 :: s118 :: s119 :: s120 :: s121 :: s122 :: s123 :: s124 :: s125 :: s126 :: s127 :: s128 :: s129 :: s130 :: s131 :: s132 :: s133 :: s134 :: s135 :: s136 :: s137 :: s138 :: s139 :: s140 :: s141 :: s142 :: s143 :: s144 :: s145 :: s146 :: s147 :: s148 :: s149 :: s150 :: s151 :: s152 :: s153 :: s154 :: s155 :: s156 :: s157 :: s158 :: s159 :: s160 :: s161 :: s162 :: s163 :: s164 :: s165 :: s166 :: s167 :: s168 :: s169 :: s170 :: s171 :: s172 :: s173 :: s174 :: s175 :: s176 :: s177 :: s178 :: s179 :: s180 :: s181 :: s182 :: s183 :: s184 :: s185 :: s186 :: s187 :: s188 :: s189 :: s190 :: s191 :: s192 :: s193 :: s194 :: s195 :: s196 :: s197 :: s198 :: s199 :: s200 :: s201 :: s202 :: s203 :: s204 :: s205 :: s206 :: s207 :: s208 :: s209 :: s210 :: s211 :: s212 :: s213 :: s214 :: s215 :: s216 :: s217 :: s218 :: s219 :: s220 :: s221 :: s222 :: s223 :: s224 :: s225 :: s226 :: s227 :: s228 :: s229 :: s230 :: []), []⟩ w := by
  conv => arg 2; arg 1; whnf
  go_loopw [25, 26] (fun u i wr => ∃ x : Int, -1 ≤ x ∧ x < k ∧ i = .int .i64 x ∧ u = .int .u64 (vd X (x + 1).toNat : Int) ∧ Hid (w = wr)) (fun u i _ => (intOf i + 1).toNat)
  case atStart => exact ⟨(k1 : Int), by omega, by omega, rfl, by rw [show ((k1 : Int) + 1).toNat = k by omega, vd_end (by have := HXL.out; omega)]; rfl, rfl⟩
  case round =>
    obtain ⟨x, hx0, hx1, rfl, rfl, HW⟩ := hrel
    rename World => wr
    obtain rfl : w = wr := HW.out
    by_cases h0 : 0 ≤ x
    · obtain ⟨j, rfl⟩ := Int.eq_ofNat_of_zero_le h0
      have hjn : j < k := by omega
      rw [show ((j : Int) + 1).toNat = j + 1 by omega]
      obtain ⟨U, hU⟩ : ∃ U, vd X (j + 1) = U := ⟨_, rfl⟩
      have hUl : U < 18446744073709551616 := by rw [← hU]; exact vd_lt _ _
      obtain ⟨ad, v, rfl, hv, hcell⟩ := HRD.out.at_ (show s + j < n by omega)
      obtain ⟨b, hb⟩ : ∃ b, B[s + j]? = some b := ⟨B[s + j]'(by have := HRD.out.1; rw [List.length_map] at this; omega), List.getElem?_eq_getElem _⟩
      obtain rfl : bytec b = v := by simpa [hb] using hv
      have hxb : X[j]? = some b := by rw [← HX.out, List.getElem?_take_of_lt hjn, List.getElem?_drop, hb]
      unfold bytec at hcell
      have hb256 := b.toNat_lt
      have hst := vd_step hxb
      rw [hU] at hst ⊢
      obtain ⟨V, hV⟩ : ∃ V, U * 128 % 18446744073709551616 = V := ⟨_, rfl⟩
      obtain ⟨y, hy⟩ : ∃ y, b.toNat % 128 = y := ⟨_, rfl⟩
      rw [hV, hy] at hst
      obtain ⟨Z, hZ⟩ : ∃ Z, vd X j = Z := ⟨_, rfl⟩
      rw [hZ] at hst
      have r0 : IntKind.i64.wrap ((s : Int) + (j : Int)) = ((s + j : Nat) : Int) := by rw [IntKind.wrap_i64]; omega
      have r1 : IntKind.u64.wrap ((U : Int) * 128) = (V : Int) := by rw [IntKind.wrap_u64]; omega
      have r2 : (b.toNat : Int).tmod 128 = (y : Int) := by rw [Int.tmod_eq_emod_of_nonneg (by omega)]; omega
      have r2' : (b.toNat : Int) % 128 = (y : Int) := by omega
      have r3 : IntKind.u64.wrap (y : Int) = (y : Int) := by rw [IntKind.wrap_u64]; omega
      have r4 : IntKind.u64.wrap ((V : Int) + (y : Int)) = (Z : Int) := by rw [IntKind.wrap_u64]; omega
      have HZ := Lib.hid hZ
      clear hst hV hy hv hb hxb hU hZ hUl hb256
      go_wp2_with fail
      exact ⟨⟨(j : Int) - 1, by omega, by omega, rfl, by rw [show ((j : Int) - 1 + 1).toNat = j by omega, HZ.out], trivial⟩, by simp [intOf] <;> omega⟩
    · obtain rfl : x = -1 := by omega
      rw [show (-1 + 1 : Int).toNat = 0 from rfl]
      obtain ⟨M, hM⟩ : ∃ M, vd X 0 = M := ⟨_, rfl⟩
      rw [hM] at hexit ⊢
      clear hM
      go_wp2_with fail
      exact hexit _ _ _ _ _ _ _ _ _ _ _ _ _ _ _ _
theorem span_take {B : List UInt8} (h : spanE B = 0) : spanE (B.take (spanK B)) = 0 ∧ spanK (B.take (spanK B)) = (B.take (spanK B)).length ∧ 1 ≤ spanK B := by
  have hlt : fst B < min B.length 10 := by
    unfold spanE at h
    by_cases h1 : fst B < min B.length 10
    · exact h1
    · rw [if_neg h1] at h
      split at h <;> omega
  have hk : spanK B = fst B + 1 := by unfold spanK; rw [if_pos hlt]
  have hl : (B.take (fst B + 1)).length = fst B + 1 := by rw [List.length_take]; omega
  have hf : fst (B.take (fst B + 1)) = fst B := by
    have h1 : fst B < B.length := by omega
    have h2 : (B[fst B]).toNat < 128 := of_decide_eq_true (List.findIdx_getElem (p := fun b : UInt8 => decide (b.toNat < 128)) (xs := B) (w := h1))
    refine (List.findIdx_eq (by rw [hl]; omega)).2 ⟨by simpa using h2, fun j hj => ?_⟩
    have h3 := List.not_of_lt_findIdx (p := fun b : UInt8 => decide (b.toNat < 128)) (xs := B) hj
    simpa using h3
  rw [hk]
  have hlt2 : fst (B.take (fst B + 1)) < min (B.take (fst B + 1)).length 10 := by rw [hf, hl]; omega
  refine ⟨?_, ?_, by omega⟩
  · unfold spanE; rw [if_pos hlt2]
  · unfold spanK; rw [if_pos hlt2, hf, hl]
end Go.Proofs.Ytbnkahjmeobblaa
