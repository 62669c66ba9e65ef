/-
  The rounds' loop of layer 4's reference Of, as a theorem of its own (written by gen_rounds.py).
-/
import Derived.Test.YtjjeahijcibafaaDoorShaT
import Derived.Test.YtjjeahijcibafaaDoorShaU
import Derived.Test.YtjjeahijcibafaaDoorCut
import Derived.Deep.DrawnRows
import Derived.StillTailTactics
namespace Go.Proofs.YtjjeahijcibafaaDoor
open Go.RowKit ShaM Mem Go.Lib
attribute [local go_sem ↓] Go.wp_at_zero Go.wp_at_succ
set_option linter.unusedVariables false

theorem sw {f : FuncId} {args : Array Value} {w : World} {v : Value} (h : Calls Tryd.prog f args w fun e w' => e = .returned v ∧ w = w') : Calls Tryd.prog f args w fun e w' => e = .returned v ∧ w' = w := h.mono fun _ _ h => ⟨h.1, h.2.symm⟩

set_option maxRecDepth 1000000 in
noncomputable def roundBody : Code := ((Tryd.f16.body.bind (loopAt 31)).getD .skip)

set_option maxRecDepth 1000000 in
set_option maxHeartbeats 6400000 in
theorem rounds_loop (Q0 : Exit → Act → World → Prop) (s0 s1 s3 s4 s5 s6 s7 s8 s9 s10 s11 s13 s14 s15 s16 s17 s27 s28 s29 s30 s31 s32 s33 s34 s35 s36 s37 s38 s39 s40 s41 s42 s43 s44 s45 s46 s47 s48 s49 s50 s51 s52 s53 s54 s55 s56 s57 s58 s59 s60 s61 s62 s63 s64 s65 s66 s67 s68 s69 s70 s71 s72 s73 s74 s75 s76 s77 s78 s79 s80 s81 s82 s83 s84 s85 s86 s87 s88 s89 s90 s91 s92 s93 s94 s95 s96 s97 s98 s99 s100 s101 s102 s103 s104 s105 s106 s107 s108 s109 s110 s111 s112 s113 s114 s115 s116 s117 s118 s119 s120 s121 s122 s123 s124 s125 s126 s127 s128 s129 s130 s131 s132 s133 s134 s135 s136 s137 s138 s139 s140 s141 s142 s143 s144 s145 s146 s147 s148 s149 s150 s151 s152 s153 s154 s155 s156 s157 s158 s159 s160 s161 s162 s163 s164 s165 s166 s167 s168 s169 s170 s171 s172 s173 s174 s175 s176 s177 s178 s179 s180 s181 s182 s183 s184 s185 s186 s187 s188 s189 s190 s191 s192 s193 s194 s195 s196 s197 s198 s199 s200 s201 s202 s203 s204 s205 s206 s207 s208 s209 s210 s211 s212 s213 s214 s215 s216 s217 s218 s219 s220 s221 s222 s223 s224 s225 s226 s227 s228 s229 s230 s231 s232 s233 s234 s235 s236 s237 s238 s239 s240 s241 s242 s243 s244 s245 s246 s247 s248 s249 s250 s251 s252 s253 s254 s255 s256 s257 s258 s259 s260 s261 s262 s263 s264 s265 s266 s267 s268 s269 s270 s271 s272 s273 s274 s275 s276 s277 s278 s279 s280 s281 s282 s283 s284 s285 : Value) (Ke A' : Option Addr) (kc c' : Nat) (ja jb jc jd je jf jg jh : Nat) (W : List Nat) (wc : World)
    (hb : ja < 4294967296 ∧ jb < 4294967296 ∧ jc < 4294967296 ∧ jd < 4294967296 ∧ je < 4294967296 ∧ jf < 4294967296 ∧ jg < 4294967296 ∧ jh < 4294967296) (HK : Hid (Rd wc Ke 64 (keys.map num32))) (HW : Hid (Rd wc A' 64 (W.map num32))) (hWl : W.length = 64)
    (hexit : ∀ (va vb vc vd ve vf vg vh : Nat) (w'' : World) (r27 r28 r162 r163 r164 r165 r166 r167 r168 r169 r170 r171 r172 r173 r174 r175 r176 r177 r178 r179 r180 r181 r182 r183 r184 r185 r186 r187 r188 r189 r190 r191 r192 r193 r194 r195 r196 r197 r198 r199 r200 r201 r202 r203 r204 r205 r206 r207 r208 r209 r210 r211 r212 r213 r214 r215 r216 r217 r218 r219 r220 r221 r222 r223 r224 r225 r226 : Value), Hid ((⟨va, vb, vc, vd, ve, vf, vg, vh⟩ : St) = rounds keys W ⟨ja, jb, jc, jd, je, jf, jg, jh⟩ 64) → Fr (fun _ => False) wc w'' → Q0 (.exit 10) ⟨List.toArray (s0 :: s1 :: .slice Ke 64 kc :: s3 :: s4 :: s5 :: s6 :: s7 :: s8 :: s9 :: s10 :: s11 :: .slice A' 64 c' :: s13 :: s14 :: s15 :: s16 :: s17 :: .int .u32 (va : Int) :: .int .u32 (vb : Int) :: .int .u32 (vc : Int) :: .int .u32 (vd : Int) :: .int .u32 (ve : Int) :: .int .u32 (vf : Int) :: .int .u32 (vg : Int) :: .int .u32 (vh : Int) :: .int .i64 64 :: r27 :: r28 :: s29 :: s30 :: s31 :: s32 :: s33 :: s34 :: s35 :: s36 :: s37 :: s38 :: s39 :: s40 :: s41 :: s42 :: s43 :: s44 :: s45 :: s46 :: s47 :: s48 :: s49 :: s50 :: s51 :: s52 :: s53 :: s54 :: s55 :: s56 :: s57 :: s58 :: s59 :: s60 :: s61 :: s62 :: s63 :: s64 :: s65 :: s66 :: s67 :: s68 :: s69 :: s70 :: s71 :: s72 :: s73 :: s74 :: s75 :: s76 :: s77 :: s78 :: s79 :: s80 :: s81 :: s82 :: s83 :: s84 :: s85 :: s86 :: s87 :: s88 :: s89 :: s90 :: s91 :: s92 :: s93 :: s94 :: s95 :: s96 :: s97 :: s98 :: s99 :: s100 :: s101 :: s102 :: s103 :: s104 :: s105 :: s106 :: s107 :: s108 :: s109 :: s110 :: s111 :: s112 :: s113 :: s114 :: s115 :: s116 :: s117 :: s118 :: s119 :: s120 :: s121 :: s122 :: s123 :: s124 :: s125 :: s126 :: s127 :: s128 :: s129 :: s130 :: s131 :: s132 :: s133 :: s134 :: s135 :: s136 :: s137 :: s138 :: s139 :: s140 :: s141 :: s142 :: s143 :: s144 :: s145 :: s146 :: s147 :: s148 :: s149 :: s150 :: s151 :: s152 :: s153 :: s154 :: s155 :: s156 :: s157 :: s158 :: s159 :: s160 :: s161 :: r162 :: r163 :: r164 :: r165 :: r166 :: r167 :: r168 :: r169 :: r170 :: r171 :: r172 :: r173 :: r174 :: r175 :: r176 :: r177 :: r178 :: r179 :: r180 :: r181 :: r182 :: r183 :: r184 :: r185 :: r186 :: r187 :: r188 :: r189 :: r190 :: r191 :: r192 :: r193 :: r194 :: r195 :: r196 :: r197 :: r198 :: r199 :: r200 :: r201 :: r202 :: r203 :: r204 :: r205 :: r206 :: r207 :: r208 :: r209 :: r210 :: r211 :: r212 :: r213 :: r214 :: r215 :: r216 :: r217 :: r218 :: r219 :: r220 :: r221 :: r222 :: r223 :: r224 :: r225 :: r226 :: s227 :: s228 :: s229 :: s230 :: s231 :: s232 :: s233 :: s234 :: s235 :: s236 :: s237 :: s238 :: s239 :: s240 :: s241 :: s242 :: s243 :: s244 :: s245 :: s246 :: s247 :: s248 :: s249 :: s250 :: s251 :: s252 :: s253 :: s254 :: s255 :: s256 :: s257 :: s258 :: s259 :: s260 :: s261 :: s262 :: s263 :: s264 :: s265 :: s266 :: s267 :: s268 :: s269 :: s270 :: s271 :: s272 :: s273 :: s274 :: s275 :: s276 :: s277 :: s278 :: s279 :: s280 :: s281 :: s282 :: s283 :: s284 :: s285 :: []), []⟩ w'') :
    Code.wp Tryd.prog (Code.loop roundBody) Q0 ⟨List.toArray (s0 :: s1 :: .slice Ke 64 kc :: s3 :: s4 :: s5 :: s6 :: s7 :: s8 :: s9 :: s10 :: s11 :: .slice A' 64 c' :: s13 :: s14 :: s15 :: s16 :: s17 :: .int .u32 (ja : Int) :: .int .u32 (jb : Int) :: .int .u32 (jc : Int) :: .int .u32 (jd : Int) :: .int .u32 (je : Int) :: .int .u32 (jf : Int) :: .int .u32 (jg : Int) :: .int .u32 (jh : Int) :: .int .i64 0 :: s27 :: s28 :: s29 :: s30 :: s31 :: s32 :: s33 :: s34 :: s35 :: s36 :: s37 :: s38 :: s39 :: s40 :: s41 :: s42 :: s43 :: s44 :: s45 :: s46 :: s47 :: s48 :: s49 :: s50 :: s51 :: s52 :: s53 :: s54 :: s55 :: s56 :: s57 :: s58 :: s59 :: s60 :: s61 :: s62 :: s63 :: s64 :: s65 :: s66 :: s67 :: s68 :: s69 :: s70 :: s71 :: s72 :: s73 :: s74 :: s75 :: s76 :: s77 :: s78 :: s79 :: s80 :: s81 :: s82 :: s83 :: s84 :: s85 :: s86 :: s87 :: s88 :: s89 :: s90 :: s91 :: s92 :: s93 :: s94 :: s95 :: s96 :: s97 :: s98 :: s99 :: s100 :: s101 :: s102 :: s103 :: s104 :: s105 :: s106 :: s107 :: s108 :: s109 :: s110 :: s111 :: s112 :: s113 :: s114 :: s115 :: s116 :: s117 :: s118 :: s119 :: s120 :: s121 :: s122 :: s123 :: s124 :: s125 :: s126 :: s127 :: s128 :: s129 :: s130 :: s131 :: s132 :: s133 :: s134 :: s135 :: s136 :: s137 :: s138 :: s139 :: s140 :: s141 :: s142 :: s143 :: s144 :: s145 :: s146 :: s147 :: s148 :: s149 :: s150 :: s151 :: s152 :: s153 :: s154 :: s155 :: s156 :: s157 :: s158 :: s159 :: s160 :: s161 :: s162 :: s163 :: s164 :: s165 :: s166 :: s167 :: s168 :: s169 :: s170 :: s171 :: s172 :: s173 :: s174 :: s175 :: s176 :: s177 :: s178 :: s179 :: s180 :: s181 :: s182 :: s183 :: s184 :: s185 :: s186 :: s187 :: s188 :: s189 :: s190 :: s191 :: s192 :: s193 :: s194 :: s195 :: s196 :: s197 :: s198 :: s199 :: s200 :: s201 :: s202 :: s203 :: s204 :: s205 :: s206 :: s207 :: s208 :: s209 :: s210 :: s211 :: s212 :: s213 :: s214 :: s215 :: s216 :: s217 :: s218 :: s219 :: s220 :: s221 :: s222 :: s223 :: s224 :: s225 :: s226 :: s227 :: s228 :: s229 :: s230 :: s231 :: s232 :: s233 :: s234 :: s235 :: s236 :: s237 :: s238 :: s239 :: s240 :: s241 :: s242 :: s243 :: s244 :: s245 :: s246 :: s247 :: s248 :: s249 :: s250 :: s251 :: s252 :: s253 :: s254 :: s255 :: s256 :: s257 :: s258 :: s259 :: s260 :: s261 :: s262 :: s263 :: s264 :: s265 :: s266 :: s267 :: s268 :: s269 :: s270 :: s271 :: s272 :: s273 :: s274 :: s275 :: s276 :: s277 :: s278 :: s279 :: s280 :: s281 :: s282 :: s283 :: s284 :: s285 :: []), []⟩ wc := by
  conv => arg 2; arg 1; whnf
  have HWl := Lib.hid hWl
  clear hWl
  go_loopw [18, 19, 20, 21, 22, 23, 24, 25, 26] (fun qa qb qc qd qe qf qg qh i wr => ∃ (k : Nat) (va vb vc vd ve vf vg vh : Nat), k ≤ 64 ∧ i = .int .i64 (k : Int) ∧ qa = .int .u32 (va : Int) ∧ qb = .int .u32 (vb : Int) ∧ qc = .int .u32 (vc : Int) ∧ qd = .int .u32 (vd : Int) ∧ qe = .int .u32 (ve : Int) ∧ qf = .int .u32 (vf : Int) ∧ qg = .int .u32 (vg : Int) ∧ qh = .int .u32 (vh : Int) ∧ (va < 4294967296 ∧ vb < 4294967296 ∧ vc < 4294967296 ∧ vd < 4294967296 ∧ ve < 4294967296 ∧ vf < 4294967296 ∧ vg < 4294967296 ∧ vh < 4294967296) ∧ Hid ((⟨va, vb, vc, vd, ve, vf, vg, vh⟩ : St) = rounds keys W ⟨ja, jb, jc, jd, je, jf, jg, jh⟩ k) ∧ Fr (fun _ => False) wc wr)
    (fun _ _ _ _ _ _ _ _ i _ => 64 - (intOf i).toNat)
  case atStart => exact ⟨0, ja, jb, jc, jd, je, jf, jg, jh, by omega, rfl, rfl, rfl, rfl, rfl, rfl, rfl, rfl, rfl, hb, rfl, Fr.refl _ _⟩
  case round =>
    obtain ⟨k, va, vb, vc, vd, ve, vf, vg, vh, hk64, rfl, rfl, rfl, rfl, rfl, rfl, rfl, rfl, rfl, hbv, HS, hfr⟩ := hrel
    by_cases hk : k < 64
    · obtain ⟨ha, hb, hc, hd, he, hf, hg, hh⟩ := hbv
      have HKr := HK.out.fr hfr (fun _ _ h => h)
      have HWr := HW.out.fr hfr (fun _ _ h => h)
      obtain ⟨adk, uk, rfl, hkk, hck⟩ := HKr.at_ hk
      obtain ⟨adw, uw, rfl, hww, hcw⟩ := HWr.at_ hk
      obtain ⟨kk, hkk1⟩ : ∃ x, keys[k]? = some x := ⟨_, List.getElem?_eq_getElem (by show k < 64; exact hk)⟩
      obtain ⟨ww, hww1⟩ : ∃ x, W[k]? = some x := ⟨_, List.getElem?_eq_getElem (by have := HWl.out; omega)⟩
      obtain rfl : num32 kk = uk := by simpa [hkk1] using hkk
      obtain rfl : num32 ww = uw := by simpa [hww1] using hww
      unfold num32 at hck hcw
      obtain ⟨nv, x1, x2, y1, x3, x4, x5, y2, y3, t1, z1, z2, z3, z4, z5, z6, z7, t2, ne, na, f1, f2, f3, hne, hna, ht1, ht2, hround⟩ := round_facts va vb vc vd ve vf vg vh kk ww ha hb hc he hf hg
      obtain ⟨e1, e2, e3, e4, e5n, e5, e6, e7, e8, e9⟩ := f1
      obtain ⟨a1, a2, a3, a4, a5, a6, a7, a8⟩ := f2
      obtain ⟨b1, b2⟩ := f3
      have hnew : (⟨na, va, vb, vc, ne, ve, vf, vg⟩ : St) = rounds keys W ⟨ja, jb, jc, jd, je, jf, jg, jh⟩ (k + 1) := by
        rw [rounds, ← HS.out, getD_some hkk1, getD_some hww1]
        exact hround.symm
      have HNEW := Lib.hid hnew
      have HFR := Lib.hid hfr
      rename World => wd
      clear hkk hww hkk1 hww1 hround hnew HKr HWr HS hfr
      go_wp2_with fail
      refine wp_region_still_lit (by kernel_rfl) (by kernel_rfl) ?_
      repeat still_step
      still_call (sw (tu6 ve _ he))
      repeat still_step
      still_call (sw (tu11 ve _ he))
      repeat still_step
      still_call (sw (tu25 ve _ he))
      repeat still_step
      refine wpStill_nil ?_
      clear hck hcw e1 e2 e3 e4 e5n e5 e6 e7 e8 e9
      go_wp2_with fail
      with_reducible refine (tu2 va _ ha).mono ?_
      rintro e w2 ⟨rfl, rfl⟩
      go_wp2_with fail
      with_reducible refine (tu13 va _ ha).mono ?_
      rintro e w2 ⟨rfl, rfl⟩
      go_wp2_with fail
      with_reducible refine (tu22 va _ ha).mono ?_
      rintro e w2 ⟨rfl, rfl⟩
      go_wp2_with fail
      exact ⟨⟨k + 1, na, va, vb, vc, ne, ve, vf, vg, by omega, by go_num, rfl, rfl, rfl, rfl, rfl, rfl, rfl, rfl, ⟨hna, ha, hb, hc, hne, he, hf, hg⟩, HNEW, HFR.out.drew⟩, by simp [intOf]; omega⟩
    · obtain rfl : k = 64 := by omega
      go_wp2_with fail
      exact hexit _ _ _ _ _ _ _ _ _ _ _ _ _ _ _ _ _ _ _ _ _ _ _ _ _ _ _ _ _ _ _ _ _ _ _ _ _ _ _ _ _ _ _ _ _ _ _ _ _ _ _ _ _ _ _ _ _ _ _ _ _ _ _ _ _ _ _ _ _ _ _ _ _ _ _ _ HS hfr
end Go.Proofs.YtjjeahijcibafaaDoor
