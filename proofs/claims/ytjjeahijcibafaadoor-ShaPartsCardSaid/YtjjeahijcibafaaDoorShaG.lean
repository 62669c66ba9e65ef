/-
  The blocks' loop of layer 4's reference Of, as a theorem of its own (written by gen_block.py).
-/
import Derived.Test.YtjjeahijcibafaaDoorShaE
import Derived.Test.YtjjeahijcibafaaDoorShaF
namespace Go.Proofs.YtjjeahijcibafaaDoor
open Go.RowKit ShaM Mem Go.Lib
attribute [local go_sem ↓] Go.wp_at_zero Go.wp_at_succ
set_option linter.unusedVariables false

theorem eight_of {S : List Nat} (h : Eight S) : ∃ x0 x1 x2 x3 x4 x5 x6 x7, S = [x0, x1, x2, x3, x4, x5, x6, x7] ∧ x0 < 4294967296 ∧ x1 < 4294967296 ∧ x2 < 4294967296 ∧ x3 < 4294967296 ∧ x4 < 4294967296 ∧ x5 < 4294967296 ∧ x6 < 4294967296 ∧ x7 < 4294967296 := by
  obtain ⟨hl, hx⟩ := h
  match S, hl with
  | [x0, x1, x2, x3, x4, x5, x6, x7], _ => exact ⟨x0, x1, x2, x3, x4, x5, x6, x7, rfl, hx x0 (by simp), hx x1 (by simp), hx x2 (by simp), hx x3 (by simp), hx x4 (by simp), hx x5 (by simp), hx x6 (by simp), hx x7 (by simp)⟩
theorem rd_at {w : World} {A : Option Addr} {n : Nat} {xs : List Value} (h : Rd w A n xs) {ad : Addr} (hA : A = some ad) {k : Nat} {u : Value} (hu : xs[k]? = some u) : w.cell? (ad.add k) = some u := by
  have hk : k < n := by rw [← h.1]; exact (List.getElem?_eq_some_iff.1 hu).1
  obtain ⟨ad', e, hc⟩ := h.2 (by omega)
  rw [hA] at e
  injection e with e
  subst e
  exact hc _ _ hu
theorem rd_atn {w : World} {A : Option Addr} {n : Nat} {xs : List Value} (h : Rd w A n xs) {ad : Addr} (hA : A = some ad) {k : Nat} {u : Value} (hu : xs[k]? = some u) (h0 : k ≠ 0) : w.cell? ⟨ad.block, ad.off + k, none⟩ = some u := by
  have := rd_at h hA hu
  simpa [Addr.add, h0] using this
theorem rd_at0 {w : World} {A : Option Addr} {n : Nat} {xs : List Value} (h : Rd w A n xs) {ad : Addr} (hA : A = some ad) {u : Value} (hu : xs[0]? = some u) : w.cell? ad = some u := by
  have := rd_at h hA hu
  simpa [Addr.add] using this

set_option maxRecDepth 1000000 in
noncomputable def blockBody : Code := ((Tryd.f16.body.bind (loopAt 34)).getD .skip)

set_option maxRecDepth 1000000 in
set_option maxHeartbeats 6400000 in
theorem blocks_loop (Q0 : Exit → Act → World → Prop) (s0 s1 s3 s4 s5 s6 s8 s9 s12 s13 s14 s15 s16 s17 s18 s19 s20 s21 s22 s23 s24 s25 s26 s27 s28 s29 s30 s31 s32 s33 s34 s35 s36 s37 s38 s39 s40 s41 s42 s43 s44 s45 s46 s47 s48 s49 s50 s51 s52 s53 s54 s55 s56 s57 s58 s59 s60 s61 s62 s63 s64 s65 s66 s67 s68 s69 s70 s71 s72 s73 s74 s75 s76 s77 s78 s79 s80 s81 s82 s83 s84 s85 s86 s87 s88 s89 s90 s91 s92 s93 s94 s95 s96 s97 s98 s99 s100 s101 s102 s103 s104 s105 s106 s107 s108 s109 s110 s111 s112 s113 s114 s115 s116 s117 s118 s119 s120 s121 s122 s123 s124 s125 s126 s127 s128 s129 s130 s131 s132 s133 s134 s135 s136 s137 s138 s139 s140 s141 s142 s143 s144 s145 s146 s147 s148 s149 s150 s151 s152 s153 s154 s155 s156 s157 s158 s159 s160 s161 s162 s163 s164 s165 s166 s167 s168 s169 s170 s171 s172 s173 s174 s175 s176 s177 s178 s179 s180 s181 s182 s183 s184 s185 s186 s187 s188 s189 s190 s191 s192 s193 s194 s195 s196 s197 s198 s199 s200 s201 s202 s203 s204 s205 s206 s207 s208 s209 s210 s211 s212 s213 s214 s215 s216 s217 s218 s219 s220 s221 s222 s223 s224 s225 s226 s227 s228 s229 s230 s231 s232 s233 s234 s235 s236 s237 s238 s239 s240 s241 s242 s243 s244 s245 s246 s247 s248 s249 s250 s251 s252 s253 s254 s255 s256 s257 s258 s259 s260 s261 s262 s263 s264 s265 s266 s267 s268 s269 s270 s271 s272 s273 s274 s275 s276 s277 s278 s279 s280 s281 s282 s283 s284 s285 : Value) (Ke A5 A7 : Option Addr) (kc c5 c7 T : Nat) (F Q : List Nat) (w7 : World) (hT2 : T ≤ 20000)
    (HLQ : Hid (Q.length = 64 * T)) (HQB : Hid (∀ b ∈ Q, b < 256)) (HK : Hid (Rd w7 Ke 64 (keys.map num32))) (HRQ : Hid (Rd w7 A5 (64 * T) (Q.map byten))) (HR7 : Hid (Rd w7 A7 8 (F.map num32))) (HF : Hid (Eight F))
    (hexit : ∀ (A' : Option Addr) (c' : Nat) (S : List Nat) (w'' : World) (r11 r12 r13 r14 r15 r16 r17 r18 r19 r20 r21 r22 r23 r24 r25 r26 r27 r28 r63 r64 r65 r66 r67 r68 r69 r70 r71 r72 r73 r74 r75 r76 r77 r78 r79 r80 r81 r82 r83 r84 r85 r86 r87 r88 r89 r90 r91 r92 r93 r94 r95 r96 r97 r98 r99 r100 r101 r102 r103 r104 r105 r106 r107 r108 r109 r110 r111 r112 r113 r114 r115 r116 r117 r118 r119 r120 r121 r122 r123 r124 r125 r126 r127 r128 r129 r130 r131 r132 r133 r134 r135 r136 r137 r138 r139 r140 r141 r142 r143 r144 r145 r146 r147 r148 r149 r150 r151 r152 r153 r154 r155 r156 r157 r158 r159 r160 r161 r162 r163 r164 r165 r166 r167 r168 r169 r170 r171 r172 r173 r174 r175 r176 r177 r178 r179 r180 r181 r182 r183 r184 r185 r186 r187 r188 r189 r190 r191 r192 r193 r194 r195 r196 r197 r198 r199 r200 r201 r202 r203 r204 r205 r206 r207 r208 r209 r210 r211 r212 r213 r214 r215 r216 r217 r218 r219 r220 r221 r222 r223 r224 r225 r226 r227 r228 r229 r230 r231 r232 r233 r234 r235 r236 r237 r238 r239 r240 r241 r242 r243 r244 r245 r246 r247 r248 r249 r250 r251 r252 r253 r254 r255 r256 r257 r258 r259 r260 r261 r262 r263 r264 r265 r266 r267 : Value), Hid (S = blocks keys F Q T) → Hid (Eight S) → Hid (Rd w'' A' 8 (S.map num32)) → Fr (fun _ => False) w7 w'' → Q0 (.exit 4) ⟨List.toArray (s0 :: s1 :: .slice Ke 64 kc :: s3 :: s4 :: s5 :: s6 :: .slice A5 (64 * T) c5 :: s8 :: s9 :: .slice A' 8 c' :: r11 :: r12 :: r13 :: r14 :: r15 :: r16 :: r17 :: r18 :: r19 :: r20 :: r21 :: r22 :: r23 :: r24 :: r25 :: r26 :: r27 :: r28 :: s29 :: s30 :: s31 :: s32 :: s33 :: s34 :: s35 :: s36 :: s37 :: s38 :: s39 :: s40 :: s41 :: s42 :: s43 :: s44 :: s45 :: s46 :: s47 :: s48 :: s49 :: s50 :: s51 :: s52 :: s53 :: s54 :: s55 :: s56 :: s57 :: s58 :: s59 :: s60 :: s61 :: s62 :: r63 :: r64 :: r65 :: r66 :: r67 :: r68 :: r69 :: r70 :: r71 :: r72 :: r73 :: r74 :: r75 :: r76 :: r77 :: r78 :: r79 :: r80 :: r81 :: r82 :: r83 :: r84 :: r85 :: r86 :: r87 :: r88 :: r89 :: r90 :: r91 :: r92 :: r93 :: r94 :: r95 :: r96 :: r97 :: r98 :: r99 :: r100 :: r101 :: r102 :: r103 :: r104 :: r105 :: r106 :: r107 :: r108 :: r109 :: r110 :: r111 :: r112 :: r113 :: r114 :: r115 :: r116 :: r117 :: r118 :: r119 :: r120 :: r121 :: r122 :: r123 :: r124 :: r125 :: r126 :: r127 :: r128 :: r129 :: r130 :: r131 :: r132 :: r133 :: r134 :: r135 :: r136 :: r137 :: r138 :: r139 :: r140 :: r141 :: r142 :: r143 :: r144 :: r145 :: r146 :: r147 :: r148 :: r149 :: r150 :: r151 :: r152 :: r153 :: r154 :: r155 :: r156 :: r157 :: r158 :: r159 :: r160 :: r161 :: r162 :: r163 :: r164 :: r165 :: r166 :: r167 :: r168 :: r169 :: r170 :: r171 :: r172 :: r173 :: r174 :: r175 :: r176 :: r177 :: r178 :: r179 :: r180 :: r181 :: r182 :: r183 :: r184 :: r185 :: r186 :: r187 :: r188 :: r189 :: r190 :: r191 :: r192 :: r193 :: r194 :: r195 :: r196 :: r197 :: r198 :: r199 :: r200 :: r201 :: r202 :: r203 :: r204 :: r205 :: r206 :: r207 :: r208 :: r209 :: r210 :: r211 :: r212 :: r213 :: r214 :: r215 :: r216 :: r217 :: r218 :: r219 :: r220 :: r221 :: r222 :: r223 :: r224 :: r225 :: r226 :: r227 :: r228 :: r229 :: r230 :: r231 :: r232 :: r233 :: r234 :: r235 :: r236 :: r237 :: r238 :: r239 :: r240 :: r241 :: r242 :: r243 :: r244 :: r245 :: r246 :: r247 :: r248 :: r249 :: r250 :: r251 :: r252 :: r253 :: r254 :: r255 :: r256 :: r257 :: r258 :: r259 :: r260 :: r261 :: r262 :: r263 :: r264 :: r265 :: r266 :: r267 :: s268 :: s269 :: s270 :: s271 :: s272 :: s273 :: s274 :: s275 :: s276 :: s277 :: s278 :: s279 :: s280 :: s281 :: s282 :: s283 :: s284 :: s285 :: []), []⟩ w'') :
    Code.wp Tryd.prog (Code.loop blockBody) Q0 ⟨List.toArray (s0 :: s1 :: .slice Ke 64 kc :: s3 :: s4 :: s5 :: s6 :: .slice A5 (64 * T) c5 :: s8 :: s9 :: .slice A7 8 c7 :: .int .i64 0 :: s12 :: s13 :: s14 :: s15 :: s16 :: s17 :: s18 :: s19 :: s20 :: s21 :: s22 :: s23 :: s24 :: s25 :: s26 :: s27 :: s28 :: s29 :: s30 :: s31 :: s32 :: s33 :: s34 :: s35 :: s36 :: s37 :: s38 :: s39 :: s40 :: s41 :: s42 :: s43 :: s44 :: s45 :: s46 :: s47 :: s48 :: s49 :: s50 :: s51 :: s52 :: s53 :: s54 :: s55 :: s56 :: s57 :: s58 :: s59 :: s60 :: s61 :: s62 :: s63 :: s64 :: s65 :: s66 :: s67 :: s68 :: s69 :: s70 :: s71 :: s72 :: s73 :: s74 :: s75 :: s76 :: s77 :: s78 :: s79 :: s80 :: s81 :: s82 :: s83 :: s84 :: s85 :: s86 :: s87 :: s88 :: s89 :: s90 :: s91 :: s92 :: s93 :: s94 :: s95 :: s96 :: s97 :: s98 :: s99 :: s100 :: s101 :: s102 :: s103 :: s104 :: s105 :: s106 :: s107 :: s108 :: s109 :: s110 :: s111 :: s112 :: s113 :: s114 :: s115 :: s116 :: s117 :: s118 :: s119 :: s120 :: s121 :: s122 :: s123 :: s124 :: s125 :: s126 :: s127 :: s128 :: s129 :: s130 :: s131 :: s132 :: s133 :: s134 :: s135 :: s136 :: s137 :: s138 :: s139 :: s140 :: s141 :: s142 :: s143 :: s144 :: s145 :: s146 :: s147 :: s148 :: s149 :: s150 :: s151 :: s152 :: s153 :: s154 :: s155 :: s156 :: s157 :: s158 :: s159 :: s160 :: s161 :: s162 :: s163 :: s164 :: s165 :: s166 :: s167 :: s168 :: s169 :: s170 :: s171 :: s172 :: s173 :: s174 :: s175 :: s176 :: s177 :: s178 :: s179 :: s180 :: s181 :: s182 :: s183 :: s184 :: s185 :: s186 :: s187 :: s188 :: s189 :: s190 :: s191 :: s192 :: s193 :: s194 :: s195 :: s196 :: s197 :: s198 :: s199 :: s200 :: s201 :: s202 :: s203 :: s204 :: s205 :: s206 :: s207 :: s208 :: s209 :: s210 :: s211 :: s212 :: s213 :: s214 :: s215 :: s216 :: s217 :: s218 :: s219 :: s220 :: s221 :: s222 :: s223 :: s224 :: s225 :: s226 :: s227 :: s228 :: s229 :: s230 :: s231 :: s232 :: s233 :: s234 :: s235 :: s236 :: s237 :: s238 :: s239 :: s240 :: s241 :: s242 :: s243 :: s244 :: s245 :: s246 :: s247 :: s248 :: s249 :: s250 :: s251 :: s252 :: s253 :: s254 :: s255 :: s256 :: s257 :: s258 :: s259 :: s260 :: s261 :: s262 :: s263 :: s264 :: s265 :: s266 :: s267 :: s268 :: s269 :: s270 :: s271 :: s272 :: s273 :: s274 :: s275 :: s276 :: s277 :: s278 :: s279 :: s280 :: s281 :: s282 :: s283 :: s284 :: s285 :: []), []⟩ w7 := by
  conv => arg 2; arg 1; whnf
  go_loopw [10, 11] (fun v i wr => ∃ (j t : Nat) (S : List Nat) (A' : Option Addr) (c' : Nat), j ≤ T ∧ Hid (t = 64 * j) ∧ t ≤ 64 * T ∧ i = .int .i64 (t : Int) ∧ v = .slice A' 8 c' ∧ Hid (S = blocks keys F Q j) ∧ Hid (Eight S) ∧ Hid (Rd wr A' 8 (S.map num32)) ∧ Fr (fun _ => False) w7 wr)
    (fun _ i _ => 64 * T - (intOf i).toNat)
  case atStart => exact ⟨0, 0, F, A7, c7, by omega, rfl, by omega, rfl, rfl, rfl, HF, HR7, Fr.refl _ _⟩
  case round =>
    obtain ⟨j, t, S, A8, c8, hjT, Ht, htT, rfl, rfl, HS, HE, HRS, hfr⟩ := hrel
    by_cases hlt : t < 64 * T
    · have hjT' : j < T := by have := Ht.out; omega
      have ht64 : t + 64 ≤ 64 * T := by have := Ht.out; omega
      have tlt : decide ((t : Int) < 64 * (T : Int)) = true := by simp; omega
      obtain ⟨Bk, hBk⟩ : ∃ Bk, Bk = (Q.drop t).take 64 := ⟨_, rfl⟩
      have hBkg : ∀ i, i < 64 → Bk[i]? = Q[t + i]? := by
        intro i hi
        rw [hBk, List.getElem?_take, if_pos hi, List.getElem?_drop]
      have hBkb : ∀ b ∈ Bk, b < 256 := fun b hb => HQB.out b (List.mem_of_mem_drop (List.mem_of_mem_take (hBk ▸ hb)))
      have HBK := Lib.hid hBk
      have HBG := Lib.hid hBkg
      have HBB := Lib.hid hBkb
      have HRQ8 := Lib.hid (HRQ.out.fr hfr (fun _ _ h => h))
      have HF8 := Lib.hid hfr
      obtain ⟨x0, x1, x2, x3, x4, x5, x6, x7, hSx, hx0, hx1, hx2, hx3, hx4, hx5, hx6, hx7⟩ := eight_of HE.out
      have HSX := Lib.hid hSx
      have HSX' := Lib.hid (show ofL S = ⟨x0, x1, x2, x3, x4, x5, x6, x7⟩ by rw [hSx]; rfl)
      rename World => wc
      clear hBk hBkg hBkb hfr hSx
      go_wp2_with fail
      refine sched_loop _ _ _ _ _ _ _ _ _ _ _ _ _ _ _ _ _ _ _ _ _ _ _ _ _ _ _ _ _ _ _ _ _ _ _ _ _ _ _ _ _ _ _ _ _ _ _ _ _ _ _ _ _ _ _ _ _ _ _ _ _ _ _ _ _ _ _ _ _ _ _ _ _ _ _ _ _ _ _ _ _ _ _ _ _ _ _ _ _ _ _ _ _ _ _ _ _ _ _ _ _ _ _ _ _ _ _ _ _ _ _ _ _ _ _ _ _ _ _ _ _ _ _ _ _ _ _ _ _ _ _ _ _ _ _ _ _ _ _ _ _ _ _ _ _ _ _ _ _ _ _ _ _ _ _ _ _ _ _ _ _ _ _ _ _ _ _ _ _ _ _ _ _ _ _ _ _ _ _ _ _ _ _ _ _ _ _ _ _ _ _ _ _ _ _ _ _ _ _ _ _ _ _ _ _ _ _ _ _ _ _ _ _ _ _ _ _ _ _ _ _ _ _ _ _ _ _ _ _ _ _ _ _ _ _ _ _ _ _ _ _ _ _ _ _ _ _ _ _ _ _ _ _ _ _ _ _ _ _ _ _ _ _ _ _ _ _ _ _ _ _ _ _ _ _ _ _ _ _ _ _ _ _ A5 c5 T t Q Bk wc hT2 ht64 HLQ.out HQB HBG HBB HRQ8 ?_
      intro A9 c9 w9 p14 p15 p16 p17 p69 p70 p71 p72 p73 p74 p75 p76 p77 p78 p79 p80 p81 p82 p83 p84 p85 p86 p87 p88 p89 p90 p91 p92 p93 p94 p95 p96 p97 p98 p99 p100 p101 p102 p103 p104 p105 p106 p107 p108 p109 p110 p111 p112 p113 p114 p115 p116 p117 p118 p119 p120 p121 p122 p123 p124 p125 p126 p127 p128 p129 p130 p131 p132 p133 p134 p135 p136 p137 HW9 hf9
      have HRW := Lib.hid (show Rd w9 A9 64 ((sched Bk 64).map num32) from Rd.of_own (HW9.out.row (sched_len Bk 64)))
      have HRS9 := Lib.hid (HRS.out.fr hf9 (fun _ _ h => h))
      have HF9 := Lib.hid (HF8.out.trans hf9 (fun _ _ h => h))
      have HK9 := Lib.hid (HK.out.fr HF9.out (fun _ _ h => h))
      clear HW9 hf9 HRS
      obtain ⟨ad, hA8, _⟩ := HRS9.out.2 (by omega)
      subst hA8
      have hc0 : w9.cell? ad = some (.int .u32 (x0 : Int)) := rd_at0 HRS9.out rfl (by rw [HSX.out]; rfl)
      have hc1 : w9.cell? ⟨ad.block, ad.off + 1, none⟩ = some (.int .u32 (x1 : Int)) := rd_atn HRS9.out rfl (by rw [HSX.out]; rfl) (by decide)
      have hc2 : w9.cell? ⟨ad.block, ad.off + 2, none⟩ = some (.int .u32 (x2 : Int)) := rd_atn HRS9.out rfl (by rw [HSX.out]; rfl) (by decide)
      have hc3 : w9.cell? ⟨ad.block, ad.off + 3, none⟩ = some (.int .u32 (x3 : Int)) := rd_atn HRS9.out rfl (by rw [HSX.out]; rfl) (by decide)
      have hc4 : w9.cell? ⟨ad.block, ad.off + 4, none⟩ = some (.int .u32 (x4 : Int)) := rd_atn HRS9.out rfl (by rw [HSX.out]; rfl) (by decide)
      have hc5 : w9.cell? ⟨ad.block, ad.off + 5, none⟩ = some (.int .u32 (x5 : Int)) := rd_atn HRS9.out rfl (by rw [HSX.out]; rfl) (by decide)
      have hc6 : w9.cell? ⟨ad.block, ad.off + 6, none⟩ = some (.int .u32 (x6 : Int)) := rd_atn HRS9.out rfl (by rw [HSX.out]; rfl) (by decide)
      have hc7 : w9.cell? ⟨ad.block, ad.off + 7, none⟩ = some (.int .u32 (x7 : Int)) := rd_atn HRS9.out rfl (by rw [HSX.out]; rfl) (by decide)
      go_wp2_with fail
      go_still (by kernel_rfl)
      go_wp2_with fail
      have HRWd : Hid (Rd w9.drew A9 64 ((sched Bk 64).map num32)) := HRW.out
      have HKd : Hid (Rd w9.drew Ke 64 (keys.map num32)) := HK9.out
      refine rounds_loop _ _ _ _ _ _ _ _ _ _ _ _ _ _ _ _ _ _ _ _ _ _ _ _ _ _ _ _ _ _ _ _ _ _ _ _ _ _ _ _ _ _ _ _ _ _ _ _ _ _ _ _ _ _ _ _ _ _ _ _ _ _ _ _ _ _ _ _ _ _ _ _ _ _ _ _ _ _ _ _ _ _ _ _ _ _ _ _ _ _ _ _ _ _ _ _ _ _ _ _ _ _ _ _ _ _ _ _ _ _ _ _ _ _ _ _ _ _ _ _ _ _ _ _ _ _ _ _ _ _ _ _ _ _ _ _ _ _ _ _ _ _ _ _ _ _ _ _ _ _ _ _ _ _ _ _ _ _ _ _ _ _ _ _ _ _ _ _ _ _ _ _ _ _ _ _ _ _ _ _ _ _ _ _ _ _ _ _ _ _ _ _ _ _ _ _ _ _ _ _ _ _ _ _ _ _ _ _ _ _ _ _ _ _ _ _ _ _ _ _ _ _ _ _ _ _ _ _ _ _ _ _ _ _ _ _ _ _ _ _ _ _ _ _ _ _ _ _ _ _ _ _ _ _ _ _ _ _ _ _ _ _ _ _ _ _ _ _ _ _ _ _ _ _ _ _ Ke A9 kc c9 x0 x1 x2 x3 x4 x5 x6 x7 (sched Bk 64) w9.drew ⟨hx0, hx1, hx2, hx3, hx4, hx5, hx6, hx7⟩ HKd HRWd (sched_len Bk 64) ?_
      intro va vb vc vd ve vf vg vh wd m27 m28 m162 m163 m164 m165 m166 m167 m168 m169 m170 m171 m172 m173 m174 m175 m176 m177 m178 m179 m180 m181 m182 m183 m184 m185 m186 m187 m188 m189 m190 m191 m192 m193 m194 m195 m196 m197 m198 m199 m200 m201 m202 m203 m204 m205 m206 m207 m208 m209 m210 m211 m212 m213 m214 m215 m216 m217 m218 m219 m220 m221 m222 m223 m224 m225 m226 HRO hfd
      have HF10 := Lib.hid (HF9.out.drew.trans hfd (fun _ _ h => h))
      have HRSd : Hid (Rd wd (some ad) 8 (S.map num32)) := (show Rd w9.drew (some ad) 8 (S.map num32) from HRS9.out).fr hfd (fun _ _ h => h)
      clear HRWd HKd HRW HK9 HRS9 HF9 hfd hc0 hc1 hc2 hc3 hc4 hc5 hc6 hc7
      have hc0 : wd.cell? ad = some (.int .u32 (x0 : Int)) := rd_at0 HRSd.out rfl (by rw [HSX.out]; rfl)
      have hc1 : wd.cell? ⟨ad.block, ad.off + 1, none⟩ = some (.int .u32 (x1 : Int)) := rd_atn HRSd.out rfl (by rw [HSX.out]; rfl) (by decide)
      have hc2 : wd.cell? ⟨ad.block, ad.off + 2, none⟩ = some (.int .u32 (x2 : Int)) := rd_atn HRSd.out rfl (by rw [HSX.out]; rfl) (by decide)
      have hc3 : wd.cell? ⟨ad.block, ad.off + 3, none⟩ = some (.int .u32 (x3 : Int)) := rd_atn HRSd.out rfl (by rw [HSX.out]; rfl) (by decide)
      have hc4 : wd.cell? ⟨ad.block, ad.off + 4, none⟩ = some (.int .u32 (x4 : Int)) := rd_atn HRSd.out rfl (by rw [HSX.out]; rfl) (by decide)
      have hc5 : wd.cell? ⟨ad.block, ad.off + 5, none⟩ = some (.int .u32 (x5 : Int)) := rd_atn HRSd.out rfl (by rw [HSX.out]; rfl) (by decide)
      have hc6 : wd.cell? ⟨ad.block, ad.off + 6, none⟩ = some (.int .u32 (x6 : Int)) := rd_atn HRSd.out rfl (by rw [HSX.out]; rfl) (by decide)
      have hc7 : wd.cell? ⟨ad.block, ad.off + 7, none⟩ = some (.int .u32 (x7 : Int)) := rd_atn HRSd.out rfl (by rw [HSX.out]; rfl) (by decide)
      obtain ⟨n0, hn0⟩ : ∃ n, n = a32 x0 va := ⟨_, rfl⟩
      have e0 := add_w x0 va
      rw [← hn0] at e0
      obtain ⟨n1, hn1⟩ : ∃ n, n = a32 x1 vb := ⟨_, rfl⟩
      have e1 := add_w x1 vb
      rw [← hn1] at e1
      obtain ⟨n2, hn2⟩ : ∃ n, n = a32 x2 vc := ⟨_, rfl⟩
      have e2 := add_w x2 vc
      rw [← hn2] at e2
      obtain ⟨n3, hn3⟩ : ∃ n, n = a32 x3 vd := ⟨_, rfl⟩
      have e3 := add_w x3 vd
      rw [← hn3] at e3
      obtain ⟨n4, hn4⟩ : ∃ n, n = a32 x4 ve := ⟨_, rfl⟩
      have e4 := add_w x4 ve
      rw [← hn4] at e4
      obtain ⟨n5, hn5⟩ : ∃ n, n = a32 x5 vf := ⟨_, rfl⟩
      have e5 := add_w x5 vf
      rw [← hn5] at e5
      obtain ⟨n6, hn6⟩ : ∃ n, n = a32 x6 vg := ⟨_, rfl⟩
      have e6 := add_w x6 vg
      rw [← hn6] at e6
      obtain ⟨n7, hn7⟩ : ∃ n, n = a32 x7 vh := ⟨_, rfl⟩
      have e7 := add_w x7 vh
      rw [← hn7] at e7
      go_wp2_with fail
      have HFd := Lib.hid HF10.out.drew
      have hnewS : [n0, n1, n2, n3, n4, n5, n6, n7] = blocks keys F Q (j + 1) := by
        rw [blocks, ← HS.out, ← Ht.out, ← HBK.out, block, HSX'.out, ← HRO.out, HSX.out]
        simp only [plus, List.getD_cons_zero, List.getD_cons_succ, hn0, hn1, hn2, hn3, hn4, hn5, hn6, hn7]
      have HNS := Lib.hid hnewS
      clear hnewS hn0 hn1 hn2 hn3 hn4 hn5 hn6 hn7 HRSd
      go_still_tail 40, (by kernel_rfl)
      go_wp2_with fail
      exact ⟨⟨j + 1, t + 64, [n0, n1, n2, n3, n4, n5, n6, n7], _, 8, by omega, by have := Ht.out; show _ = _; omega, by omega, by go_num, rfl, HNS, Lib.hid (by rw [HNS.out]; exact blocks_eight _ _ _ HF.out _), Lib.hid (Rd.cells (w := wd) rfl ([n0, n1, n2, n3, n4, n5, n6, n7].map num32) _).drew, (HF10.out.alloc _).drew⟩, by simp [intOf]; omega⟩
    · obtain rfl : t = 64 * T := by omega
      have tlt : decide (((64 * T : Nat) : Int) < 64 * (T : Int)) = false := by simp
      obtain rfl : j = T := by have := Ht.out; omega
      go_wp2_with fail
      exact hexit _ _ _ _ _ _ _ _ _ _ _ _ _ _ _ _ _ _ _ _ _ _ _ _ _ _ _ _ _ _ _ _ _ _ _ _ _ _ _ _ _ _ _ _ _ _ _ _ _ _ _ _ _ _ _ _ _ _ _ _ _ _ _ _ _ _ _ _ _ _ _ _ _ _ _ _ _ _ _ _ _ _ _ _ _ _ _ _ _ _ _ _ _ _ _ _ _ _ _ _ _ _ _ _ _ _ _ _ _ _ _ _ _ _ _ _ _ _ _ _ _ _ _ _ _ _ _ _ _ _ _ _ _ _ _ _ _ _ _ _ _ _ _ _ _ _ _ _ _ _ _ _ _ _ _ _ _ _ _ _ _ _ _ _ _ _ _ _ _ _ _ _ _ _ _ _ _ _ _ _ _ _ _ _ _ _ _ _ _ _ _ _ _ _ _ _ _ _ _ _ _ _ _ _ _ _ _ _ _ _ _ _ _ _ _ _ _ _ _ _ _ _ _ _ _ _ _ HS HE HRS hfr
end Go.Proofs.YtjjeahijcibafaaDoor
