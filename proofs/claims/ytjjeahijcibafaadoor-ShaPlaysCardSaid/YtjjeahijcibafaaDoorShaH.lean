/-
  The last loop of layer 4's reference Of, as a theorem of its own (written by gen_outs.py).
-/
import Derived.Test.YtjjeahijcibafaaDoorShaT
import Derived.Test.YtjjeahijcibafaaDoorCut
namespace Go.Proofs.YtjjeahijcibafaaDoor
open Go.RowKit ShaM Mem Go.Lib
set_option linter.unusedVariables false

/-- the array's cells when k bytes stand there -/
def outC (S : List Nat) (k : Nat) : Array Value := (((outs S).take k ++ List.replicate (32 - k) 0).map byten).toArray
theorem outs_len (S : List Nat) : (outs S).length = 32 := by simp [outs]
theorem outs_at (S : List Nat) (k : Nat) (hk : k < 32) : (outs S)[k]? = some (S.getD (k / 4) 0 / 2 ^ (24 - 8 * (k % 4)) % 256) := by
  unfold outs
  rw [List.getElem?_map, List.getElem?_range hk]
  rfl
theorem outC_size (S : List Nat) (k : Nat) (hk : k ≤ 32) : (outC S k).size = 32 := by simp [outC, outs_len]; omega
theorem outC_full (S : List Nat) : outC S 32 = ((outs S).map byten).toArray := by
  unfold outC
  rw [List.take_of_length_le (by rw [outs_len]; omega)]
  simp
theorem outC_zero (S : List Nat) : outC S 0 = Array.replicate 32 (.int .u8 0) := by
  unfold outC
  rfl
theorem outC_set (S : List Nat) (k d : Nat) (hk : k < 32) (hd : (outs S)[k]? = some d) : (outC S k).setIfInBounds k (byten d) = outC S (k + 1) := by
  unfold outC
  have hl : ((outs S).take k).length = k := by rw [List.length_take, outs_len]; omega
  rw [List.setIfInBounds_toArray]
  congr 1
  rw [← List.map_set]
  congr 1
  rw [List.set_append_right _ _ (by omega), hl, Nat.sub_self, List.take_add_one, hd, show 32 - k = (32 - (k + 1)) + 1 from by omega, List.replicate_succ, List.set_cons_zero]
  simp
theorem cell_h {w : World} {g : Nat} {cs : Array Value} {t : TypeId} (h : w.heap[g]? = some (.cells cs t (0, 0))) (i : Nat) : w.cell? ⟨g, i, none⟩ = cs[i]? := cell_of_row w g i cs t (0, 0) h
theorem set_h {w : World} {g : Nat} {cs : Array Value} {t : TypeId} (h : w.heap[g]? = some (.cells cs t (0, 0))) (i : Nat) (u : Value) : (w.setCell ⟨g, i, none⟩ u).heap[g]? = some (.cells (cs.setIfInBounds i u) t (0, 0)) := by
  simp [World.setCell, Array.getElem?_modify, h]

set_option maxRecDepth 1000000 in
noncomputable def outBody : Code := ((Tryd.f16.body.bind (loopAt 39)).getD .skip)

set_option maxRecDepth 1000000 in
set_option maxHeartbeats 6400000 in
theorem outs_loop (Q0 : Exit → Act → World → Prop) (s0 s1 s2 s3 s4 s5 s6 s7 s8 s9 s11 s12 s13 s14 s15 s16 s17 s18 s19 s20 s21 s22 s23 s24 s25 s26 s27 s28 s31 s32 s33 s34 s35 s36 s37 s38 s39 s40 s41 s42 s43 s44 s45 s46 s47 s48 s49 s50 s51 s52 s53 s54 s55 s56 s57 s58 s59 s60 s61 s62 s63 s64 s65 s66 s67 s68 s69 s70 s71 s72 s73 s74 s75 s76 s77 s78 s79 s80 s81 s82 s83 s84 s85 s86 s87 s88 s89 s90 s91 s92 s93 s94 s95 s96 s97 s98 s99 s100 s101 s102 s103 s104 s105 s106 s107 s108 s109 s110 s111 s112 s113 s114 s115 s116 s117 s118 s119 s120 s121 s122 s123 s124 s125 s126 s127 s128 s129 s130 s131 s132 s133 s134 s135 s136 s137 s138 s139 s140 s141 s142 s143 s144 s145 s146 s147 s148 s149 s150 s151 s152 s153 s154 s155 s156 s157 s158 s159 s160 s161 s162 s163 s164 s165 s166 s167 s168 s169 s170 s171 s172 s173 s174 s175 s176 s177 s178 s179 s180 s181 s182 s183 s184 s185 s186 s187 s188 s189 s190 s191 s192 s193 s194 s195 s196 s197 s198 s199 s200 s201 s202 s203 s204 s205 s206 s207 s208 s209 s210 s211 s212 s213 s214 s215 s216 s217 s218 s219 s220 s221 s222 s223 s224 s225 s226 s227 s228 s229 s230 s231 s232 s233 s234 s235 s236 s237 s238 s239 s240 s241 s242 s243 s244 s245 s246 s247 s248 s249 s250 s251 s252 s253 s254 s255 s256 s257 s258 s259 s260 s261 s262 s263 s264 s265 s266 s267 s268 s269 s270 s271 s272 s273 s274 s275 s276 s277 s278 s279 s280 s281 s282 s283 s284 s285 : Value) (A : Option Addr) (c g2 : Nat) (S : List Nat) (ty : TypeId) (w0 : World)
    (HE : Hid (Eight S)) (HR : Hid (Rd w0 A 8 (S.map num32))) (hA : ∀ ad, A = some ad → ad.block ≠ g2) (HG : Hid (w0.heap[g2]? = some (.cells (outC S 0) ty (0, 0))))
    (hexit : ∀ (w'' : World) (r268 r269 r270 r271 r272 r273 r274 r275 r276 r277 r278 r279 r280 r281 r282 r283 r284 : Value), Hid (w''.heap[g2]? = some (.cells (outC S 32) ty (0, 0))) → Fr (fun b => b = g2) w0 w'' → Q0 (.exit 12) ⟨List.toArray (s0 :: s1 :: s2 :: s3 :: s4 :: s5 :: s6 :: s7 :: s8 :: s9 :: .slice A 8 c :: s11 :: s12 :: s13 :: s14 :: s15 :: s16 :: s17 :: s18 :: s19 :: s20 :: s21 :: s22 :: s23 :: s24 :: s25 :: s26 :: s27 :: s28 :: .pointer (some ⟨g2, 0, none⟩) :: .int .i64 32 :: s31 :: s32 :: s33 :: s34 :: s35 :: s36 :: s37 :: s38 :: s39 :: s40 :: s41 :: s42 :: s43 :: s44 :: s45 :: s46 :: s47 :: s48 :: s49 :: s50 :: s51 :: s52 :: s53 :: s54 :: s55 :: s56 :: s57 :: s58 :: s59 :: s60 :: s61 :: s62 :: s63 :: s64 :: s65 :: s66 :: s67 :: s68 :: s69 :: s70 :: s71 :: s72 :: s73 :: s74 :: s75 :: s76 :: s77 :: s78 :: s79 :: s80 :: s81 :: s82 :: s83 :: s84 :: s85 :: s86 :: s87 :: s88 :: s89 :: s90 :: s91 :: s92 :: s93 :: s94 :: s95 :: s96 :: s97 :: s98 :: s99 :: s100 :: s101 :: s102 :: s103 :: s104 :: s105 :: s106 :: s107 :: s108 :: s109 :: s110 :: s111 :: s112 :: s113 :: s114 :: s115 :: s116 :: s117 :: s118 :: s119 :: s120 :: s121 :: s122 :: s123 :: s124 :: s125 :: s126 :: s127 :: s128 :: s129 :: s130 :: s131 :: s132 :: s133 :: s134 :: s135 :: s136 :: s137 :: s138 :: s139 :: s140 :: s141 :: s142 :: s143 :: s144 :: s145 :: s146 :: s147 :: s148 :: s149 :: s150 :: s151 :: s152 :: s153 :: s154 :: s155 :: s156 :: s157 :: s158 :: s159 :: s160 :: s161 :: s162 :: s163 :: s164 :: s165 :: s166 :: s167 :: s168 :: s169 :: s170 :: s171 :: s172 :: s173 :: s174 :: s175 :: s176 :: s177 :: s178 :: s179 :: s180 :: s181 :: s182 :: s183 :: s184 :: s185 :: s186 :: s187 :: s188 :: s189 :: s190 :: s191 :: s192 :: s193 :: s194 :: s195 :: s196 :: s197 :: s198 :: s199 :: s200 :: s201 :: s202 :: s203 :: s204 :: s205 :: s206 :: s207 :: s208 :: s209 :: s210 :: s211 :: s212 :: s213 :: s214 :: s215 :: s216 :: s217 :: s218 :: s219 :: s220 :: s221 :: s222 :: s223 :: s224 :: s225 :: s226 :: s227 :: s228 :: s229 :: s230 :: s231 :: s232 :: s233 :: s234 :: s235 :: s236 :: s237 :: s238 :: s239 :: s240 :: s241 :: s242 :: s243 :: s244 :: s245 :: s246 :: s247 :: s248 :: s249 :: s250 :: s251 :: s252 :: s253 :: s254 :: s255 :: s256 :: s257 :: s258 :: s259 :: s260 :: s261 :: s262 :: s263 :: s264 :: s265 :: s266 :: s267 :: r268 :: r269 :: r270 :: r271 :: r272 :: r273 :: r274 :: r275 :: r276 :: r277 :: r278 :: r279 :: r280 :: r281 :: r282 :: r283 :: r284 :: s285 :: []), []⟩ w'') :
    Code.wp Tryd.prog (Code.loop outBody) Q0 ⟨List.toArray (s0 :: s1 :: s2 :: s3 :: s4 :: s5 :: s6 :: s7 :: s8 :: s9 :: .slice A 8 c :: s11 :: s12 :: s13 :: s14 :: s15 :: s16 :: s17 :: s18 :: s19 :: s20 :: s21 :: s22 :: s23 :: s24 :: s25 :: s26 :: s27 :: s28 :: .pointer (some ⟨g2, 0, none⟩) :: .int .i64 0 :: s31 :: s32 :: s33 :: s34 :: s35 :: s36 :: s37 :: s38 :: s39 :: s40 :: s41 :: s42 :: s43 :: s44 :: s45 :: s46 :: s47 :: s48 :: s49 :: s50 :: s51 :: s52 :: s53 :: s54 :: s55 :: s56 :: s57 :: s58 :: s59 :: s60 :: s61 :: s62 :: s63 :: s64 :: s65 :: s66 :: s67 :: s68 :: s69 :: s70 :: s71 :: s72 :: s73 :: s74 :: s75 :: s76 :: s77 :: s78 :: s79 :: s80 :: s81 :: s82 :: s83 :: s84 :: s85 :: s86 :: s87 :: s88 :: s89 :: s90 :: s91 :: s92 :: s93 :: s94 :: s95 :: s96 :: s97 :: s98 :: s99 :: s100 :: s101 :: s102 :: s103 :: s104 :: s105 :: s106 :: s107 :: s108 :: s109 :: s110 :: s111 :: s112 :: s113 :: s114 :: s115 :: s116 :: s117 :: s118 :: s119 :: s120 :: s121 :: s122 :: s123 :: s124 :: s125 :: s126 :: s127 :: s128 :: s129 :: s130 :: s131 :: s132 :: s133 :: s134 :: s135 :: s136 :: s137 :: s138 :: s139 :: s140 :: s141 :: s142 :: s143 :: s144 :: s145 :: s146 :: s147 :: s148 :: s149 :: s150 :: s151 :: s152 :: s153 :: s154 :: s155 :: s156 :: s157 :: s158 :: s159 :: s160 :: s161 :: s162 :: s163 :: s164 :: s165 :: s166 :: s167 :: s168 :: s169 :: s170 :: s171 :: s172 :: s173 :: s174 :: s175 :: s176 :: s177 :: s178 :: s179 :: s180 :: s181 :: s182 :: s183 :: s184 :: s185 :: s186 :: s187 :: s188 :: s189 :: s190 :: s191 :: s192 :: s193 :: s194 :: s195 :: s196 :: s197 :: s198 :: s199 :: s200 :: s201 :: s202 :: s203 :: s204 :: s205 :: s206 :: s207 :: s208 :: s209 :: s210 :: s211 :: s212 :: s213 :: s214 :: s215 :: s216 :: s217 :: s218 :: s219 :: s220 :: s221 :: s222 :: s223 :: s224 :: s225 :: s226 :: s227 :: s228 :: s229 :: s230 :: s231 :: s232 :: s233 :: s234 :: s235 :: s236 :: s237 :: s238 :: s239 :: s240 :: s241 :: s242 :: s243 :: s244 :: s245 :: s246 :: s247 :: s248 :: s249 :: s250 :: s251 :: s252 :: s253 :: s254 :: s255 :: s256 :: s257 :: s258 :: s259 :: s260 :: s261 :: s262 :: s263 :: s264 :: s265 :: s266 :: s267 :: s268 :: s269 :: s270 :: s271 :: s272 :: s273 :: s274 :: s275 :: s276 :: s277 :: s278 :: s279 :: s280 :: s281 :: s282 :: s283 :: s284 :: s285 :: []), []⟩ w0 := by
  conv => arg 2; arg 1; whnf
  obtain ⟨ad, hAd, _⟩ := HR.out.2 (by omega)
  subst hAd
  have hne := hA ad rfl
  clear hA
  go_loopw [30] (fun i wr => ∃ k : Nat, k ≤ 32 ∧ i = .int .i64 (k : Int) ∧ Hid (wr.heap[g2]? = some (.cells (outC S k) ty (0, 0))) ∧ Fr (fun b => b = g2) w0 wr) (fun i _ => 32 - (intOf i).toNat)
  case atStart => exact ⟨0, by omega, rfl, HG, Fr.refl _ _⟩
  case round =>
    obtain ⟨k, hk32, rfl, HGk, hfr⟩ := hrel
    by_cases hk : k < 32
    · obtain ⟨q, hq⟩ : ∃ q, q = k / 4 := ⟨_, rfl⟩
      have hq8 : q < 8 := by omega
      have hqI : (k : Int) / 4 = (q : Int) := by omega
      obtain ⟨x, hx⟩ : ∃ x, S[q]? = some x := ⟨_, List.getElem?_eq_getElem (by rw [HE.out.1]; exact hq8)⟩
      have hx32 := HE.out.2 x (List.mem_of_getElem? hx)
      have hc : wr.cell? (ad.add q) = some (.int .u32 (x : Int)) := by
        obtain ⟨ad', e, hc⟩ := HR.out.2 (by omega)
        injection e with e
        subst e
        exact hfr.cell (hc q _ (by rw [List.getElem?_map, hx]; rfl)) (by rw [add_block]; exact hne)
      have hout := outs_at S k hk
      rw [← hq, getD_some hx] at hout
      have hcell : wr.cell? ⟨g2, k, none⟩ = some ((outC S k)[k]'(by rw [outC_size S k hk32]; exact hk)) := by
        rw [cell_h HGk.out, Array.getElem?_eq_getElem]
      have hfree : wr.frozen? ⟨g2, k, none⟩ = false := by simp [World.frozen?, HGk.out]
      obtain ⟨y, hy⟩ : ∃ y, (outC S k)[k]'(by rw [outC_size S k hk32]; exact hk) = y := ⟨_, rfl⟩
      rw [hy] at hcell
      have hset := fun d hd => outC_set S k d hk hd
      have HOUT := Lib.hid hout
      have HSET := Lib.hid hset
      have HQ := Lib.hid hq
      clear hq hx hout hset hy
      rcases (show k % 4 = 0 ∨ k % 4 = 1 ∨ k % 4 = 2 ∨ k % 4 = 3 by omega) with h | h | h | h
      · have hr : (k : Int) % 4 = 0 := by omega
        have hd : (outs S)[k]? = some (x / 16777216 % 256) := by rw [HOUT.out, h]
        have HD := Lib.hid hd
        clear h hd
        go_wp2_with fail
        have hval : (.int .u8 ((x : Int) / 16777216) : Value) = byten (x / 16777216 % 256) := by unfold byten; congr 1 <;> omega
        exact ⟨⟨k + 1, by omega, by go_num, Lib.hid (by rw [hval, set_h HGk.out, HSET.out _ HD.out]), hfr.setCell (fun _ => rfl) _⟩, by simp [intOf]; omega⟩
      · have hr : (k : Int) % 4 = 1 := by omega
        have hd : (outs S)[k]? = some (x / 65536 % 256) := by rw [HOUT.out, h]
        have HD := Lib.hid hd
        clear h hd
        go_wp2_with fail
        have hval : (.int .u8 ((x : Int) / 65536 % 256) : Value) = byten (x / 65536 % 256) := by unfold byten; congr 1 <;> omega
        exact ⟨⟨k + 1, by omega, by go_num, Lib.hid (by rw [hval, set_h HGk.out, HSET.out _ HD.out]), hfr.setCell (fun _ => rfl) _⟩, by simp [intOf]; omega⟩
      · have hr : (k : Int) % 4 = 2 := by omega
        have hd : (outs S)[k]? = some (x / 256 % 256) := by rw [HOUT.out, h]
        have HD := Lib.hid hd
        clear h hd
        go_wp2_with fail
        have hval : (.int .u8 ((x : Int) / 256 % 256) : Value) = byten (x / 256 % 256) := by unfold byten; congr 1 <;> omega
        exact ⟨⟨k + 1, by omega, by go_num, Lib.hid (by rw [hval, set_h HGk.out, HSET.out _ HD.out]), hfr.setCell (fun _ => rfl) _⟩, by simp [intOf]; omega⟩
      · have hr : (k : Int) % 4 = 3 := by omega
        have hd : (outs S)[k]? = some (x / 1 % 256) := by rw [HOUT.out, h]
        have HD := Lib.hid hd
        clear h hd
        go_wp2_with fail
        have hval : (.int .u8 ((x : Int) % 256) : Value) = byten (x / 1 % 256) := by unfold byten; congr 1 <;> omega
        exact ⟨⟨k + 1, by omega, by go_num, Lib.hid (by rw [hval, set_h HGk.out, HSET.out _ HD.out]), hfr.setCell (fun _ => rfl) _⟩, by simp [intOf]; omega⟩
    · obtain rfl : k = 32 := by omega
      go_wp2_with fail
      exact hexit _ _ _ _ _ _ _ _ _ _ _ _ _ _ _ _ _ _ HGk hfr
end Go.Proofs.YtjjeahijcibafaaDoor
