/-
  The schedule's loop of layer 4's reference Of, as a theorem of its own (written by gen_sched.py).
-/
import Derived.Test.YtjjeahijcibafaaDoorShaT
import Derived.Test.YtjjeahijcibafaaDoorCut
import Derived.Test.YtjjeahijcibafaaDoorApp
import Derived.Deep.DrawnRows
import Derived.Deep.RegionHeld3
namespace Go.Proofs.YtjjeahijcibafaaDoor
open Go.RowKit ShaM Mem Go.Lib
attribute [local go_sem ↓] Go.wp_at_zero Go.wp_at_succ
set_option linter.unusedVariables false

theorem own_lo {w : World} {base g : Nat} {e : TypeId} {n c : Nat} {xs : List Value} (h : w.ownsRow base e 1 (.slice (some ⟨g, 0, none⟩) n c) n xs) : base ≤ g := (h.lt g rfl).1

theorem cell_one_new' (w : World) (x : Value) (t : TypeId) : (w.alloc (.cells #[x] t)).cell? ⟨w.heap.size, 0, none⟩ = some x := by
  simp

set_option maxRecDepth 1000000 in
noncomputable def schedBody : Code := ((Tryd.f16.body.bind (loopAt 26)).getD .skip)

set_option maxRecDepth 1000000 in
set_option maxHeartbeats 6400000 in
theorem sched_loop (Q0 : Exit → Act → World → Prop) (s0 s1 s2 s3 s4 s5 s6 s8 s9 s10 s14 s15 s16 s17 s18 s19 s20 s21 s22 s23 s24 s25 s26 s27 s28 s29 s30 s31 s32 s33 s34 s35 s36 s37 s38 s39 s40 s41 s42 s43 s44 s45 s46 s47 s48 s49 s50 s51 s52 s53 s54 s55 s56 s57 s58 s59 s60 s61 s62 s63 s64 s65 s66 s67 s68 s69 s70 s71 s72 s73 s74 s75 s76 s77 s78 s79 s80 s81 s82 s83 s84 s85 s86 s87 s88 s89 s90 s91 s92 s93 s94 s95 s96 s97 s98 s99 s100 s101 s102 s103 s104 s105 s106 s107 s108 s109 s110 s111 s112 s113 s114 s115 s116 s117 s118 s119 s120 s121 s122 s123 s124 s125 s126 s127 s128 s129 s130 s131 s132 s133 s134 s135 s136 s137 s138 s139 s140 s141 s142 s143 s144 s145 s146 s147 s148 s149 s150 s151 s152 s153 s154 s155 s156 s157 s158 s159 s160 s161 s162 s163 s164 s165 s166 s167 s168 s169 s170 s171 s172 s173 s174 s175 s176 s177 s178 s179 s180 s181 s182 s183 s184 s185 s186 s187 s188 s189 s190 s191 s192 s193 s194 s195 s196 s197 s198 s199 s200 s201 s202 s203 s204 s205 s206 s207 s208 s209 s210 s211 s212 s213 s214 s215 s216 s217 s218 s219 s220 s221 s222 s223 s224 s225 s226 s227 s228 s229 s230 s231 s232 s233 s234 s235 s236 s237 s238 s239 s240 s241 s242 s243 s244 s245 s246 s247 s248 s249 s250 s251 s252 s253 s254 s255 s256 s257 s258 s259 s260 s261 s262 s263 s264 s265 s266 s267 s268 s269 s270 s271 s272 s273 s274 s275 s276 s277 s278 s279 s280 s281 s282 s283 s284 s285 : Value) (A5 : Option Addr) (c5 T t : Nat) (Q Bk : List Nat) (wc : World) (hT2 : T ≤ 20000) (ht64 : t + 64 ≤ 64 * T)
    (hlQ : Q.length = 64 * T) (HQB : Hid (∀ b ∈ Q, b < 256)) (HBG : Hid (∀ i, i < 64 → Bk[i]? = Q[t + i]?)) (HBB : Hid (∀ b ∈ Bk, b < 256)) (HRQ : Hid (Rd wc A5 (64 * T) (Q.map byten)))
    (hexit : ∀ (A' : Option Addr) (c' : Nat) (w'' : World) (r14 r15 r16 r17 r69 r70 r71 r72 r73 r74 r75 r76 r77 r78 r79 r80 r81 r82 r83 r84 r85 r86 r87 r88 r89 r90 r91 r92 r93 r94 r95 r96 r97 r98 r99 r100 r101 r102 r103 r104 r105 r106 r107 r108 r109 r110 r111 r112 r113 r114 r115 r116 r117 r118 r119 r120 r121 r122 r123 r124 r125 r126 r127 r128 r129 r130 r131 r132 r133 r134 r135 r136 r137 : Value), Hid (OwnW w'' wc.heap.size A' c' (sched Bk 64)) → Fr (fun _ => False) wc w'' → Q0 (.exit 6) ⟨List.toArray (s0 :: s1 :: s2 :: s3 :: s4 :: s5 :: s6 :: .slice A5 (64 * T) c5 :: s8 :: s9 :: s10 :: .int .i64 (t : Int) :: .slice A' 64 c' :: .int .i64 64 :: r14 :: r15 :: r16 :: r17 :: s18 :: s19 :: s20 :: s21 :: s22 :: s23 :: s24 :: s25 :: s26 :: s27 :: s28 :: s29 :: s30 :: s31 :: s32 :: s33 :: s34 :: s35 :: s36 :: s37 :: s38 :: s39 :: s40 :: s41 :: s42 :: s43 :: s44 :: s45 :: s46 :: s47 :: s48 :: s49 :: s50 :: s51 :: s52 :: s53 :: s54 :: s55 :: s56 :: s57 :: s58 :: s59 :: s60 :: s61 :: s62 :: s63 :: s64 :: s65 :: s66 :: s67 :: s68 :: r69 :: r70 :: r71 :: r72 :: r73 :: r74 :: r75 :: r76 :: r77 :: r78 :: r79 :: r80 :: r81 :: r82 :: r83 :: r84 :: r85 :: r86 :: r87 :: r88 :: r89 :: r90 :: r91 :: r92 :: r93 :: r94 :: r95 :: r96 :: r97 :: r98 :: r99 :: r100 :: r101 :: r102 :: r103 :: r104 :: r105 :: r106 :: r107 :: r108 :: r109 :: r110 :: r111 :: r112 :: r113 :: r114 :: r115 :: r116 :: r117 :: r118 :: r119 :: r120 :: r121 :: r122 :: r123 :: r124 :: r125 :: r126 :: r127 :: r128 :: r129 :: r130 :: r131 :: r132 :: r133 :: r134 :: r135 :: r136 :: r137 :: s138 :: s139 :: s140 :: s141 :: s142 :: s143 :: s144 :: s145 :: s146 :: s147 :: s148 :: s149 :: s150 :: s151 :: s152 :: s153 :: s154 :: s155 :: s156 :: s157 :: s158 :: s159 :: s160 :: s161 :: s162 :: s163 :: s164 :: s165 :: s166 :: s167 :: s168 :: s169 :: s170 :: s171 :: s172 :: s173 :: s174 :: s175 :: s176 :: s177 :: s178 :: s179 :: s180 :: s181 :: s182 :: s183 :: s184 :: s185 :: s186 :: s187 :: s188 :: s189 :: s190 :: s191 :: s192 :: s193 :: s194 :: s195 :: s196 :: s197 :: s198 :: s199 :: s200 :: s201 :: s202 :: s203 :: s204 :: s205 :: s206 :: s207 :: s208 :: s209 :: s210 :: s211 :: s212 :: s213 :: s214 :: s215 :: s216 :: s217 :: s218 :: s219 :: s220 :: s221 :: s222 :: s223 :: s224 :: s225 :: s226 :: s227 :: s228 :: s229 :: s230 :: s231 :: s232 :: s233 :: s234 :: s235 :: s236 :: s237 :: s238 :: s239 :: s240 :: s241 :: s242 :: s243 :: s244 :: s245 :: s246 :: s247 :: s248 :: s249 :: s250 :: s251 :: s252 :: s253 :: s254 :: s255 :: s256 :: s257 :: s258 :: s259 :: s260 :: s261 :: s262 :: s263 :: s264 :: s265 :: s266 :: s267 :: s268 :: s269 :: s270 :: s271 :: s272 :: s273 :: s274 :: s275 :: s276 :: s277 :: s278 :: s279 :: s280 :: s281 :: s282 :: s283 :: s284 :: s285 :: []), []⟩ w'') :
    Code.wp Tryd.prog (Code.loop schedBody) Q0 ⟨List.toArray (s0 :: s1 :: s2 :: s3 :: s4 :: s5 :: s6 :: .slice A5 (64 * T) c5 :: s8 :: s9 :: s10 :: .int .i64 (t : Int) :: .slice none 0 0 :: .int .i64 0 :: s14 :: s15 :: s16 :: s17 :: s18 :: s19 :: s20 :: s21 :: s22 :: s23 :: s24 :: s25 :: s26 :: s27 :: s28 :: s29 :: s30 :: s31 :: s32 :: s33 :: s34 :: s35 :: s36 :: s37 :: s38 :: s39 :: s40 :: s41 :: s42 :: s43 :: s44 :: s45 :: s46 :: s47 :: s48 :: s49 :: s50 :: s51 :: s52 :: s53 :: s54 :: s55 :: s56 :: s57 :: s58 :: s59 :: s60 :: s61 :: s62 :: s63 :: s64 :: s65 :: s66 :: s67 :: s68 :: s69 :: s70 :: s71 :: s72 :: s73 :: s74 :: s75 :: s76 :: s77 :: s78 :: s79 :: s80 :: s81 :: s82 :: s83 :: s84 :: s85 :: s86 :: s87 :: s88 :: s89 :: s90 :: s91 :: s92 :: s93 :: s94 :: s95 :: s96 :: s97 :: s98 :: s99 :: s100 :: s101 :: s102 :: s103 :: s104 :: s105 :: s106 :: s107 :: s108 :: s109 :: s110 :: s111 :: s112 :: s113 :: s114 :: s115 :: s116 :: s117 :: s118 :: s119 :: s120 :: s121 :: s122 :: s123 :: s124 :: s125 :: s126 :: s127 :: s128 :: s129 :: s130 :: s131 :: s132 :: s133 :: s134 :: s135 :: s136 :: s137 :: s138 :: s139 :: s140 :: s141 :: s142 :: s143 :: s144 :: s145 :: s146 :: s147 :: s148 :: s149 :: s150 :: s151 :: s152 :: s153 :: s154 :: s155 :: s156 :: s157 :: s158 :: s159 :: s160 :: s161 :: s162 :: s163 :: s164 :: s165 :: s166 :: s167 :: s168 :: s169 :: s170 :: s171 :: s172 :: s173 :: s174 :: s175 :: s176 :: s177 :: s178 :: s179 :: s180 :: s181 :: s182 :: s183 :: s184 :: s185 :: s186 :: s187 :: s188 :: s189 :: s190 :: s191 :: s192 :: s193 :: s194 :: s195 :: s196 :: s197 :: s198 :: s199 :: s200 :: s201 :: s202 :: s203 :: s204 :: s205 :: s206 :: s207 :: s208 :: s209 :: s210 :: s211 :: s212 :: s213 :: s214 :: s215 :: s216 :: s217 :: s218 :: s219 :: s220 :: s221 :: s222 :: s223 :: s224 :: s225 :: s226 :: s227 :: s228 :: s229 :: s230 :: s231 :: s232 :: s233 :: s234 :: s235 :: s236 :: s237 :: s238 :: s239 :: s240 :: s241 :: s242 :: s243 :: s244 :: s245 :: s246 :: s247 :: s248 :: s249 :: s250 :: s251 :: s252 :: s253 :: s254 :: s255 :: s256 :: s257 :: s258 :: s259 :: s260 :: s261 :: s262 :: s263 :: s264 :: s265 :: s266 :: s267 :: s268 :: s269 :: s270 :: s271 :: s272 :: s273 :: s274 :: s275 :: s276 :: s277 :: s278 :: s279 :: s280 :: s281 :: s282 :: s283 :: s284 :: s285 :: []), []⟩ wc := by
  conv => arg 2; arg 1; whnf
  go_loopw [12, 13] (fun v i wr => ∃ (k : Nat) (A' : Option Addr) (c' : Nat), k ≤ 64 ∧ i = .int .i64 (k : Int) ∧ v = .slice A' k c' ∧ Hid (OwnW wr wc.heap.size A' c' (sched Bk k)) ∧ Fr (fun _ => False) wc wr)
    (fun _ i _ => 64 - (intOf i).toNat)
  case atStart => exact ⟨0, none, 0, by omega, rfl, rfl, OwnW.nil _ _, Fr.refl _ _⟩
  case round =>
    obtain ⟨k, A9, c9, hk64, rfl, rfl, HW, hfr⟩ := hrel
    have hszW := hfr.size
    by_cases hk : k < 64
    · by_cases hk16 : k < 16
      · obtain ⟨Lk, hLk⟩ : ∃ Lk, Lk = (Bk.drop (4 * k)).take 4 := ⟨_, rfl⟩
        have hLkb : ∀ b ∈ Lk, b < 256 := fun b hb => HBB.out b (List.mem_of_mem_drop (List.mem_of_mem_take (hLk ▸ hb)))
        have hLkg : ∀ m, m < 4 → Lk[m]? = Q[t + 4 * k + m]? := by
          intro m hm
          rw [hLk, List.getElem?_take, if_pos hm, List.getElem?_drop, HBG.out _ (by omega), Nat.add_assoc]
        have hnew : sched Bk (k + 1) = sched Bk k ++ [be4 (Lk.take 4)] := by
          rw [sched, if_pos hk16, hLk, List.take_take, Nat.min_self]
        have HLB := Lib.hid hLkb
        have HLG := Lib.hid hLkg
        have HNW := Lib.hid hnew
        have HQR := Lib.hid (HRQ.out.fr hfr (fun _ _ h => h))
        have HFR := Lib.hid hfr
        rename World => wd
        clear hLk hLkb hLkg hnew hfr
        go_wp2_with fail
        go_loop [14, 15] (fun x i => ∃ m y : Nat, m ≤ 4 ∧ i = .int .i64 (m : Int) ∧ x = .int .u32 (y : Int) ∧ y < 4294967296 ∧ Hid (y = be4 (Lk.take m))) (fun _ i => 4 - (intOf i).toNat)
        case atStart => exact ⟨0, 0, by omega, rfl, rfl, by omega, rfl⟩
        case round =>
          obtain ⟨m, y, hm, rfl, rfl, hy, Hy⟩ := hrel
          by_cases hm4 : m < 4
          · have hidx : t + 4 * k + m < Q.length := by omega
            rw [hlQ] at hidx
            obtain ⟨ad, v, rfl, hv, hcell⟩ := HQR.out.at_ hidx
            obtain ⟨d, hd⟩ : ∃ d, Q[t + 4 * k + m]? = some d := ⟨_, List.getElem?_eq_getElem (by rw [hlQ]; exact hidx)⟩
            obtain rfl : byten d = v := by simpa [hd] using hv
            unfold byten at hcell
            have hd256 := HQB.out d (List.mem_of_getElem? hd)
            have hylt : y < 16777216 := by
              have h1 := be4_take_lt Lk HLB.out m
              rw [← Hy.out] at h1
              have h2 := Nat.pow_le_pow_right (show 0 < 256 by omega) (show m ≤ 3 by omega)
              omega
            have hst : y * 256 + d = be4 (Lk.take (m + 1)) := by
              rw [List.take_add_one, HLG.out m hm4, hd]
              simp only [Option.toList_some]
              rw [be4_snoc, ← Hy.out]
            have HST := Lib.hid hst
            clear hv hd hst
            go_wp2
            go_round
            case rel => exact ⟨m + 1, y * 256 + d, by omega, by go_num, by congr 1, by omega, HST.out⟩
            case measure => simp [intOf] <;> omega
          · have hy4 : y = be4 (Lk.take 4) := by rw [Hy.out, show m = 4 from by omega]
            have hrow := HW.out.row (sched_len Bk k)
            have HY4 := Lib.hid hy4
            clear hy4
            go_wp2_with (at_builtin; refine wpList_app u32T _ rfl _ _ rfl wc.heap.size _ _ _ rfl (hrow.alloc _) _ _ _ _ rfl (Rd.one _ _ _) (one_one _ _) (by unfold maxLen; omega) (by omega) (by simp; omega) ?_)
            intro A10 c10 w10 _ _ hown10 hfr10 _
            have ho10 := OwnW.of_row (E := sched Bk (k + 1)) hown10 (sched_len Bk k) (y := y) rfl (by rw [HNW.out, ← HY4.out])
            have hf10 : Fr (fun _ => False) wc w10 := (HFR.out.alloc _).trans hfr10 (fun b hb h => by rw [bl_own] at h; have := HW.out.blk _ h; omega)
            have HO10 := Lib.hid ho10
            clear hrow hown10 hfr10 ho10
            go_wp2
            go_roundw
            case rel => exact ⟨k + 1, A10, c10, by omega, by go_num, rfl, HO10, hf10⟩
            case measure => simp [intOf] <;> omega
      · have hWl := sched_len Bk k
        have hWb := sched_lt HBB.out k
        obtain ⟨W, hW⟩ : ∃ W, W = sched Bk k := ⟨_, rfl⟩
        rw [← hW] at hWl hWb HW
        have hnew : sched Bk (k + 1) = W ++ [wn W] := by rw [sched, if_neg hk16, ← hW]
        obtain ⟨i16, hi16⟩ : ∃ i, i = k - 16 := ⟨_, rfl⟩
        obtain ⟨i15, hi15⟩ : ∃ i, i = k - 15 := ⟨_, rfl⟩
        obtain ⟨i7, hi7⟩ : ∃ i, i = k - 7 := ⟨_, rfl⟩
        obtain ⟨i2, hi2⟩ : ∃ i, i = k - 2 := ⟨_, rfl⟩
        have w16 : IntKind.i64.wrap ((k : Int) - 16) = (i16 : Int) := by rw [IntWalk.i64_in _ (by omega)]; omega
        have w15 : IntKind.i64.wrap ((k : Int) - 15) = (i15 : Int) := by rw [IntWalk.i64_in _ (by omega)]; omega
        have w7' : IntKind.i64.wrap ((k : Int) - 7) = (i7 : Int) := by rw [IntWalk.i64_in _ (by omega)]; omega
        have w2' : IntKind.i64.wrap ((k : Int) - 2) = (i2 : Int) := by rw [IntWalk.i64_in _ (by omega)]; omega
        have l16 : i16 < k := by omega
        have l15 : i15 < k := by omega
        have l7 : i7 < k := by omega
        have l2 : i2 < k := by omega
        obtain ⟨x16, h16⟩ : ∃ x, W[i16]? = some x := ⟨_, List.getElem?_eq_getElem (by omega)⟩
        obtain ⟨p, h15⟩ : ∃ x, W[i15]? = some x := ⟨_, List.getElem?_eq_getElem (by omega)⟩
        obtain ⟨x7, h7⟩ : ∃ x, W[i7]? = some x := ⟨_, List.getElem?_eq_getElem (by omega)⟩
        obtain ⟨q, h2⟩ : ∃ x, W[i2]? = some x := ⟨_, List.getElem?_eq_getElem (by omega)⟩
        have hp32 := hWb p (List.mem_of_getElem? h15)
        have hq32 := hWb q (List.mem_of_getElem? h2)
        obtain ⟨y1, y2, z1, z2, y3, y4, z3, e1, e2, e3, e4, e5, e6, e7, e8⟩ := wn_facts W x16 p x7 q (getD_some (by rw [hWl, ← hi16]; exact h16)) (getD_some (by rw [hWl, ← hi15]; exact h15)) (getD_some (by rw [hWl, ← hi7]; exact h7)) (getD_some (by rw [hWl, ← hi2]; exact h2)) hp32 hq32
        rw [← e8] at hnew
        obtain ⟨g9, hg9, hc16, _⟩ := own_at HW.out (i := i16) (u := num32 x16) (by simp [h16])
        obtain ⟨g9a, hg9a, hc15, _⟩ := own_at HW.out (i := i15) (u := num32 p) (by simp [h15])
        obtain ⟨g9b, hg9b, hc7, _⟩ := own_at HW.out (i := i7) (u := num32 x7) (by simp [h7])
        obtain ⟨g9c, hg9c, hc2, _⟩ := own_at HW.out (i := i2) (u := num32 q) (by simp [h2])
        subst hg9
        obtain rfl : g9 = g9a := by injection hg9a with h; injection h
        obtain rfl : g9 = g9b := by injection hg9b with h; injection h
        obtain rfl : g9 = g9c := by injection hg9c with h; injection h
        unfold num32 at hc16 hc15 hc7 hc2
        have hk16g := Lib.hid (show (W.map num32)[i16]? = some (.int .u32 (x16 : Int)) by rw [List.getElem?_map, h16]; rfl)
        have hk7g := Lib.hid (show (W.map num32)[i7]? = some (.int .u32 (x7 : Int)) by rw [List.getElem?_map, h7]; rfl)
        have HNW := Lib.hid hnew
        have HWL := Lib.hid hWl
        have HFR := Lib.hid hfr
        rename World => wd
        have HC := Lib.hid (show wd.drew.cell? ⟨g9, i16, none⟩ = some (.int .u32 (x16 : Int)) ∧ wd.drew.cell? ⟨g9, i7, none⟩ = some (.int .u32 (x7 : Int)) from ⟨hc16, hc7⟩)
        clear hW hWl hWb hnew hi16 hi15 hi7 hi2 h16 h15 h7 h2 e8 hg9a hg9b hg9c hfr hc16 hc7
        go_wp2_with fail
        go_still (by kernel_rfl)
        go_wp2_with fail
        change Code.wp _ _ _ _ wd.drew
        have HFD := Lib.hid HFR.out.drew
        have HWD : Hid (OwnW wd.drew wc.heap.size (some ⟨g9, 0, none⟩) c9 W) := HW.out
        have hszd : wc.heap.size ≤ wd.drew.heap.size := hszW
        obtain ⟨we, hwe⟩ : ∃ we, wd.drew = we := ⟨_, rfl⟩
        rw [hwe] at HC HFD HWD hszd ⊢
        obtain ⟨hc16, hc7⟩ := HC.out
        clear hc15 hc2 hwe HW HFR HC hszW
        have hrow := HWD.out.row HWL.out
        have HROW := Lib.hid hrow
        clear hrow HWD
        go_region_held3 (fun w' => w'.cell? ⟨g9, i16, none⟩ = some (.int .u32 (x16 : Int)) ∧ w'.cell? ⟨g9, i7, none⟩ = some (.int .u32 (x7 : Int)))
          (first | go_keep | exact ⟨hkeep _ _ hk16g.out, hkeep _ _ hk7g.out⟩)
          (first
            | ((with_reducible refine (tu7 p _ hp32).mono ?_); rintro e w' ⟨rfl, rfl⟩)
            | ((with_reducible refine (tu18 p _ hp32).mono ?_); rintro e w' ⟨rfl, rfl⟩)
            | ((with_reducible refine (sf3 p _ hp32).mono ?_); rintro e w' ⟨rfl, rfl⟩)
            | ((with_reducible refine (tu17 q _ hq32).mono ?_); rintro e w' ⟨rfl, rfl⟩)
            | ((with_reducible refine (tu19 q _ hq32).mono ?_); rintro e w' ⟨rfl, rfl⟩)
            | ((with_reducible refine (sf10 q _ hq32).mono ?_); rintro e w' ⟨rfl, rfl⟩)
            | (refine step_app_keep u32T _ (by rfl) _ _ (by rfl) wc.heap.size g9 k c9 (W.map num32) (by rfl) (HROW.out.alloc _) _ _ _ (by rfl) (cell_one_new' _ _ _) (by rfl) (k + 1) rfl (by unfold maxLen; omega) (by omega) (by simp; omega) ?_; intro A10 c10 w10 hown10 hfr10 hkeep))
        have ho10 := OwnW.of_row (E := sched Bk (k + 1)) hown10 HWL.out (y := z3) rfl HNW.out
        have hf10 : Fr (fun _ => False) wc w10 := (HFD.out.alloc _).drew.trans hfr10 (fun b hb h => by have := own_lo HROW.out; omega)
        have HO10 := Lib.hid ho10
        have HF10 := Lib.hid hf10
        clear hown10 hfr10 hkeep ho10 hf10 HROW HFD hc16 hc7 e1 e2 e3 e4 e5 e6 e7
        go_wp2_with fail
        go_roundw
        case rel => exact ⟨k + 1, A10, c10, by omega, by go_num, rfl, HO10, HF10.out⟩
        case measure => simp [intOf] <;> omega
    · obtain rfl : k = 64 := by omega
      go_wp2_with fail
      exact hexit _ _ _ _ _ _ _ _ _ _ _ _ _ _ _ _ _ _ _ _ _ _ _ _ _ _ _ _ _ _ _ _ _ _ _ _ _ _ _ _ _ _ _ _ _ _ _ _ _ _ _ _ _ _ _ _ _ _ _ _ _ _ _ _ _ _ _ _ _ _ _ _ _ _ _ _ HW hfr
end Go.Proofs.YtjjeahijcibafaaDoor
