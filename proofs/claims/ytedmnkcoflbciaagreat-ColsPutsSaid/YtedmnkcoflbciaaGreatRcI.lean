/-
  Layer 19, the reference's Put: the loop over the ops (written by gen_round.py).
-/
import Derived.Test.YtedmnkcoflbciaaGreatRcD
import Derived.Test.YtedmnkcoflbciaaGreatRcE
import Derived.Test.YtedmnkcoflbciaaGreatZm49
import Derived.Test.YtedmnkcoflbciaaGreatOpE
import Derived.WalkMore
namespace Go.Proofs.YtedmnkcoflbciaaGreat
open Go.RowKit Mem Go.Lib LebM UtfM VaM OpM AcM RleM CsM
attribute [local go_sem ↓] Go.wp_at_zero Go.wp_at_succ
set_option linter.unusedVariables false

theorem flat9 {α β γ : Type} (f : α → β) (g : β → List γ) (l : List α) (x : α) : ((l ++ [x]).map f).flatMap g = (l.map f).flatMap g ++ g (f x) := by simp
theorem map9 {α β : Type} (f : α → β) (l : List α) (x : α) : (l ++ [x]).map f = l.map f ++ [f x] := by simp
theorem prs9 (l : List O) (o : O) : prs (l ++ [o]) = prs l ++ o.pr := by simp [prs]
theorem wordSz9 : (Tryz.prog.info? 80).map (·.size) = some 2 := by kernel_rfl
/-- blocks that aren't the rows' are turned -/
theorem ShL.byD {st : TypeId} {w w' : World} {base g : Nat} {D : Nat → Prop} {V : List Value} {R : List Rw} (h : ShL st w base g D V R) (hf : Fr D w w') : ShL st w' base g D V R :=
  ⟨h.row.fr hf (fun hd => (h.far g hd).1 rfl), fun r hr => hf.own (h.all r hr) (fun k hk hd => (h.far k hd).2 r hr hk), h.sep, h.off, h.base, h.far, fun k hk => Nat.lt_of_lt_of_le (h.lt k hk) hf.size⟩
set_option maxRecDepth 1000000 in
noncomputable def rputLBody : Code := ((Tryz.f12.body.bind (loopAt 8)).getD .skip)
/-- the sheet of the reference, by ops -/
def Rsh (w : World) (g k m : Nat) (T : List Tx) (l : List O) (A0 A1 A2 A3 A6 A9 A10 A11 A12 A13 A14 : Option Addr) (c0 c1 c2 c3 c6 c9 c10 c11 c12 c13 c14 : Nat) : Prop :=
  ShL 75 w g g (fun _ => False) [.slice A0 k c0, .slice A1 k c1, .slice A2 k c2, .slice A3 k c3, .slice none 0 0, .slice none 0 0, .slice A6 k c6, .slice none 0 0, .slice none 0 0, .slice A9 k c9, .slice A10 m c10, .slice A11 m c11] [⟨⟨77, 2, k, (l.map (fun o => CsM.oneA T o.obj)).flatMap (ccells nv)⟩, A0, c0⟩, ⟨⟨77, 2, k, (l.map (fun o => CsM.oneC o.obj)).flatMap (ccells nv)⟩, A1, c1⟩, ⟨⟨77, 2, k, (l.map (fun o => CsM.oneA T o.elem)).flatMap (ccells nv)⟩, A2, c2⟩, ⟨⟨77, 2, k, (l.map CsM.keyC).flatMap (ccells nv)⟩, A3, c3⟩, ⟨ctC [], none, 0⟩, ⟨ctC [], none, 0⟩, ⟨⟨77, 2, k, (l.map (fun o => ((true, o.act) : C))).flatMap (ccells nv)⟩, A6, c6⟩, ⟨ctC [], none, 0⟩, ⟨ctC [], none, 0⟩, ⟨⟨77, 2, k, (l.map CsM.numC).flatMap (ccells nv)⟩, A9, c9⟩, ⟨ctC ((prs l).map (CsM.oneA T)), A10, c10⟩, ⟨ctC ((prs l).map CsM.oneC), A11, c11⟩, ⟨⟨80, 2, k, (l.map CsM.keyT).flatMap (ccells sv)⟩, A12, c12⟩, ⟨⟨4, 1, k, l.map fun o => boc o.ins⟩, A13, c13⟩, ⟨⟨52, 4, k, (l.map O.val).flatMap vls⟩, A14, c14⟩]
set_option maxRecDepth 1000000 in
set_option maxHeartbeats 25600000 in
theorem rputL_loop (Q0 : Exit → Act → World → Prop) (s2 s3 s4 s10 s11 s12 s13 s14 s15 s16 s17 s18 s19 s20 s21 s22 s23 s24 s25 s26 s27 s28 s29 s30 s31 s32 s33 s34 s35 s36 s37 s38 s39 s40 s41 s42 s43 s44 s45 s46 s47 s48 s49 s50 s51 s52 s53 s54 s55 s56 s57 s58 s59 s60 s61 s62 s63 s64 s65 s66 s67 s68 s69 s70 s71 s72 s73 s74 s75 s76 s77 s78 s79 s80 s81 s82 s83 s84 s85 s86 s87 s88 s89 s90 s91 s92 s93 s94 s95 s96 s97 s98 s99 s100 s101 s102 s103 s104 s105 s106 s107 s108 s109 s110 s111 s112 s113 s114 s115 s116 s117 s118 s119 s120 s121 s122 s123 s124 s125 s126 s127 s128 s129 s130 s131 s132 s133 s134 s135 s136 s137 s138 s139 s140 s141 s142 s143 s144 s145 s146 s147 s148 s149 s150 s151 s152 s153 s154 s155 s156 s157 s158 s159 s160 s161 s162 s163 s164 s165 s166 s167 s168 s169 s170 s171 s172 s173 s174 s175 s176 s177 s178 s179 s180 s181 s182 s183 s184 s185 s186 s187 s188 s189 s190 s191 s192 s193 s194 s195 s196 s197 s198 s199 s200 s201 s202 s203 s204 s205 s206 s207 s208 s209 s210 s211 s212 s213 s214 s215 s216 s217 s218 s219 s220 s221 s222 s223 s224 s225 s226 s227 s228 s229 s230 s231 s232 s233 s234 s235 s236 s237 s238 s239 s240 s241 s242 s243 s244 s245 : Value) (wc : World) (g nT cT n2 cO : Nat) (AT AO : Option Addr) (T : List Tx) (L : List Om)
    (hG : Hid (Row wc g 75 (List.replicate 12 (.slice none 0 0)))) (hfit : Hid (Fit T (L.map Om.o))) (hln : Hid (L.length = n2)) (hsh : Hid (∀ x ∈ L, x.short)) (hnT : nT ≤ 1000000000)
    (HL : Hid (∀ w', Fr (fun k => g ≤ k) wc w' → Ops w' AO n2 L ∧ Rd w' AT nT (T.map tc)))
    (hexit : ∀ (A0 A1 A2 A3 A6 A9 A10 A11 A12 A13 A14 : Option Addr) (c0 c1 c2 c3 c6 c9 c10 c11 c12 c13 c14 : Nat) (w'' : World) (r10 r11 r12 r13 r14 r15 r16 r17 r23 r24 r25 r26 r27 r28 r29 r30 r31 r32 r33 r34 r35 r36 r37 r38 r39 r40 r41 r42 r43 r44 r45 r46 r47 r48 r49 r50 r51 r52 r53 r54 r55 r56 r57 r58 r59 r60 r61 r62 r63 r64 r65 r66 r67 r68 r69 r70 r71 r72 r73 r74 r75 r76 r77 r78 r79 r80 r81 r82 r83 r84 r85 r86 r87 r88 r89 r90 r91 r92 r93 r94 r95 r96 r97 r98 r99 r100 r101 r102 r103 r104 r105 r106 r107 r108 r109 r110 r111 r112 r113 r114 r115 r116 r117 r118 r119 r120 r121 r122 r123 r124 r125 r126 r127 r128 r129 r130 r131 r132 r133 r134 r135 r136 r137 r138 r139 r140 r141 r142 r143 r144 r145 r146 r147 r148 r149 r150 r151 r152 r153 r154 r155 r156 r157 r158 r159 r160 r161 r162 r163 r164 r165 r166 r167 r168 r169 r170 : Value), Hid (Rsh w'' g n2 (prs (L.map Om.o)).length T (L.map Om.o) A0 A1 A2 A3 A6 A9 A10 A11 A12 A13 A14 c0 c1 c2 c3 c6 c9 c10 c11 c12 c13 c14) → Hid (Fr (fun k => g ≤ k) wc w'') → Q0 (.exit 0) ⟨List.toArray (.slice AT nT cT :: .slice AO n2 cO :: s2 :: s3 :: s4 :: .pointer (some ⟨g, 0, none⟩) :: .slice A12 n2 c12 :: .slice A13 n2 c13 :: .slice A14 n2 c14 :: .int .i64 (n2 : Int) :: r10 :: r11 :: r12 :: r13 :: r14 :: r15 :: r16 :: r17 :: s18 :: s19 :: s20 :: s21 :: s22 :: r23 :: r24 :: r25 :: r26 :: r27 :: r28 :: r29 :: r30 :: r31 :: r32 :: r33 :: r34 :: r35 :: r36 :: r37 :: r38 :: r39 :: r40 :: r41 :: r42 :: r43 :: r44 :: r45 :: r46 :: r47 :: r48 :: r49 :: r50 :: r51 :: r52 :: r53 :: r54 :: r55 :: r56 :: r57 :: r58 :: r59 :: r60 :: r61 :: r62 :: r63 :: r64 :: r65 :: r66 :: r67 :: r68 :: r69 :: r70 :: r71 :: r72 :: r73 :: r74 :: r75 :: r76 :: r77 :: r78 :: r79 :: r80 :: r81 :: r82 :: r83 :: r84 :: r85 :: r86 :: r87 :: r88 :: r89 :: r90 :: r91 :: r92 :: r93 :: r94 :: r95 :: r96 :: r97 :: r98 :: r99 :: r100 :: r101 :: r102 :: r103 :: r104 :: r105 :: r106 :: r107 :: r108 :: r109 :: r110 :: r111 :: r112 :: r113 :: r114 :: r115 :: r116 :: r117 :: r118 :: r119 :: r120 :: r121 :: r122 :: r123 :: r124 :: r125 :: r126 :: r127 :: r128 :: r129 :: r130 :: r131 :: r132 :: r133 :: r134 :: r135 :: r136 :: r137 :: r138 :: r139 :: r140 :: r141 :: r142 :: r143 :: r144 :: r145 :: r146 :: r147 :: r148 :: r149 :: r150 :: r151 :: r152 :: r153 :: r154 :: r155 :: r156 :: r157 :: r158 :: r159 :: r160 :: r161 :: r162 :: r163 :: r164 :: r165 :: r166 :: r167 :: r168 :: r169 :: r170 :: s171 :: s172 :: s173 :: s174 :: s175 :: s176 :: s177 :: s178 :: s179 :: s180 :: s181 :: s182 :: s183 :: s184 :: s185 :: s186 :: s187 :: s188 :: s189 :: s190 :: s191 :: s192 :: s193 :: s194 :: s195 :: s196 :: s197 :: s198 :: s199 :: s200 :: s201 :: s202 :: s203 :: s204 :: s205 :: s206 :: s207 :: s208 :: s209 :: s210 :: s211 :: s212 :: s213 :: s214 :: s215 :: s216 :: s217 :: s218 :: s219 :: s220 :: s221 :: s222 :: s223 :: s224 :: s225 :: s226 :: s227 :: s228 :: s229 :: s230 :: s231 :: s232 :: s233 :: s234 :: s235 :: s236 :: s237 :: s238 :: s239 :: s240 :: s241 :: s242 :: s243 :: s244 :: s245 :: []), []⟩ w'') :
    Code.wp Tryz.prog (Code.loop rputLBody) Q0 ⟨List.toArray (.slice AT nT cT :: .slice AO n2 cO :: s2 :: s3 :: s4 :: .pointer (some ⟨g, 0, none⟩) :: .slice none 0 0 :: .slice none 0 0 :: .slice none 0 0 :: .int .i64 0 :: s10 :: s11 :: s12 :: s13 :: s14 :: s15 :: s16 :: s17 :: s18 :: s19 :: s20 :: s21 :: s22 :: s23 :: s24 :: s25 :: s26 :: s27 :: s28 :: s29 :: s30 :: s31 :: s32 :: s33 :: s34 :: s35 :: s36 :: s37 :: s38 :: s39 :: s40 :: s41 :: s42 :: s43 :: s44 :: s45 :: s46 :: s47 :: s48 :: s49 :: s50 :: s51 :: s52 :: s53 :: s54 :: s55 :: s56 :: s57 :: s58 :: s59 :: s60 :: s61 :: s62 :: s63 :: s64 :: s65 :: s66 :: s67 :: s68 :: s69 :: s70 :: s71 :: s72 :: s73 :: s74 :: s75 :: s76 :: s77 :: s78 :: s79 :: s80 :: s81 :: s82 :: s83 :: s84 :: s85 :: s86 :: s87 :: s88 :: s89 :: s90 :: s91 :: s92 :: s93 :: s94 :: s95 :: s96 :: s97 :: s98 :: s99 :: s100 :: s101 :: s102 :: s103 :: s104 :: s105 :: s106 :: s107 :: s108 :: s109 :: s110 :: s111 :: s112 :: s113 :: s114 :: s115 :: s116 :: s117 :: s118 :: s119 :: s120 :: s121 :: s122 :: s123 :: s124 :: s125 :: s126 :: s127 :: s128 :: s129 :: s130 :: s131 :: s132 :: s133 :: s134 :: s135 :: s136 :: s137 :: s138 :: s139 :: s140 :: s141 :: s142 :: s143 :: s144 :: s145 :: s146 :: s147 :: s148 :: s149 :: s150 :: s151 :: s152 :: s153 :: s154 :: s155 :: s156 :: s157 :: s158 :: s159 :: s160 :: s161 :: s162 :: s163 :: s164 :: s165 :: s166 :: s167 :: s168 :: s169 :: s170 :: s171 :: s172 :: s173 :: s174 :: s175 :: s176 :: s177 :: s178 :: s179 :: s180 :: s181 :: s182 :: s183 :: s184 :: s185 :: s186 :: s187 :: s188 :: s189 :: s190 :: s191 :: s192 :: s193 :: s194 :: s195 :: s196 :: s197 :: s198 :: s199 :: s200 :: s201 :: s202 :: s203 :: s204 :: s205 :: s206 :: s207 :: s208 :: s209 :: s210 :: s211 :: s212 :: s213 :: s214 :: s215 :: s216 :: s217 :: s218 :: s219 :: s220 :: s221 :: s222 :: s223 :: s224 :: s225 :: s226 :: s227 :: s228 :: s229 :: s230 :: s231 :: s232 :: s233 :: s234 :: s235 :: s236 :: s237 :: s238 :: s239 :: s240 :: s241 :: s242 :: s243 :: s244 :: s245 :: []), []⟩ wc := by
  conv => arg 2; arg 1; whnf
  have hlen := hfit.out.len
  rw [List.length_map, hln.out] at hlen
  go_loopw [6, 7, 8, 9] (fun v6 v7 v8 v9 wr => ∃ (k : Nat) (A0 A1 A2 A3 A6 A9 A10 A11 A12 A13 A14 : Option Addr) (c0 c1 c2 c3 c6 c9 c10 c11 c12 c13 c14 : Nat), k ≤ n2 ∧ v9 = .int .i64 (k : Int) ∧ v6 = .slice A12 k c12 ∧ v7 = .slice A13 k c13 ∧ v8 = .slice A14 k c14 ∧ Hid (Rsh wr g k (prs ((L.take k).map Om.o)).length T ((L.take k).map Om.o) A0 A1 A2 A3 A6 A9 A10 A11 A12 A13 A14 c0 c1 c2 c3 c6 c9 c10 c11 c12 c13 c14) ∧ Hid (Fr (fun k => g ≤ k) wc wr)) (fun _ _ _ v _ => n2 - (intOf v).toNat)
  case atStart =>
    refine ⟨0, none, none, none, none, none, none, none, none, none, none, none, 0, 0, 0, 0, 0, 0, 0, 0, 0, 0, 0, Nat.zero_le _, rfl, rfl, rfl, rfl, ?_, Fr.refl _ _⟩
    have hnil : ∀ r ∈ (List.replicate 15 (⟨ctC [], none, 0⟩ : Rw)), True := fun _ _ => trivial
    have h : ShL 75 wc g g (fun _ => False) [.slice none 0 0, .slice none 0 0, .slice none 0 0, .slice none 0 0, .slice none 0 0, .slice none 0 0, .slice none 0 0, .slice none 0 0, .slice none 0 0, .slice none 0 0, .slice none 0 0, .slice none 0 0] [⟨⟨77, 2, 0, []⟩, none, 0⟩, ⟨⟨77, 2, 0, []⟩, none, 0⟩, ⟨⟨77, 2, 0, []⟩, none, 0⟩, ⟨⟨77, 2, 0, []⟩, none, 0⟩, ⟨⟨77, 2, 0, []⟩, none, 0⟩, ⟨⟨77, 2, 0, []⟩, none, 0⟩, ⟨⟨77, 2, 0, []⟩, none, 0⟩, ⟨⟨77, 2, 0, []⟩, none, 0⟩, ⟨⟨77, 2, 0, []⟩, none, 0⟩, ⟨⟨77, 2, 0, []⟩, none, 0⟩, ⟨⟨77, 2, 0, []⟩, none, 0⟩, ⟨⟨77, 2, 0, []⟩, none, 0⟩, ⟨⟨80, 2, 0, []⟩, none, 0⟩, ⟨⟨4, 1, 0, []⟩, none, 0⟩, ⟨⟨52, 4, 0, []⟩, none, 0⟩] := by
      refine ⟨hG.out, ?_, ?_, ?_, Nat.le_refl _, fun _ h => h.elim, fun _ h => h.elim⟩
      · intro r hr
        simp only [List.mem_cons, List.not_mem_nil, or_false] at hr
        rcases hr with rfl | rfl | rfl | rfl | rfl | rfl | rfl | rfl | rfl | rfl | rfl | rfl | rfl | rfl | rfl <;> exact World.ownsRow_nil _ _ _ _
      · simp [apartR, Rw.v, Value.ownBlock]
      · intro r hr
        simp only [List.mem_cons, List.not_mem_nil, or_false] at hr
        rcases hr with rfl | rfl | rfl | rfl | rfl | rfl | rfl | rfl | rfl | rfl | rfl | rfl | rfl | rfl | rfl <;> simp [Rw.v, Value.ownBlock]
    exact h
  case round =>
    obtain ⟨k, A0, A1, A2, A3, A6, A9, A10, A11, A12, A13, A14, c0, c1, c2, c3, c6, c9, c10, c11, c12, c13, c14, hk, rfl, rfl, rfl, rfl, HS, HF⟩ := hrel
    rename World => wr
    by_cases hlt : k < n2
    · obtain ⟨x, hx⟩ : ∃ x, L[k]? = some x := ⟨_, List.getElem?_eq_getElem (by have := hln.out; omega)⟩
      have hxm := List.mem_of_getElem? hx
      obtain ⟨bx, ox, hAO, hbx, hoat⟩ := (HL.out wr HF.out).1.1.2 k x hx
      subst hAO
      obtain ⟨q, v1, hq, hv1, hz1, hg1⟩ := new_zero wr
      have HV1 := Lib.hid hz1
      have hfo := right_parts (hfit.out.right x.o (List.mem_map.2 ⟨x, hxm, rfl⟩))
      have HXM := Lib.hid hxm
      have HP16 : Hid (x.o.pr.length ≤ 16) := Lib.hid hfo.2.2.2.2.2.1
      have HZP : Hid (∀ y ∈ x.o.pr, zeroB y = false) := Lib.hid (fun y hy => id_zero (rise_ids hfo.2.2.2.2.2.2 y hy))
      obtain ⟨l, hl⟩ : ∃ l, (L.take k).map Om.o = l := ⟨_, rfl⟩
      have hnl : (L.take (k + 1)).map Om.o = l ++ [x.o] := by rw [← hl, List.take_add_one, hx]; simp
      have hpl : (prs l).length ≤ 32016 := by rw [← hl, List.map_take]; exact (hfit.out.take k).plen
      rw [hl] at HS
      obtain ⟨m, hm⟩ : ∃ m, (prs l).length = m := ⟨_, rfl⟩
      rw [hm] at HS hpl
      have HNL := Lib.hid hnl
      have HM := Lib.hid hm
      have HQ : Hid (wr.heap.size = q) := Lib.hid hq
      have HG1 := Lib.hid hg1
      obtain ⟨d0, d1, d2, d3, d4, d5, d6, d7, d8, d9, d10, d11, d12⟩ := hoat
      clear hx hxm hfo hl hnl hm hz1 hbx
      go_wp2_with (refine store_st oSz rfl (.tmp 10) (.tmp 32) rfl q (by rfl) (ols x) (by rfl) _ _ HV1.out rfl rfl (o_one _) ?_)
      intro v2 hr2 hf2
      have HO2 : Hid (RowO v2 q x) := Lib.hid hr2
      have HF2 : Hid (Fr (fun _ => False) wr v2) := Lib.hid (HG1.out.trans hf2 (fun b hb h => by have := HQ.out; omega))
      clear hr2 hf2 d0 d1 d2 d3 d4 d5 d6 d7 d8 d9 d10 d11 d12 hv1 hq hg1
      go_upto_region 9 with fail
      obtain ⟨e0, he0⟩ : ∃ k, v2.heap.size = k := ⟨_, rfl⟩
      obtain ⟨v3, hv3⟩ : ∃ v, v2.alloc (.cells #[.bool false, .int .i64 0] 77) = v := ⟨_, rfl⟩
      have ga0 : Fr (fun _ => False) v2 v3 := by rw [← hv3]; exact (Fr.refl _ _).alloc _
      have ra0 : Row v3 e0 77 [.bool false, .int .i64 0] := by rw [← hv3, ← he0]; exact Row.new v2 _ _
      have sa0 : v3.heap.size = e0 + 1 := by rw [← hv3, ← he0]; simp
      obtain ⟨e1, he1⟩ : ∃ k, v3.heap.size = k := ⟨_, rfl⟩
      obtain ⟨v4, hv4⟩ : ∃ v, v3.alloc (.cells #[.bool false, .int .i64 0] 77) = v := ⟨_, rfl⟩
      have ga1 : Fr (fun _ => False) v3 v4 := by rw [← hv4]; exact (Fr.refl _ _).alloc _
      have ra1 : Row v4 e1 77 [.bool false, .int .i64 0] := by rw [← hv4, ← he1]; exact Row.new v3 _ _
      have sa1 : v4.heap.size = e1 + 1 := by rw [← hv4, ← he1]; simp
      obtain ⟨e2, he2⟩ : ∃ k, v4.heap.size = k := ⟨_, rfl⟩
      obtain ⟨v5, hv5⟩ : ∃ v, v4.alloc (.cells #[.bool false, .int .i64 0] 77) = v := ⟨_, rfl⟩
      have ga2 : Fr (fun _ => False) v4 v5 := by rw [← hv5]; exact (Fr.refl _ _).alloc _
      have ra2 : Row v5 e2 77 [.bool false, .int .i64 0] := by rw [← hv5, ← he2]; exact Row.new v4 _ _
      have sa2 : v5.heap.size = e2 + 1 := by rw [← hv5, ← he2]; simp
      obtain ⟨e3, he3⟩ : ∃ k, v5.heap.size = k := ⟨_, rfl⟩
      obtain ⟨v6, hv6⟩ : ∃ v, v5.alloc (.cells #[.bool false, .int .i64 0] 77) = v := ⟨_, rfl⟩
      have ga3 : Fr (fun _ => False) v5 v6 := by rw [← hv6]; exact (Fr.refl _ _).alloc _
      have ra3 : Row v6 e3 77 [.bool false, .int .i64 0] := by rw [← hv6, ← he3]; exact Row.new v5 _ _
      have sa3 : v6.heap.size = e3 + 1 := by rw [← hv6, ← he3]; simp
      obtain ⟨e4, he4⟩ : ∃ k, v6.heap.size = k := ⟨_, rfl⟩
      obtain ⟨v7, hv7⟩ : ∃ v, v6.alloc (.cells #[.bool false, .int .i64 0] 77) = v := ⟨_, rfl⟩
      have ga4 : Fr (fun _ => False) v6 v7 := by rw [← hv7]; exact (Fr.refl _ _).alloc _
      have ra4 : Row v7 e4 77 [.bool false, .int .i64 0] := by rw [← hv7, ← he4]; exact Row.new v6 _ _
      have sa4 : v7.heap.size = e4 + 1 := by rw [← hv7, ← he4]; simp
      have HE0 := Lib.hid ((((ra0.fr ga1 (fun h => h)).fr ga2 (fun h => h)).fr ga3 (fun h => h)).fr ga4 (fun h => h))
      have HE1 := Lib.hid (((ra1.fr ga2 (fun h => h)).fr ga3 (fun h => h)).fr ga4 (fun h => h))
      have HE2 := Lib.hid ((ra2.fr ga3 (fun h => h)).fr ga4 (fun h => h))
      have HE3 := Lib.hid (ra3.fr ga4 (fun h => h))
      have HE4 := Lib.hid ra4
      have HNE : Hid (q < e0 ∧ e1 = e0 + 1 ∧ e2 = e1 + 1 ∧ e3 = e2 + 1 ∧ e4 = e3 + 1 ∧ v7.heap.size = e4 + 1 ∧ wr.heap.size = q) := Lib.hid (by have h1 := HO2.out.lt; have h2 := HQ.out; omega)
      have HF7 : Hid (Fr (fun _ => False) wr v7) := Lib.hid (((((HF2.out.trans ga0 (fun _ _ h => h)).trans ga1 (fun _ _ h => h)).trans ga2 (fun _ _ h => h)).trans ga3 (fun _ _ h => h)).trans ga4 (fun _ _ h => h))
      have HO7 : Hid (RowO v7 q x) := Lib.hid (((((HO2.out.fr ga0 (fun h => h)).fr ga1 (fun h => h)).fr ga2 (fun h => h)).fr ga3 (fun h => h)).fr ga4 (fun h => h))
      clear ga0 ga1 ga2 ga3 ga4 ra0 ra1 ra2 ra3 ra4 sa0 sa1 sa2 sa3 sa4 HF2 HO2
      go_wp2_with (refine store_st cellSz19 rfl (.tmp 11) (.tmp 33) rfl e0 (by rfl) (clv (false, 0)) (by rfl) _ _ HE0.out rfl rfl (clv_one _) ?_)
      clear hv3 hv4 hv5 hv6 hv7 he0 he1 he2 he3 he4
      intro v8 hr hf
      replace HE0 := Lib.hid hr
      replace HE1 := Lib.hid (HE1.out.fr hf (fun h => by have := HNE.out; omega))
      replace HE2 := Lib.hid (HE2.out.fr hf (fun h => by have := HNE.out; omega))
      replace HE3 := Lib.hid (HE3.out.fr hf (fun h => by have := HNE.out; omega))
      replace HE4 := Lib.hid (HE4.out.fr hf (fun h => by have := HNE.out; omega))
      replace HO7 := Lib.hid (HO7.out.fr hf (fun h => by have := HNE.out; omega))
      replace HF7 : Hid (Fr (fun _ => False) wr v8) := Lib.hid (HF7.out.trans hf (fun b hb h => by have := HNE.out; omega))
      clear hr hf
      go_wp2_with (refine store_st cellSz19 rfl (.tmp 12) (.tmp 34) rfl e1 (by rfl) (clv (false, 0)) (by rfl) _ _ HE1.out rfl rfl (clv_one _) ?_)
      intro v9 hr hf
      replace HE0 := Lib.hid (HE0.out.fr hf (fun h => by have := HNE.out; omega))
      replace HE1 := Lib.hid hr
      replace HE2 := Lib.hid (HE2.out.fr hf (fun h => by have := HNE.out; omega))
      replace HE3 := Lib.hid (HE3.out.fr hf (fun h => by have := HNE.out; omega))
      replace HE4 := Lib.hid (HE4.out.fr hf (fun h => by have := HNE.out; omega))
      replace HO7 := Lib.hid (HO7.out.fr hf (fun h => by have := HNE.out; omega))
      replace HF7 : Hid (Fr (fun _ => False) wr v9) := Lib.hid (HF7.out.trans hf (fun b hb h => by have := HNE.out; omega))
      clear hr hf
      go_wp2_with (refine store_st cellSz19 rfl (.tmp 13) (.tmp 35) rfl e2 (by rfl) (clv (false, 0)) (by rfl) _ _ HE2.out rfl rfl (clv_one _) ?_)
      intro v10 hr hf
      replace HE0 := Lib.hid (HE0.out.fr hf (fun h => by have := HNE.out; omega))
      replace HE1 := Lib.hid (HE1.out.fr hf (fun h => by have := HNE.out; omega))
      replace HE2 := Lib.hid hr
      replace HE3 := Lib.hid (HE3.out.fr hf (fun h => by have := HNE.out; omega))
      replace HE4 := Lib.hid (HE4.out.fr hf (fun h => by have := HNE.out; omega))
      replace HO7 := Lib.hid (HO7.out.fr hf (fun h => by have := HNE.out; omega))
      replace HF7 : Hid (Fr (fun _ => False) wr v10) := Lib.hid (HF7.out.trans hf (fun b hb h => by have := HNE.out; omega))
      clear hr hf
      go_wp2_with (refine store_st cellSz19 rfl (.tmp 14) (.tmp 36) rfl e3 (by rfl) (clv (false, 0)) (by rfl) _ _ HE3.out rfl rfl (clv_one _) ?_)
      intro v11 hr hf
      replace HE0 := Lib.hid (HE0.out.fr hf (fun h => by have := HNE.out; omega))
      replace HE1 := Lib.hid (HE1.out.fr hf (fun h => by have := HNE.out; omega))
      replace HE2 := Lib.hid (HE2.out.fr hf (fun h => by have := HNE.out; omega))
      replace HE3 := Lib.hid hr
      replace HE4 := Lib.hid (HE4.out.fr hf (fun h => by have := HNE.out; omega))
      replace HO7 := Lib.hid (HO7.out.fr hf (fun h => by have := HNE.out; omega))
      replace HF7 : Hid (Fr (fun _ => False) wr v11) := Lib.hid (HF7.out.trans hf (fun b hb h => by have := HNE.out; omega))
      clear hr hf
      go_wp2_with (refine store_st cellSz19 rfl (.tmp 15) (.tmp 37) rfl e4 (by rfl) (clv (false, 0)) (by rfl) _ _ HE4.out rfl rfl (clv_one _) ?_)
      intro v12 hr hf
      replace HE0 := Lib.hid (HE0.out.fr hf (fun h => by have := HNE.out; omega))
      replace HE1 := Lib.hid (HE1.out.fr hf (fun h => by have := HNE.out; omega))
      replace HE2 := Lib.hid (HE2.out.fr hf (fun h => by have := HNE.out; omega))
      replace HE3 := Lib.hid (HE3.out.fr hf (fun h => by have := HNE.out; omega))
      replace HE4 := Lib.hid hr
      replace HO7 := Lib.hid (HO7.out.fr hf (fun h => by have := HNE.out; omega))
      replace HF7 : Hid (Fr (fun _ => False) wr v12) := Lib.hid (HF7.out.trans hf (fun b hb h => by have := HNE.out; omega))
      clear hr hf
      have hsz : e4 < v12.heap.size := HE4.out.lt
      obtain ⟨D, hD⟩ : ∃ D : Nat → Prop, D = fun z => z = q ∨ z = e0 ∨ z = e1 ∨ z = e2 ∨ z = e3 ∨ z = e4 := ⟨_, rfl⟩
      have hDi : D q ∧ D e0 ∧ D e1 ∧ D e2 ∧ D e3 ∧ D e4 := by rw [hD]; simp
      have hDr : ∀ z, D z → wr.heap.size ≤ z ∧ z < v12.heap.size := fun z hz => by
        rw [hD] at hz
        have h1 := HNE.out
        rcases hz with rfl | rfl | rfl | rfl | rfl | rfl <;> omega
      have hs0 : ShL 75 v12 g g D [.slice A0 k c0, .slice A1 k c1, .slice A2 k c2, .slice A3 k c3, .slice none 0 0, .slice none 0 0, .slice A6 k c6, .slice none 0 0, .slice none 0 0, .slice A9 k c9, .slice A10 m c10, .slice A11 m c11] [⟨⟨77, 2, k, (l.map (fun o => CsM.oneA T o.obj)).flatMap (ccells nv)⟩, A0, c0⟩, ⟨⟨77, 2, k, (l.map (fun o => CsM.oneC o.obj)).flatMap (ccells nv)⟩, A1, c1⟩, ⟨⟨77, 2, k, (l.map (fun o => CsM.oneA T o.elem)).flatMap (ccells nv)⟩, A2, c2⟩, ⟨⟨77, 2, k, (l.map CsM.keyC).flatMap (ccells nv)⟩, A3, c3⟩, ⟨ctC [], none, 0⟩, ⟨ctC [], none, 0⟩, ⟨⟨77, 2, k, (l.map (fun o => ((true, o.act) : C))).flatMap (ccells nv)⟩, A6, c6⟩, ⟨ctC [], none, 0⟩, ⟨ctC [], none, 0⟩, ⟨⟨77, 2, k, (l.map CsM.numC).flatMap (ccells nv)⟩, A9, c9⟩, ⟨ctC ((prs l).map (CsM.oneA T)), A10, c10⟩, ⟨ctC ((prs l).map CsM.oneC), A11, c11⟩, ⟨⟨80, 2, k, (l.map CsM.keyT).flatMap (ccells sv)⟩, A12, c12⟩, ⟨⟨4, 1, k, l.map fun o => boc o.ins⟩, A13, c13⟩, ⟨⟨52, 4, k, (l.map O.val).flatMap vls⟩, A14, c14⟩] := ShL.more HS.out HF7.out (fun z hz => ⟨.inr (hDr z hz).1, (hDr z hz).2⟩)
      have HS0 := Lib.hid hs0
      have HDI := Lib.hid hDi
      have HDR := Lib.hid hDr
      have HFC : Hid (Fr (fun k => g ≤ k) wc v12) := Lib.hid (HF.out.trans HF7.out (fun _ _ h => h.elim))
      have HTB : Hid (∀ w', Fr (fun k => g ≤ k) wc w' → Rd w' AT nT (T.map tc)) := Lib.hid (fun w' hf => (HL.out w' hf).2)
      clear hsz hD hDi hDr hs0 HS
      obtain ⟨q1, q2⟩ := n_neq0 x.o.obj
      obtain ⟨k0, k1, k2, k3, k4, k5, k6, k7, k8, k9, k10, k11, k12⟩ := HO7.out.cells
      go_upto_if 41 with fail
      clear k0 k1 k2 k3 k4 k5 k6 k7 k8 k9 k10 k11 k12 q1 q2
      refine rputA_any _ _ _ _ _ _ _ _ _ _ _ _ _ _ _ _ _ _ _ _ _ _ _ _ _ _ _ _ _ _ _ _ _ _ _ _ _ _ _ _ _ _ _ _ _ _ _ _ _ _ _ _ _ _ _ _ _ _ _ _ _ _ _ _ _ _ _ _ _ _ _ _ _ _ _ _ _ _ _ _ _ _ _ _ _ _ _ _ _ _ _ _ _ _ _ _ _ _ _ _ _ _ _ _ _ _ _ _ _ _ _ _ _ _ _ _ _ _ _ _ _ _ _ _ _ _ _ _ _ _ _ _ _ _ _ _ _ _ _ _ _ _ _ _ _ _ _ _ _ _ _ _ _ _ _ _ _ _ _ _ _ _ _ _ _ _ _ _ _ _ _ _ _ _ _ _ _ _ _ _ _ _ _ _ _ _ _ _ _ _ _ _ _ _ _ _ _ _ _ _ _ _ _ _ _ _ _ _ _ _ _ _ _ _ _ _ _ _ _ _ _ _ _ _ _ _ _ _ _ _ _ _ _ _ _ _ _ _ _ _ _ _ v12 q e0 e1 nT cT AT T x HO7 (Lib.hid (HTB.out _ HFC.out)) hnT (by have := HP16.out; omega) HE0 HE1 (by have := HNE.out; omega) (by have := HNE.out; omega) ?_
      intro w13 a42 a43 a44 a45 a46 a47 a48 a49 a50 a51 ha hb hf
      replace HE0 := ha
      replace HE1 := hb
      have HFE := hf
      replace HO7 := Lib.hid (HO7.out.fr hf.out (fun h => by have := HNE.out; omega))
      replace HE2 := Lib.hid (HE2.out.fr hf.out (fun h => by have := HNE.out; omega))
      replace HE3 := Lib.hid (HE3.out.fr hf.out (fun h => by have := HNE.out; omega))
      replace HE4 := Lib.hid (HE4.out.fr hf.out (fun h => by have := HNE.out; omega))
      have HD13 : Hid (Fr D v12 w13) := Lib.hid (hf.out.mono (fun z _ h => by rcases h with rfl | rfl; exact HDI.out.2.1; exact HDI.out.2.2.1))
      have HFC13 : Hid (Fr (fun k => g ≤ k) wc w13) := Lib.hid (HFC.out.trans HD13.out (fun z _ h => by have h1 := HDR.out z h; have h2 := HF.out.size; have h3 := hG.out.lt; omega))
      clear ha hb hf HFE
      obtain ⟨q1, q2⟩ := n_neq0 x.o.elem
      obtain ⟨k0, k1, k2, k3, k4, k5, k6, k7, k8, k9, k10, k11, k12⟩ := HO7.out.cells
      go_upto_if 55 with fail
      clear k0 k1 k2 k3 k4 k5 k6 k7 k8 k9 k10 k11 k12 q1 q2
      refine rputB_any _ _ _ _ _ _ _ _ _ _ _ _ _ _ _ _ _ _ _ _ _ _ _ _ _ _ _ _ _ _ _ _ _ _ _ _ _ _ _ _ _ _ _ _ _ _ _ _ _ _ _ _ _ _ _ _ _ _ _ _ _ _ _ _ _ _ _ _ _ _ _ _ _ _ _ _ _ _ _ _ _ _ _ _ _ _ _ _ _ _ _ _ _ _ _ _ _ _ _ _ _ _ _ _ _ _ _ _ _ _ _ _ _ _ _ _ _ _ _ _ _ _ _ _ _ _ _ _ _ _ _ _ _ _ _ _ _ _ _ _ _ _ _ _ _ _ _ _ _ _ _ _ _ _ _ _ _ _ _ _ _ _ _ _ _ _ _ _ _ _ _ _ _ _ _ _ _ _ _ _ _ _ _ _ _ _ _ _ _ _ _ _ _ _ _ _ _ _ _ _ _ _ _ _ _ _ _ _ _ _ _ _ _ _ _ _ _ _ _ _ _ _ _ _ _ _ _ _ _ _ _ _ _ _ _ _ _ _ _ _ _ _ w13 q e2 e3 nT cT AT T x HO7 (Lib.hid (HTB.out _ HFC13.out)) hnT (by have := HP16.out; omega) HE2 HE3 (by have := HNE.out; omega) (by have := HNE.out; omega) ?_
      intro w14 a56 a57 a58 a59 a60 a61 a62 a63 a64 a65 a66 a67 a68 a69 ha hb hf
      replace HE2 := ha
      replace HE3 := hb
      replace HO7 := Lib.hid (HO7.out.fr hf.out (fun h => by have := HNE.out; omega))
      replace HE0 := Lib.hid (HE0.out.fr hf.out (fun h => by have := HNE.out; omega))
      replace HE1 := Lib.hid (HE1.out.fr hf.out (fun h => by have := HNE.out; omega))
      replace HE4 := Lib.hid (HE4.out.fr hf.out (fun h => by have := HNE.out; omega))
      have HD14 : Hid (Fr D v12 w14) := Lib.hid (HD13.out.trans (hf.out.mono (fun z _ h => by rcases h with rfl | rfl; exact HDI.out.2.2.2.1; exact HDI.out.2.2.2.2.1)) (fun _ _ h => h))
      have HFC14 : Hid (Fr (fun k => g ≤ k) wc w14) := Lib.hid (HFC.out.trans HD14.out (fun z _ h => by have h1 := HDR.out z h; have h2 := HF.out.size; have h3 := hG.out.lt; omega))
      clear ha hb hf HFC13 HD13
      obtain ⟨k0, k1, k2, k3, k4, k5, k6, k7, k8, k9, k10, k11, k12⟩ := HO7.out.cells
      go_upto_if 73 with fail
      clear k0 k1 k2 k3 k4 k5 k6 k7 k8 k9 k10 k11 k12
      refine rputC_any _ _ _ _ _ _ _ _ _ _ _ _ _ _ _ _ _ _ _ _ _ _ _ _ _ _ _ _ _ _ _ _ _ _ _ _ _ _ _ _ _ _ _ _ _ _ _ _ _ _ _ _ _ _ _ _ _ _ _ _ _ _ _ _ _ _ _ _ _ _ _ _ _ _ _ _ _ _ _ _ _ _ _ _ _ _ _ _ _ _ _ _ _ _ _ _ _ _ _ _ _ _ _ _ _ _ _ _ _ _ _ _ _ _ _ _ _ _ _ _ _ _ _ _ _ _ _ _ _ _ _ _ _ _ _ _ _ _ _ _ _ _ _ _ _ _ _ _ _ _ _ _ _ _ _ _ _ _ _ _ _ _ _ _ _ _ _ _ _ _ _ _ _ _ _ _ _ _ _ _ _ _ _ _ _ _ _ _ _ _ _ _ _ _ _ _ _ _ _ _ _ _ _ _ _ _ _ _ _ _ _ _ _ _ _ _ _ _ _ _ _ _ _ _ _ _ _ _ _ _ _ _ _ _ _ _ _ _ _ _ _ _ _ w14 q e4 nT cT AT T x HO7 (Lib.hid (HTB.out _ HFC14.out)) hnT (by have := HP16.out; omega) HE4 (by have := HNE.out; omega) _ (by simp) ?_
      intro w15 a74 a75 a76 a77 ha hf
      replace HE4 := ha
      replace HO7 := Lib.hid (HO7.out.fr hf.out (fun h => by have := HNE.out; omega))
      replace HE0 := Lib.hid (HE0.out.fr hf.out (fun h => by have := HNE.out; omega))
      replace HE1 := Lib.hid (HE1.out.fr hf.out (fun h => by have := HNE.out; omega))
      replace HE2 := Lib.hid (HE2.out.fr hf.out (fun h => by have := HNE.out; omega))
      replace HE3 := Lib.hid (HE3.out.fr hf.out (fun h => by have := HNE.out; omega))
      have HD15 : Hid (Fr D v12 w15) := Lib.hid (HD14.out.trans (hf.out.mono (fun z _ h => by rw [h]; exact HDI.out.2.2.2.2.2)) (fun _ _ h => h))
      have HFC15 : Hid (Fr (fun k => g ≤ k) wc w15) := Lib.hid (HFC.out.trans HD15.out (fun z _ h => by have h1 := HDR.out z h; have h2 := HF.out.size; have h3 := hG.out.lt; omega))
      have HS15 := Lib.hid (HS0.out.byD HD15.out)
      clear ha hf HFC14 HD14 HS0 HF7 HFC HD15
      have HEE : Hid (∀ w', Fr (fun k => g ≤ k ∧ ¬ D k) w15 w' → RowO w' q x ∧ Row w' e0 77 (clv (CsM.oneA T x.o.obj)) ∧ Row w' e1 77 (clv (CsM.oneC x.o.obj)) ∧ Row w' e2 77 (clv (CsM.oneA T x.o.elem)) ∧ Row w' e3 77 (clv (CsM.keyC x.o)) ∧ Row w' e4 77 (clv (CsM.numC x.o))) := Lib.hid (fun w' hf =>
        ⟨HO7.out.fr hf (fun h => h.2 HDI.out.1), HE0.out.fr hf (fun h => h.2 HDI.out.2.1), HE1.out.fr hf (fun h => h.2 HDI.out.2.2.1), HE2.out.fr hf (fun h => h.2 HDI.out.2.2.2.1), HE3.out.fr hf (fun h => h.2 HDI.out.2.2.2.2.1), HE4.out.fr hf (fun h => h.2 HDI.out.2.2.2.2.2)⟩)
      have HB15 : Hid (g ≤ w15.heap.size) := Lib.hid (by have h1 := HS15.out.row.lt; omega)
      clear HO7 HE0 HE1 HE2 HE3 HE4
      go_upto_region 18 with fail
      refine rput18_any _ _ _ _ _ _ _ _ _ _ _ _ _ _ _ _ _ _ _ _ _ _ _ _ _ _ _ _ _ _ _ _ _ _ _ _ _ _ _ _ _ _ _ _ _ _ _ _ _ _ _ _ _ _ _ _ _ _ _ _ _ _ _ _ _ _ _ _ _ _ _ _ _ _ _ _ _ _ _ _ _ _ _ _ _ _ _ _ _ _ _ _ _ _ _ _ _ _ _ _ _ _ _ _ _ _ _ _ _ _ _ _ _ _ _ _ _ _ _ _ _ _ _ _ _ _ _ _ _ _ _ _ _ _ _ _ _ _ _ _ _ _ _ _ _ _ _ _ _ _ _ _ _ _ _ _ _ _ _ _ _ _ _ _ _ _ _ _ _ _ _ _ _ _ _ _ _ _ _ _ _ _ _ _ _ _ _ _ _ _ _ _ _ _ _ _ _ _ _ _ _ _ _ _ _ _ _ _ _ _ _ _ _ _ _ _ _ _ _ _ _ _ _ _ _ _ _ _ _ _ _ _ _ _ _ _ _ _ _ _ _ _ w15 g g k D _ e0 e1 e2 e3 _ (CsM.oneA T x.o.obj).1 (CsM.oneC x.o.obj).1 (CsM.oneA T x.o.elem).1 (CsM.keyC x.o).1 (CsM.oneA T x.o.obj).2 (CsM.oneC x.o.obj).2 (CsM.oneA T x.o.elem).2 (CsM.keyC x.o).2 _ _ _ _ _ _ _ _ _ _ _ _ HS15 (by omega) HB15 (Lib.hid (fun w' hf => by obtain ⟨h0, h1, h2, h3, h4, h5⟩ := HEE.out w' hf; exact ⟨h1.cell rfl, h1.cell rfl, h2.cell rfl, h2.cell rfl, h3.cell rfl, h3.cell rfl, h4.cell rfl, h4.cell rfl⟩)) ?_
      intro B0 B1 B2 B3 b0 b1 b2 b3 w16 a78 a79 a80 a81 a82 a83 a84 a85 a86 a87 a88 a89 a90 a91 a92 a93 a94 a95 a96 a97 a98 a99 a100 a101 HS16 HF16
      go_upto_region 19 with fail
      refine rput19_any _ _ _ _ _ _ _ _ _ _ _ _ _ _ _ _ _ _ _ _ _ _ _ _ _ _ _ _ _ _ _ _ _ _ _ _ _ _ _ _ _ _ _ _ _ _ _ _ _ _ _ _ _ _ _ _ _ _ _ _ _ _ _ _ _ _ _ _ _ _ _ _ _ _ _ _ _ _ _ _ _ _ _ _ _ _ _ _ _ _ _ _ _ _ _ _ _ _ _ _ _ _ _ _ _ _ _ _ _ _ _ _ _ _ _ _ _ _ _ _ _ _ _ _ _ _ _ _ _ _ _ _ _ _ _ _ _ _ _ _ _ _ _ _ _ _ _ _ _ _ _ _ _ _ _ _ _ _ _ _ _ _ _ _ _ _ _ _ _ _ _ _ _ _ _ _ _ _ _ _ _ _ _ _ _ _ _ _ _ _ _ _ _ _ _ _ _ _ _ _ _ _ _ _ _ _ _ _ _ _ _ _ _ _ _ _ _ _ _ _ _ _ _ _ _ _ _ _ _ _ _ _ _ _ _ _ _ _ _ _ _ _ _ _ _ w16 g g k D _ _ q x.o.act _ A6 c6 HS16 (rfl : _ = some _) (rfl : _ = some _) (by omega) (Lib.hid (by have h1 := HB15.out; have h2 := HF16.out.size; omega)) (Lib.hid (fun w' hf => (HEE.out w' (HF16.out.trans hf (fun _ _ h => h))).1.cells.2.2.2.2.2.2.2.1)) ?_
      intro B6 b6 w17 a102 a103 a104 a105 a106 a107 a108 a109 HS17 HF17
      replace HF17 := Lib.hid (HF16.out.trans HF17.out (fun _ _ h => h))
      clear HS16 HF16
      go_upto_region 20 with fail
      refine rput20_any _ _ _ _ _ _ _ _ _ _ _ _ _ _ _ _ _ _ _ _ _ _ _ _ _ _ _ _ _ _ _ _ _ _ _ _ _ _ _ _ _ _ _ _ _ _ _ _ _ _ _ _ _ _ _ _ _ _ _ _ _ _ _ _ _ _ _ _ _ _ _ _ _ _ _ _ _ _ _ _ _ _ _ _ _ _ _ _ _ _ _ _ _ _ _ _ _ _ _ _ _ _ _ _ _ _ _ _ _ _ _ _ _ _ _ _ _ _ _ _ _ _ _ _ _ _ _ _ _ _ _ _ _ _ _ _ _ _ _ _ _ _ _ _ _ _ _ _ _ _ _ _ _ _ _ _ _ _ _ _ _ _ _ _ _ _ _ _ _ _ _ _ _ _ _ _ _ _ _ _ _ _ _ _ _ _ _ _ _ _ _ _ _ _ _ _ _ _ _ _ _ _ _ _ _ _ _ _ _ _ _ _ _ _ _ _ _ _ _ _ _ _ _ _ _ _ _ _ _ _ _ _ _ _ _ _ _ _ _ _ _ _ _ _ _ w17 g g k D _ _ e4 (CsM.numC x.o).1 (CsM.numC x.o).2 _ A9 c9 HS17 (rfl : _ = some _) (rfl : _ = some _) (by omega) (Lib.hid (by have h1 := HB15.out; have h2 := HF17.out.size; omega)) (Lib.hid (fun w' hf => by obtain ⟨h0, h1, h2, h3, h4, h5⟩ := HEE.out w' (HF17.out.trans hf (fun _ _ h => h)); exact ⟨h5.cell rfl, h5.cell rfl⟩)) ?_
      intro B9 b9 w18 a110 a111 a112 a113 a114 a115 HS18 HF18
      replace HF18 := Lib.hid (HF17.out.trans HF18.out (fun _ _ h => h))
      clear HS17 HF17
      have HW18 : Hid (∀ w', Fr (fun k => g ≤ k ∧ ¬ D k) w18 w' → Fr (fun k => g ≤ k) wc w') := Lib.hid (fun w' hf => HFC15.out.trans ((HF18.out.trans hf (fun _ _ h => h)).mono (fun _ _ h => h.1)) (fun _ _ h => h))
      go_wp2_with fail
      refine rputP_loop _ _ _ _ _ _ _ _ _ _ _ _ _ _ _ _ _ _ _ _ _ _ _ _ _ _ _ _ _ _ _ _ _ _ _ _ _ _ _ _ _ _ _ _ _ _ _ _ _ _ _ _ _ _ _ _ _ _ _ _ _ _ _ _ _ _ _ _ _ _ _ _ _ _ _ _ _ _ _ _ _ _ _ _ _ _ _ _ _ _ _ _ _ _ _ _ _ _ _ _ _ _ _ _ _ _ _ _ _ _ _ _ _ _ _ _ _ _ _ _ _ _ _ _ _ _ _ _ _ _ _ _ _ _ _ _ _ _ _ _ _ _ _ _ _ _ _ _ _ _ _ _ _ _ _ _ _ _ _ _ _ _ _ _ _ _ _ _ _ _ _ _ _ _ _ _ _ _ _ _ _ _ _ _ _ _ _ _ _ _ _ _ _ _ _ _ _ _ _ _ _ _ _ _ _ _ _ _ _ _ _ _ _ _ _ _ _ _ _ _ _ _ _ _ _ _ _ _ _ _ _ _ _ _ _ _ _ _ _ _ _ _ _ w18 g g m q nT cT AT D _ _ T x ((prs l).map (CsM.oneA T)) ((prs l).map CsM.oneC) A10 A11 c10 c11 HS18 (Lib.hid ⟨rfl, rfl⟩) (Lib.hid ⟨rfl, rfl⟩) (Lib.hid (by rw [List.length_map, List.length_map]; exact ⟨HM.out, HM.out⟩)) (by omega) (by have := HP16.out; omega) (Lib.hid (by have h1 := HB15.out; have h2 := HF18.out.size; omega)) hnT
        (Lib.hid (fun w' hf => ⟨(HEE.out w' (HF18.out.trans hf (fun _ _ h => h))).1, (HL.out w' (HW18.out w' hf)).1.2 x HXM.out, (HL.out w' (HW18.out w' hf)).2⟩)) HZP ?_
      intro B10 B11 b10 b11 w19 a116 a117 a118 a119 a120 a121 a122 a123 a124 a125 a126 a127 a128 a129 a130 a131 a132 a133 a134 a135 a136 a137 a138 a139 a140 a141 a142 a143 a144 a145 a146 a147 a148 HS19 HF19
      replace HF19 := Lib.hid (HF18.out.trans HF19.out (fun _ _ h => h))
      clear HS18 HF18 HW18
      obtain ⟨k0, k1, k2, k3, k4, k5, k6, k7, k8, k9, k10, k11, k12⟩ := (HEE.out w19 HF19.out).1.cells
      go_upto_region 26 with fail
      obtain ⟨qw, hqw⟩ : ∃ k, w19.heap.size = k := ⟨_, rfl⟩
      obtain ⟨w20, hw20⟩ : ∃ v, w19.alloc (.cells #[.bool false, .string ⟨#[]⟩] 80) = v := ⟨_, rfl⟩
      have ga : Fr (fun _ => False) w19 w20 := by rw [← hw20]; exact (Fr.refl _ _).alloc _
      have ra : Row w20 qw 80 [.bool false, .string ⟨#[]⟩] := by rw [← hw20, ← hqw]; exact Row.new w19 _ _
      have HRA := Lib.hid ra
      have HS20 := Lib.hid (HS19.out.more (D' := fun z => D z ∨ z = qw) ga (fun z hz => by
        rcases hz with h | rfl
        · exact ⟨.inl h, Nat.lt_of_lt_of_le (HS19.out.lt z h) ga.size⟩
        · exact ⟨.inr (by omega), ra.lt⟩))
      have HF20 : Hid (Fr (fun k => g ≤ k ∧ ¬ D k) w15 w20) := Lib.hid (HF19.out.trans ga (fun _ _ h => h.elim))
      have HQW : Hid (qw ≠ q ∧ g ≤ qw ∧ ¬ D qw) := Lib.hid (by
        have h1 := (HEE.out w19 HF19.out).1.lt
        have h2 := HS19.out.row.lt
        refine ⟨by omega, by omega, fun hd => ?_⟩
        have := HS19.out.lt qw hd
        omega)
      clear ga ra
      go_wp2_with (refine store_st wordSz9 rfl (.tmp 17) (.tmp 151) rfl qw (by rfl) [.bool x.o.keyed, .string ⟨#[]⟩] (by rfl) _ _ HRA.out rfl rfl (by simp [Value.oneCell']) ?_)
      intro w21 hr hf
      have HRW := Lib.hid hr
      have HF21 : Hid (Fr (fun k => g ≤ k ∧ ¬ D k) w15 w21) := Lib.hid (HF20.out.trans hf (fun z _ h => by rw [h]; exact HQW.out.2))
      have HS21 := Lib.hid (HS20.out.byD (hf.mono (fun z _ h => Or.inr h)))
      clear hr hf hqw hw20 k0 k1 k2 k3 k4 k5 k6 k7 k8 k9 k10 k11 k12 HRA HS20 HF20 HS19 HF19
      obtain ⟨k0, k1, k2, k3, k4, k5, k6, k7, k8, k9, k10, k11, k12⟩ := (HEE.out w21 HF21.out).1.cells
      go_upto_if 153 with fail
      clear k0 k1 k2 k3 k4 k5 k6 k7 k8 k9 k10 k11 k12
      refine rputD_any _ _ _ _ _ _ _ _ _ _ _ _ _ _ _ _ _ _ _ _ _ _ _ _ _ _ _ _ _ _ _ _ _ _ _ _ _ _ _ _ _ _ _ _ _ _ _ _ _ _ _ _ _ _ _ _ _ _ _ _ _ _ _ _ _ _ _ _ _ _ _ _ _ _ _ _ _ _ _ _ _ _ _ _ _ _ _ _ _ _ _ _ _ _ _ _ _ _ _ _ _ _ _ _ _ _ _ _ _ _ _ _ _ _ _ _ _ _ _ _ _ _ _ _ _ _ _ _ _ _ _ _ _ _ _ _ _ _ _ _ _ _ _ _ _ _ _ _ _ _ _ _ _ _ _ _ _ _ _ _ _ _ _ _ _ _ _ _ _ _ _ _ _ _ _ _ _ _ _ _ _ _ _ _ _ _ _ _ _ _ _ _ _ _ _ _ _ _ _ _ _ _ _ _ _ _ _ _ _ _ _ _ _ _ _ _ _ _ _ _ _ _ _ _ _ _ _ _ _ _ _ _ _ _ _ _ _ _ _ _ _ _ _ _ w21 q qw x (Lib.hid (HEE.out w21 HF21.out).1) HRW ?_
      intro w22 d154 d155 d156 HRX hf
      have HF22 : Hid (Fr (fun k => g ≤ k ∧ ¬ D k) w15 w22) := Lib.hid (HF21.out.trans hf.out (fun z _ h => by rw [h]; exact HQW.out.2))
      have HS22 := Lib.hid (HS21.out.byD (hf.out.mono (fun z _ h => Or.inr h)))
      clear hf HRW HF21 HS21
      go_upto_region 29 with fail
      refine rput29_any _ _ _ _ _ _ _ _ _ _ _ _ _ _ _ _ _ _ _ _ _ _ _ _ _ _ _ _ _ _ _ _ _ _ _ _ _ _ _ _ _ _ _ _ _ _ _ _ _ _ _ _ _ _ _ _ _ _ _ _ _ _ _ _ _ _ _ _ _ _ _ _ _ _ _ _ _ _ _ _ _ _ _ _ _ _ _ _ _ _ _ _ _ _ _ _ _ _ _ _ _ _ _ _ _ _ _ _ _ _ _ _ _ _ _ _ _ _ _ _ _ _ _ _ _ _ _ _ _ _ _ _ _ _ _ _ _ _ _ _ _ _ _ _ _ _ _ _ _ _ _ _ _ _ _ _ _ _ _ _ _ _ _ _ _ _ _ _ _ _ _ _ _ _ _ _ _ _ _ _ _ _ _ _ _ _ _ _ _ _ _ _ _ _ _ _ _ _ _ _ _ _ _ _ _ _ _ _ _ _ _ _ _ _ _ _ _ _ _ _ _ _ _ _ _ _ _ _ _ _ _ _ _ _ _ _ _ _ _ _ _ _ w22 g g k (fun z => D z ∨ z = qw) [] q qw _ (CsM.keyT x.o).1 x.o.ins (txt (CsM.keyT x.o).2) (txt x.o.val.s) x.o.val.k (x.o.val.u : Int) x.o.val.n _ _ _ _ _ _ _ _ _ _ _ _ _ _ _ A12 A13 A14 c12 c13 c14 HS22 (by omega) (Lib.hid (by have h1 := HB15.out; have h2 := HF22.out.size; omega)) (Lib.hid (fun w' hf => by
        obtain ⟨k0, k1, k2, k3, k4, k5, k6, k7, k8, k9, k10, k11, k12⟩ := (HEE.out w' (HF22.out.trans hf (fun _ _ h => ⟨h.1, fun hd => h.2 (Or.inl hd)⟩))).1.cells
        have hx := HRX.out.fr hf (fun h => h.2 (Or.inr rfl))
        exact ⟨hx.cell rfl, hx.cell rfl, k6, k8, k9, k10, k11⟩)) ?_
      intro B12 B13 B14 b12 b13 b14 w23 a157 a158 a159 a160 a161 a162 a163 a164 a165 a166 a167 a168 a169 a170 HS23 HF23
      replace HF23 := Lib.hid (HF22.out.trans HF23.out (fun _ _ h => ⟨h.1, fun hd => h.2 (Or.inl hd)⟩))
      have HSX : Hid (Rsh w23 g (k + 1) (prs (l ++ [x.o])).length T (l ++ [x.o]) B0 B1 B2 B3 B6 B9 B10 B11 B12 B13 B14 b0 b1 b2 b3 b6 b9 b10 b11 b12 b13 b14) := Lib.hid (by
        have hs := HS23.out.less (D' := fun _ => False) (fun _ h => h.elim)
        unfold Rsh
        have e10 : (prs (l ++ [x.o])).map (CsM.oneA T) = (prs l).map (CsM.oneA T) ++ x.o.pr.map (CsM.oneA T) := by rw [prs9, List.map_append]
        have e11 : (prs (l ++ [x.o])).map CsM.oneC = (prs l).map CsM.oneC ++ x.o.pr.map CsM.oneC := by rw [prs9, List.map_append]
        have em : (prs (l ++ [x.o])).length = m + x.o.pr.length := by rw [prs9, List.length_append, HM.out]
        have eb : (l ++ [x.o]).map (fun o => boc o.ins) = l.map (fun o => boc o.ins) ++ [boc x.o.ins] := map9 _ _ _
        rw [e10, e11, em, eb]
        simp only [flat9]
        exact hs)
      have HFX : Hid (Fr (fun k => g ≤ k) wc w23) := Lib.hid (HFC15.out.trans (HF23.out.mono (fun _ _ h => h.1)) (fun _ _ h => h))
      clear HS22 HF22 HS23 HF23 HRX HEE HTB HB15 HS15 HFC15
      go_wp2_with fail
      exact ⟨⟨k + 1, B0, B1, B2, B3, B6, B9, B10, B11, B12, B13, B14, b0, b1, b2, b3, b6, b9, b10, b11, b12, b13, b14, by omega, by go_num, rfl, rfl, rfl, by rw [HNL.out]; exact HSX, HFX⟩, by simp [intOf]; omega⟩
    · obtain rfl : k = n2 := by omega
      have hall : L.take k = L := List.take_of_length_le (by have := hln.out; omega)
      rw [hall] at HS
      go_wp2_with fail
      exact hexit A0 A1 A2 A3 A6 A9 A10 A11 A12 A13 A14 c0 c1 c2 c3 c6 c9 c10 c11 c12 c13 c14 _ _ _ _ _ _ _ _ _ _ _ _ _ _ _ _ _ _ _ _ _ _ _ _ _ _ _ _ _ _ _ _ _ _ _ _ _ _ _ _ _ _ _ _ _ _ _ _ _ _ _ _ _ _ _ _ _ _ _ _ _ _ _ _ _ _ _ _ _ _ _ _ _ _ _ _ _ _ _ _ _ _ _ _ _ _ _ _ _ _ _ _ _ _ _ _ _ _ _ _ _ _ _ _ _ _ _ _ _ _ _ _ _ _ _ _ _ _ _ _ _ _ _ _ _ _ _ _ _ _ _ _ _ _ _ _ _ _ _ _ _ _ _ _ _ _ _ _ _ _ _ _ _ _ _ _ _ HS HF
end Go.Proofs.YtedmnkcoflbciaaGreat
