/-
  Layer 20, the reference's Get: its deps (written by gen_rdeps.py).
-/
import Derived.Test.YtbnkahjmeobblaaHeV
import Derived.Test.YtbnkahjmeobblaaZm36
import Derived.Test.YtbnkahjmeobblaaZm32
namespace Go.Proofs.Ytbnkahjmeobblaa
open Go.RowKit Mem Go.Lib LebM UtfM AcM OpM HeM
attribute [local go_sem ↓] Go.wp_at_zero Go.wp_at_succ
set_option linter.unusedVariables false

theorem wpList_zero_h {ops : Array Oper} {rest : List Oper} {op : Oper} {a : Act} {w : World} {Q : Exit → Act → World → Prop} (hg : op.guard = none) (ho : op.op = .build 60 #[])
    (h : wpList Try.prog ops Q rest (a.put op.dst (.agg (List.replicate 32 (Value.int .u8 0)).toArray)) w) : wpList Try.prog ops Q (op :: rest) a w := by
  refine wpList_plain hg fun K hK => ?_
  unfold Oper.wp execOp
  simp only [ho]
  go_simp
  exact hK _ _ h
theorem wpList_alloc_h {ops : Array Oper} {rest : List Oper} {op : Oper} {a : Act} {w : World} {Q : Exit → Act → World → Prop} (hg : op.guard = none) (ho : op.op = .alloc 60)
    (h : wpList Try.prog ops Q rest (a.put op.dst (.pointer (some ⟨w.heap.size, 0, none⟩))) (w.alloc (.cells (List.replicate 32 (Value.int .u8 0)).toArray 60))) : wpList Try.prog ops Q (op :: rest) a w := by
  refine wpList_plain hg fun K hK => ?_
  unfold Oper.wp execOp
  simp only [ho]
  go_simp
  exact hK _ _ h
theorem dep_short {B : List UInt8} {s k : Nat} {D : List Tx} (hl : (B.drop s).length < 32) (h : At20 B (bnd (depS (k + 1) D) k2) ⟨B.drop s, 0⟩) : getH B = (zeroC, [], 0, 2) := by
  have e : byt 32 ⟨B.drop s, 0⟩ = ([], ⟨B.drop s, 2⟩) := by
    unfold byt
    rw [if_neg (by simp)]
    simp only
    rw [if_pos hl]
  have h2 : At20 B (bnd (depS k (D ++ [padH []])) k2) ⟨B.drop s, 2⟩ := by
    unfold At20 at h ⊢
    rw [h]
    unfold bnd
    rw [depS, e]
    simp only
    rw [rf_keep (by decide)]
  exact h2.bad ((depS_sticky _ _).bnd s2) (by show ¬ (2 : Nat) = 0; omega)
theorem padH_full {x : List UInt8} (h : x.length = 32) : padH x = x := by unfold padH; rw [h]; simp
theorem dep_step {B : List UInt8} {s k : Nat} {D : List Tx} {x : List UInt8} (hx : (B.drop s).take 32 = x) (hl : x.length = 32) (h : At20 B (bnd (depS (k + 1) D) k2) ⟨B.drop s, 0⟩) :
    At20 B (bnd (depS k (D ++ [x])) k2) ⟨B.drop (s + 32), if rises (D ++ [x]) = true then 0 else 3⟩ := by
  have hl2 : 32 ≤ (B.drop s).length := by rw [← hx, List.length_take] at hl; omega
  have e : byt 32 ⟨B.drop s, 0⟩ = (x, ⟨B.drop (s + 32), 0⟩) := by
    unfold byt
    rw [if_neg (by simp)]
    simp only
    rw [if_neg (by omega), hx, List.drop_drop]
  unfold At20 at h ⊢
  rw [h]
  unfold bnd
  rw [depS, e]
  simp only
  rw [padH_full hl]
  cases rises (D ++ [x])
  · rfl
  · rfl
theorem rises_snoc {D : List Tx} {x y : Tx} (hr : rises D = true) {i : Nat} (hy : D[i]? = some y) (hl : D.length = i + 1) : rises (D ++ [x]) = Op.bytesLess y x := by
  have e1 : (D ++ [x]).getD i [] = y := by rw [List.getD_eq_getElem?_getD, List.getElem?_append_left (by omega), hy]; rfl
  have e2 : (D ++ [x]).getD (i + 1) [] = x := by rw [List.getD_eq_getElem?_getD, List.getElem?_append_right (by omega), hl]; simp
  cases hb : Op.bytesLess y x
  · cases hq : rises (D ++ [x])
    · rfl
    · have h := (rises_iff _).1 hq i (by rw [List.length_append, List.length_singleton]; omega)
      rw [e1, e2, hb] at h
      cases h
  · refine (rises_iff _).2 fun j hj => ?_
    rw [List.length_append, List.length_singleton] at hj
    by_cases h : j = i
    · subst h; rw [e1, e2, hb]
    · have h2 := (rises_iff _).1 hr j (by omega)
      have a1 : (D ++ [x]).getD j [] = D.getD j [] := by rw [List.getD_eq_getElem?_getD, List.getD_eq_getElem?_getD, List.getElem?_append_left (by omega)]
      have a2 : (D ++ [x]).getD (j + 1) [] = D.getD (j + 1) [] := by rw [List.getD_eq_getElem?_getD, List.getD_eq_getElem?_getD, List.getElem?_append_left (by omega)]
      rw [a1, a2]; exact h2

set_option maxRecDepth 1000000 in
noncomputable def depsBody : Code := ((Try.f16.body.bind (loopAt 8)).getD .skip)

set_option maxRecDepth 1000000 in
set_option maxHeartbeats 12800000 in
theorem deps_loop (Q0 : Exit → Act → World → Prop) (s1 s3 s4 s5 s9 s11 s12 s13 s14 s15 s16 s17 s18 s19 s20 s21 s22 s23 s24 s25 s26 s27 s28 s29 s30 s31 s32 s33 s34 s35 s36 s37 s38 s39 s40 s41 s42 s43 s44 s45 s46 s47 s48 s49 s50 s51 s52 s53 s54 s55 s56 s57 s58 s59 s60 s61 s62 s63 s64 s65 s66 s67 s68 s69 s70 s71 s72 s73 s74 s75 s76 s77 s78 s79 s80 s81 s82 s83 s84 s85 s86 s87 s88 s89 s90 s91 s92 s93 s94 s95 s96 s97 s98 s99 s100 s101 s102 s103 s104 s105 s106 s107 s108 s109 s110 s111 s112 s113 s114 s115 s116 s117 s118 s119 s120 s121 s122 s123 s124 s125 s126 s127 s128 s129 s130 s131 s132 s133 s134 s135 s136 s137 s138 s139 s140 s141 s142 s143 s144 s145 s146 s147 s148 s149 s150 s151 s152 s153 s154 s155 s156 s157 s158 s159 s160 s161 s162 s163 s164 s165 s166 s167 s168 s169 s170 s171 s172 s173 s174 s175 s176 s177 s178 s179 s180 s181 s182 s183 s184 s185 s186 s187 s188 s189 s190 s191 s192 s193 s194 s195 s196 s197 s198 s199 s200 s201 s202 s203 s204 s205 s206 s207 s208 s209 s210 s211 s212 s213 s214 s215 s216 s217 s218 s219 s220 s221 s222 s223 s224 s225 s226 s227 s228 s229 s230 : Value) (A : Option Addr) (n c s0 g pc M : Nat) (B : List UInt8) (w : World)
    (HRD : Hid (Rd w A n (B.map bytec))) (HBN : Hid (B.length = n)) (hs0 : s0 ≤ n) (hn : n ≤ 1000000) (hM : M ≤ 16) (HPG : Hid (pc ≠ g ∧ (pc < w.heap.size ∧ g < w.heap.size) ∧ (∀ ad, A = some ad → ad.block < w.heap.size) ∧ (∀ ad, A = some ad → ad.block ≠ pc)))
    (HC : Hid (Row w pc 25 [.string ⟨#[]⟩, .int .i64 0, .int .i64 0, .int .i64 0, .string ⟨#[]⟩, .slice none 0 0, .slice none 0 0])) (HG0 : Hid (Row w g 25 [.string ⟨#[]⟩, .int .i64 0, .int .i64 0, .int .i64 0, .string ⟨#[]⟩, .slice none 0 0, .slice none 0 0]))
    (HA : Hid (At20 B (bnd (depS M []) k2) ⟨B.drop s0, 0⟩))
    (hexit : ∀ (w'' : World) (s : Nat) (D : List Tx) (A1 : Option Addr) (c1 : Nat) (r3 r4 r5 r10 r11 r12 r44 r45 r46 r47 r48 r49 r50 r51 r52 r53 r54 r55 r56 r57 r58 r59 r60 r61 r62 r63 r64 r65 r66 r67 r68 r69 r70 r71 r72 r73 r74 r75 r76 r77 r78 r79 r80 r81 r82 r83 r84 r85 r86 r87 r88 r89 : Value), s ≤ n → D.length = M → (∀ h ∈ D, h.length = 32) → rises D = true → OwnH w'' w.heap.size A1 c1 D → Row w'' pc 25 [.string ⟨#[]⟩, .int .i64 0, .int .i64 0, .int .i64 0, .string ⟨#[]⟩, .slice A1 M c1, .slice none 0 0] →
      At20 B (k2 D) ⟨B.drop s, 0⟩ → Fr (fun k => k = pc) w w'' → Q0 (.exit 0) ⟨List.toArray (.slice A n c :: s1 :: .pointer (some ⟨g, 0, none⟩) :: r3 :: r4 :: r5 :: .pointer (some ⟨pc, 0, none⟩) :: .int .i64 (M : Int) :: .int .i64 (s : Int) :: s9 :: r10 :: r11 :: r12 :: s13 :: s14 :: s15 :: s16 :: s17 :: s18 :: s19 :: s20 :: s21 :: s22 :: s23 :: s24 :: s25 :: s26 :: s27 :: s28 :: s29 :: s30 :: s31 :: s32 :: s33 :: s34 :: s35 :: s36 :: s37 :: s38 :: s39 :: s40 :: s41 :: s42 :: s43 :: r44 :: r45 :: r46 :: r47 :: r48 :: r49 :: r50 :: r51 :: r52 :: r53 :: r54 :: r55 :: r56 :: r57 :: r58 :: r59 :: r60 :: r61 :: r62 :: r63 :: r64 :: r65 :: r66 :: r67 :: r68 :: r69 :: r70 :: r71 :: r72 :: r73 :: r74 :: r75 :: r76 :: r77 :: r78 :: r79 :: r80 :: r81 :: r82 :: r83 :: r84 :: r85 :: r86 :: r87 :: r88 :: r89 :: s90 :: s91 :: s92 :: s93 :: s94 :: s95 :: s96 :: s97 :: s98 :: s99 :: s100 :: s101 :: s102 :: s103 :: s104 :: s105 :: s106 :: s107 :: s108 :: s109 :: s110 :: s111 :: s112 :: s113 :: s114 :: s115 :: s116 :: s117 :: s118 :: s119 :: s120 :: s121 :: s122 :: s123 :: s124 :: s125 :: s126 :: s127 :: s128 :: s129 :: s130 :: s131 :: s132 :: s133 :: s134 :: s135 :: s136 :: s137 :: s138 :: s139 :: s140 :: s141 :: s142 :: s143 :: s144 :: s145 :: s146 :: s147 :: s148 :: s149 :: s150 :: s151 :: s152 :: s153 :: s154 :: s155 :: s156 :: s157 :: s158 :: s159 :: s160 :: s161 :: s162 :: s163 :: s164 :: s165 :: s166 :: s167 :: s168 :: s169 :: s170 :: s171 :: s172 :: s173 :: s174 :: s175 :: s176 :: s177 :: s178 :: s179 :: s180 :: s181 :: s182 :: s183 :: s184 :: s185 :: s186 :: s187 :: s188 :: s189 :: s190 :: s191 :: s192 :: s193 :: s194 :: s195 :: s196 :: s197 :: s198 :: s199 :: s200 :: s201 :: s202 :: s203 :: s204 :: s205 :: s206 :: s207 :: s208 :: s209 :: s210 :: s211 :: s212 :: s213 :: s214 :: s215 :: s216 :: s217 :: s218 :: s219 :: s220 :: s221 :: s222 :: s223 :: s224 :: s225 :: s226 :: s227 :: s228 :: s229 :: s230 :: []), []⟩ w'')
    (hbad : ∀ (w'' : World) (E : Nat) (r8 r10 r11 r12 r44 r45 r46 r47 r48 r49 r50 r51 r52 r53 r54 r55 r56 r57 r58 r59 r60 r61 r62 r63 r64 r65 r66 r67 r68 r69 r70 r71 r72 r73 r74 r75 r76 r77 r78 r79 r80 r81 r82 r83 r84 r85 r86 r87 r88 r89 : Value), getH B = (zeroC, [], 0, E) → Row w'' g 25 [.string ⟨#[]⟩, .int .i64 0, .int .i64 0, .int .i64 0, .string ⟨#[]⟩, .slice none 0 0, .slice none 0 0] → Fr (fun k => k = pc ∨ k = g) w w'' → Q0 .ret ⟨List.toArray (.slice A n c :: s1 :: .pointer (some ⟨g, 0, none⟩) :: .slice none 0 0 :: .int .i64 0 :: .int .i64 (E : Int) :: .pointer (some ⟨pc, 0, none⟩) :: .int .i64 (M : Int) :: r8 :: s9 :: r10 :: r11 :: r12 :: s13 :: s14 :: s15 :: s16 :: s17 :: s18 :: s19 :: s20 :: s21 :: s22 :: s23 :: s24 :: s25 :: s26 :: s27 :: s28 :: s29 :: s30 :: s31 :: s32 :: s33 :: s34 :: s35 :: s36 :: s37 :: s38 :: s39 :: s40 :: s41 :: s42 :: s43 :: r44 :: r45 :: r46 :: r47 :: r48 :: r49 :: r50 :: r51 :: r52 :: r53 :: r54 :: r55 :: r56 :: r57 :: r58 :: r59 :: r60 :: r61 :: r62 :: r63 :: r64 :: r65 :: r66 :: r67 :: r68 :: r69 :: r70 :: r71 :: r72 :: r73 :: r74 :: r75 :: r76 :: r77 :: r78 :: r79 :: r80 :: r81 :: r82 :: r83 :: r84 :: r85 :: r86 :: r87 :: r88 :: r89 :: s90 :: s91 :: s92 :: s93 :: s94 :: s95 :: s96 :: s97 :: s98 :: s99 :: s100 :: s101 :: s102 :: s103 :: s104 :: s105 :: s106 :: s107 :: s108 :: s109 :: s110 :: s111 :: s112 :: s113 :: s114 :: s115 :: s116 :: s117 :: s118 :: s119 :: s120 :: s121 :: s122 :: s123 :: s124 :: s125 :: s126 :: s127 :: s128 :: s129 :: s130 :: s131 :: s132 :: s133 :: s134 :: s135 :: s136 :: s137 :: s138 :: s139 :: s140 :: s141 :: s142 :: s143 :: s144 :: s145 :: s146 :: s147 :: s148 :: s149 :: s150 :: s151 :: s152 :: s153 :: s154 :: s155 :: s156 :: s157 :: s158 :: s159 :: s160 :: s161 :: s162 :: s163 :: s164 :: s165 :: s166 :: s167 :: s168 :: s169 :: s170 :: s171 :: s172 :: s173 :: s174 :: s175 :: s176 :: s177 :: s178 :: s179 :: s180 :: s181 :: s182 :: s183 :: s184 :: s185 :: s186 :: s187 :: s188 :: s189 :: s190 :: s191 :: s192 :: s193 :: s194 :: s195 :: s196 :: s197 :: s198 :: s199 :: s200 :: s201 :: s202 :: s203 :: s204 :: s205 :: s206 :: s207 :: s208 :: s209 :: s210 :: s211 :: s212 :: s213 :: s214 :: s215 :: s216 :: s217 :: s218 :: s219 :: s220 :: s221 :: s222 :: s223 :: s224 :: s225 :: s226 :: s227 :: s228 :: s229 :: s230 :: []), []⟩ w'') :
    Code.wp Try.prog (Code.loop depsBody) Q0 ⟨List.toArray (.slice A n c :: s1 :: .pointer (some ⟨g, 0, none⟩) :: s3 :: s4 :: s5 :: .pointer (some ⟨pc, 0, none⟩) :: .int .i64 (M : Int) :: .int .i64 (s0 : Int) :: s9 :: .int .i64 0 :: s11 :: s12 :: s13 :: s14 :: s15 :: s16 :: s17 :: s18 :: s19 :: s20 :: s21 :: s22 :: s23 :: s24 :: s25 :: s26 :: s27 :: s28 :: s29 :: s30 :: s31 :: s32 :: s33 :: s34 :: s35 :: s36 :: s37 :: s38 :: s39 :: s40 :: s41 :: s42 :: s43 :: s44 :: s45 :: s46 :: s47 :: s48 :: s49 :: s50 :: s51 :: s52 :: s53 :: s54 :: s55 :: s56 :: s57 :: s58 :: s59 :: s60 :: s61 :: s62 :: s63 :: s64 :: s65 :: s66 :: s67 :: s68 :: s69 :: s70 :: s71 :: s72 :: s73 :: s74 :: s75 :: s76 :: s77 :: s78 :: s79 :: s80 :: s81 :: s82 :: s83 :: s84 :: s85 :: s86 :: s87 :: s88 :: s89 :: s90 :: s91 :: s92 :: s93 :: s94 :: s95 :: s96 :: s97 :: s98 :: s99 :: s100 :: s101 :: s102 :: s103 :: s104 :: s105 :: s106 :: s107 :: s108 :: s109 :: s110 :: s111 :: s112 :: s113 :: s114 :: s115 :: s116 :: s117 :: s118 :: s119 :: s120 :: s121 :: s122 :: s123 :: s124 :: s125 :: s126 :: s127 :: s128 :: s129 :: s130 :: s131 :: s132 :: s133 :: s134 :: s135 :: s136 :: s137 :: s138 :: s139 :: s140 :: s141 :: s142 :: s143 :: s144 :: s145 :: s146 :: s147 :: s148 :: s149 :: s150 :: s151 :: s152 :: s153 :: s154 :: s155 :: s156 :: s157 :: s158 :: s159 :: s160 :: s161 :: s162 :: s163 :: s164 :: s165 :: s166 :: s167 :: s168 :: s169 :: s170 :: s171 :: s172 :: s173 :: s174 :: s175 :: s176 :: s177 :: s178 :: s179 :: s180 :: s181 :: s182 :: s183 :: s184 :: s185 :: s186 :: s187 :: s188 :: s189 :: s190 :: s191 :: s192 :: s193 :: s194 :: s195 :: s196 :: s197 :: s198 :: s199 :: s200 :: s201 :: s202 :: s203 :: s204 :: s205 :: s206 :: s207 :: s208 :: s209 :: s210 :: s211 :: s212 :: s213 :: s214 :: s215 :: s216 :: s217 :: s218 :: s219 :: s220 :: s221 :: s222 :: s223 :: s224 :: s225 :: s226 :: s227 :: s228 :: s229 :: s230 :: []), []⟩ w := by
  conv => arg 2; arg 1; whnf
  go_loopw [8, 10] (fun v8 v10 wr => ∃ (i s : Nat) (D : List Tx) (A1 : Option Addr) (c1 : Nat), i ≤ M ∧ s ≤ n ∧ i ≤ s ∧ v8 = .int .i64 (s : Int) ∧ v10 = .int .i64 (i : Int) ∧ Hid (D.length = i) ∧ Hid (∀ h ∈ D, h.length = 32) ∧ Hid (rises D = true) ∧ Hid (OwnH wr w.heap.size A1 c1 D) ∧ Hid (Row wr pc 25 [.string ⟨#[]⟩, .int .i64 0, .int .i64 0, .int .i64 0, .string ⟨#[]⟩, .slice A1 i c1, .slice none 0 0]) ∧ Hid (At20 B (bnd (depS (M - i) D) k2) ⟨B.drop s, 0⟩) ∧ Hid (Fr (fun k => k = pc) w wr)) (fun _ v10 _ => M - (intOf v10).toNat)
  case atStart => exact ⟨0, s0, [], none, 0, Nat.zero_le _, hs0, by omega, rfl, rfl, Lib.hid rfl, Lib.hid (fun h hh => by cases hh), Lib.hid rfl, Lib.hid (OwnH.nil _ _), HC, HA, Lib.hid (Fr.refl _ _)⟩
  case round =>
    obtain ⟨i, s, D, A1, c1, hi, hs, his, rfl, rfl, HDL, H32, HRI, HO, HCR, HAT, HF⟩ := hrel
    rename World => wr
    by_cases hlt : i < M
    · have t1 : decide ((i : Int) < (M : Int)) = true := decide_eq_true (by omega)
      have t1n : decide (i < M) = true := decide_eq_true (by omega)
      have r1 : IntKind.i64.wrap ((s : Int) + 32) = ((s + 32 : Nat) : Int) := by rw [IntKind.wrap_i64]; omega
      by_cases hsh : n < s + 32
      · have t2 : decide ((n : Int) < ((s + 32 : Nat) : Int)) = true := decide_eq_true (by omega)
        have t2' : decide ((n : Int) < (s : Int) + 32) = true := decide_eq_true (by omega)
        have HBAD := Lib.hid (dep_short (show (B.drop s).length < 32 by rw [List.length_drop]; have := HBN.out; omega) (k := M - i - 1) (by rw [show M - i - 1 + 1 = M - i by omega]; exact HAT.out))
        have HG := Lib.hid (HG0.out.fr HF.out (fun h => HPG.out.1 h.symm))
        go_wp2_with (refine store_st chSz rfl (.tmp 2) (.tmp 54) rfl g (by rfl) [.string ⟨#[]⟩, .int .i64 0, .int .i64 0, .int .i64 0, .string ⟨#[]⟩, .slice none 0 0, .slice none 0 0] (by rfl) _ _ HG.out rfl rfl (by simp [Value.oneCell']) ?_)
        intro wz hz hfz
        have HZ := Lib.hid hz
        have hfw : Fr (fun k => k = pc ∨ k = g) w wz := (HF.out.mono (fun _ _ h => Or.inl h)).trans hfz (fun _ _ h => Or.inr h)
        have HFW := Lib.hid hfw
        clear hz hfz hfw
        go_wp2_with fail
        exact hbad wz 2 _ _ _ _ _ _ _ _ _ _ _ _ _ _ _ _ _ _ _ _ _ _ _ _ _ _ _ _ _ _ _ _ _ _ _ _ _ _ _ _ _ _ _ _ _ _ _ _ _ _ HBAD.out HZ.out HFW.out
      · have t2 : decide ((n : Int) < ((s + 32 : Nat) : Int)) = false := decide_eq_false (by omega)
        have t2' : decide ((n : Int) < (s : Int) + 32) = false := decide_eq_false (by omega)
        obtain ⟨x, hx⟩ : ∃ x, (B.drop s).take 32 = x := ⟨_, rfl⟩
        have hxl : x.length = 32 := by rw [← hx, List.length_take, List.length_drop]; have := HBN.out; omega
        have hat := dep_step (k := M - i - 1) (B := B) (s := s) (D := D) (x := x) hx hxl (by rw [show M - i - 1 + 1 = M - i by omega]; exact HAT.out)
        rw [show M - i - 1 = M - (i + 1) by omega] at hat
        obtain ⟨p, hp⟩ : ∃ p, wr.heap.size = p := ⟨_, rfl⟩
        obtain ⟨w1, hw1⟩ : ∃ w1, wr.alloc (.cells (List.replicate 32 (Value.int .u8 0)).toArray 60) = w1 := ⟨_, rfl⟩
        have hr1 : Row w1 p 60 (List.replicate 32 (.int .u8 0)) := by rw [← hw1, ← hp]; exact Row.new _ _ _
        have hf1 : Fr (fun _ => False) wr w1 := by rw [← hw1]; exact (Fr.refl _ _).alloc _
        have HR1 := Lib.hid hr1
        have HF1 := Lib.hid (HF.out.trans hf1 (fun _ _ h => h.elim))
        have HFR1 := Lib.hid hf1
        have HAT1 := Lib.hid hat
        have HX := Lib.hid hx
        have HXL := Lib.hid hxl
        have HPP : Hid (w.heap.size ≤ p ∧ pc < p ∧ g < p) := Lib.hid (by have := HF.out.size; have := HPG.out; omega)
        have HPL : Hid (∀ k, (Value.slice A1 D.length c1).ownBlock = some k → k < p) := Lib.hid (fun k hk => by have := (HO.out.lt k hk).2; omega)
        clear hr1 hf1 hat hx hxl
        go_upto_region 10 with fail
        refine wp_region_lit ?_
        refine wpList_zero_h rfl rfl ?_
        refine wpList_alloc_h rfl rfl ?_
        rw [hw1, hp]
        refine store_st hsz20 rfl (.tmp 11) (.tmp 55) rfl p (by rfl) (List.replicate 32 (Value.int .u8 0)) (by rfl) _ _ HR1.out rfl rfl (by simp [Value.oneCell']) ?_
        intro w2 hr2 hf2
        have HR2 := Lib.hid hr2
        have hf12 : Fr (fun k => k = p) wr w2 := (HFR1.out.mono (fun _ _ h => h.elim)).trans hf2 (fun _ _ h => h)
        have HF2 : Hid (Fr (fun k => k = pc) w w2) := Lib.hid (HF.out.trans hf12 (fun k hk h => by have h1 : k = p := h; have := HPP.out; omega))
        have HF12 := Lib.hid hf12
        clear hp hw1 hr2 hf2 hf12
        (try simp only [Act.put, List.setIfInBounds_toArray, List.set_cons_zero, List.set_cons_succ])
        go_wp2_with fail
        refine fill_loop _ _ _ _ _ _ _ _ _ _ _ _ _ _ _ _ _ _ _ _ _ _ _ _ _ _ _ _ _ _ _ _ _ _ _ _ _ _ _ _ _ _ _ _ _ _ _ _ _ _ _ _ _ _ _ _ _ _ _ _ _ _ _ _ _ _ _ _ _ _ _ _ _ _ _ _ _ _ _ _ _ _ _ _ _ _ _ _ _ _ _ _ _ _ _ _ _ _ _ _ _ _ _ _ _ _ _ _ _ _ _ _ _ _ _ _ _ _ _ _ _ _ _ _ _ _ _ _ _ _ _ _ _ _ _ _ _ _ _ _ _ _ _ _ _ _ _ _ _ _ _ _ _ _ _ _ _ _ _ _ _ _ _ _ _ _ _ _ _ _ _ _ _ _ _ _ _ _ _ _ _ _ _ _ _ _ _ _ _ _ _ _ _ _ _ _ _ _ _ _ _ _ _ _ _ _ _ _ _ _ _ _ _ _ _ _ _ _ _ _ _ _ _ _ _ _ _ _ A n c s p B x w2 (Lib.hid (HRD.out.fr HF2.out (fun ad e h => HPG.out.2.2.2 ad e h))) (Lib.hid (fun ad e h => by have := HPG.out.2.2.1 ad e; have := HPP.out; omega)) (by omega) hn HX HXL HR2 ?_
        intro w3 z0 z1 z2 z3 z4 z5 z6 z7 z8 z9 z10 z11 hr3 hf3
        have hf13 : Fr (fun k => k = p) wr w3 := HF12.out.trans hf3 (fun _ _ h => h)
        have HR3 := Lib.hid hr3
        have HF3 : Hid (Fr (fun k => k = pc) w w3) := Lib.hid (HF2.out.trans hf3 (fun k hk h => by have h1 : k = p := h; have := HPP.out; omega))
        have HO3 : Hid (OwnH w3 w.heap.size A1 c1 D) := Lib.hid (hf13.own HO.out (fun k hk h => by have h1 : k = p := h; have := HPL.out k hk; omega))
        have HC3 := Lib.hid (HCR.out.fr hf13 (fun h => by have h1 : pc = p := h; have := HPP.out; omega))
        have HI : Hid (i < M ∧ M ≤ 16) := Lib.hid ⟨hlt, hM⟩
        clear hr3 hf3 hf13
        by_cases h0 : i = 0
        · have t3 : decide (0 < (i : Int)) = false := decide_eq_false (by omega)
          have t3n : decide (0 < i) = false := decide_eq_false (by omega)
          have hrs : rises (D ++ [x]) = true := by
            have : D = [] := List.eq_nil_of_length_eq_zero (by rw [HDL.out]; exact h0)
            rw [this]; rfl
          have hat := HAT1.out
          rw [hrs] at hat
          have HAT := Lib.hid hat
          have HRS := Lib.hid (Lib.hid hrs)
          clear hrs hat h0
          go_upto_region 16 with fail
          have HGc : Hid (Fr (fun _ => False) w3 w3) := Lib.hid (Fr.refl _ _)
          refine wp_region_noPanic ?_
          refine wp_region_held_drew (S := fun w' => Fr (fun _ => False) w3 w') (by kernel_rfl) ?_ (fun hHeld => ?_)
          · exact (Fr.refl _ _).drew
          refine wpAnyH_take (i := 0) (v := ?vt1) rfl (by kernel_rfl) (by kernel_rfl) (by kernel_rfl) (fun _ _ _ h => h) (Or.inl ⟨by rfl, ?hyt1⟩) hHeld ?restt1
          case hyt1 => intro w hSw; (try dsimp only at hSw); go_simp; try (with_reducible rfl)
          (try simp only [Act.put, List.setIfInBounds_toArray, List.set_cons_zero, List.set_cons_succ, List.getElem_toArray, List.getElem_cons_zero])
          refine wpAnyH_take (i := 1) (v := ?vt2) rfl (by kernel_rfl) (by kernel_rfl) (by kernel_rfl) (fun _ _ _ h => h) (Or.inl ⟨by rfl, ?hyt2⟩) hHeld ?restt2
          case hyt2 => intro w hSw; (try dsimp only at hSw); go_simp; try (with_reducible rfl)
          (try simp only [Act.put, List.setIfInBounds_toArray, List.set_cons_zero, List.set_cons_succ, List.getElem_toArray, List.getElem_cons_zero, List.getElem_cons_succ])
          refine wpAnyH_take (i := 2) (v := ?vt3) rfl (by kernel_rfl) (by kernel_rfl) (by kernel_rfl) (fun _ _ _ h => h) (Or.inl ⟨by rfl, ?hyt3⟩) hHeld ?restt3
          case hyt3 => intro w hSw; (try dsimp only at hSw); go_simp; try (with_reducible rfl)
          (try simp only [Act.put, List.setIfInBounds_toArray, List.set_cons_zero, List.set_cons_succ, List.getElem_toArray, List.getElem_cons_zero, List.getElem_cons_succ])
          refine wpAnyH_take (i := 3) (v := undef) rfl (by kernel_rfl) (by kernel_rfl) (by kernel_rfl) (fun _ _ _ h => h) (Or.inr ⟨by rfl, rfl⟩) hHeld ?_
          (try simp only [Act.put, List.setIfInBounds_toArray, List.set_cons_zero, List.set_cons_succ, List.getElem_toArray, List.getElem_cons_zero, List.getElem_cons_succ])
          refine wpAnyH_take (i := 4) (v := undef) rfl (by kernel_rfl) (by kernel_rfl) (by kernel_rfl) (fun _ _ _ h => h) (Or.inr ⟨by rfl, rfl⟩) hHeld ?_
          (try simp only [Act.put, List.setIfInBounds_toArray, List.set_cons_zero, List.set_cons_succ, List.getElem_toArray, List.getElem_cons_zero, List.getElem_cons_succ])
          refine wpAnyH_take (i := 5) (v := undef) rfl (by kernel_rfl) (by kernel_rfl) (by kernel_rfl) (fun _ _ _ h => h) (Or.inr ⟨by rfl, rfl⟩) hHeld ?_
          (try simp only [Act.put, List.setIfInBounds_toArray, List.set_cons_zero, List.set_cons_succ, List.getElem_toArray, List.getElem_cons_zero, List.getElem_cons_succ])
          refine wpAnyH_take (i := 6) (v := undef) rfl (by kernel_rfl) (by kernel_rfl) (by kernel_rfl) (fun _ _ _ h => h) (Or.inr ⟨by rfl, rfl⟩) hHeld ?_
          (try simp only [Act.put, List.setIfInBounds_toArray, List.set_cons_zero, List.set_cons_succ, List.getElem_toArray, List.getElem_cons_zero, List.getElem_cons_succ])
          refine wpAnyH_take (i := 7) (v := undef) rfl (by kernel_rfl) (by kernel_rfl) (by kernel_rfl) (fun _ _ _ h => h) (Or.inr ⟨by rfl, rfl⟩) hHeld ?_
          (try simp only [Act.put, List.setIfInBounds_toArray, List.set_cons_zero, List.set_cons_succ, List.getElem_toArray, List.getElem_cons_zero, List.getElem_cons_succ])
          refine wpAnyH_take (i := 8) (v := undef) rfl (by kernel_rfl) (by kernel_rfl) (by kernel_rfl) (fun _ _ _ h => h) (Or.inr ⟨by rfl, rfl⟩) hHeld ?_
          (try simp only [Act.put, List.setIfInBounds_toArray, List.set_cons_zero, List.set_cons_succ, List.getElem_toArray, List.getElem_cons_zero, List.getElem_cons_succ])
          refine wpAnyH_take (i := 9) (v := undef) rfl (by kernel_rfl) (by kernel_rfl) (by kernel_rfl) (fun _ _ _ h => h) (Or.inr ⟨by rfl, rfl⟩) hHeld ?_
          (try simp only [Act.put, List.setIfInBounds_toArray, List.set_cons_zero, List.set_cons_succ, List.getElem_toArray, List.getElem_cons_zero, List.getElem_cons_succ])
          refine wpAnyH_take (i := 10) (v := undef) rfl (by kernel_rfl) (by kernel_rfl) (by kernel_rfl) (fun _ _ _ h => h) (Or.inr ⟨by rfl, rfl⟩) hHeld ?_
          (try simp only [Act.put, List.setIfInBounds_toArray, List.set_cons_zero, List.set_cons_succ, List.getElem_toArray, List.getElem_cons_zero, List.getElem_cons_succ])
          refine wpAnyH_take (i := 11) (v := undef) rfl (by kernel_rfl) (by kernel_rfl) (by kernel_rfl) (fun _ _ _ h => h) (Or.inr ⟨by rfl, rfl⟩) hHeld ?_
          (try simp only [Act.put, List.setIfInBounds_toArray, List.set_cons_zero, List.set_cons_succ, List.getElem_toArray, List.getElem_cons_zero, List.getElem_cons_succ])
          refine wpAnyH_take (i := 12) (v := ?vt13) rfl (by kernel_rfl) (by kernel_rfl) (by kernel_rfl) (fun _ _ _ h => h) (Or.inl ⟨by rfl, ?hyt13⟩) hHeld ?restt13
          case hyt13 => intro w hSw; (try dsimp only at hSw); go_simp; try (with_reducible rfl)
          (try simp only [Act.put, List.setIfInBounds_toArray, List.set_cons_zero, List.set_cons_succ, List.getElem_toArray, List.getElem_cons_zero, List.getElem_cons_succ])
          refine wpAnyH_done (by kernel_rfl) ?_ _
          refine NoPanic.normal ?_
          obtain ⟨C, hC⟩ : ∃ C, (x.map bytec).toArray = C := ⟨_, rfl⟩
          have hb4 : w3.drew.heap[p]? = some (.cells C 60 (0, 0)) := by rw [← hC]; exact HR3.out.drew
          have hsz : C.size = 32 := by rw [← hC]; simp [HXL.out]
          have HB4 := Lib.hid hb4
          have HSZ := Lib.hid hsz
          have HC := Lib.hid hC
          have HCD := Lib.hid HC3.out.drew
          have HO4 : Hid (OwnH w3.drew w.heap.size A1 c1 D) := Lib.hid (HO3.out.fr (Fr.refl _ _).drew)
          have HF4 : Hid (Fr (fun k => k = pc) w w3.drew) := Lib.hid HF3.out.drew
          obtain ⟨w5, hw5⟩ : ∃ w5, (w3.drew).alloc (.cells C 60) = w5 := ⟨_, rfl⟩
          obtain ⟨q, hq⟩ : ∃ q, (w3.drew).heap.size = q := ⟨_, rfl⟩
          have hr5 : Row w5 q 60 C.toList := by rw [← hw5, ← hq]; exact heap_alloc_new _ _
          have hf5 : Fr (fun _ => False) (w3.drew) w5 := by rw [← hw5]; exact (Fr.refl _ _).alloc _
          have HCELL : Hid (∀ j u, C.toList[j]? = some u → w5.cell? ((⟨q, 0, none⟩ : Addr).add j) = some u) := Lib.hid (fun j u hu => by
            rw [show (⟨q, 0, none⟩ : Addr).add j = ⟨q, j, none⟩ from by unfold Addr.add; split <;> simp_all]
            exact hr5.cell hu)
          have HO5 : Hid (w5.ownsRow w.heap.size 60 32 (.slice A1 i c1) i (D.flatMap hls)) := Lib.hid (by have h := HO4.out.fr hf5; unfold OwnH at h; rw [HDL.out] at h; exact h)
          have HONE : Hid (∀ u ∈ C.toList, u.oneCell' = true) := Lib.hid (fun u hu => by rw [← HC.out] at hu; exact hb_one x u (by simpa using hu))
          have HCE : Hid (D.flatMap hls ++ C.toList = D.flatMap hls ++ hls x) := Lib.hid (by rw [← HC.out, hls_eq HXL.out])
          have HF5 : Hid (Fr (fun k => k = pc) w w5) := Lib.hid (HF4.out.trans hf5 (fun _ _ h => h.elim))
          have HCD5 := Lib.hid (HCD.out.fr hf5 (fun h => h))
          have HSL : Hid (C.toList.length = 1 * 32) := Lib.hid (by rw [Array.length_toList, HSZ.out])
          obtain ⟨N2, hN2⟩ : ∃ N2, N2 = i + 1 := ⟨_, rfl⟩
          have HN2 := Lib.hid hN2
          have d5 : (w3.drew).cell? ⟨pc, 5, none⟩ = some (.slice A1 i c1) := Row.cell HCD.out rfl
          have HQ := Lib.hid hq
          clear hr5 hf5 hN2 hC hb4 hsz hq
          go_wp2_with (first | (refine wpList_load_blk hashT20 rfl (.tmp 11) rfl p rfl C _ HB4.out HSZ.out ?_) | (refine wpList_build1 rfl (.tmp 86) rfl C rfl HSZ.out ?_; rw [hw5, HQ.out]; clear d5) | (at_builtin; refine wpList_appM hashTS _ rfl (.tmp 85) (.tmp 87) rfl w.heap.size _ i _ rfl HO5.out ⟨q, 0, none⟩ 1 1 C.toList rfl HSL.out HCELL.out HONE.out N2 HN2.out (by unfold maxLen; have := HI.out; have := HN2.out; omega) (by have := HN2.out; omega) (by have := HF5.out.size; omega) ?_))
          intro A6 c6 w6 hown6 hc6 hf6 hb6
          have ho6 : OwnH w6 w.heap.size A6 c6 (D ++ [x]) := by
            rw [HCE.out] at hown6
            exact OwnH.snoc (by rw [HN2.out, HDL.out]) hown6
          have hl6 : (D ++ [x]).length = N2 := by rw [HN2.out, List.length_append, HDL.out]; rfl
          have h32 : ∀ h ∈ D ++ [x], h.length = 32 := fun h hh => by
            rcases List.mem_append.1 hh with g1 | g1
            · exact H32.out h g1
            · rw [List.mem_singleton.1 g1]; exact HXL.out
          have hown7 : ∀ k, (Value.slice A1 i c1).ownBlock = some k → w.heap.size ≤ k := fun k hk => (HO5.out.lt k hk).1
          have hcd6 := HCD5.out.fr hf6 (fun h => by have := hown7 pc h; have := HPG.out; omega)
          have HF6 : Hid (Fr (fun k => k = pc) w w6) := Lib.hid (HF5.out.trans hf6 (fun k hk h => by have := hown7 k h; omega))
          have HO6 := Lib.hid ho6
          have HL6 := Lib.hid hl6
          have H326 := Lib.hid h32
          obtain ⟨w7, hw7⟩ : ∃ w7, w6.setCell ⟨pc, 5, none⟩ (.slice A6 N2 c6) = w7 := ⟨_, rfl⟩
          have h7 := Row.set hcd6 5 (.slice A6 N2 c6)
          rw [hw7] at h7
          have f7 : w6.frozen? ⟨pc, 5, none⟩ = false := Row.free hcd6 5
          have i7 : w6.cell? ⟨pc, 5, none⟩ = some (.slice A1 i c1) := Row.cell hcd6 rfl
          have HC7 : Hid (Row w7 pc 25 [.string ⟨#[]⟩, .int .i64 0, .int .i64 0, .int .i64 0, .string ⟨#[]⟩, .slice A6 N2 c6, .slice none 0 0]) := Lib.hid h7
          have hf7 : Fr (fun k => k = pc) w6 w7 := by rw [← hw7]; exact Fr.set1 _ _ _ _
          have HF7 := Lib.hid (HF6.out.trans hf7 (fun _ _ h => h))
          have HO7 : Hid (OwnH w7 w.heap.size A6 c6 (D ++ [x])) := Lib.hid (HO6.out.frS hf7 (fun k hk h => by have h1 : k = pc := h; have := HPG.out; omega))
          have ew : IntKind.i64.wrap ((i : Int) + 1) = (N2 : Int) := by rw [IntKind.wrap_i64]; have := HN2.out; have := HI.out; omega
          clear hown6 hf6 hb6 ho6 hl6 h32 hown7 hcd6 h7 hf7
          go_wp2_with fail
          exact ⟨⟨N2, s + 32, D ++ [x], A6, c6, by have := HN2.out; omega, by omega, by have := HN2.out; omega, rfl, rfl, HL6, H326, HRS.out, HO7, HC7, Lib.hid (by rw [show M - N2 = M - (i + 1) by have := HN2.out; omega]; exact HAT.out), HF7⟩, by have := HN2.out; simp [intOf]; omega⟩
        · have t3 : decide (0 < (i : Int)) = true := decide_eq_true (by omega)
          have t3n : decide (0 < i) = true := decide_eq_true (by omega)
          obtain ⟨y, hy⟩ : ∃ y, D[i - 1]? = some y := ⟨_, List.getElem?_eq_getElem (by have := HDL.out; omega)⟩
          have hH3 := HO3.out.hsh H32.out
          obtain ⟨gg, oo, rfl, hgg, hry⟩ := hH3.2.2 (i - 1) y hy
          have hy32 := H32.out y (List.mem_of_getElem? hy)
          obtain ⟨CX, hCX⟩ : ∃ C, (x.map bytec).toArray = C := ⟨_, rfl⟩
          obtain ⟨CY, hCY⟩ : ∃ C, (y.map bytec).toArray = C := ⟨_, rfl⟩
          have hls := fun w' => rLess_any y x w' hy32 HXL.out CY CX hCY hCX
          obtain ⟨b, hb⟩ : ∃ b, Op.bytesLess y x = b := ⟨_, rfl⟩
          rw [hb] at hls
          have hsn := rises_snoc (x := x) HRI.out hy (by rw [HDL.out]; omega)
          rw [hb] at hsn
          have r3 : IntKind.i64.wrap ((i : Int) - 1) = ((i - 1 : Nat) : Int) := by rw [IntKind.wrap_i64]; omega
          have HRY : Hid (∀ w', Fr (fun _ => False) w3 w' → w'.rangeAt gg (oo + (i - 1) * 32) (y.map bytec)) := Lib.hid (fun w' hf => range_fr hry hf (fun h => h))
          have HLS := Lib.hid hls
          have HCX := Lib.hid hCX
          have HCY := Lib.hid hCY
          have HY32 := Lib.hid hy32
          have hii : i - 1 < i := by omega
          have HSN := Lib.hid hsn
          clear hls hCX hCY hb hry hH3 hy hsn hy32 hgg
          go_upto_region 16 with fail
          refine wp_region_noPanic ?_
          refine wp_region_held_drew (S := fun w' => Fr (fun _ => False) w3 w') (by kernel_rfl) (Fr.refl _ _).drew (fun hH => ?_)
          refine tk 0 hH ?_
          refine tk 1 hH ?_
          refine tk 2 hH ?_
          refine tk 3 hH ?_
          refine tk 4 hH ?_ (hy := by intro w hSw; (try dsimp only at hSw); have kk := Row.cell (HC3.out.fr hSw (fun h => h)) (i := 5) rfl; go_simp; try (with_reducible rfl))
          refine tk 5 hH ?_
          refine tk 6 hH ?_
          refine tk 7 hH ?_
          refine tk 8 (v := .agg CY) hH ?_ (hy := fun w hSw => exec_load_h (.tmp 77) rfl gg (oo + (i - 1) * 32) rfl y HY32.out CY HCY.out (HRY.out w hSw))
          refine tk 9 (v := .agg CX) hH ?_ (hy := fun w hSw => exec_load_h (.tmp 11) rfl p 0 rfl x HXL.out CX HCX.out (by have h := HR3.out.fr hSw (fun h => h); intro j v hv; rw [Nat.zero_add]; exact h.cell hv))
          refine rdo 10 (fun Kx hKx => ?_)
          go_simp
          have hcon := HLS.out w3.drew
          with_reducible refine hcon.mono ?_
          clear hcon
          rintro e' w4 ⟨rfl, hff⟩
          have hf4 : Fr (fun _ => False) w3 w4 := (Fr.refl _ _).drew.trans hff (fun _ _ h => h)
          have HFR4 := Lib.hid hf4
          have HF4c : Hid (Fr (fun k => k = pc) w w4) := Lib.hid (HF3.out.trans hf4 (fun _ _ h => h.elim))
          refine hKx.out _ _ hf4 (fun hH => ?_)
          clear hKx Kx hff hf4
          (try simp only [Act.put, List.setIfInBounds_toArray, List.set_cons_zero, List.set_cons_succ, List.getElem_toArray, List.getElem_cons_zero, List.getElem_cons_succ])
          refine tk 11 hH ?_
          refine tk 12 hH ?_
          refine wpAnyH_done (by kernel_rfl) ?_ _
          refine NoPanic.normal ?_
          cases b with
          | true =>
            have hat := HAT1.out
            rw [HSN.out] at hat
            have HAT := Lib.hid hat
            have HRS := Lib.hid HSN
            clear hat
            obtain ⟨C, hC⟩ : ∃ C, (x.map bytec).toArray = C := ⟨_, rfl⟩
            have hb4 : w4.heap[p]? = some (.cells C 60 (0, 0)) := by rw [← hC]; exact (HR3.out.fr HFR4.out (fun h => h))
            have hsz : C.size = 32 := by rw [← hC]; simp [HXL.out]
            have HB4 := Lib.hid hb4
            have HSZ := Lib.hid hsz
            have HC := Lib.hid hC
            have HCD := Lib.hid (HC3.out.fr HFR4.out (fun h => h))
            have HO4 : Hid (OwnH w4 w.heap.size (some ⟨gg, oo, none⟩) c1 D) := Lib.hid (HO3.out.fr HFR4.out)
            have HF4 : Hid (Fr (fun k => k = pc) w w4) := Lib.hid HF4c.out
            obtain ⟨w5, hw5⟩ : ∃ w5, (w4).alloc (.cells C 60) = w5 := ⟨_, rfl⟩
            obtain ⟨q, hq⟩ : ∃ q, (w4).heap.size = q := ⟨_, rfl⟩
            have hr5 : Row w5 q 60 C.toList := by rw [← hw5, ← hq]; exact heap_alloc_new _ _
            have hf5 : Fr (fun _ => False) (w4) w5 := by rw [← hw5]; exact (Fr.refl _ _).alloc _
            have HCELL : Hid (∀ j u, C.toList[j]? = some u → w5.cell? ((⟨q, 0, none⟩ : Addr).add j) = some u) := Lib.hid (fun j u hu => by
              rw [show (⟨q, 0, none⟩ : Addr).add j = ⟨q, j, none⟩ from by unfold Addr.add; split <;> simp_all]
              exact hr5.cell hu)
            have HO5 : Hid (w5.ownsRow w.heap.size 60 32 (.slice (some ⟨gg, oo, none⟩) i c1) i (D.flatMap hls)) := Lib.hid (by have h := HO4.out.fr hf5; unfold OwnH at h; rw [HDL.out] at h; exact h)
            have HONE : Hid (∀ u ∈ C.toList, u.oneCell' = true) := Lib.hid (fun u hu => by rw [← HC.out] at hu; exact hb_one x u (by simpa using hu))
            have HCE : Hid (D.flatMap hls ++ C.toList = D.flatMap hls ++ hls x) := Lib.hid (by rw [← HC.out, hls_eq HXL.out])
            have HF5 : Hid (Fr (fun k => k = pc) w w5) := Lib.hid (HF4.out.trans hf5 (fun _ _ h => h.elim))
            have HCD5 := Lib.hid (HCD.out.fr hf5 (fun h => h))
            have HSL : Hid (C.toList.length = 1 * 32) := Lib.hid (by rw [Array.length_toList, HSZ.out])
            obtain ⟨N2, hN2⟩ : ∃ N2, N2 = i + 1 := ⟨_, rfl⟩
            have HN2 := Lib.hid hN2
            have d5 : (w4).cell? ⟨pc, 5, none⟩ = some (.slice (some ⟨gg, oo, none⟩) i c1) := Row.cell HCD.out rfl
            have HQ := Lib.hid hq
            clear hr5 hf5 hN2 hC hb4 hsz hq
            go_wp2_with (first | (refine wpList_load_blk hashT20 rfl (.tmp 11) rfl p rfl C _ HB4.out HSZ.out ?_) | (refine wpList_build1 rfl (.tmp 86) rfl C rfl HSZ.out ?_; rw [hw5, HQ.out]; clear d5) | (at_builtin; refine wpList_appM hashTS _ rfl (.tmp 85) (.tmp 87) rfl w.heap.size _ i _ rfl HO5.out ⟨q, 0, none⟩ 1 1 C.toList rfl HSL.out HCELL.out HONE.out N2 HN2.out (by unfold maxLen; have := HI.out; have := HN2.out; omega) (by have := HN2.out; omega) (by have := HF5.out.size; omega) ?_))
            intro A6 c6 w6 hown6 hc6 hf6 hb6
            have ho6 : OwnH w6 w.heap.size A6 c6 (D ++ [x]) := by
              rw [HCE.out] at hown6
              exact OwnH.snoc (by rw [HN2.out, HDL.out]) hown6
            have hl6 : (D ++ [x]).length = N2 := by rw [HN2.out, List.length_append, HDL.out]; rfl
            have h32 : ∀ h ∈ D ++ [x], h.length = 32 := fun h hh => by
              rcases List.mem_append.1 hh with g1 | g1
              · exact H32.out h g1
              · rw [List.mem_singleton.1 g1]; exact HXL.out
            have hown7 : ∀ k, (Value.slice (some ⟨gg, oo, none⟩) i c1).ownBlock = some k → w.heap.size ≤ k := fun k hk => (HO5.out.lt k hk).1
            have hcd6 := HCD5.out.fr hf6 (fun h => by have := hown7 pc h; have := HPG.out; omega)
            have HF6 : Hid (Fr (fun k => k = pc) w w6) := Lib.hid (HF5.out.trans hf6 (fun k hk h => by have := hown7 k h; omega))
            have HO6 := Lib.hid ho6
            have HL6 := Lib.hid hl6
            have H326 := Lib.hid h32
            obtain ⟨w7, hw7⟩ : ∃ w7, w6.setCell ⟨pc, 5, none⟩ (.slice A6 N2 c6) = w7 := ⟨_, rfl⟩
            have h7 := Row.set hcd6 5 (.slice A6 N2 c6)
            rw [hw7] at h7
            have f7 : w6.frozen? ⟨pc, 5, none⟩ = false := Row.free hcd6 5
            have i7 : w6.cell? ⟨pc, 5, none⟩ = some (.slice (some ⟨gg, oo, none⟩) i c1) := Row.cell hcd6 rfl
            have HC7 : Hid (Row w7 pc 25 [.string ⟨#[]⟩, .int .i64 0, .int .i64 0, .int .i64 0, .string ⟨#[]⟩, .slice A6 N2 c6, .slice none 0 0]) := Lib.hid h7
            have hf7 : Fr (fun k => k = pc) w6 w7 := by rw [← hw7]; exact Fr.set1 _ _ _ _
            have HF7 := Lib.hid (HF6.out.trans hf7 (fun _ _ h => h))
            have HO7 : Hid (OwnH w7 w.heap.size A6 c6 (D ++ [x])) := Lib.hid (HO6.out.frS hf7 (fun k hk h => by have h1 : k = pc := h; have := HPG.out; omega))
            have ew : IntKind.i64.wrap ((i : Int) + 1) = (N2 : Int) := by rw [IntKind.wrap_i64]; have := HN2.out; have := HI.out; omega
            clear hown6 hf6 hb6 ho6 hl6 h32 hown7 hcd6 h7 hf7
            go_wp2_with fail
            exact ⟨⟨N2, s + 32, D ++ [x], A6, c6, by have := HN2.out; omega, by omega, by have := HN2.out; omega, rfl, rfl, HL6, H326, HRS.out, HO7, HC7, Lib.hid (by rw [show M - N2 = M - (i + 1) by have := HN2.out; omega]; exact HAT.out), HF7⟩, by have := HN2.out; simp [intOf]; omega⟩
          | false =>
            have hat := HAT1.out
            rw [HSN.out] at hat
            have HBAD := Lib.hid (hat.bad ((depS_sticky _ _).bnd s2) (by show ¬ (3 : Nat) = 0; omega))
            have HG := Lib.hid (HG0.out.fr HF4c.out (fun h => HPG.out.1 h.symm))
            clear hat
            go_wp2_with (refine store_st chSz rfl (.tmp 2) (.tmp 83) rfl g (by rfl) [.string ⟨#[]⟩, .int .i64 0, .int .i64 0, .int .i64 0, .string ⟨#[]⟩, .slice none 0 0, .slice none 0 0] (by rfl) _ _ HG.out rfl rfl (by simp [Value.oneCell']) ?_)
            intro wz hz hfz
            have HZ := Lib.hid hz
            have hfw : Fr (fun k => k = pc ∨ k = g) w wz := (HF4c.out.mono (fun _ _ h => Or.inl h)).trans hfz (fun _ _ h => Or.inr h)
            have HFW := Lib.hid hfw
            clear hz hfz hfw
            go_wp2_with fail
            exact hbad wz 3 _ _ _ _ _ _ _ _ _ _ _ _ _ _ _ _ _ _ _ _ _ _ _ _ _ _ _ _ _ _ _ _ _ _ _ _ _ _ _ _ _ _ _ _ _ _ _ _ _ _ HBAD.out HZ.out HFW.out
    · have hiM : i = M := by omega
      subst hiM
      have t1 : decide ((i : Int) < (i : Int)) = false := decide_eq_false (by omega)
      have t1n : decide (i < i) = false := decide_eq_false (by omega)
      have hat := HAT.out
      rw [Nat.sub_self] at hat
      have HAT2 := Lib.hid (hat.step (x := D) (s' := ⟨B.drop s, 0⟩) rfl)
      clear hat
      go_wp2_with fail
      exact hexit wr s D A1 c1 _ _ _ _ _ _ _ _ _ _ _ _ _ _ _ _ _ _ _ _ _ _ _ _ _ _ _ _ _ _ _ _ _ _ _ _ _ _ _ _ _ _ _ _ _ _ _ _ _ _ _ _ hs HDL.out H32.out HRI.out HO.out HCR.out HAT2.out HF.out
end Go.Proofs.Ytbnkahjmeobblaa
