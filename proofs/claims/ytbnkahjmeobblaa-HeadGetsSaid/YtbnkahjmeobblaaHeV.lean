/-
  Layer 20, the reference's Get: the bytes of one hash (written by gen_fill.py).
-/
import Derived.Test.YtbnkahjmeobblaaHeU
import Derived.Test.YtbnkahjmeobblaaCut
namespace Go.Proofs.Ytbnkahjmeobblaa
open Go.RowKit Mem Go.Lib LebM UtfM AcM OpM HeM
attribute [local go_sem ↓] Go.wp_at_zero Go.wp_at_succ
set_option linter.unusedVariables false

/-- k of 32 bytes are written -/
def part32 (x : List UInt8) (k : Nat) : List Value := (x.take k).map bytec ++ List.replicate (32 - k) (.int .u8 0)
theorem part32_zero (x : List UInt8) : part32 x 0 = List.replicate 32 (.int .u8 0) := by simp [part32]
theorem part32_all {x : List UInt8} (h : x.length = 32) : part32 x 32 = x.map bytec := by
  unfold part32
  rw [List.take_of_length_le (by omega)]
  simp
theorem part32_len {x : List UInt8} (h : x.length = 32) {k : Nat} (hk : k ≤ 32) : (part32 x k).length = 32 := by
  unfold part32
  rw [List.length_append, List.length_map, List.length_take, List.length_replicate]
  omega
theorem part32_step {x : List UInt8} (h : x.length = 32) {k : Nat} {b : UInt8} (hb : x[k]? = some b) : (part32 x k).set k (bytec b) = part32 x (k + 1) := by
  have hk := (List.getElem?_eq_some_iff.1 hb).1
  unfold part32
  rw [List.set_append_right _ _ (by rw [List.length_map, List.length_take]; omega), List.length_map, List.length_take, Nat.min_eq_left (by omega), Nat.sub_self, List.take_add_one, hb, Option.toList_some, List.map_append, List.append_assoc]
  congr 1
  rw [show 32 - k = (32 - (k + 1)) + 1 by omega, List.replicate_succ, List.set_cons_zero]
  rfl
theorem part32_get {x : List UInt8} (h : x.length = 32) {k : Nat} (hk : k < 32) : (part32 x k)[k]? = some (.int .u8 0) := by
  unfold part32
  rw [List.getElem?_append_right (by rw [List.length_map, List.length_take]; omega), List.length_map, List.length_take, Nat.min_eq_left (by omega), Nat.sub_self, List.getElem?_replicate]
  simp; omega

set_option maxRecDepth 1000000 in
noncomputable def fillBody : Code := ((Try.f16.body.bind (loopAt 14)).getD .skip)

set_option maxRecDepth 1000000 in
set_option maxHeartbeats 6400000 in
theorem fill_loop (Q0 : Exit → Act → World → Prop) (s1 s2 s3 s4 s5 s6 s7 s9 s10 s13 s14 s15 s16 s17 s18 s19 s20 s21 s22 s23 s24 s25 s26 s27 s28 s29 s30 s31 s32 s33 s34 s35 s36 s37 s38 s39 s40 s41 s42 s43 s44 s45 s46 s47 s48 s49 s50 s51 s52 s53 s54 s55 s56 s57 s58 s59 s60 s61 s62 s63 s64 s65 s66 s67 s68 s69 s70 s71 s72 s73 s74 s75 s76 s77 s78 s79 s80 s81 s82 s83 s84 s85 s86 s87 s88 s89 s90 s91 s92 s93 s94 s95 s96 s97 s98 s99 s100 s101 s102 s103 s104 s105 s106 s107 s108 s109 s110 s111 s112 s113 s114 s115 s116 s117 s118 s119 s120 s121 s122 s123 s124 s125 s126 s127 s128 s129 s130 s131 s132 s133 s134 s135 s136 s137 s138 s139 s140 s141 s142 s143 s144 s145 s146 s147 s148 s149 s150 s151 s152 s153 s154 s155 s156 s157 s158 s159 s160 s161 s162 s163 s164 s165 s166 s167 s168 s169 s170 s171 s172 s173 s174 s175 s176 s177 s178 s179 s180 s181 s182 s183 s184 s185 s186 s187 s188 s189 s190 s191 s192 s193 s194 s195 s196 s197 s198 s199 s200 s201 s202 s203 s204 s205 s206 s207 s208 s209 s210 s211 s212 s213 s214 s215 s216 s217 s218 s219 s220 s221 s222 s223 s224 s225 s226 s227 s228 s229 s230 : Value) (A : Option Addr) (n c s p : Nat) (B x : List UInt8) (w : World)
    (HRD : Hid (Rd w A n (B.map bytec))) (HLT : Hid (∀ ad, A = some ad → ad.block ≠ p)) (hs : s + 32 ≤ n) (hn : n ≤ 1000000) (HX : Hid ((B.drop s).take 32 = x)) (HXL : Hid (x.length = 32)) (HP : Hid (Row w p 60 (List.replicate 32 (.int .u8 0))))
    (hexit : ∀ (w'' : World) (r56 r57 r58 r59 r60 r61 r62 r63 r64 r65 r66 r67 : Value), Row w'' p 60 (x.map bytec) → Fr (fun k => k = p) w w'' → Q0 (.exit 2) ⟨List.toArray (.slice A n c :: s1 :: s2 :: s3 :: s4 :: s5 :: s6 :: s7 :: .int .i64 (s : Int) :: s9 :: s10 :: .pointer (some ⟨p, 0, none⟩) :: .int .i64 32 :: s13 :: s14 :: s15 :: s16 :: s17 :: s18 :: s19 :: s20 :: s21 :: s22 :: s23 :: s24 :: s25 :: s26 :: s27 :: s28 :: s29 :: s30 :: s31 :: s32 :: s33 :: s34 :: s35 :: s36 :: s37 :: s38 :: s39 :: s40 :: s41 :: s42 :: s43 :: s44 :: s45 :: s46 :: s47 :: s48 :: s49 :: s50 :: s51 :: s52 :: s53 :: s54 :: s55 :: r56 :: r57 :: r58 :: r59 :: r60 :: r61 :: r62 :: r63 :: r64 :: r65 :: r66 :: r67 :: s68 :: s69 :: s70 :: s71 :: s72 :: s73 :: s74 :: s75 :: s76 :: s77 :: s78 :: s79 :: s80 :: s81 :: s82 :: s83 :: s84 :: s85 :: s86 :: s87 :: s88 :: s89 :: s90 :: s91 :: s92 :: s93 :: s94 :: s95 :: s96 :: s97 :: s98 :: s99 :: s100 :: s101 :: s102 :: s103 :: s104 :: s105 :: s106 :: s107 :: s108 :: s109 :: s110 :: s111 :: s112 :: s113 :: s114 :: s115 :: s116 :: s117 :: s118 :: s119 :: s120 :: s121 :: s122 :: s123 :: s124 :: s125 :: s126 :: s127 :: s128 :: s129 :: s130 :: s131 :: s132 :: s133 :: s134 :: s135 :: s136 :: s137 :: s138 :: s139 :: s140 :: s141 :: s142 :: s143 :: s144 :: s145 :: s146 :: s147 :: s148 :: s149 :: s150 :: s151 :: s152 :: s153 :: s154 :: s155 :: s156 :: s157 :: s158 :: s159 :: s160 :: s161 :: s162 :: s163 :: s164 :: s165 :: s166 :: s167 :: s168 :: s169 :: s170 :: s171 :: s172 :: s173 :: s174 :: s175 :: s176 :: s177 :: s178 :: s179 :: s180 :: s181 :: s182 :: s183 :: s184 :: s185 :: s186 :: s187 :: s188 :: s189 :: s190 :: s191 :: s192 :: s193 :: s194 :: s195 :: s196 :: s197 :: s198 :: s199 :: s200 :: s201 :: s202 :: s203 :: s204 :: s205 :: s206 :: s207 :: s208 :: s209 :: s210 :: s211 :: s212 :: s213 :: s214 :: s215 :: s216 :: s217 :: s218 :: s219 :: s220 :: s221 :: s222 :: s223 :: s224 :: s225 :: s226 :: s227 :: s228 :: s229 :: s230 :: []), []⟩ w'') :
    Code.wp Try.prog (Code.loop fillBody) Q0 ⟨List.toArray (.slice A n c :: s1 :: s2 :: s3 :: s4 :: s5 :: s6 :: s7 :: .int .i64 (s : Int) :: s9 :: s10 :: .pointer (some ⟨p, 0, none⟩) :: .int .i64 0 :: s13 :: s14 :: s15 :: s16 :: s17 :: s18 :: s19 :: s20 :: s21 :: s22 :: s23 :: s24 :: s25 :: s26 :: s27 :: s28 :: s29 :: s30 :: s31 :: s32 :: s33 :: s34 :: s35 :: s36 :: s37 :: s38 :: s39 :: s40 :: s41 :: s42 :: s43 :: s44 :: s45 :: s46 :: s47 :: s48 :: s49 :: s50 :: s51 :: s52 :: s53 :: s54 :: s55 :: s56 :: s57 :: s58 :: s59 :: s60 :: s61 :: s62 :: s63 :: s64 :: s65 :: s66 :: s67 :: s68 :: s69 :: s70 :: s71 :: s72 :: s73 :: s74 :: s75 :: s76 :: s77 :: s78 :: s79 :: s80 :: s81 :: s82 :: s83 :: s84 :: s85 :: s86 :: s87 :: s88 :: s89 :: s90 :: s91 :: s92 :: s93 :: s94 :: s95 :: s96 :: s97 :: s98 :: s99 :: s100 :: s101 :: s102 :: s103 :: s104 :: s105 :: s106 :: s107 :: s108 :: s109 :: s110 :: s111 :: s112 :: s113 :: s114 :: s115 :: s116 :: s117 :: s118 :: s119 :: s120 :: s121 :: s122 :: s123 :: s124 :: s125 :: s126 :: s127 :: s128 :: s129 :: s130 :: s131 :: s132 :: s133 :: s134 :: s135 :: s136 :: s137 :: s138 :: s139 :: s140 :: s141 :: s142 :: s143 :: s144 :: s145 :: s146 :: s147 :: s148 :: s149 :: s150 :: s151 :: s152 :: s153 :: s154 :: s155 :: s156 :: s157 :: s158 :: s159 :: s160 :: s161 :: s162 :: s163 :: s164 :: s165 :: s166 :: s167 :: s168 :: s169 :: s170 :: s171 :: s172 :: s173 :: s174 :: s175 :: s176 :: s177 :: s178 :: s179 :: s180 :: s181 :: s182 :: s183 :: s184 :: s185 :: s186 :: s187 :: s188 :: s189 :: s190 :: s191 :: s192 :: s193 :: s194 :: s195 :: s196 :: s197 :: s198 :: s199 :: s200 :: s201 :: s202 :: s203 :: s204 :: s205 :: s206 :: s207 :: s208 :: s209 :: s210 :: s211 :: s212 :: s213 :: s214 :: s215 :: s216 :: s217 :: s218 :: s219 :: s220 :: s221 :: s222 :: s223 :: s224 :: s225 :: s226 :: s227 :: s228 :: s229 :: s230 :: []), []⟩ w := by
  conv => arg 2; arg 1; whnf
  go_loopw [12] (fun i wr => ∃ k : Nat, k ≤ 32 ∧ i = .int .i64 (k : Int) ∧ Hid (Row wr p 60 (part32 x k)) ∧ Hid (Fr (fun k => k = p) w wr)) (fun i _ => 32 - (intOf i).toNat)
  case atStart => exact ⟨0, by omega, rfl, Lib.hid (by rw [part32_zero]; exact HP.out), Lib.hid (Fr.refl _ _)⟩
  case round =>
    obtain ⟨k, hk32, rfl, HK, HF⟩ := hrel
    rename World => wr
    by_cases hk : k < 32
    · have hrd := HRD.out.fr HF.out (fun ad e h => HLT.out ad e h)
      obtain ⟨ad, v, rfl, hv, hcell⟩ := hrd.at_ (show s + k < n by omega)
      obtain ⟨b, hb⟩ : ∃ b, B[s + k]? = some b := ⟨B[s + k]'(by have := HRD.out.1; rw [List.length_map] at this; omega), List.getElem?_eq_getElem _⟩
      obtain rfl : bytec b = v := by simpa [hb] using hv
      have hxb : x[k]? = some b := by rw [← HX.out, List.getElem?_take_of_lt hk, List.getElem?_drop, hb]
      have hstep := part32_step HXL.out hxb
      have f1 : wr.frozen? ⟨p, k, none⟩ = false := Row.free HK.out k
      have i0 : wr.cell? ⟨p, k, none⟩ = some (.int .u8 0) := Row.cell HK.out (part32_get HXL.out hk)
      obtain ⟨w5, hw5⟩ : ∃ w5, wr.setCell ⟨p, k, none⟩ (bytec b) = w5 := ⟨_, rfl⟩
      have h5 := Row.set HK.out k (bytec b)
      rw [hw5, hstep] at h5
      have HK5 := Lib.hid h5
      have HF5 : Hid (Fr (fun k => k = p) w w5) := Lib.hid (HF.out.trans (by rw [← hw5]; exact Fr.set1 _ _ _ _) (fun _ _ h => h))
      unfold bytec at hcell hw5
      have r1 : IntKind.i64.wrap ((s : Int) + (k : Int)) = ((s + k : Nat) : Int) := by rw [IntKind.wrap_i64]; omega
      have t1 : decide ((k : Int) < 32) = true := decide_eq_true (by omega)
      clear hrd hv hb hxb hstep h5
      go_wp2_with fail
      exact ⟨⟨k + 1, by omega, by go_num, HK5, HF5⟩, by simp [intOf]; omega⟩
    · obtain rfl : k = 32 := by omega
      have h := HK.out
      rw [part32_all HXL.out] at h
      have hfr := HF.out
      go_wp2_with fail
      exact hexit _ _ _ _ _ _ _ _ _ _ _ _ _ h hfr
end Go.Proofs.Ytbnkahjmeobblaa
