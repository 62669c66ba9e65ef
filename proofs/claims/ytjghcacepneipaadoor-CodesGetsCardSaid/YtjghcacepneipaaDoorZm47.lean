/-
  Layer 8's program: read.
  The loop of layer 5's reference once that makes the groups (written by gen_once.py).
-/
import Derived.Test.YtjghcacepneipaaDoorZm46
import Derived.Test.YtjghcacepneipaaDoorZm34
import Derived.Test.YtjghcacepneipaaDoorZm38
namespace Go.Proofs.YtjghcacepneipaaDoor
open Go.RowKit CoM BitsM HuffM Mem Go.Lib
attribute [local go_sem ↓] Go.wp_at_zero Go.wp_at_succ
set_option linter.unusedVariables false
set_option maxRecDepth 100000

theorem getB_no {bs : List Bool} (h : bs.length < 14 ∨ 29 < num (bs.take 5) ∨ 29 < num ((bs.drop 5).take 5)) : getB bs = none := by
  unfold getB
  by_cases h14 : bs.length < 14
  · rw [if_pos h14]
  · rw [if_neg h14]
    simp only
    rw [if_pos (by omega)]
theorem getB_go {bs : List Bool} (h14 : 14 ≤ bs.length) (h1 : num (bs.take 5) ≤ 29) (h2 : num ((bs.drop 5).take 5) ≤ 29) :
    getB bs = if (bs.drop 14).length < 3 * (num ((bs.drop 10).take 4) + 4) ∨ rightB (ints (lens19 (bs.drop 14) (num ((bs.drop 10).take 4) + 4))) = false then none
      else match tells (lens19 (bs.drop 14) (num ((bs.drop 10).take 4) + 4)) (num (bs.take 5) + 257 + (num ((bs.drop 5).take 5) + 1)) (num (bs.take 5) + 257 + (num ((bs.drop 5).take 5) + 1)) [] ((bs.drop 14).drop (3 * (num ((bs.drop 10).take 4) + 4))) with
        | none => none
        | some (l, rest) => if l[256]! = 0 then none else some (l.take (num (bs.take 5) + 257), l.drop (num (bs.take 5) + 257), rest) := by
  unfold getB
  rw [if_neg (by omega)]
  simp only
  by_cases ha : (bs.drop 14).length < 3 * (num ((bs.drop 10).take 4) + 4)
  · rw [if_pos (.inr (.inr ha)), if_pos (.inl ha)]
  · rw [if_neg (by omega)]
    by_cases hb : rightB (ints (lens19 (bs.drop 14) (num ((bs.drop 10).take 4) + 4))) = false
    · rw [if_pos hb, if_pos (.inr hb)]
    · rw [if_neg hb, if_neg (fun h => h.elim ha hb)]
      rfl
/-- 'l[f:y:y]' -/
theorem run_cut3 (A : Option Addr) (n c f y : Nat) (hf : f ≤ y) (hy : y ≤ n) (hn : n ≤ c) (w' : World) :
    (Instr.sliceAt 26 (.slice A n c) (some (.int .i64 (f : Int))) (some (.int .i64 (y : Int))) (some (.int .i64 (y : Int)))).run Tryd.prog w' = .ok (.slice (cutAt A y f) (y - f) (y - f)) w' := by
  unfold cutAt
  cases A with
  | none =>
    go_simp
    intro h
    omega
  | some ad =>
    go_simp
    try (intro h; omega)
/-- what read answers -/
def ReadP (base : Nat) (w' : World) (e : Ending) (r c : Nat) (A : Option Addr) (B : List UInt8) : Option (List Nat × List Nat × List Bool) → Prop
  | none => ∃ p', e = .returned (.tuple #[.slice none 0 0, .slice none 0 0, .bool false]) ∧ Re w' r A c B p'
  | some (u, v, rest) => ∃ A1 A2 p', e = .returned (.tuple #[.slice A1 u.length u.length, .slice A2 v.length v.length, .bool true]) ∧ Rd w' A1 u.length (u.map natc) ∧ Rd w' A2 v.length (v.map natc) ∧ (∀ ad, A1 = some ad → base ≤ ad.block) ∧ (∀ ad, A2 = some ad → base ≤ ad.block) ∧ rest = (bitsOf B).drop p' ∧ Re w' r A c B p'
set_option maxHeartbeats 6400000 in
theorem read_any (r c p : Nat) (A : Option Addr) (B : List UInt8) (w : World) (hG : Gl8 w) (h : Re w r A c B p) (hr2 : 2 ≤ r) (hB : B.length ≤ 1000000) :
    Calls Tryd.prog 42 #[.pointer (some ⟨r, 0, none⟩)] w fun e w' => ReadP w.heap.size w' e r c A B (getB ((bitsOf B).drop p)) ∧ Fr (fun k => k = r) w w' := by
  obtain ⟨bs, hbs⟩ : ∃ bs, bs = (bitsOf B).drop p := ⟨_, rfl⟩
  rw [← hbs]
  obtain ⟨RES, hRES⟩ : ∃ R, R = getB bs := ⟨_, rfl⟩
  rw [← hRES]
  have HRES := Lib.hid hRES
  have HBS := Lib.hid hbs
  have HG := Lib.hid hG
  have HR2 := Lib.hid hr2
  have H1 : Hid (Calls Tryd.prog 55 #[.pointer (some ⟨r, 0, none⟩), .int .i64 5, .int .i64 257, .int .i64 286] w fun e w' => ∃ (x : Nat) (ok : Bool) (p' : Nat), e = .returned (.tuple #[.int .i64 (x : Int), .bool ok]) ∧ Re w' r A c B p' ∧ Fr (fun k => k = r) w w' ∧ CountOk bs 5 257 286 x ok p p') := Lib.hid (by rw [hbs]; exact readCount_any r c p A B 5 257 286 w h hB (by omega) (by omega) (by omega))
  clear hRES hbs hG hr2 h
  go_enter Tryd.func42, Tryd.ntmps42
  go_wp2_with fail
  refine H1.out.mono ?_
  rintro e w2 ⟨x1, ok1, p1, rfl, hre2, hf2, hk1⟩
  have HF2 := Lib.hid hf2
  have HK1 := Lib.hid hk1
  have H2 : Hid (Calls Tryd.prog 55 #[.pointer (some ⟨r, 0, none⟩), .int .i64 5, .int .i64 1, .int .i64 30] w2 fun e w' => ∃ (x : Nat) (ok : Bool) (p' : Nat), e = .returned (.tuple #[.int .i64 (x : Int), .bool ok]) ∧ Re w' r A c B p' ∧ Fr (fun k => k = r) w2 w' ∧ CountOk ((bitsOf B).drop p1) 5 1 30 x ok p1 p') := Lib.hid (readCount_any r c p1 A B 5 1 30 w2 hre2 hB (by omega) (by omega) (by omega))
  clear H1 hre2 hf2 hk1
  go_wp2_with fail
  refine H2.out.mono ?_
  rintro e w3 ⟨x2, ok2, p2, rfl, hre3, hf3, hk2⟩
  have HF3 := Lib.hid (HF2.out.trans hf3 (fun _ _ h => h))
  have HK2 := Lib.hid hk2
  have H3 : Hid (Calls Tryd.prog 55 #[.pointer (some ⟨r, 0, none⟩), .int .i64 4, .int .i64 4, .int .i64 19] w3 fun e w' => ∃ (x : Nat) (ok : Bool) (p' : Nat), e = .returned (.tuple #[.int .i64 (x : Int), .bool ok]) ∧ Re w' r A c B p' ∧ Fr (fun k => k = r) w3 w' ∧ CountOk ((bitsOf B).drop p2) 4 4 19 x ok p2 p') := Lib.hid (readCount_any r c p2 A B 4 4 19 w3 hre3 hB (by omega) (by omega) (by omega))
  clear H2 hre3 hf3 hk2
  go_wp2_with fail
  refine H3.out.mono ?_
  rintro e w4 ⟨x3, ok3, p3, rfl, hre4, hf4, hk3⟩
  have HF4 := Lib.hid (HF3.out.trans hf4 (fun _ _ h => h))
  have HRE4 := Lib.hid hre4
  have HK3 := Lib.hid hk3
  clear H3 hre4 hf4 hk3
  have HNO : Hid ((ok1 && ok2 && ok3) = false → RES = none) := Lib.hid (by
    intro hno
    rw [HRES.out]
    apply getB_no
    rcases HK1.out with ⟨h1, a1, a2, a3, a4⟩ | ⟨h1, a⟩
    · subst h1
      subst a4
      have hk2 := HK2.out
      rw [show (bitsOf B).drop (p + 5) = bs.drop 5 by rw [HBS.out, List.drop_drop]] at hk2
      rcases hk2 with ⟨h2, b1, b2, b3, b4⟩ | ⟨h2, b⟩
      · subst h2
        subst b4
        have hk3 := HK3.out
        rw [show (bitsOf B).drop (p + 5 + 5) = bs.drop 10 by rw [HBS.out, List.drop_drop]] at hk3
        rcases hk3 with ⟨h3, _⟩ | ⟨h3, d⟩
        · subst h3
          cases hno
        · have h16 := num_lt ((bs.drop 10).take 4)
          have h2p : 2 ^ ((bs.drop 10).take 4).length ≤ 2 ^ 4 := Nat.pow_le_pow_right (by omega) (by rw [List.length_take]; omega)
          rw [List.length_drop] at d
          omega
      · rw [List.length_drop] at b
        omega
    · omega)
  by_cases hall : (ok1 && ok2 && ok3) = false
  · have HX := Lib.hid (HNO.out hall)
    cases ok1 <;> cases ok2 <;> cases ok3
    all_goals first
      | (exfalso; simp at hall; done)
      | (clear hall
         go_wp2_with fail
         exact bodyPost_ret (v := .tuple #[.slice none 0 0, .slice none 0 0, .bool false]) (by simp [results, Tryd.results42, go_sem]) rfl
           ⟨by rw [HX.out]; exact ⟨p3, rfl, HRE4.out⟩, HF4.out⟩)
  obtain ⟨rfl, rfl, rfl⟩ : ok1 = true ∧ ok2 = true ∧ ok3 = true := by
    cases ok1 <;> cases ok2 <;> cases ok3 <;> simp at hall ⊢
  clear hall HNO
  obtain ⟨y1, y2, y3, h14, hy1, hy2, hx1, hx2, hx3, hp3, e1, e2, e3⟩ : ∃ y1 y2 y3, 14 ≤ bs.length ∧ y1 ≤ 29 ∧ y2 ≤ 29 ∧ x1 = y1 + 257 ∧ x2 = y2 + 1 ∧ x3 = y3 + 4 ∧ p3 = p + 14 ∧ y1 = num (bs.take 5) ∧ y2 = num ((bs.drop 5).take 5) ∧ y3 = num ((bs.drop 10).take 4) := by
    rcases HK1.out with ⟨_, a1, a2, a3, a4⟩ | ⟨h, _⟩
    · subst a4
      have hk2 := HK2.out
      rw [show (bitsOf B).drop (p + 5) = bs.drop 5 by rw [HBS.out, List.drop_drop]] at hk2
      rcases hk2 with ⟨_, b1, b2, b3, b4⟩ | ⟨h, _⟩
      · subst b4
        have hk3 := HK3.out
        rw [show (bitsOf B).drop (p + 5 + 5) = bs.drop 10 by rw [HBS.out, List.drop_drop]] at hk3
        rcases hk3 with ⟨_, d1, d2, d3, d4⟩ | ⟨h, _⟩
        · rw [List.length_drop] at d1
          exact ⟨_, _, _, by omega, by omega, by omega, by omega, by omega, by omega, by omega, rfl, rfl, rfl⟩
        · cases h
      · cases h
    · cases h
  have hgo := getB_go h14 (by rw [← e1]; exact hy1) (by rw [← e2]; exact hy2)
  rw [← e1, ← e2, ← e3, ← hx1, ← hx2, ← hx3, ← HRES.out] at hgo
  have hx3b : x3 ≤ 19 := by
    have h16 := num_lt ((bs.drop 10).take 4)
    have h2p : 2 ^ ((bs.drop 10).take 4).length ≤ 2 ^ 4 := Nat.pow_le_pow_right (by omega) (by rw [List.length_take]; omega)
    omega
  obtain ⟨N, hN⟩ : ∃ N, N = x1 + x2 := ⟨_, rfl⟩
  rw [← hN] at hgo
  have s1 : (x1 : Int) + (x2 : Int) = (N : Int) := by omega
  have s2 : IntKind.i64.wrap ((x1 : Int) + (x2 : Int)) = (N : Int) := by rw [IntKind.wrap_i64]; omega
  have hdr : bs.drop 14 = (bitsOf B).drop p3 := by rw [HBS.out, List.drop_drop, hp3]
  rw [hdr, List.drop_drop] at hgo
  have HGO := Lib.hid hgo
  have hx1b : 257 ≤ x1 ∧ x1 ≤ 286 := by omega
  have hx2b : 1 ≤ x2 ∧ x2 ≤ 30 := by omega
  obtain ⟨hx1c, hx1d⟩ := hx1b
  obtain ⟨hx2c, hx2d⟩ := hx2b
  have HNN := Lib.hid hN
  have hN3 : N ≤ 316 := by omega
  have HN256 : Hid (256 < N ∧ x1 ≤ N ∧ N - x1 = x2) := Lib.hid (by omega)
  have HRC := Lib.hid (readCoder_any r c p3 A B x3 w4 (HG.out.fr HF4.out (fun k hk => by have := HR2.out; omega)) HRE4.out HR2.out hB hx3b)
  clear h14 hy1 hy2 hx1 hx2 hx3 hp3 e1 e2 e3 hgo hN hdr HK1 HK2 HK3 HRES HBS
  go_wp2_with fail
  refine HRC.out.mono ?_
  rintro e w5 ⟨hco, hf5⟩
  have HF5 := Lib.hid (HF4.out.trans hf5 (fun _ _ h => h))
  clear HRC hf5
  rcases hco.symm with ⟨p', rfl, hor, hre5⟩ | ⟨pa, rfl, hl3, hR, hcb, hre5⟩
  · have HX : Hid (RES = none) := Lib.hid (by rw [HGO.out, if_pos hor])
    have HRE5 := Lib.hid hre5
    clear hor hre5
    go_wp2_with fail
    exact bodyPost_ret (v := .tuple #[.slice none 0 0, .slice none 0 0, .bool false]) (by simp [results, Tryd.results42, go_sem]) rfl
      ⟨by rw [HX.out]; exact ⟨p', rfl, HRE5.out⟩, HF5.out⟩
  have hgo := HGO.out
  rw [if_neg (fun h => by
    rcases h with h | h
    · omega
    · rw [hR] at h; cases h)] at hgo
  obtain ⟨R, hRR⟩ : ∃ R, R = tells (lens19 ((bitsOf B).drop p3) x3) N N [] ((bitsOf B).drop (p3 + 3 * x3)) := ⟨_, rfl⟩
  rw [← hRR] at hgo
  have HGO2 := Lib.hid hgo
  have HRL : Hid (Calls Tryd.prog 57 #[.pointer (some ⟨r, 0, none⟩), .pointer (some pa), .int .i64 (N : Int)] w5 fun e w' => LensOk w' e w5.heap.size N r c A B R ∧ Fr (fun k => k = r) w5 w') := Lib.hid (by
    rw [hRR]
    exact readLengths_any _ r c (p3 + 3 * x3) pa A B N (lens19 ((bitsOf B).drop p3) x3) w5 (HG.out.fr HF5.out (fun k hk => by have := HR2.out; omega)) hcb (fun h => by have := HRE4.out.lt.1; omega) (fun k hk => hk.2) hR (lens19_len _ _) hre5 HR2.out hB (by omega))
  clear hl3 hR hcb hre5 hgo hRR HGO
  go_wp2_with fail
  refine HRL.out.mono ?_
  rintro e w6 ⟨hlo, hf6⟩
  have HF6 := Lib.hid (HF5.out.trans hf6 (fun _ _ h => h))
  clear HRL hf6
  cases R with
  | none =>
    obtain ⟨p', rfl, hre6⟩ := hlo
    have HX : Hid (RES = none) := Lib.hid HGO2.out
    have HRE6 := Lib.hid hre6
    clear hre6
    go_wp2_with fail
    exact bodyPost_ret (v := .tuple #[.slice none 0 0, .slice none 0 0, .bool false]) (by simp [results, Tryd.results42, go_sem]) rfl
      ⟨by rw [HX.out]; exact ⟨p', rfl, HRE6.out⟩, HF6.out⟩
  | some lr =>
    obtain ⟨l, rest⟩ := lr
    obtain ⟨A', c', p', rfl, hll, hrest, hown, hre6⟩ := hlo
    have hgo := HGO2.out
    simp only at hgo
    have hrd := Rd.of_own hown
    obtain ⟨_, hNc, hcm⟩ := own_cap hown
    obtain ⟨z, hz⟩ : ∃ z, z = l[256]! := ⟨_, rfl⟩
    obtain ⟨ga, hA, cl, _⟩ := own_at hown (i := 256) (u := .int .i64 (z : Int)) (by
      have := HN256.out.1
      rw [List.getElem?_map, List.getElem?_eq_getElem (by omega), hz, getElem!_pos l 256 (by omega)]
      rfl)
    subst hA
    rw [← hz] at hgo
    have HRE6 := Lib.hid hre6
    have hN256 : (256 : Int) < (N : Int) := by have := HN256.out.1; omega
    have hN256q : 256 < N := HN256.out.1
    have HGO3 := Lib.hid hgo
    have HOWN := Lib.hid hown
    have HRD := Lib.hid hrd
    have HLL := Lib.hid (And.intro hll hrest)
    clear hz hgo hre6 hll hrest hown hrd HGO2
    by_cases hz0 : z = 0
    · have tz : ((z : Int) == 0) = true := by simp [hz0]
      have HX : Hid (RES = none) := Lib.hid (by rw [HGO3.out, if_pos hz0])
      clear hz0
      go_wp2_with fail
      exact bodyPost_ret (v := .tuple #[.slice none 0 0, .slice none 0 0, .bool false]) (by simp [results, Tryd.results42, go_sem]) rfl
        ⟨by rw [HX.out]; exact ⟨p', rfl, HRE6.out⟩, HF6.out⟩
    · have tz : ((z : Int) == 0) = false := by simp; omega
      have HX : Hid (RES = some (l.take x1, l.drop x1, rest)) := Lib.hid (by rw [HGO3.out, if_neg hz0])
      have k1 := run_to3 (some ⟨ga, 0, none⟩) N c' x1 HN256.out.2.1 hNc
      have k2 := run_cut3 (some ⟨ga, 0, none⟩) N c' x1 N HN256.out.2.1 (Nat.le_refl _) hNc
      rw [HN256.out.2.2] at k2
      obtain ⟨A2, hA2⟩ : ∃ A2, A2 = cutAt (some ⟨ga, 0, none⟩) N x1 := ⟨_, rfl⟩
      rw [← hA2] at k2
      have HA2 := Lib.hid hA2
      clear hz0 hA2
      go_upto_region 12 with fail
      go_quiet (fail)
      go_wp2_with fail
      have hl1 : (l.take x1).length = x1 := by rw [List.length_take, HLL.out.1]; have := HN256.out.2.1; omega
      have hl2 : (l.drop x1).length = x2 := by rw [List.length_drop, HLL.out.1]; exact HN256.out.2.2
      have hb := HOWN.out.lt ga rfl
      refine bodyPost_ret (v := .tuple #[.slice (some ⟨ga, 0, none⟩) x1 x1, .slice A2 x2 x2, .bool true]) (by simp [results, Tryd.results42, go_sem]) rfl ⟨?_, HF6.out.drewN nq⟩
      rw [HX.out]
      refine ⟨some ⟨ga, 0, none⟩, A2, p', by rw [hl1, hl2], ?_, ?_, ?_, ?_, HLL.out.2, HRE6.out.drewN nq⟩
      · rw [hl1, List.map_take]
        exact rd_take HRD.out HN256.out.2.1
      · have h := rd_from HRD.out (f := x1) (c := N) HN256.out.2.1 (Nat.le_refl _)
        rw [HN256.out.2.2, ← HA2.out, ← List.map_drop] at h
        rw [hl2]
        exact h
      · intro a h
        injection h with h
        subst h
        exact Nat.le_trans HF5.out.size hb.1
      · intro a h
        rw [HA2.out] at h
        obtain ⟨a', h1, h2⟩ := cutAt_blk h
        injection h1 with h1
        subst h1
        rw [← h2]
        exact Nat.le_trans HF5.out.size hb.1
end Go.Proofs.YtjghcacepneipaaDoor
namespace Go.Proofs.YtjghcacepneipaaDoor
open Go.RowKit HuffM Mem Go.Lib
attribute [local go_sem ↓] Go.wp_at_zero Go.wp_at_succ
set_option linter.unusedVariables false

set_option maxRecDepth 1000000 in
noncomputable def mkgBody : Code := ((Tryd.f54.body.bind (loopAt 7)).getD .skip)
set_option maxRecDepth 1000000 in
set_option maxHeartbeats 3200000 in
theorem mkg_loop (Q0 : Exit → Act → World → Prop) (s1 s2 s3 s6 s7 s8 s9 s10 s11 s12 s13 s14 s15 s16 s17 s18 s19 s20 s21 s22 s23 s24 s25 s26 s27 s28 s29 s30 s31 s32 s33 s34 s35 s36 s37 s38 s39 s40 s41 s42 s43 s44 s45 s46 s47 s48 s49 s50 s51 s52 s53 s54 s55 s56 s57 s58 s59 s60 s61 s62 s63 s64 s65 s66 s67 s68 s69 s70 s71 s72 s73 s74 s75 s76 s77 s78 s79 s80 s81 s82 s83 s84 s85 s86 s87 s88 s89 s90 s91 s92 s93 s94 s95 s96 s97 s98 s99 s100 s101 s102 s103 s104 s105 s106 s107 s108 s109 s110 s111 s112 s113 s114 s115 s116 s117 s118 s119 s120 s121 s122 s123 s124 s125 s126 s127 s128 s129 s130 s131 s132 s133 s134 s135 s136 s137 s138 s139 s140 s141 s142 s143 s144 s145 s146 s147 s148 s149 s150 s151 s152 s153 s154 s155 s156 s157 s158 s159 s160 s161 s162 s163 s164 : Value) (A : Option Addr) (n c lim : Nat) (W : List Nat) (w0 : World) (HR : Hid (Rd w0 A n (W.map natc))) (hWn : W.length = n) (hn : n ≤ 1000) (hW : ∀ x ∈ W, x ≤ 1073741824) (hlim : lim < w0.heap.size)
    (hexit : ∀ (A' : Option Addr) (q c' : Nat) (E : List (Grp × Value)) (w'' : World) (r5 r17 r18 r19 r20 r21 r22 r23 r24 r25 r26 r27 r28 r29 r30 r31 r32 r33 r34 r35 r36 r37 : Value), Hid (OwnG w'' w0.heap.size A' c' E) → Hid (E.length = q ∧ q ≤ n ∧ q ≤ c') → Hid (gs E = gI W n) → Hid (SymOk w'' lim E) → Fr (fun _ => False) w0 w'' → Q0 (.exit 0) ⟨List.toArray (.slice A n c :: s1 :: s2 :: s3 :: .slice A' q c' :: r5 :: s6 :: s7 :: s8 :: s9 :: s10 :: s11 :: s12 :: s13 :: s14 :: s15 :: s16 :: r17 :: r18 :: r19 :: r20 :: r21 :: r22 :: r23 :: r24 :: r25 :: r26 :: r27 :: r28 :: r29 :: r30 :: r31 :: r32 :: r33 :: r34 :: r35 :: r36 :: r37 :: s38 :: s39 :: s40 :: s41 :: s42 :: s43 :: s44 :: s45 :: s46 :: s47 :: s48 :: s49 :: s50 :: s51 :: s52 :: s53 :: s54 :: s55 :: s56 :: s57 :: s58 :: s59 :: s60 :: s61 :: s62 :: s63 :: s64 :: s65 :: s66 :: s67 :: s68 :: s69 :: s70 :: s71 :: s72 :: s73 :: s74 :: s75 :: s76 :: s77 :: s78 :: s79 :: s80 :: s81 :: s82 :: s83 :: s84 :: s85 :: s86 :: s87 :: s88 :: s89 :: s90 :: s91 :: s92 :: s93 :: s94 :: s95 :: s96 :: s97 :: s98 :: s99 :: s100 :: s101 :: s102 :: s103 :: s104 :: s105 :: s106 :: s107 :: s108 :: s109 :: s110 :: s111 :: s112 :: s113 :: s114 :: s115 :: s116 :: s117 :: s118 :: s119 :: s120 :: s121 :: s122 :: s123 :: s124 :: s125 :: s126 :: s127 :: s128 :: s129 :: s130 :: s131 :: s132 :: s133 :: s134 :: s135 :: s136 :: s137 :: s138 :: s139 :: s140 :: s141 :: s142 :: s143 :: s144 :: s145 :: s146 :: s147 :: s148 :: s149 :: s150 :: s151 :: s152 :: s153 :: s154 :: s155 :: s156 :: s157 :: s158 :: s159 :: s160 :: s161 :: s162 :: s163 :: s164 :: []), []⟩ w'') :
    Code.wp Tryd.prog (Code.loop mkgBody) Q0 ⟨List.toArray (.slice A n c :: s1 :: s2 :: s3 :: .slice none 0 0 :: .int .i64 0 :: s6 :: s7 :: s8 :: s9 :: s10 :: s11 :: s12 :: s13 :: s14 :: s15 :: s16 :: s17 :: s18 :: s19 :: s20 :: s21 :: s22 :: s23 :: s24 :: s25 :: s26 :: s27 :: s28 :: s29 :: s30 :: s31 :: s32 :: s33 :: s34 :: s35 :: s36 :: s37 :: s38 :: s39 :: s40 :: s41 :: s42 :: s43 :: s44 :: s45 :: s46 :: s47 :: s48 :: s49 :: s50 :: s51 :: s52 :: s53 :: s54 :: s55 :: s56 :: s57 :: s58 :: s59 :: s60 :: s61 :: s62 :: s63 :: s64 :: s65 :: s66 :: s67 :: s68 :: s69 :: s70 :: s71 :: s72 :: s73 :: s74 :: s75 :: s76 :: s77 :: s78 :: s79 :: s80 :: s81 :: s82 :: s83 :: s84 :: s85 :: s86 :: s87 :: s88 :: s89 :: s90 :: s91 :: s92 :: s93 :: s94 :: s95 :: s96 :: s97 :: s98 :: s99 :: s100 :: s101 :: s102 :: s103 :: s104 :: s105 :: s106 :: s107 :: s108 :: s109 :: s110 :: s111 :: s112 :: s113 :: s114 :: s115 :: s116 :: s117 :: s118 :: s119 :: s120 :: s121 :: s122 :: s123 :: s124 :: s125 :: s126 :: s127 :: s128 :: s129 :: s130 :: s131 :: s132 :: s133 :: s134 :: s135 :: s136 :: s137 :: s138 :: s139 :: s140 :: s141 :: s142 :: s143 :: s144 :: s145 :: s146 :: s147 :: s148 :: s149 :: s150 :: s151 :: s152 :: s153 :: s154 :: s155 :: s156 :: s157 :: s158 :: s159 :: s160 :: s161 :: s162 :: s163 :: s164 :: []), []⟩ w0 := by
  conv => arg 2; arg 1; whnf
  have HWN := Lib.hid hWn
  have HW := Lib.hid hW
  clear hWn hW
  go_loopw [4, 5] (fun a i wr => ∃ (k q : Nat) (A' : Option Addr) (c' : Nat) (E : List (Grp × Value)), k ≤ n ∧ i = .int .i64 (k : Int) ∧ a = .slice A' q c' ∧ q ≤ k ∧ q ≤ c' ∧ Hid (E.length = q) ∧ Hid (OwnG wr w0.heap.size A' c' E) ∧ Hid (gs E = gI W k) ∧ Hid (SymOk wr lim E) ∧ Fr (fun _ => False) w0 wr) (fun _ i _ => n - (intOf i).toNat)
  case atStart => exact ⟨0, 0, none, 0, [], by omega, rfl, rfl, by omega, by omega, rfl, OwnG.nil _ _, rfl, (fun p hp => by simp at hp), Fr.refl _ _⟩
  case round =>
    obtain ⟨k, q, A', c', E, hk, rfl, rfl, hqk, hqc, HQ, HOE, HGS, HSy, hfr⟩ := hrel
    by_cases hlt : k < n
    · obtain ⟨ad, u, rfl, hu, hcell⟩ := (HR.out.fr hfr (fun _ _ h => h)).at_ hlt
      obtain ⟨x, hx⟩ : ∃ x, W[k]? = some x := ⟨_, List.getElem?_eq_getElem (by have := HWN.out; omega)⟩
      obtain rfl : natc x = u := by simpa [hx] using hu
      unfold natc at hcell
      have hgd : W.getD k 0 = x := by rw [List.getD_eq_getElem?_getD, hx]; rfl
      have hxb := HW.out x (List.mem_of_getElem? hx)
      clear hu hx
      by_cases hx0 : 0 < x
      · have t : decide (0 < x) = true := by simpa using hx0
        have e : gI W (k + 1) = gI W k ++ [⟨x, [k]⟩] := by rw [gI_step, hgd, if_pos hx0]
        have hrow := HOE.out.row HQ.out
        have hsz := hfr.size
        obtain ⟨wb, hwb⟩ : ∃ wb, wr.alloc (.cells #[.int .i64 (k : Int)] 3) = wb := ⟨_, rfl⟩
        have hfb : Fr (fun _ => False) wr wb := by rw [← hwb]; exact (Fr.refl _ _).alloc _
        have hrb : Rd wb (some ⟨wr.heap.size, 0, none⟩) 1 ([k].map natc) := by rw [← hwb]; exact Rd.one' rfl _ _
        obtain ⟨b1, hb1⟩ : ∃ b1, b1 = wr.heap.size := ⟨_, rfl⟩
        have hbs : wb.heap.size = b1 + 1 := by rw [← hwb, hb1]; simp
        rw [← hb1] at hrb
        have hrowb := hfb.own hrow (fun _ _ h => h)
        have E1 := Lib.hid e
        have HFB := Lib.hid hfb
        have HRB := Lib.hid hrb
        have HSB := Lib.hid hbs
        have HB1 := Lib.hid hb1
        clear e hgd hwb hfb hrb hbs hb1 hx0
        go_wp2_with (at_builtin; refine wpList_appS grpT _ rfl _ _ rfl w0.heap.size _ _ _ rfl (((hrow.alloc _).alloc _)) _ _ _ rfl rfl (news2 (by simp) (natc x) (.slice (some ⟨wr.heap.size, 0, none⟩) 1 1) _) one_pair (q + 1) rfl (by unfold maxLen; omega) (by omega) (by simp; omega) ?_)
        intro A2 c2 w2 hown2 hc2 hfr2
        have hfa : Fr (fun _ => False) wr ((wr.alloc (.cells #[.int .i64 (k : Int)] 3)).alloc (.cells #[.int .i64 (x : Int), .slice (some ⟨wr.heap.size, 0, none⟩) 1 1] 106)) := ((Fr.refl _ wr).alloc _).alloc _
        have HO2 := Lib.hid (OwnG.of_row (p := ((⟨x, [k]⟩ : Grp), Value.slice (some ⟨wr.heap.size, 0, none⟩) 1 1)) hown2 HQ.out)
        have HF2 := Lib.hid (fr_row hfr hrow hfa hfr2)
        have hblk : w2.heap[wr.heap.size]? = some (.cells #[.int .i64 (k : Int)] 3 (0, 0)) := by
          have h1 : (wr.alloc (.cells #[.int .i64 (k : Int)] 3)).heap[wr.heap.size]? = some (.cells #[.int .i64 (k : Int)] 3 (0, 0)) := heap_alloc_new wr _
          have h2 := ((Fr.refl (fun _ => False) (wr.alloc (.cells #[.int .i64 (k : Int)] 3))).alloc (.cells #[.int .i64 (x : Int), .slice (some ⟨wr.heap.size, 0, none⟩) 1 1] 106)).blk h1 (fun h => h)
          exact hfr2.blk h2 (fun h => by have := (hrow.lt _ h).2; omega)
        have hsy : SymOk w2 lim (E ++ [((⟨x, [k]⟩ : Grp), Value.slice (some ⟨wr.heap.size, 0, none⟩) 1 1)]) := by
          intro p hp
          rcases List.mem_append.1 hp with hp | hp
          · exact ((HSy.out.fr hfa (fun b h => h.elim)).row (hfa.own hrow (fun _ _ h => h)) hfr2) p hp
          · simp at hp
            subst hp
            refine ⟨some ⟨wr.heap.size, 0, none⟩, 1, rfl, Nat.le_refl _, ?_, fun ad h => ?_⟩
            · exact rd_blk (xs := [natc k]) hblk
            · injection h with h
              subst h
              exact ⟨by show lim < wr.heap.size; omega, _, _, hblk⟩
        have hgs2 : gs (E ++ [((⟨x, [k]⟩ : Grp), Value.slice (some ⟨wr.heap.size, 0, none⟩) 1 1)]) = gI W (k + 1) := by rw [gs_snoc, HGS.out]; exact E1.out.symm
        have hql : (E ++ [((⟨x, [k]⟩ : Grp), Value.slice (some ⟨wr.heap.size, 0, none⟩) 1 1)]).length = q + 1 := by rw [List.length_append, HQ.out]; rfl
        obtain ⟨E3, hE3⟩ : ∃ E3, E3 = E ++ [((⟨x, [k]⟩ : Grp), Value.slice (some ⟨wr.heap.size, 0, none⟩) 1 1)] := ⟨_, rfl⟩
        rw [← hE3] at HO2 hsy hgs2 hql
        have HSY := Lib.hid hsy
        have HGS2 := Lib.hid hgs2
        have HQL := Lib.hid hql
        clear hown2 hfr2 hblk hsy hgs2 hql hfa hrow hrowb hE3
        go_wp2
        go_roundw
        case rel => exact ⟨k + 1, q + 1, A2, c2, E3, by omega, by go_num, rfl, by omega, hc2, HQL, HO2, HGS2, HSY, HF2.out⟩
        case measure => simp [intOf] <;> omega
      · have t : decide (0 < x) = false := by simpa using hx0
        have e : gs E = gI W (k + 1) := by rw [gI_step, hgd, if_neg hx0]; exact HGS.out
        have E1 := Lib.hid e
        clear e hgd hx0
        go_wp2
        go_roundw
        case rel => exact ⟨k + 1, q, A', c', E, by omega, by go_num, rfl, by omega, hqc, HQ, HOE, E1, HSy, hfr⟩
        case measure => simp [intOf] <;> omega
    · obtain rfl : k = n := by omega
      go_wp2_with fail
      all_goals exact hexit A' q c' E _ _ _ _ _ _ _ _ _ _ _ _ _ _ _ _ _ _ _ _ _ _ _ HOE (Lib.hid ⟨HQ.out, hqk, hqc⟩) HGS HSy hfr
end Go.Proofs.YtjghcacepneipaaDoor
