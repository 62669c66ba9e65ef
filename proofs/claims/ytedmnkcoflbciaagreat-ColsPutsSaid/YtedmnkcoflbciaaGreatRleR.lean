/-
  Layer 11, the program: a column's runs, told (written by gen11.py out of rleR.src).
-/
import Derived.Test.YtedmnkcoflbciaaGreatZm04
import Derived.Test.YtedmnkcoflbciaaGreatRleQ
import Derived.Test.YtedmnkcoflbciaaGreatZm19
import Derived.Deep.DeepCutAuto
import Derived.Deep.CutRange
namespace Go.Proofs.YtedmnkcoflbciaaGreat
open Go.RowKit Mem Go.Lib RleM LebM
attribute [local go_sem ↓] Go.wp_at_zero Go.wp_at_succ
set_option linter.unusedVariables false

def lenS : Value → Nat
  | .slice _ n _ => n
  | _ => 0
theorem own_list2 {w : World} {base c N : Nat} {A : Option Addr} {B C D : List UInt8} (hD : D = B ++ C) (hN : N = D.length) (h : w.ownsRow base 5 1 (.slice A N c) N (B.map bytec ++ C.map bytec)) : Own w base A c D := by
  unfold Own
  rw [← hN, hD, List.map_append]
  exact h
theorem rest_grs {β : Type} {f : β → Value} {w : World} {A A3 : Option Addr} {d c1 k base : Nat} {D : List ((Bool × β) × Nat)} (hD : Grs f w A d D) (hk : k ≤ d) (hc : d ≤ c1) (hA3 : A3 = if c1 = k then A else A.map (·.add (k * 3))) (hA : ∀ ad, A = some ad → ad.block < base) :
    Grs f w A3 (d - k) (D.drop k) ∧ ∀ ad, A3 = some ad → ad.block < base := by
  subst hA3
  refine ⟨hD.drop c1 k hk hc, fun ad e => ?_⟩
  split at e
  · exact hA ad e
  · cases A with
    | none => cases e
    | some a =>
      injection e with e
      rw [← e, add_block]
      exact hA a rfl
set_option maxRecDepth 1000000 in
noncomputable def tellMainU : Code := ((Tryz.f90.body.bind (loopAt 5)).getD .skip)

set_option maxRecDepth 1000000 in
set_option maxHeartbeats 6400000 in
theorem tell_loopU (Q0 : Exit → Act → World → Prop) (s0 s3 s4 s6 s7 s8 s9 s10 s11 s12 s13 s14 s15 s16 s17 s18 s19 s20 s21 s22 s23 s24 s25 s26 s27 s28 s29 s30 s31 s32 s33 s34 s35 s36 s37 s38 s39 s40 s41 s42 s43 s44 s45 s46 s47 s48 s49 s50 s51 s52 s53 s54 s55 s56 s57 s58 s59 s60 s61 s62 s63 s64 s65 s66 s67 s68 s69 s70 s71 s72 s73 s74 s75 s76 s77 s78 s79 s80 s81 s82 : Value) (base q n c : Nat) (A : Option Addr) (L : List ((Bool × Int) × Nat)) (fq : Value) (w wc : World)
    (HL : Hid (Grs nv w A n L)) (hc : n ≤ c) (HA : Hid (∀ ad, A = some ad → ad.block < base)) (HOK : Hid (∀ g ∈ L, okU g.1)) (HCN : Hid (∀ g ∈ L, g.2 < 9223372036854775808)) (HQ : Hid (Row wc q 165 [.func (.func 123) #[] #[], fq]))
    (HF : Hid (Fr (fun b => base ≤ b) w wc)) (HB : Hid (base ≤ w.heap.size)) (hn : n ≤ 1000000) (HLEN : Hid ((tellG kU L).length ≤ 2000000000000))
    (hexit : ∀ (A' : Option Addr) (c' : Nat) (R : List UInt8) (w'' : World) (r1 r6 r8 r18 r19 r20 r21 r22 r23 r24 r25 r26 r27 r28 r29 r30 r31 r32 r33 r34 r35 r36 r37 r38 r39 r40 r41 r42 r43 r44 r45 r46 r47 r48 r49 r50 r51 r52 r53 r54 r55 r56 r57 r58 r59 r60 r61 r62 r63 r64 r65 r66 r67 r68 r69 r70 r71 r72 r73 r74 r75 r76 r77 r78 r79 r80 r81 : Value), Hid (R = tellG kU L) → Hid (Own w'' base A' c' R) → Hid (Fr (fun b => base ≤ b) w w'') → Q0 (.exit 0) ⟨List.toArray (s0 :: r1 :: .pointer (some ⟨q, 0, none⟩) :: s3 :: s4 :: .slice A' R.length c' :: r6 :: s7 :: r8 :: s9 :: s10 :: s11 :: s12 :: s13 :: s14 :: s15 :: s16 :: s17 :: r18 :: r19 :: r20 :: r21 :: r22 :: r23 :: r24 :: r25 :: r26 :: r27 :: r28 :: r29 :: r30 :: r31 :: r32 :: r33 :: r34 :: r35 :: r36 :: r37 :: r38 :: r39 :: r40 :: r41 :: r42 :: r43 :: r44 :: r45 :: r46 :: r47 :: r48 :: r49 :: r50 :: r51 :: r52 :: r53 :: r54 :: r55 :: r56 :: r57 :: r58 :: r59 :: r60 :: r61 :: r62 :: r63 :: r64 :: r65 :: r66 :: r67 :: r68 :: r69 :: r70 :: r71 :: r72 :: r73 :: r74 :: r75 :: r76 :: r77 :: r78 :: r79 :: r80 :: r81 :: s82 :: []), []⟩ w'') :
    Code.wp Tryz.prog (Code.loop tellMainU) Q0 ⟨List.toArray (s0 :: .slice A n c :: .pointer (some ⟨q, 0, none⟩) :: s3 :: s4 :: .slice none 0 0 :: s6 :: s7 :: s8 :: s9 :: s10 :: s11 :: s12 :: s13 :: s14 :: s15 :: s16 :: s17 :: s18 :: s19 :: s20 :: s21 :: s22 :: s23 :: s24 :: s25 :: s26 :: s27 :: s28 :: s29 :: s30 :: s31 :: s32 :: s33 :: s34 :: s35 :: s36 :: s37 :: s38 :: s39 :: s40 :: s41 :: s42 :: s43 :: s44 :: s45 :: s46 :: s47 :: s48 :: s49 :: s50 :: s51 :: s52 :: s53 :: s54 :: s55 :: s56 :: s57 :: s58 :: s59 :: s60 :: s61 :: s62 :: s63 :: s64 :: s65 :: s66 :: s67 :: s68 :: s69 :: s70 :: s71 :: s72 :: s73 :: s74 :: s75 :: s76 :: s77 :: s78 :: s79 :: s80 :: s81 :: s82 :: []), []⟩ wc := by
  refine Code.wp_mono (onExit_imp (n := 0)) ?_
  conv => arg 2; arg 1; whnf
  obtain ⟨R0, hR0⟩ : ∃ R0, R0 = tellG kU L := ⟨_, rfl⟩
  rw [← hR0] at HLEN hexit
  have HR0 := Lib.hid hR0
  clear hR0
  go_loopw [1, 5] (fun l b wr => ∃ (D : List ((Bool × Int) × Nat)) (d : Nat) (A1 : Option Addr) (c1 : Nat) (B : List UInt8) (A2 : Option Addr) (c2 : Nat), d ≤ n ∧ d ≤ c1 ∧ l = .slice A1 d c1 ∧ b = .slice A2 B.length c2 ∧ Hid (Grs nv w A1 d D) ∧ Hid (∀ ad, A1 = some ad → ad.block < base) ∧
      Hid (∀ g ∈ D, okU g.1 ∧ g.2 < 9223372036854775808) ∧ Hid (B ++ tellG kU D = R0) ∧ Hid (Own wr base A2 c2 B) ∧ Hid (Row wr q 165 [.func (.func 123) #[] #[], fq]) ∧ Hid (Fr (fun b => base ≤ b) w wr)) (fun l _ _ => lenS l)
  case atStart => exact ⟨L, n, A, c, [], none, 0, Nat.le_refl _, hc, rfl, rfl, HL.out, HA.out, fun g hg => ⟨HOK.out g hg, HCN.out g hg⟩, HR0.out.symm, Own.nil _ _, HQ.out, HF.out⟩
  case round =>
    obtain ⟨D, d, A1, c1, B, A2, c2, hdn, hdc, rfl, rfl, HD, HA1, HOD, HE, HO, HQ1, HF1⟩ := hrel
    rename World => wr
    have hDl := HD.out.1
    cases D with
    | nil =>
      obtain rfl : d = 0 := hDl.symm
      have he : R0 = B := by have h := HE.out; rw [tell_nil, List.append_nil] at h; exact h.symm
      have HE2 := Lib.hid he
      clear he
      go_wp2_with fail
      exact ⟨rfl, hexit _ _ _ _ _ _ _ _ _ _ _ _ _ _ _ _ _ _ _ _ _ _ _ _ _ _ _ _ _ _ _ _ _ _ _ _ _ _ _ _ _ _ _ _ _ _ _ _ _ _ _ _ _ _ _ _ _ _ _ _ _ _ _ _ _ _ _ _ _ _ _ HE2.out.symm HO HF1⟩
    | cons t D' =>
      obtain ⟨⟨i, x⟩, m⟩ := t
      have hd0 : 0 < d := by rw [← hDl, List.length_cons]; omega
      have hDr := HD.out.fr HF1.out (fun ad e h => by have := HA1.out ad e; omega)
      obtain ⟨g, o, rfl, hg, h1, h2, h3⟩ := hDr.2 0 ((i, x), m) rfl
      rw [Nat.zero_mul] at h1 h2 h3
      rw [Nat.add_zero] at h1 h2 h3
      simp only [nv] at h1 h2 h3
      have hokx := (HOD.out ((i, x), m) (List.mem_cons_self ..)).1
      have hmx := (HOD.out ((i, x), m) (List.mem_cons_self ..)).2
      simp only at hokx hmx
      have hot := othersC_any (some ⟨g, o, none⟩) d c1 (((i, x), m) :: D') wr hDr (by omega)
      have hole := others_le ((false, 0) : Bool × Int) (((i, x), m) :: D')
      rw [hDl] at hole
      have hnt := fun (w : World) => nothingC_any i x (m : Int) w
      have hgb : g < base := HA1.out _ rfl
      have HGB := Lib.hid hgb
      have he := HE.out
      have hRl := HLEN.out
      obtain ⟨O, hO⟩ : ∃ O, O = othersG ((false, 0) : Bool × Int) (((i, x), m) :: D') := ⟨_, rfl⟩
      rw [← hO] at hot hole
      have HOT := Lib.hid hot
      have HDL := Lib.hid hDl
      have HOKX := Lib.hid hokx
      have tl : decide ((0 : Int) < (d : Int)) = true := by simp; omega
      have tl' : decide (0 < d) = true := by simp; omega
      clear hDr hot hDl hokx
      by_cases hz : (i, x) = ((false, 0) : Bool × Int)
      · -- nothings
        rw [decide_eq_true hz] at hnt
        have HNT := Lib.hid hnt
        have he2 : B ++ (s 0 ++ (u m ++ tellG kU D')) = R0 := by
          have := tell_none (K := kU) m D'
          rw [← show (i, x) = kU.zero from hz] at this
          rw [this] at he
          exact he
        obtain ⟨B2, hB2⟩ : ∃ B2, B2 = B ++ s 0 := ⟨_, rfl⟩
        obtain ⟨B3, hB3⟩ : ∃ B3, B3 = B2 ++ u m := ⟨_, rfl⟩
        have he3 : B3 ++ tellG kU D' = R0 := by rw [hB3, hB2, List.append_assoc, List.append_assoc]; exact he2
        have hl3 : B3.length ≤ 2000000000000 := by rw [← he3, List.length_append] at hRl; omega
        have hl2 : B2.length ≤ 2000000000000 := by rw [hB3, List.length_append] at hl3; omega
        have HB2 := Lib.hid hB2
        have HB3 := Lib.hid hB3
        have HE3 := Lib.hid he3
        have r1 : IntKind.u64.wrap (m : Int) = (m : Int) := by rw [IntKind.wrap_u64]; omega
        obtain ⟨N2, hN2⟩ : ∃ N2, N2 = B2.length := ⟨_, rfl⟩
        obtain ⟨N3, hN3⟩ : ∃ N3, N3 = B3.length := ⟨_, rfl⟩
        have HN2 := Lib.hid hN2
        have HN3 := Lib.hid hN3
        have hN2l : N2 ≤ 2000000000000 := by omega
        have hN3l : N3 ≤ 2000000000000 := by omega
        have hm64 : m < 18446744073709551616 := by omega
        obtain ⟨A3, hA3⟩ : ∃ A3 : Option Addr, A3 = if c1 = 1 then some ⟨g, o, none⟩ else (some (⟨g, o, none⟩ : Addr)).map (·.add (1 * 3)) := ⟨_, rfl⟩
        have hsl : ∀ w : World, (Instr.sliceAt 167 (.slice (some ⟨g, o, none⟩) d c1) (some (.int .i64 1)) none none).run Tryz.prog w = .ok (.slice A3 (d - 1) (c1 - 1)) w := fun w => by rw [hA3]; exact from_gC _ d c1 1 (by omega) hdc _ rfl w
        have hrest := rest_grs HD.out (show 1 ≤ d by omega) hdc hA3 HA1.out
        obtain ⟨d3, hd3⟩ : ∃ d3, d3 = d - 1 := ⟨_, rfl⟩
        obtain ⟨c3, hc3⟩ : ∃ c3, c3 = c1 - 1 := ⟨_, rfl⟩
        rw [← hd3, ← hc3] at hsl
        rw [← hd3] at hrest
        have hd3c : d3 ≤ c3 := by omega
        have hd3n : d3 ≤ n := by omega
        have hd3d : d3 < d := by omega
        have HREST := Lib.hid hrest
        clear hA3 hrest hd3 hc3
        clear hB2 hB3 he2 he3 he hRl hl2 hl3 hN2 hN3 hnt hz
        go_wp2_with fail
        refine HOT.out.mono ?_
        rintro e w2 ⟨rfl, hf2⟩
        have HF2 := Lib.hid (HF1.out.trans (hf2.mono (T := fun b => base ≤ b) (fun _ _ h => h.elim)) (fun _ _ h => h))
        have HO2 := Lib.hid (HO.out.fr hf2)
        have HQ2 := Lib.hid (HQ1.out.fr hf2 (fun h => h))
        replace h1 := hf2.cell h1 (fun h => h)
        replace h2 := hf2.cell h2 (fun h => h)
        replace h3 := hf2.cell h3 (fun h => h)
        clear hf2 HOT HF1 HO HQ1
        go_wp2_with fail
        refine (HNT.out w2).mono ?_
        rintro e w3 ⟨rfl, hf3⟩
        have HF3 := Lib.hid (HF2.out.trans (hf3.mono (T := fun b => base ≤ b) (fun _ _ h => h.elim)) (fun _ _ h => h))
        have HO3 := Lib.hid (HO2.out.fr hf3)
        have HQ3 := Lib.hid (HQ2.out.fr hf3 (fun h => h))
        replace h1 := hf3.cell h1 (fun h => h)
        replace h2 := hf3.cell h2 (fun h => h)
        replace h3 := hf3.cell h3 (fun h => h)
        clear hf3 HNT HF2 HO2 HQ2
        go_wp2_with fail
        refine (S_any 0 w3 (by omega) (by omega)).mono ?_
        rintro e w4 ⟨A4, c4, rfl, hO4, hf4⟩
        have HF4 := Lib.hid (HF3.out.trans (hf4.mono (T := fun b => base ≤ b) (fun _ _ h => h.elim)) (fun _ _ h => h))
        have HO4 := Lib.hid (HO3.out.fr hf4)
        have HQ4 := Lib.hid (HQ3.out.fr hf4 (fun h => h))
        have HS4 := Lib.hid hO4
        replace h3 := hf4.cell h3 (fun h => h)
        clear hf4 hO4 HF3 HO3 HQ3 h1 h2
        go_upto_region 15 with (at_builtin; refine wpList_appN u8T _ rfl _ _ rfl base _ _ _ rfl HO4.out A4 _ c4 _ rfl HS4.out.rd (bytec_one _) N2 (by rw [HN2.out, HB2.out, List.length_append]) (by unfold maxLen; omega) (by omega) (by have h1 := HF4.out.size; have h2 := HB.out; omega) ?_)
        intro A5 c5 w5 _ _ hown5 hfr5 _
        have HO5 : Hid (Own w5 base A5 c5 B2) := Lib.hid (own_list2 HB2.out HN2.out hown5)
        have hbk : ∀ b, (Value.slice A2 B.length c2).ownBlock = some b → base ≤ b := fun b h => (HO4.out.lt b h).1
        have HF5 := Lib.hid (HF4.out.trans (hfr5.mono (T := fun b => base ≤ b) (fun b _ h => hbk b h)) (fun _ _ h => h))
        have HQ5 := Lib.hid (HQ4.out.fr hfr5 (own_ne HO4.out HQ4.out (by decide)))
        replace h3 := hfr5.cell h3 (fun h => by have k1 := hbk _ h; have k2 := HGB.out; simp only at k1; omega)
        clear hown5 hfr5 hbk HO4 HS4 HF4 HQ4
        go_wp2_with fail
        refine (U_any m w5 hm64).mono ?_
        rintro e w6 ⟨A6, c6, rfl, hO6, hf6⟩
        have HF6 := Lib.hid (HF5.out.trans (hf6.mono (T := fun b => base ≤ b) (fun _ _ h => h.elim)) (fun _ _ h => h))
        have HO6 : Hid (w6.ownsRow base 5 1 (.slice A5 N2 c5) N2 (B2.map bytec)) := Lib.hid (by rw [HN2.out]; exact HO5.out.fr hf6)
        have HQ6 := Lib.hid (HQ5.out.fr hf6 (fun h => h))
        have HS6 := Lib.hid hO6
        clear hf6 hO6 HF5 HO5 HQ5 h3
        go_wp2_with (at_builtin; refine wpList_appN u8T _ rfl _ _ rfl base _ _ _ rfl HO6.out A6 _ c6 _ rfl HS6.out.rd (bytec_one _) N3 (by rw [HN3.out, HB3.out, List.length_append, HN2.out]) (by unfold maxLen; omega) (by omega) (by have h1 := HF6.out.size; have h2 := HB.out; omega) ?_)
        intro A7 c7 w7 _ _ hown7 hfr7 _
        have HO7 : Hid (Own w7 base A7 c7 B3) := Lib.hid (own_list2 HB3.out HN3.out hown7)
        have HF7 := Lib.hid (HF6.out.trans (hfr7.mono (T := fun b => base ≤ b) (fun b _ h => (HO6.out.lt b h).1)) (fun _ _ h => h))
        have HQ7 := Lib.hid (HQ6.out.fr hfr7 (own_ne HO6.out HQ6.out (by decide)))
        clear hown7 hfr7 HO6 HS6 HF6 HQ6
        go_wp2
        exact ⟨⟨D', d3, A3, c3, B3, A7, c7, hd3n, hd3c, rfl, by rw [← HN3.out], HREST.out.1, HREST.out.2, fun g hg => HOD.out g (List.mem_cons_of_mem _ hg), HE3.out, HO7.out, HQ7.out, HF7.out⟩, by simp [lenS]; omega⟩
      · rw [decide_eq_false hz] at hnt
        have HNT := Lib.hid hnt
        by_cases hm1 : 1 < m
        · -- like ones
          have he2 : B ++ (s (m : Int) ++ (kU.put (i, x) ++ tellG kU D')) = R0 := by rw [tell_same (K := kU) hz hm1] at he; exact he
          have hO0 : O = 0 := by rw [hO, others_zero _ (.inr hm1)]
          have t5 : ((O : Int) == 0) = true := by simp; omega
          have t5' : (O == 0) = true := by simp; omega
          obtain ⟨B4, hB2⟩ : ∃ B4, B4 = B ++ s (m : Int) := ⟨_, rfl⟩
          obtain ⟨B5, hB3⟩ : ∃ B5, B5 = B4 ++ kU.put (i, x) := ⟨_, rfl⟩
          have he3 : B5 ++ tellG kU D' = R0 := by rw [hB3, hB2, List.append_assoc, List.append_assoc]; exact he2
          have hl3 : B5.length ≤ 2000000000000 := by rw [← he3, List.length_append] at hRl; omega
          have hl2 : B4.length ≤ 2000000000000 := by rw [hB3, List.length_append] at hl3; omega
          obtain ⟨N4, hN2⟩ : ∃ N4, N4 = B4.length := ⟨_, rfl⟩
          obtain ⟨N5, hN3⟩ : ∃ N5, N5 = B5.length := ⟨_, rfl⟩
          have hN5 : N5 = N4 + (kU.put (i, x)).length := by rw [hN3, hB3, List.length_append, hN2]
          have HN5 := Lib.hid hN5
          have HB2 := Lib.hid hB2
          have HB5 := Lib.hid hB3
          have HE3 := Lib.hid he3
          have HN4 := Lib.hid hN2
          have HN5L := Lib.hid hN3
          have hN2l : N4 ≤ 2000000000000 := by omega
          have hN3l : N5 ≤ 2000000000000 := by omega
          obtain ⟨A3, hA3⟩ : ∃ A3 : Option Addr, A3 = if c1 = 1 then some ⟨g, o, none⟩ else (some (⟨g, o, none⟩ : Addr)).map (·.add (1 * 3)) := ⟨_, rfl⟩
          have hsl : ∀ w : World, (Instr.sliceAt 167 (.slice (some ⟨g, o, none⟩) d c1) (some (.int .i64 1)) none none).run Tryz.prog w = .ok (.slice A3 (d - 1) (c1 - 1)) w := fun w => by rw [hA3]; exact from_gC _ d c1 1 (by omega) hdc _ rfl w
          have hrest := rest_grs HD.out (show 1 ≤ d by omega) hdc hA3 HA1.out
          obtain ⟨d3, hd3⟩ : ∃ d3, d3 = d - 1 := ⟨_, rfl⟩
          obtain ⟨c3, hc3⟩ : ∃ c3, c3 = c1 - 1 := ⟨_, rfl⟩
          rw [← hd3, ← hc3] at hsl
          rw [← hd3] at hrest
          have hd3c : d3 ≤ c3 := by omega
          have hd3n : d3 ≤ n := by omega
          have hd3d : d3 < d := by omega
          have HREST := Lib.hid hrest
          clear hA3 hrest hd3 hc3
          clear hB2 hB3 he2 he3 he hRl hl2 hl3 hN2 hN3 hN5 hnt hz hm1 hO hO0
          go_wp2_with fail
          refine HOT.out.mono ?_
          rintro e w2 ⟨rfl, hf2⟩
          have HF2 := Lib.hid (HF1.out.trans (hf2.mono (T := fun b => base ≤ b) (fun _ _ h => h.elim)) (fun _ _ h => h))
          have HO2 := Lib.hid (HO.out.fr hf2)
          have HQ2 := Lib.hid (HQ1.out.fr hf2 (fun h => h))
          replace h1 := hf2.cell h1 (fun h => h)
          replace h2 := hf2.cell h2 (fun h => h)
          replace h3 := hf2.cell h3 (fun h => h)
          clear hf2 HOT HF1 HO HQ1
          go_wp2_with fail
          refine (HNT.out w2).mono ?_
          rintro e w3 ⟨rfl, hf3⟩
          have HF3 := Lib.hid (HF2.out.trans (hf3.mono (T := fun b => base ≤ b) (fun _ _ h => h.elim)) (fun _ _ h => h))
          have HO3 := Lib.hid (HO2.out.fr hf3)
          have HQ3 := Lib.hid (HQ2.out.fr hf3 (fun h => h))
          replace h1 := hf3.cell h1 (fun h => h)
          replace h2 := hf3.cell h2 (fun h => h)
          replace h3 := hf3.cell h3 (fun h => h)
          clear hf3 HNT HF2 HO2 HQ2
          go_wp2_with fail
          refine (S_any (m : Int) w3 (by omega) (by omega)).mono ?_
          rintro e w4 ⟨A4, c4, rfl, hO4, hf4⟩
          have HF4 := Lib.hid (HF3.out.trans (hf4.mono (T := fun b => base ≤ b) (fun _ _ h => h.elim)) (fun _ _ h => h))
          have HO4 := Lib.hid (HO3.out.fr hf4)
          have HQ4 := Lib.hid (HQ3.out.fr hf4 (fun h => h))
          have HS4 := Lib.hid hO4
          replace h1 := hf4.cell h1 (fun h => h)
          replace h2 := hf4.cell h2 (fun h => h)
          clear hf4 hO4 HF3 HO3 HQ3 h3
          go_upto_region 19 with (at_builtin; refine wpList_appN u8T _ rfl _ _ rfl base _ _ _ rfl HO4.out A4 _ c4 _ rfl HS4.out.rd (bytec_one _) N4 (by rw [HN4.out, HB2.out, List.length_append]) (by unfold maxLen; omega) (by omega) (by have h1 := HF4.out.size; have h2 := HB.out; omega) ?_)
          intro A5 c5 w6 _ _ hown5 hfr5 _
          go_upto_region 19 with fail
          have hO5 : Own w6 base A5 c5 B4 := own_list2 HB2.out HN4.out hown5
          have hbk : ∀ b, (Value.slice A2 B.length c2).ownBlock = some b → base ≤ b := fun b h => (HO4.out.lt b h).1
          have HF6 := Lib.hid (HF4.out.trans (hfr5.mono (T := fun b => base ≤ b) (fun b _ h => hbk b h)) (fun _ _ h => h))
          have HQ6 := Lib.hid (HQ4.out.fr hfr5 (own_ne HO4.out HQ4.out (by decide)))
          have HS6 := Lib.hid (And.intro (show w6.cell? ⟨q, 0, none⟩ = some (.func (.func 123) #[] #[]) from HQ6.out.cell rfl) (And.intro (hfr5.cell h1 (fun h => by have k1 := hbk _ h; have k2 := HGB.out; simp only at k1; omega)) (hfr5.cell h2 (fun h => by have k1 := hbk _ h; have k2 := HGB.out; simp only at k1; omega))))
          clear hown5 hfr5 hbk HO4 HS4 HF4 HQ4 h1 h2
          have HO6 := Lib.hid hO5
          clear hO5
          refine wp_region_held_drew (S := fun w' => w'.cell? ⟨q, 0, none⟩ = some (.func (.func 123) #[] #[]) ∧ w'.cell? ⟨g, o, none⟩ = some (.bool i) ∧ w'.cell? ⟨g, o + 1, none⟩ = some (.int .i64 x)) (by kernel_rfl) ?_ (fun hHeld => ?_)
          · exact HS6.out
          refine tk 0 hHeld ?_
          refine tk 1 hHeld ?_
          refine tk 2 hHeld ?_
          refine tk 3 hHeld ?_
          refine tk 4 hHeld ?_
          refine tk 5 hHeld ?_
          refine tk 6 hHeld ?_
          refine rdo 7 (fun Kx hKx => ?_)
          go_simp
          refine (putU_any i x _ HOKX.out).mono ?_
          rintro e w7 ⟨A9, c9, rfl, hO5, hf5⟩
          have HO5 := Lib.hid hO5
          have HF7 := Lib.hid (HF6.out.drew.trans (hf5.mono (T := fun b => base ≤ b) (fun _ _ h => h.elim)) (fun _ _ h => h))
          have hO6' := (show Own w6.drew base A5 c5 B4 from HO6.out).fr hf5
          have HO6N : Hid (w7.ownsRow base 5 1 (.slice A5 N4 c5) N4 (B4.map bytec)) := Lib.hid (by rw [HN4.out]; exact hO6')
          have HS7 := Lib.hid (And.intro (hf5.cell HS6.out.1 (fun h => h)) (And.intro (hf5.cell HS6.out.2.1 (fun h => h)) (hf5.cell HS6.out.2.2 (fun h => h))))
          have HQ7 := Lib.hid ((show Row w6.drew q 165 _ from HQ6.out).fr hf5 (fun h => h))
          clear hO5 hf5 hO6'
          refine hKx.out _ _ ?_ (fun hHeld => ?_)
          · exact HS7.out
          clear hKx Kx
          refine rdo 8 (fun Kx hKx => ?_)
          refine step_app u8T _ (by rfl) _ _ (by rfl) base _ N4 (B4.map bytec) (by rfl) HO6N.out A9 _ c9 _ (by rfl) HO5.out.rd (bytec_one _) N5 HN5.out (by unfold maxLen; omega) (by omega) (by have h1 := HF7.out.size; have h2 := HB.out; omega) ?_
          intro A6 c6 w8 _ hown8 hfr8
          have HO8 : Hid (Own w8 base A6 c6 B5) := Lib.hid (own_list2 HB5.out HN5L.out hown8)
          have hbk : ∀ b, (Value.slice A5 N4 c5).ownBlock = some b → base ≤ b := fun b h => (HO6N.out.lt b h).1
          have HF8 := Lib.hid (HF7.out.trans (hfr8.mono (T := fun b => base ≤ b) (fun b _ h => hbk b h)) (fun _ _ h => h))
          have HQ8 := Lib.hid (HQ7.out.fr hfr8 (own_ne HO6N.out HQ7.out (by decide)))
          have HS8 := Lib.hid (And.intro (hfr8.cell HS7.out.1 (own_ne HO6N.out HQ7.out (by decide))) (And.intro (hfr8.cell HS7.out.2.1 (fun h => by have h1 := hbk _ h; have h2 := HGB.out; simp only at h1; omega)) (hfr8.cell HS7.out.2.2 (fun h => by have h1 := hbk _ h; have h2 := HGB.out; simp only at h1; omega))))
          clear hown8 hfr8 hbk
          refine hKx.out _ _ ?_ (fun hHeld => ?_)
          · exact HS8.out
          clear hKx Kx
          refine rdo 9 (fun Kx hKx => ?_)
          go_simp
          refine hKx.out _ _ ?_ (fun hHeld => ?_)
          · exact HS8.out
          clear hKx Kx
          (try simp only [Act.put, List.setIfInBounds_toArray, List.set_cons_zero, List.set_cons_succ, List.getElem_toArray, List.getElem_cons_zero, List.getElem_cons_succ])
          refine wpAnyH_done (by kernel_rfl) ?_ _
          go_wp2_with fail
          exact ⟨⟨D', d3, A3, c3, B5, A6, c6, hd3n, hd3c, rfl, by rw [← HN5L.out], HREST.out.1, HREST.out.2, fun g hg => HOD.out g (List.mem_cons_of_mem _ hg), HE3.out, HO8.out, HQ8.out, HF8.out⟩, by simp [lenS]; omega⟩
        · -- others
          have hOp : 0 < O := by rw [hO]; exact others_pos hz hm1 D'
          have he2 : B ++ (s (-(O : Int)) ++ (puts kU ((((i, x), m) :: D').take O) ++ tellG kU ((((i, x), m) :: D').drop O))) = R0 := by
            have h := tell_other (K := kU) (c := (i, x)) (n := m) hz hm1 D'
            rw [show othersG kU.zero (((i, x), m) :: D') = O from hO.symm] at h
            rw [h] at he
            exact he
          have t5 : ((O : Int) == 0) = false := by simp; omega
          have t5' : (O == 0) = false := by simp; omega
          have r5 : IntKind.i64.wrap (-(O : Int)) = -(O : Int) := by rw [IntKind.wrap_i64]; omega
          obtain ⟨B2, hB2⟩ : ∃ B2, B2 = B ++ s (-(O : Int)) := ⟨_, rfl⟩
          have he3 : B2 ++ puts kU ((((i, x), m) :: D').take O) ++ tellG kU ((((i, x), m) :: D').drop O) = R0 := by rw [hB2, List.append_assoc, List.append_assoc]; exact he2
          have hl3 : B2.length + (puts kU ((((i, x), m) :: D').take O)).length ≤ 2000000000000 := by rw [← he3, List.length_append, List.length_append] at hRl; omega
          obtain ⟨N2, hN2⟩ : ∃ N2, N2 = B2.length := ⟨_, rfl⟩
          have HB2 := Lib.hid hB2
          have HE3 := Lib.hid he3
          have HN2 := Lib.hid hN2
          have HL3 := Lib.hid hl3
          have hN2l : N2 ≤ 2000000000000 := by omega
          have hsl2 : ∀ w : World, (Instr.sliceAt 167 (.slice (some ⟨g, o, none⟩) d c1) none (some (.int .i64 (O : Int))) none).run Tryz.prog w = .ok (.slice (some ⟨g, o, none⟩) O c1) w := fun w => to_gC _ d c1 O hole hdc _ rfl w
          have hOD2 : ∀ g ∈ (((i, x), m) :: D').take O, okU g.1 := fun g hg => (HOD.out g (List.mem_of_mem_take hg)).1
          have HOD2 := Lib.hid hOD2
          have HTK := Lib.hid (HD.out.take O hole)
          have hO6 : O ≤ 1000000 := by omega
          obtain ⟨A3, hA3⟩ : ∃ A3 : Option Addr, A3 = if c1 = O then some ⟨g, o, none⟩ else (some (⟨g, o, none⟩ : Addr)).map (·.add (O * 3)) := ⟨_, rfl⟩
          have hsl : ∀ w : World, (Instr.sliceAt 167 (.slice (some ⟨g, o, none⟩) d c1) (some (.int .i64 (O : Int))) none none).run Tryz.prog w = .ok (.slice A3 (d - O) (c1 - O)) w := fun w => by rw [hA3]; exact from_gC _ d c1 O (by omega) hdc _ rfl w
          have hrest := rest_grs HD.out (show O ≤ d by omega) hdc hA3 HA1.out
          obtain ⟨d3, hd3⟩ : ∃ d3, d3 = d - O := ⟨_, rfl⟩
          obtain ⟨c3, hc3⟩ : ∃ c3, c3 = c1 - O := ⟨_, rfl⟩
          rw [← hd3, ← hc3] at hsl
          rw [← hd3] at hrest
          have hd3c : d3 ≤ c3 := by omega
          have hd3n : d3 ≤ n := by omega
          have hd3d : d3 < d := by omega
          have HREST := Lib.hid hrest
          clear hA3 hrest hd3 hc3
          clear hB2 he2 he3 he hRl hl3 hN2 hnt hz hm1 hO hOD2
          go_wp2_with fail
          refine HOT.out.mono ?_
          rintro e w2 ⟨rfl, hf2⟩
          have HF2 := Lib.hid (HF1.out.trans (hf2.mono (T := fun b => base ≤ b) (fun _ _ h => h.elim)) (fun _ _ h => h))
          have HO2 := Lib.hid (HO.out.fr hf2)
          have HQ2 := Lib.hid (HQ1.out.fr hf2 (fun h => h))
          replace h1 := hf2.cell h1 (fun h => h)
          replace h2 := hf2.cell h2 (fun h => h)
          replace h3 := hf2.cell h3 (fun h => h)
          clear hf2 HOT HF1 HO HQ1
          go_wp2_with fail
          refine (HNT.out w2).mono ?_
          rintro e w3 ⟨rfl, hf3⟩
          have HF3 := Lib.hid (HF2.out.trans (hf3.mono (T := fun b => base ≤ b) (fun _ _ h => h.elim)) (fun _ _ h => h))
          have HO3 := Lib.hid (HO2.out.fr hf3)
          have HQ3 := Lib.hid (HQ2.out.fr hf3 (fun h => h))
          replace h1 := hf3.cell h1 (fun h => h)
          replace h2 := hf3.cell h2 (fun h => h)
          replace h3 := hf3.cell h3 (fun h => h)
          clear hf3 HNT HF2 HO2 HQ2
          go_wp2_with fail
          refine (S_any (-(O : Int)) w3 (by omega) (by omega)).mono ?_
          rintro e w4 ⟨A4, c4, rfl, hO4, hf4⟩
          have HF4 := Lib.hid (HF3.out.trans (hf4.mono (T := fun b => base ≤ b) (fun _ _ h => h.elim)) (fun _ _ h => h))
          have HO4 := Lib.hid (HO3.out.fr hf4)
          have HQ4 := Lib.hid (HQ3.out.fr hf4 (fun h => h))
          have HS4 := Lib.hid hO4
          replace h1 := hf4.cell h1 (fun h => h)
          replace h2 := hf4.cell h2 (fun h => h)
          clear hf4 hO4 HF3 HO3 HQ3 h3
          go_upto_region 7 with (at_builtin; refine wpList_appN u8T _ rfl _ _ rfl base _ _ _ rfl HO4.out A4 _ c4 _ rfl HS4.out.rd (bytec_one _) N2 (by rw [HN2.out, HB2.out, List.length_append]) (by unfold maxLen; omega) (by omega) (by have h1 := HF4.out.size; have h2 := HB.out; omega) ?_)
          intro A5 c5 w5 _ _ hown5 hfr5 _
          have HO5 : Hid (Own w5 base A5 c5 B2) := Lib.hid (own_list2 HB2.out HN2.out hown5)
          have hbk : ∀ b, (Value.slice A2 B.length c2).ownBlock = some b → base ≤ b := fun b h => (HO4.out.lt b h).1
          have HF5 := Lib.hid (HF4.out.trans (hfr5.mono (T := fun b => base ≤ b) (fun b _ h => hbk b h)) (fun _ _ h => h))
          have HQ5 := Lib.hid (HQ4.out.fr hfr5 (own_ne HO4.out HQ4.out (by decide)))
          clear hown5 hfr5 hbk HO4 HS4 HF4 HQ4 h1 h2
          go_upto_region 7 with fail
          go_wp2_with fail
          obtain rfl := HN2.out
          refine tell_inU _ _ _ _ _ _ _ _ _ _ _ _ _ _ _ _ _ _ _ _ _ _ _ _ _ _ _ _ _ _ _ _ _ _ _ _ _ _ _ _ _ _ _ _ _ _ _ _ _ _ _ _ _ _ _ _ _ _ _ _ _ _ _ _ _ _ _ _ _ _ _ _ _ _ _ _ _ _ _ base q O c1 c5 (some ⟨g, o, none⟩) A5 B2 ((((i, x), m) :: D').take O) fq w w5 HTK HA1 HOD2 HO5 HQ5 HF5 HB hO6 HL3 ?_
          intro A7 c7 B3 w7 r8 r33 r34 r35 r36 r37 r38 r39 r40 r41 r42 r43 HB3 HO7 HQ7 HF7
          go_wp2_with fail
          exact ⟨⟨(((i, x), m) :: D').drop O, d3, A3, c3, B3, A7, c7, hd3n, hd3c, rfl, rfl, HREST.out.1, HREST.out.2, fun g hg => HOD.out g (List.mem_of_mem_drop hg), by rw [HB3.out]; exact HE3.out, HO7.out, HQ7.out, HF7.out⟩, by simp [lenS]; omega⟩

set_option maxRecDepth 1000000 in
noncomputable def tellMainS : Code := ((Tryz.f90.body.bind (loopAt 5)).getD .skip)

set_option maxRecDepth 1000000 in
set_option maxHeartbeats 6400000 in
theorem tell_loopS (Q0 : Exit → Act → World → Prop) (s0 s3 s4 s6 s7 s8 s9 s10 s11 s12 s13 s14 s15 s16 s17 s18 s19 s20 s21 s22 s23 s24 s25 s26 s27 s28 s29 s30 s31 s32 s33 s34 s35 s36 s37 s38 s39 s40 s41 s42 s43 s44 s45 s46 s47 s48 s49 s50 s51 s52 s53 s54 s55 s56 s57 s58 s59 s60 s61 s62 s63 s64 s65 s66 s67 s68 s69 s70 s71 s72 s73 s74 s75 s76 s77 s78 s79 s80 s81 s82 : Value) (base q n c : Nat) (A : Option Addr) (L : List ((Bool × Int) × Nat)) (fq : Value) (w wc : World)
    (HL : Hid (Grs nv w A n L)) (hc : n ≤ c) (HA : Hid (∀ ad, A = some ad → ad.block < base)) (HOK : Hid (∀ g ∈ L, okS g.1)) (HCN : Hid (∀ g ∈ L, g.2 < 9223372036854775808)) (HQ : Hid (Row wc q 165 [.func (.func 156) #[] #[], fq]))
    (HF : Hid (Fr (fun b => base ≤ b) w wc)) (HB : Hid (base ≤ w.heap.size)) (hn : n ≤ 1000000) (HLEN : Hid ((tellG kS L).length ≤ 2000000000000))
    (hexit : ∀ (A' : Option Addr) (c' : Nat) (R : List UInt8) (w'' : World) (r1 r6 r8 r18 r19 r20 r21 r22 r23 r24 r25 r26 r27 r28 r29 r30 r31 r32 r33 r34 r35 r36 r37 r38 r39 r40 r41 r42 r43 r44 r45 r46 r47 r48 r49 r50 r51 r52 r53 r54 r55 r56 r57 r58 r59 r60 r61 r62 r63 r64 r65 r66 r67 r68 r69 r70 r71 r72 r73 r74 r75 r76 r77 r78 r79 r80 r81 : Value), Hid (R = tellG kS L) → Hid (Own w'' base A' c' R) → Hid (Fr (fun b => base ≤ b) w w'') → Q0 (.exit 0) ⟨List.toArray (s0 :: r1 :: .pointer (some ⟨q, 0, none⟩) :: s3 :: s4 :: .slice A' R.length c' :: r6 :: s7 :: r8 :: s9 :: s10 :: s11 :: s12 :: s13 :: s14 :: s15 :: s16 :: s17 :: r18 :: r19 :: r20 :: r21 :: r22 :: r23 :: r24 :: r25 :: r26 :: r27 :: r28 :: r29 :: r30 :: r31 :: r32 :: r33 :: r34 :: r35 :: r36 :: r37 :: r38 :: r39 :: r40 :: r41 :: r42 :: r43 :: r44 :: r45 :: r46 :: r47 :: r48 :: r49 :: r50 :: r51 :: r52 :: r53 :: r54 :: r55 :: r56 :: r57 :: r58 :: r59 :: r60 :: r61 :: r62 :: r63 :: r64 :: r65 :: r66 :: r67 :: r68 :: r69 :: r70 :: r71 :: r72 :: r73 :: r74 :: r75 :: r76 :: r77 :: r78 :: r79 :: r80 :: r81 :: s82 :: []), []⟩ w'') :
    Code.wp Tryz.prog (Code.loop tellMainS) Q0 ⟨List.toArray (s0 :: .slice A n c :: .pointer (some ⟨q, 0, none⟩) :: s3 :: s4 :: .slice none 0 0 :: s6 :: s7 :: s8 :: s9 :: s10 :: s11 :: s12 :: s13 :: s14 :: s15 :: s16 :: s17 :: s18 :: s19 :: s20 :: s21 :: s22 :: s23 :: s24 :: s25 :: s26 :: s27 :: s28 :: s29 :: s30 :: s31 :: s32 :: s33 :: s34 :: s35 :: s36 :: s37 :: s38 :: s39 :: s40 :: s41 :: s42 :: s43 :: s44 :: s45 :: s46 :: s47 :: s48 :: s49 :: s50 :: s51 :: s52 :: s53 :: s54 :: s55 :: s56 :: s57 :: s58 :: s59 :: s60 :: s61 :: s62 :: s63 :: s64 :: s65 :: s66 :: s67 :: s68 :: s69 :: s70 :: s71 :: s72 :: s73 :: s74 :: s75 :: s76 :: s77 :: s78 :: s79 :: s80 :: s81 :: s82 :: []), []⟩ wc := by
  refine Code.wp_mono (onExit_imp (n := 0)) ?_
  conv => arg 2; arg 1; whnf
  obtain ⟨R0, hR0⟩ : ∃ R0, R0 = tellG kS L := ⟨_, rfl⟩
  rw [← hR0] at HLEN hexit
  have HR0 := Lib.hid hR0
  clear hR0
  go_loopw [1, 5] (fun l b wr => ∃ (D : List ((Bool × Int) × Nat)) (d : Nat) (A1 : Option Addr) (c1 : Nat) (B : List UInt8) (A2 : Option Addr) (c2 : Nat), d ≤ n ∧ d ≤ c1 ∧ l = .slice A1 d c1 ∧ b = .slice A2 B.length c2 ∧ Hid (Grs nv w A1 d D) ∧ Hid (∀ ad, A1 = some ad → ad.block < base) ∧
      Hid (∀ g ∈ D, okS g.1 ∧ g.2 < 9223372036854775808) ∧ Hid (B ++ tellG kS D = R0) ∧ Hid (Own wr base A2 c2 B) ∧ Hid (Row wr q 165 [.func (.func 156) #[] #[], fq]) ∧ Hid (Fr (fun b => base ≤ b) w wr)) (fun l _ _ => lenS l)
  case atStart => exact ⟨L, n, A, c, [], none, 0, Nat.le_refl _, hc, rfl, rfl, HL.out, HA.out, fun g hg => ⟨HOK.out g hg, HCN.out g hg⟩, HR0.out.symm, Own.nil _ _, HQ.out, HF.out⟩
  case round =>
    obtain ⟨D, d, A1, c1, B, A2, c2, hdn, hdc, rfl, rfl, HD, HA1, HOD, HE, HO, HQ1, HF1⟩ := hrel
    rename World => wr
    have hDl := HD.out.1
    cases D with
    | nil =>
      obtain rfl : d = 0 := hDl.symm
      have he : R0 = B := by have h := HE.out; rw [tell_nil, List.append_nil] at h; exact h.symm
      have HE2 := Lib.hid he
      clear he
      go_wp2_with fail
      exact ⟨rfl, hexit _ _ _ _ _ _ _ _ _ _ _ _ _ _ _ _ _ _ _ _ _ _ _ _ _ _ _ _ _ _ _ _ _ _ _ _ _ _ _ _ _ _ _ _ _ _ _ _ _ _ _ _ _ _ _ _ _ _ _ _ _ _ _ _ _ _ _ _ _ _ _ HE2.out.symm HO HF1⟩
    | cons t D' =>
      obtain ⟨⟨i, x⟩, m⟩ := t
      have hd0 : 0 < d := by rw [← hDl, List.length_cons]; omega
      have hDr := HD.out.fr HF1.out (fun ad e h => by have := HA1.out ad e; omega)
      obtain ⟨g, o, rfl, hg, h1, h2, h3⟩ := hDr.2 0 ((i, x), m) rfl
      rw [Nat.zero_mul] at h1 h2 h3
      rw [Nat.add_zero] at h1 h2 h3
      simp only [nv] at h1 h2 h3
      have hokx := (HOD.out ((i, x), m) (List.mem_cons_self ..)).1
      have hmx := (HOD.out ((i, x), m) (List.mem_cons_self ..)).2
      simp only at hokx hmx
      have hot := othersC_any (some ⟨g, o, none⟩) d c1 (((i, x), m) :: D') wr hDr (by omega)
      have hole := others_le ((false, 0) : Bool × Int) (((i, x), m) :: D')
      rw [hDl] at hole
      have hnt := fun (w : World) => nothingC_any i x (m : Int) w
      have hgb : g < base := HA1.out _ rfl
      have HGB := Lib.hid hgb
      have he := HE.out
      have hRl := HLEN.out
      obtain ⟨O, hO⟩ : ∃ O, O = othersG ((false, 0) : Bool × Int) (((i, x), m) :: D') := ⟨_, rfl⟩
      rw [← hO] at hot hole
      have HOT := Lib.hid hot
      have HDL := Lib.hid hDl
      have HOKX := Lib.hid hokx
      have tl : decide ((0 : Int) < (d : Int)) = true := by simp; omega
      have tl' : decide (0 < d) = true := by simp; omega
      clear hDr hot hDl hokx
      by_cases hz : (i, x) = ((false, 0) : Bool × Int)
      · -- nothings
        rw [decide_eq_true hz] at hnt
        have HNT := Lib.hid hnt
        have he2 : B ++ (s 0 ++ (u m ++ tellG kS D')) = R0 := by
          have := tell_none (K := kS) m D'
          rw [← show (i, x) = kS.zero from hz] at this
          rw [this] at he
          exact he
        obtain ⟨B2, hB2⟩ : ∃ B2, B2 = B ++ s 0 := ⟨_, rfl⟩
        obtain ⟨B3, hB3⟩ : ∃ B3, B3 = B2 ++ u m := ⟨_, rfl⟩
        have he3 : B3 ++ tellG kS D' = R0 := by rw [hB3, hB2, List.append_assoc, List.append_assoc]; exact he2
        have hl3 : B3.length ≤ 2000000000000 := by rw [← he3, List.length_append] at hRl; omega
        have hl2 : B2.length ≤ 2000000000000 := by rw [hB3, List.length_append] at hl3; omega
        have HB2 := Lib.hid hB2
        have HB3 := Lib.hid hB3
        have HE3 := Lib.hid he3
        have r1 : IntKind.u64.wrap (m : Int) = (m : Int) := by rw [IntKind.wrap_u64]; omega
        obtain ⟨N2, hN2⟩ : ∃ N2, N2 = B2.length := ⟨_, rfl⟩
        obtain ⟨N3, hN3⟩ : ∃ N3, N3 = B3.length := ⟨_, rfl⟩
        have HN2 := Lib.hid hN2
        have HN3 := Lib.hid hN3
        have hN2l : N2 ≤ 2000000000000 := by omega
        have hN3l : N3 ≤ 2000000000000 := by omega
        have hm64 : m < 18446744073709551616 := by omega
        obtain ⟨A3, hA3⟩ : ∃ A3 : Option Addr, A3 = if c1 = 1 then some ⟨g, o, none⟩ else (some (⟨g, o, none⟩ : Addr)).map (·.add (1 * 3)) := ⟨_, rfl⟩
        have hsl : ∀ w : World, (Instr.sliceAt 167 (.slice (some ⟨g, o, none⟩) d c1) (some (.int .i64 1)) none none).run Tryz.prog w = .ok (.slice A3 (d - 1) (c1 - 1)) w := fun w => by rw [hA3]; exact from_gC _ d c1 1 (by omega) hdc _ rfl w
        have hrest := rest_grs HD.out (show 1 ≤ d by omega) hdc hA3 HA1.out
        obtain ⟨d3, hd3⟩ : ∃ d3, d3 = d - 1 := ⟨_, rfl⟩
        obtain ⟨c3, hc3⟩ : ∃ c3, c3 = c1 - 1 := ⟨_, rfl⟩
        rw [← hd3, ← hc3] at hsl
        rw [← hd3] at hrest
        have hd3c : d3 ≤ c3 := by omega
        have hd3n : d3 ≤ n := by omega
        have hd3d : d3 < d := by omega
        have HREST := Lib.hid hrest
        clear hA3 hrest hd3 hc3
        clear hB2 hB3 he2 he3 he hRl hl2 hl3 hN2 hN3 hnt hz
        go_wp2_with fail
        refine HOT.out.mono ?_
        rintro e w2 ⟨rfl, hf2⟩
        have HF2 := Lib.hid (HF1.out.trans (hf2.mono (T := fun b => base ≤ b) (fun _ _ h => h.elim)) (fun _ _ h => h))
        have HO2 := Lib.hid (HO.out.fr hf2)
        have HQ2 := Lib.hid (HQ1.out.fr hf2 (fun h => h))
        replace h1 := hf2.cell h1 (fun h => h)
        replace h2 := hf2.cell h2 (fun h => h)
        replace h3 := hf2.cell h3 (fun h => h)
        clear hf2 HOT HF1 HO HQ1
        go_wp2_with fail
        refine (HNT.out w2).mono ?_
        rintro e w3 ⟨rfl, hf3⟩
        have HF3 := Lib.hid (HF2.out.trans (hf3.mono (T := fun b => base ≤ b) (fun _ _ h => h.elim)) (fun _ _ h => h))
        have HO3 := Lib.hid (HO2.out.fr hf3)
        have HQ3 := Lib.hid (HQ2.out.fr hf3 (fun h => h))
        replace h1 := hf3.cell h1 (fun h => h)
        replace h2 := hf3.cell h2 (fun h => h)
        replace h3 := hf3.cell h3 (fun h => h)
        clear hf3 HNT HF2 HO2 HQ2
        go_wp2_with fail
        refine (S_any 0 w3 (by omega) (by omega)).mono ?_
        rintro e w4 ⟨A4, c4, rfl, hO4, hf4⟩
        have HF4 := Lib.hid (HF3.out.trans (hf4.mono (T := fun b => base ≤ b) (fun _ _ h => h.elim)) (fun _ _ h => h))
        have HO4 := Lib.hid (HO3.out.fr hf4)
        have HQ4 := Lib.hid (HQ3.out.fr hf4 (fun h => h))
        have HS4 := Lib.hid hO4
        replace h3 := hf4.cell h3 (fun h => h)
        clear hf4 hO4 HF3 HO3 HQ3 h1 h2
        go_upto_region 15 with (at_builtin; refine wpList_appN u8T _ rfl _ _ rfl base _ _ _ rfl HO4.out A4 _ c4 _ rfl HS4.out.rd (bytec_one _) N2 (by rw [HN2.out, HB2.out, List.length_append]) (by unfold maxLen; omega) (by omega) (by have h1 := HF4.out.size; have h2 := HB.out; omega) ?_)
        intro A5 c5 w5 _ _ hown5 hfr5 _
        have HO5 : Hid (Own w5 base A5 c5 B2) := Lib.hid (own_list2 HB2.out HN2.out hown5)
        have hbk : ∀ b, (Value.slice A2 B.length c2).ownBlock = some b → base ≤ b := fun b h => (HO4.out.lt b h).1
        have HF5 := Lib.hid (HF4.out.trans (hfr5.mono (T := fun b => base ≤ b) (fun b _ h => hbk b h)) (fun _ _ h => h))
        have HQ5 := Lib.hid (HQ4.out.fr hfr5 (own_ne HO4.out HQ4.out (by decide)))
        replace h3 := hfr5.cell h3 (fun h => by have k1 := hbk _ h; have k2 := HGB.out; simp only at k1; omega)
        clear hown5 hfr5 hbk HO4 HS4 HF4 HQ4
        go_wp2_with fail
        refine (U_any m w5 hm64).mono ?_
        rintro e w6 ⟨A6, c6, rfl, hO6, hf6⟩
        have HF6 := Lib.hid (HF5.out.trans (hf6.mono (T := fun b => base ≤ b) (fun _ _ h => h.elim)) (fun _ _ h => h))
        have HO6 : Hid (w6.ownsRow base 5 1 (.slice A5 N2 c5) N2 (B2.map bytec)) := Lib.hid (by rw [HN2.out]; exact HO5.out.fr hf6)
        have HQ6 := Lib.hid (HQ5.out.fr hf6 (fun h => h))
        have HS6 := Lib.hid hO6
        clear hf6 hO6 HF5 HO5 HQ5 h3
        go_wp2_with (at_builtin; refine wpList_appN u8T _ rfl _ _ rfl base _ _ _ rfl HO6.out A6 _ c6 _ rfl HS6.out.rd (bytec_one _) N3 (by rw [HN3.out, HB3.out, List.length_append, HN2.out]) (by unfold maxLen; omega) (by omega) (by have h1 := HF6.out.size; have h2 := HB.out; omega) ?_)
        intro A7 c7 w7 _ _ hown7 hfr7 _
        have HO7 : Hid (Own w7 base A7 c7 B3) := Lib.hid (own_list2 HB3.out HN3.out hown7)
        have HF7 := Lib.hid (HF6.out.trans (hfr7.mono (T := fun b => base ≤ b) (fun b _ h => (HO6.out.lt b h).1)) (fun _ _ h => h))
        have HQ7 := Lib.hid (HQ6.out.fr hfr7 (own_ne HO6.out HQ6.out (by decide)))
        clear hown7 hfr7 HO6 HS6 HF6 HQ6
        go_wp2
        exact ⟨⟨D', d3, A3, c3, B3, A7, c7, hd3n, hd3c, rfl, by rw [← HN3.out], HREST.out.1, HREST.out.2, fun g hg => HOD.out g (List.mem_cons_of_mem _ hg), HE3.out, HO7.out, HQ7.out, HF7.out⟩, by simp [lenS]; omega⟩
      · rw [decide_eq_false hz] at hnt
        have HNT := Lib.hid hnt
        by_cases hm1 : 1 < m
        · -- like ones
          have he2 : B ++ (s (m : Int) ++ (kS.put (i, x) ++ tellG kS D')) = R0 := by rw [tell_same (K := kS) hz hm1] at he; exact he
          have hO0 : O = 0 := by rw [hO, others_zero _ (.inr hm1)]
          have t5 : ((O : Int) == 0) = true := by simp; omega
          have t5' : (O == 0) = true := by simp; omega
          obtain ⟨B4, hB2⟩ : ∃ B4, B4 = B ++ s (m : Int) := ⟨_, rfl⟩
          obtain ⟨B5, hB3⟩ : ∃ B5, B5 = B4 ++ kS.put (i, x) := ⟨_, rfl⟩
          have he3 : B5 ++ tellG kS D' = R0 := by rw [hB3, hB2, List.append_assoc, List.append_assoc]; exact he2
          have hl3 : B5.length ≤ 2000000000000 := by rw [← he3, List.length_append] at hRl; omega
          have hl2 : B4.length ≤ 2000000000000 := by rw [hB3, List.length_append] at hl3; omega
          obtain ⟨N4, hN2⟩ : ∃ N4, N4 = B4.length := ⟨_, rfl⟩
          obtain ⟨N5, hN3⟩ : ∃ N5, N5 = B5.length := ⟨_, rfl⟩
          have hN5 : N5 = N4 + (kS.put (i, x)).length := by rw [hN3, hB3, List.length_append, hN2]
          have HN5 := Lib.hid hN5
          have HB2 := Lib.hid hB2
          have HB5 := Lib.hid hB3
          have HE3 := Lib.hid he3
          have HN4 := Lib.hid hN2
          have HN5L := Lib.hid hN3
          have hN2l : N4 ≤ 2000000000000 := by omega
          have hN3l : N5 ≤ 2000000000000 := by omega
          obtain ⟨A3, hA3⟩ : ∃ A3 : Option Addr, A3 = if c1 = 1 then some ⟨g, o, none⟩ else (some (⟨g, o, none⟩ : Addr)).map (·.add (1 * 3)) := ⟨_, rfl⟩
          have hsl : ∀ w : World, (Instr.sliceAt 167 (.slice (some ⟨g, o, none⟩) d c1) (some (.int .i64 1)) none none).run Tryz.prog w = .ok (.slice A3 (d - 1) (c1 - 1)) w := fun w => by rw [hA3]; exact from_gC _ d c1 1 (by omega) hdc _ rfl w
          have hrest := rest_grs HD.out (show 1 ≤ d by omega) hdc hA3 HA1.out
          obtain ⟨d3, hd3⟩ : ∃ d3, d3 = d - 1 := ⟨_, rfl⟩
          obtain ⟨c3, hc3⟩ : ∃ c3, c3 = c1 - 1 := ⟨_, rfl⟩
          rw [← hd3, ← hc3] at hsl
          rw [← hd3] at hrest
          have hd3c : d3 ≤ c3 := by omega
          have hd3n : d3 ≤ n := by omega
          have hd3d : d3 < d := by omega
          have HREST := Lib.hid hrest
          clear hA3 hrest hd3 hc3
          clear hB2 hB3 he2 he3 he hRl hl2 hl3 hN2 hN3 hN5 hnt hz hm1 hO hO0
          go_wp2_with fail
          refine HOT.out.mono ?_
          rintro e w2 ⟨rfl, hf2⟩
          have HF2 := Lib.hid (HF1.out.trans (hf2.mono (T := fun b => base ≤ b) (fun _ _ h => h.elim)) (fun _ _ h => h))
          have HO2 := Lib.hid (HO.out.fr hf2)
          have HQ2 := Lib.hid (HQ1.out.fr hf2 (fun h => h))
          replace h1 := hf2.cell h1 (fun h => h)
          replace h2 := hf2.cell h2 (fun h => h)
          replace h3 := hf2.cell h3 (fun h => h)
          clear hf2 HOT HF1 HO HQ1
          go_wp2_with fail
          refine (HNT.out w2).mono ?_
          rintro e w3 ⟨rfl, hf3⟩
          have HF3 := Lib.hid (HF2.out.trans (hf3.mono (T := fun b => base ≤ b) (fun _ _ h => h.elim)) (fun _ _ h => h))
          have HO3 := Lib.hid (HO2.out.fr hf3)
          have HQ3 := Lib.hid (HQ2.out.fr hf3 (fun h => h))
          replace h1 := hf3.cell h1 (fun h => h)
          replace h2 := hf3.cell h2 (fun h => h)
          replace h3 := hf3.cell h3 (fun h => h)
          clear hf3 HNT HF2 HO2 HQ2
          go_wp2_with fail
          refine (S_any (m : Int) w3 (by omega) (by omega)).mono ?_
          rintro e w4 ⟨A4, c4, rfl, hO4, hf4⟩
          have HF4 := Lib.hid (HF3.out.trans (hf4.mono (T := fun b => base ≤ b) (fun _ _ h => h.elim)) (fun _ _ h => h))
          have HO4 := Lib.hid (HO3.out.fr hf4)
          have HQ4 := Lib.hid (HQ3.out.fr hf4 (fun h => h))
          have HS4 := Lib.hid hO4
          replace h1 := hf4.cell h1 (fun h => h)
          replace h2 := hf4.cell h2 (fun h => h)
          clear hf4 hO4 HF3 HO3 HQ3 h3
          go_upto_region 19 with (at_builtin; refine wpList_appN u8T _ rfl _ _ rfl base _ _ _ rfl HO4.out A4 _ c4 _ rfl HS4.out.rd (bytec_one _) N4 (by rw [HN4.out, HB2.out, List.length_append]) (by unfold maxLen; omega) (by omega) (by have h1 := HF4.out.size; have h2 := HB.out; omega) ?_)
          intro A5 c5 w6 _ _ hown5 hfr5 _
          go_upto_region 19 with fail
          have hO5 : Own w6 base A5 c5 B4 := own_list2 HB2.out HN4.out hown5
          have hbk : ∀ b, (Value.slice A2 B.length c2).ownBlock = some b → base ≤ b := fun b h => (HO4.out.lt b h).1
          have HF6 := Lib.hid (HF4.out.trans (hfr5.mono (T := fun b => base ≤ b) (fun b _ h => hbk b h)) (fun _ _ h => h))
          have HQ6 := Lib.hid (HQ4.out.fr hfr5 (own_ne HO4.out HQ4.out (by decide)))
          have HS6 := Lib.hid (And.intro (show w6.cell? ⟨q, 0, none⟩ = some (.func (.func 156) #[] #[]) from HQ6.out.cell rfl) (And.intro (hfr5.cell h1 (fun h => by have k1 := hbk _ h; have k2 := HGB.out; simp only at k1; omega)) (hfr5.cell h2 (fun h => by have k1 := hbk _ h; have k2 := HGB.out; simp only at k1; omega))))
          clear hown5 hfr5 hbk HO4 HS4 HF4 HQ4 h1 h2
          have HO6 := Lib.hid hO5
          clear hO5
          refine wp_region_held_drew (S := fun w' => w'.cell? ⟨q, 0, none⟩ = some (.func (.func 156) #[] #[]) ∧ w'.cell? ⟨g, o, none⟩ = some (.bool i) ∧ w'.cell? ⟨g, o + 1, none⟩ = some (.int .i64 x)) (by kernel_rfl) ?_ (fun hHeld => ?_)
          · exact HS6.out
          refine tk 0 hHeld ?_
          refine tk 1 hHeld ?_
          refine tk 2 hHeld ?_
          refine tk 3 hHeld ?_
          refine tk 4 hHeld ?_
          refine tk 5 hHeld ?_
          refine tk 6 hHeld ?_
          refine rdo 7 (fun Kx hKx => ?_)
          go_simp
          refine (putS_any i x _ HOKX.out).mono ?_
          rintro e w7 ⟨A9, c9, rfl, hO5, hf5⟩
          have HO5 := Lib.hid hO5
          have HF7 := Lib.hid (HF6.out.drew.trans (hf5.mono (T := fun b => base ≤ b) (fun _ _ h => h.elim)) (fun _ _ h => h))
          have hO6' := (show Own w6.drew base A5 c5 B4 from HO6.out).fr hf5
          have HO6N : Hid (w7.ownsRow base 5 1 (.slice A5 N4 c5) N4 (B4.map bytec)) := Lib.hid (by rw [HN4.out]; exact hO6')
          have HS7 := Lib.hid (And.intro (hf5.cell HS6.out.1 (fun h => h)) (And.intro (hf5.cell HS6.out.2.1 (fun h => h)) (hf5.cell HS6.out.2.2 (fun h => h))))
          have HQ7 := Lib.hid ((show Row w6.drew q 165 _ from HQ6.out).fr hf5 (fun h => h))
          clear hO5 hf5 hO6'
          refine hKx.out _ _ ?_ (fun hHeld => ?_)
          · exact HS7.out
          clear hKx Kx
          refine rdo 8 (fun Kx hKx => ?_)
          refine step_app u8T _ (by rfl) _ _ (by rfl) base _ N4 (B4.map bytec) (by rfl) HO6N.out A9 _ c9 _ (by rfl) HO5.out.rd (bytec_one _) N5 HN5.out (by unfold maxLen; omega) (by omega) (by have h1 := HF7.out.size; have h2 := HB.out; omega) ?_
          intro A6 c6 w8 _ hown8 hfr8
          have HO8 : Hid (Own w8 base A6 c6 B5) := Lib.hid (own_list2 HB5.out HN5L.out hown8)
          have hbk : ∀ b, (Value.slice A5 N4 c5).ownBlock = some b → base ≤ b := fun b h => (HO6N.out.lt b h).1
          have HF8 := Lib.hid (HF7.out.trans (hfr8.mono (T := fun b => base ≤ b) (fun b _ h => hbk b h)) (fun _ _ h => h))
          have HQ8 := Lib.hid (HQ7.out.fr hfr8 (own_ne HO6N.out HQ7.out (by decide)))
          have HS8 := Lib.hid (And.intro (hfr8.cell HS7.out.1 (own_ne HO6N.out HQ7.out (by decide))) (And.intro (hfr8.cell HS7.out.2.1 (fun h => by have h1 := hbk _ h; have h2 := HGB.out; simp only at h1; omega)) (hfr8.cell HS7.out.2.2 (fun h => by have h1 := hbk _ h; have h2 := HGB.out; simp only at h1; omega))))
          clear hown8 hfr8 hbk
          refine hKx.out _ _ ?_ (fun hHeld => ?_)
          · exact HS8.out
          clear hKx Kx
          refine rdo 9 (fun Kx hKx => ?_)
          go_simp
          refine hKx.out _ _ ?_ (fun hHeld => ?_)
          · exact HS8.out
          clear hKx Kx
          (try simp only [Act.put, List.setIfInBounds_toArray, List.set_cons_zero, List.set_cons_succ, List.getElem_toArray, List.getElem_cons_zero, List.getElem_cons_succ])
          refine wpAnyH_done (by kernel_rfl) ?_ _
          go_wp2_with fail
          exact ⟨⟨D', d3, A3, c3, B5, A6, c6, hd3n, hd3c, rfl, by rw [← HN5L.out], HREST.out.1, HREST.out.2, fun g hg => HOD.out g (List.mem_cons_of_mem _ hg), HE3.out, HO8.out, HQ8.out, HF8.out⟩, by simp [lenS]; omega⟩
        · -- others
          have hOp : 0 < O := by rw [hO]; exact others_pos hz hm1 D'
          have he2 : B ++ (s (-(O : Int)) ++ (puts kS ((((i, x), m) :: D').take O) ++ tellG kS ((((i, x), m) :: D').drop O))) = R0 := by
            have h := tell_other (K := kS) (c := (i, x)) (n := m) hz hm1 D'
            rw [show othersG kS.zero (((i, x), m) :: D') = O from hO.symm] at h
            rw [h] at he
            exact he
          have t5 : ((O : Int) == 0) = false := by simp; omega
          have t5' : (O == 0) = false := by simp; omega
          have r5 : IntKind.i64.wrap (-(O : Int)) = -(O : Int) := by rw [IntKind.wrap_i64]; omega
          obtain ⟨B2, hB2⟩ : ∃ B2, B2 = B ++ s (-(O : Int)) := ⟨_, rfl⟩
          have he3 : B2 ++ puts kS ((((i, x), m) :: D').take O) ++ tellG kS ((((i, x), m) :: D').drop O) = R0 := by rw [hB2, List.append_assoc, List.append_assoc]; exact he2
          have hl3 : B2.length + (puts kS ((((i, x), m) :: D').take O)).length ≤ 2000000000000 := by rw [← he3, List.length_append, List.length_append] at hRl; omega
          obtain ⟨N2, hN2⟩ : ∃ N2, N2 = B2.length := ⟨_, rfl⟩
          have HB2 := Lib.hid hB2
          have HE3 := Lib.hid he3
          have HN2 := Lib.hid hN2
          have HL3 := Lib.hid hl3
          have hN2l : N2 ≤ 2000000000000 := by omega
          have hsl2 : ∀ w : World, (Instr.sliceAt 167 (.slice (some ⟨g, o, none⟩) d c1) none (some (.int .i64 (O : Int))) none).run Tryz.prog w = .ok (.slice (some ⟨g, o, none⟩) O c1) w := fun w => to_gC _ d c1 O hole hdc _ rfl w
          have hOD2 : ∀ g ∈ (((i, x), m) :: D').take O, okS g.1 := fun g hg => (HOD.out g (List.mem_of_mem_take hg)).1
          have HOD2 := Lib.hid hOD2
          have HTK := Lib.hid (HD.out.take O hole)
          have hO6 : O ≤ 1000000 := by omega
          obtain ⟨A3, hA3⟩ : ∃ A3 : Option Addr, A3 = if c1 = O then some ⟨g, o, none⟩ else (some (⟨g, o, none⟩ : Addr)).map (·.add (O * 3)) := ⟨_, rfl⟩
          have hsl : ∀ w : World, (Instr.sliceAt 167 (.slice (some ⟨g, o, none⟩) d c1) (some (.int .i64 (O : Int))) none none).run Tryz.prog w = .ok (.slice A3 (d - O) (c1 - O)) w := fun w => by rw [hA3]; exact from_gC _ d c1 O (by omega) hdc _ rfl w
          have hrest := rest_grs HD.out (show O ≤ d by omega) hdc hA3 HA1.out
          obtain ⟨d3, hd3⟩ : ∃ d3, d3 = d - O := ⟨_, rfl⟩
          obtain ⟨c3, hc3⟩ : ∃ c3, c3 = c1 - O := ⟨_, rfl⟩
          rw [← hd3, ← hc3] at hsl
          rw [← hd3] at hrest
          have hd3c : d3 ≤ c3 := by omega
          have hd3n : d3 ≤ n := by omega
          have hd3d : d3 < d := by omega
          have HREST := Lib.hid hrest
          clear hA3 hrest hd3 hc3
          clear hB2 he2 he3 he hRl hl3 hN2 hnt hz hm1 hO hOD2
          go_wp2_with fail
          refine HOT.out.mono ?_
          rintro e w2 ⟨rfl, hf2⟩
          have HF2 := Lib.hid (HF1.out.trans (hf2.mono (T := fun b => base ≤ b) (fun _ _ h => h.elim)) (fun _ _ h => h))
          have HO2 := Lib.hid (HO.out.fr hf2)
          have HQ2 := Lib.hid (HQ1.out.fr hf2 (fun h => h))
          replace h1 := hf2.cell h1 (fun h => h)
          replace h2 := hf2.cell h2 (fun h => h)
          replace h3 := hf2.cell h3 (fun h => h)
          clear hf2 HOT HF1 HO HQ1
          go_wp2_with fail
          refine (HNT.out w2).mono ?_
          rintro e w3 ⟨rfl, hf3⟩
          have HF3 := Lib.hid (HF2.out.trans (hf3.mono (T := fun b => base ≤ b) (fun _ _ h => h.elim)) (fun _ _ h => h))
          have HO3 := Lib.hid (HO2.out.fr hf3)
          have HQ3 := Lib.hid (HQ2.out.fr hf3 (fun h => h))
          replace h1 := hf3.cell h1 (fun h => h)
          replace h2 := hf3.cell h2 (fun h => h)
          replace h3 := hf3.cell h3 (fun h => h)
          clear hf3 HNT HF2 HO2 HQ2
          go_wp2_with fail
          refine (S_any (-(O : Int)) w3 (by omega) (by omega)).mono ?_
          rintro e w4 ⟨A4, c4, rfl, hO4, hf4⟩
          have HF4 := Lib.hid (HF3.out.trans (hf4.mono (T := fun b => base ≤ b) (fun _ _ h => h.elim)) (fun _ _ h => h))
          have HO4 := Lib.hid (HO3.out.fr hf4)
          have HQ4 := Lib.hid (HQ3.out.fr hf4 (fun h => h))
          have HS4 := Lib.hid hO4
          replace h1 := hf4.cell h1 (fun h => h)
          replace h2 := hf4.cell h2 (fun h => h)
          clear hf4 hO4 HF3 HO3 HQ3 h3
          go_upto_region 7 with (at_builtin; refine wpList_appN u8T _ rfl _ _ rfl base _ _ _ rfl HO4.out A4 _ c4 _ rfl HS4.out.rd (bytec_one _) N2 (by rw [HN2.out, HB2.out, List.length_append]) (by unfold maxLen; omega) (by omega) (by have h1 := HF4.out.size; have h2 := HB.out; omega) ?_)
          intro A5 c5 w5 _ _ hown5 hfr5 _
          have HO5 : Hid (Own w5 base A5 c5 B2) := Lib.hid (own_list2 HB2.out HN2.out hown5)
          have hbk : ∀ b, (Value.slice A2 B.length c2).ownBlock = some b → base ≤ b := fun b h => (HO4.out.lt b h).1
          have HF5 := Lib.hid (HF4.out.trans (hfr5.mono (T := fun b => base ≤ b) (fun b _ h => hbk b h)) (fun _ _ h => h))
          have HQ5 := Lib.hid (HQ4.out.fr hfr5 (own_ne HO4.out HQ4.out (by decide)))
          clear hown5 hfr5 hbk HO4 HS4 HF4 HQ4 h1 h2
          go_upto_region 7 with fail
          go_wp2_with fail
          obtain rfl := HN2.out
          refine tell_inS _ _ _ _ _ _ _ _ _ _ _ _ _ _ _ _ _ _ _ _ _ _ _ _ _ _ _ _ _ _ _ _ _ _ _ _ _ _ _ _ _ _ _ _ _ _ _ _ _ _ _ _ _ _ _ _ _ _ _ _ _ _ _ _ _ _ _ _ _ _ _ _ _ _ _ _ _ _ _ base q O c1 c5 (some ⟨g, o, none⟩) A5 B2 ((((i, x), m) :: D').take O) fq w w5 HTK HA1 HOD2 HO5 HQ5 HF5 HB hO6 HL3 ?_
          intro A7 c7 B3 w7 r8 r33 r34 r35 r36 r37 r38 r39 r40 r41 r42 r43 HB3 HO7 HQ7 HF7
          go_wp2_with fail
          exact ⟨⟨(((i, x), m) :: D').drop O, d3, A3, c3, B3, A7, c7, hd3n, hd3c, rfl, rfl, HREST.out.1, HREST.out.2, fun g hg => HOD.out g (List.mem_of_mem_drop hg), by rw [HB3.out]; exact HE3.out, HO7.out, HQ7.out, HF7.out⟩, by simp [lenS]; omega⟩

set_option maxRecDepth 1000000 in
noncomputable def tellMainW : Code := ((Tryz.f95.body.bind (loopAt 5)).getD .skip)

set_option maxRecDepth 1000000 in
set_option maxHeartbeats 6400000 in
theorem tell_loopW (Q0 : Exit → Act → World → Prop) (s0 s3 s4 s6 s7 s8 s9 s10 s11 s12 s13 s14 s15 s16 s17 s18 s19 s20 s21 s22 s23 s24 s25 s26 s27 s28 s29 s30 s31 s32 s33 s34 s35 s36 s37 s38 s39 s40 s41 s42 s43 s44 s45 s46 s47 s48 s49 s50 s51 s52 s53 s54 s55 s56 s57 s58 s59 s60 s61 s62 s63 s64 s65 s66 s67 s68 s69 s70 s71 s72 s73 s74 s75 s76 s77 s78 s79 s80 s81 s82 : Value) (base q n c : Nat) (A : Option Addr) (L : List ((Bool × (List UInt8)) × Nat)) (fq : Value) (w wc : World)
    (HL : Hid (Grs sv w A n L)) (hc : n ≤ c) (HA : Hid (∀ ad, A = some ad → ad.block < base)) (HOK : Hid (∀ g ∈ L, okW g.1)) (HCN : Hid (∀ g ∈ L, g.2 < 9223372036854775808)) (HQ : Hid (Row wc q 174 [.func (.func 130) #[] #[], fq]))
    (HF : Hid (Fr (fun b => base ≤ b) w wc)) (HB : Hid (base ≤ w.heap.size)) (hn : n ≤ 1000000) (HLEN : Hid ((tellG kW L).length ≤ 2000000000000))
    (hexit : ∀ (A' : Option Addr) (c' : Nat) (R : List UInt8) (w'' : World) (r1 r6 r8 r18 r19 r20 r21 r22 r23 r24 r25 r26 r27 r28 r29 r30 r31 r32 r33 r34 r35 r36 r37 r38 r39 r40 r41 r42 r43 r44 r45 r46 r47 r48 r49 r50 r51 r52 r53 r54 r55 r56 r57 r58 r59 r60 r61 r62 r63 r64 r65 r66 r67 r68 r69 r70 r71 r72 r73 r74 r75 r76 r77 r78 r79 r80 r81 : Value), Hid (R = tellG kW L) → Hid (Own w'' base A' c' R) → Hid (Fr (fun b => base ≤ b) w w'') → Q0 (.exit 0) ⟨List.toArray (s0 :: r1 :: .pointer (some ⟨q, 0, none⟩) :: s3 :: s4 :: .slice A' R.length c' :: r6 :: s7 :: r8 :: s9 :: s10 :: s11 :: s12 :: s13 :: s14 :: s15 :: s16 :: s17 :: r18 :: r19 :: r20 :: r21 :: r22 :: r23 :: r24 :: r25 :: r26 :: r27 :: r28 :: r29 :: r30 :: r31 :: r32 :: r33 :: r34 :: r35 :: r36 :: r37 :: r38 :: r39 :: r40 :: r41 :: r42 :: r43 :: r44 :: r45 :: r46 :: r47 :: r48 :: r49 :: r50 :: r51 :: r52 :: r53 :: r54 :: r55 :: r56 :: r57 :: r58 :: r59 :: r60 :: r61 :: r62 :: r63 :: r64 :: r65 :: r66 :: r67 :: r68 :: r69 :: r70 :: r71 :: r72 :: r73 :: r74 :: r75 :: r76 :: r77 :: r78 :: r79 :: r80 :: r81 :: s82 :: []), []⟩ w'') :
    Code.wp Tryz.prog (Code.loop tellMainW) Q0 ⟨List.toArray (s0 :: .slice A n c :: .pointer (some ⟨q, 0, none⟩) :: s3 :: s4 :: .slice none 0 0 :: s6 :: s7 :: s8 :: s9 :: s10 :: s11 :: s12 :: s13 :: s14 :: s15 :: s16 :: s17 :: s18 :: s19 :: s20 :: s21 :: s22 :: s23 :: s24 :: s25 :: s26 :: s27 :: s28 :: s29 :: s30 :: s31 :: s32 :: s33 :: s34 :: s35 :: s36 :: s37 :: s38 :: s39 :: s40 :: s41 :: s42 :: s43 :: s44 :: s45 :: s46 :: s47 :: s48 :: s49 :: s50 :: s51 :: s52 :: s53 :: s54 :: s55 :: s56 :: s57 :: s58 :: s59 :: s60 :: s61 :: s62 :: s63 :: s64 :: s65 :: s66 :: s67 :: s68 :: s69 :: s70 :: s71 :: s72 :: s73 :: s74 :: s75 :: s76 :: s77 :: s78 :: s79 :: s80 :: s81 :: s82 :: []), []⟩ wc := by
  refine Code.wp_mono (onExit_imp (n := 0)) ?_
  conv => arg 2; arg 1; whnf
  obtain ⟨R0, hR0⟩ : ∃ R0, R0 = tellG kW L := ⟨_, rfl⟩
  rw [← hR0] at HLEN hexit
  have HR0 := Lib.hid hR0
  clear hR0
  go_loopw [1, 5] (fun l b wr => ∃ (D : List ((Bool × (List UInt8)) × Nat)) (d : Nat) (A1 : Option Addr) (c1 : Nat) (B : List UInt8) (A2 : Option Addr) (c2 : Nat), d ≤ n ∧ d ≤ c1 ∧ l = .slice A1 d c1 ∧ b = .slice A2 B.length c2 ∧ Hid (Grs sv w A1 d D) ∧ Hid (∀ ad, A1 = some ad → ad.block < base) ∧
      Hid (∀ g ∈ D, okW g.1 ∧ g.2 < 9223372036854775808) ∧ Hid (B ++ tellG kW D = R0) ∧ Hid (Own wr base A2 c2 B) ∧ Hid (Row wr q 174 [.func (.func 130) #[] #[], fq]) ∧ Hid (Fr (fun b => base ≤ b) w wr)) (fun l _ _ => lenS l)
  case atStart => exact ⟨L, n, A, c, [], none, 0, Nat.le_refl _, hc, rfl, rfl, HL.out, HA.out, fun g hg => ⟨HOK.out g hg, HCN.out g hg⟩, HR0.out.symm, Own.nil _ _, HQ.out, HF.out⟩
  case round =>
    obtain ⟨D, d, A1, c1, B, A2, c2, hdn, hdc, rfl, rfl, HD, HA1, HOD, HE, HO, HQ1, HF1⟩ := hrel
    rename World => wr
    have hDl := HD.out.1
    cases D with
    | nil =>
      obtain rfl : d = 0 := hDl.symm
      have he : R0 = B := by have h := HE.out; rw [tell_nil, List.append_nil] at h; exact h.symm
      have HE2 := Lib.hid he
      clear he
      go_wp2_with fail
      exact ⟨rfl, hexit _ _ _ _ _ _ _ _ _ _ _ _ _ _ _ _ _ _ _ _ _ _ _ _ _ _ _ _ _ _ _ _ _ _ _ _ _ _ _ _ _ _ _ _ _ _ _ _ _ _ _ _ _ _ _ _ _ _ _ _ _ _ _ _ _ _ _ _ _ _ _ HE2.out.symm HO HF1⟩
    | cons t D' =>
      obtain ⟨⟨i, x⟩, m⟩ := t
      have hd0 : 0 < d := by rw [← hDl, List.length_cons]; omega
      have hDr := HD.out.fr HF1.out (fun ad e h => by have := HA1.out ad e; omega)
      obtain ⟨g, o, rfl, hg, h1, h2, h3⟩ := hDr.2 0 ((i, x), m) rfl
      rw [Nat.zero_mul] at h1 h2 h3
      rw [Nat.add_zero] at h1 h2 h3
      simp only [sv] at h1 h2 h3
      have hokx := (HOD.out ((i, x), m) (List.mem_cons_self ..)).1
      have hmx := (HOD.out ((i, x), m) (List.mem_cons_self ..)).2
      simp only at hokx hmx
      have hot := othersW_any (some ⟨g, o, none⟩) d c1 (((i, x), m) :: D') wr hDr (by omega)
      have hole := others_le ((false, []) : Bool × (List UInt8)) (((i, x), m) :: D')
      rw [hDl] at hole
      have hnt := fun (w : World) => nothingW_any i x (m : Int) w
      have hgb : g < base := HA1.out _ rfl
      have HGB := Lib.hid hgb
      have he := HE.out
      have hRl := HLEN.out
      obtain ⟨O, hO⟩ : ∃ O, O = othersG ((false, []) : Bool × (List UInt8)) (((i, x), m) :: D') := ⟨_, rfl⟩
      rw [← hO] at hot hole
      have HOT := Lib.hid hot
      have HDL := Lib.hid hDl
      have HOKX := Lib.hid hokx
      have tl : decide ((0 : Int) < (d : Int)) = true := by simp; omega
      have tl' : decide (0 < d) = true := by simp; omega
      clear hDr hot hDl hokx
      by_cases hz : (i, x) = ((false, []) : Bool × (List UInt8))
      · -- nothings
        rw [decide_eq_true hz] at hnt
        have HNT := Lib.hid hnt
        have he2 : B ++ (s 0 ++ (u m ++ tellG kW D')) = R0 := by
          have := tell_none (K := kW) m D'
          rw [← show (i, x) = kW.zero from hz] at this
          rw [this] at he
          exact he
        obtain ⟨B2, hB2⟩ : ∃ B2, B2 = B ++ s 0 := ⟨_, rfl⟩
        obtain ⟨B3, hB3⟩ : ∃ B3, B3 = B2 ++ u m := ⟨_, rfl⟩
        have he3 : B3 ++ tellG kW D' = R0 := by rw [hB3, hB2, List.append_assoc, List.append_assoc]; exact he2
        have hl3 : B3.length ≤ 2000000000000 := by rw [← he3, List.length_append] at hRl; omega
        have hl2 : B2.length ≤ 2000000000000 := by rw [hB3, List.length_append] at hl3; omega
        have HB2 := Lib.hid hB2
        have HB3 := Lib.hid hB3
        have HE3 := Lib.hid he3
        have r1 : IntKind.u64.wrap (m : Int) = (m : Int) := by rw [IntKind.wrap_u64]; omega
        obtain ⟨N2, hN2⟩ : ∃ N2, N2 = B2.length := ⟨_, rfl⟩
        obtain ⟨N3, hN3⟩ : ∃ N3, N3 = B3.length := ⟨_, rfl⟩
        have HN2 := Lib.hid hN2
        have HN3 := Lib.hid hN3
        have hN2l : N2 ≤ 2000000000000 := by omega
        have hN3l : N3 ≤ 2000000000000 := by omega
        have hm64 : m < 18446744073709551616 := by omega
        obtain ⟨A3, hA3⟩ : ∃ A3 : Option Addr, A3 = if c1 = 1 then some ⟨g, o, none⟩ else (some (⟨g, o, none⟩ : Addr)).map (·.add (1 * 3)) := ⟨_, rfl⟩
        have hsl : ∀ w : World, (Instr.sliceAt 176 (.slice (some ⟨g, o, none⟩) d c1) (some (.int .i64 1)) none none).run Tryz.prog w = .ok (.slice A3 (d - 1) (c1 - 1)) w := fun w => by rw [hA3]; exact from_gW _ d c1 1 (by omega) hdc _ rfl w
        have hrest := rest_grs HD.out (show 1 ≤ d by omega) hdc hA3 HA1.out
        obtain ⟨d3, hd3⟩ : ∃ d3, d3 = d - 1 := ⟨_, rfl⟩
        obtain ⟨c3, hc3⟩ : ∃ c3, c3 = c1 - 1 := ⟨_, rfl⟩
        rw [← hd3, ← hc3] at hsl
        rw [← hd3] at hrest
        have hd3c : d3 ≤ c3 := by omega
        have hd3n : d3 ≤ n := by omega
        have hd3d : d3 < d := by omega
        have HREST := Lib.hid hrest
        clear hA3 hrest hd3 hc3
        clear hB2 hB3 he2 he3 he hRl hl2 hl3 hN2 hN3 hnt hz
        go_wp2_with fail
        refine HOT.out.mono ?_
        rintro e w2 ⟨rfl, hf2⟩
        have HF2 := Lib.hid (HF1.out.trans (hf2.mono (T := fun b => base ≤ b) (fun _ _ h => h.elim)) (fun _ _ h => h))
        have HO2 := Lib.hid (HO.out.fr hf2)
        have HQ2 := Lib.hid (HQ1.out.fr hf2 (fun h => h))
        replace h1 := hf2.cell h1 (fun h => h)
        replace h2 := hf2.cell h2 (fun h => h)
        replace h3 := hf2.cell h3 (fun h => h)
        clear hf2 HOT HF1 HO HQ1
        go_wp2_with fail
        refine (HNT.out w2).mono ?_
        rintro e w3 ⟨rfl, hf3⟩
        have HF3 := Lib.hid (HF2.out.trans (hf3.mono (T := fun b => base ≤ b) (fun _ _ h => h.elim)) (fun _ _ h => h))
        have HO3 := Lib.hid (HO2.out.fr hf3)
        have HQ3 := Lib.hid (HQ2.out.fr hf3 (fun h => h))
        replace h1 := hf3.cell h1 (fun h => h)
        replace h2 := hf3.cell h2 (fun h => h)
        replace h3 := hf3.cell h3 (fun h => h)
        clear hf3 HNT HF2 HO2 HQ2
        go_wp2_with fail
        refine (S_any 0 w3 (by omega) (by omega)).mono ?_
        rintro e w4 ⟨A4, c4, rfl, hO4, hf4⟩
        have HF4 := Lib.hid (HF3.out.trans (hf4.mono (T := fun b => base ≤ b) (fun _ _ h => h.elim)) (fun _ _ h => h))
        have HO4 := Lib.hid (HO3.out.fr hf4)
        have HQ4 := Lib.hid (HQ3.out.fr hf4 (fun h => h))
        have HS4 := Lib.hid hO4
        replace h3 := hf4.cell h3 (fun h => h)
        clear hf4 hO4 HF3 HO3 HQ3 h1 h2
        go_upto_region 15 with (at_builtin; refine wpList_appN u8T _ rfl _ _ rfl base _ _ _ rfl HO4.out A4 _ c4 _ rfl HS4.out.rd (bytec_one _) N2 (by rw [HN2.out, HB2.out, List.length_append]) (by unfold maxLen; omega) (by omega) (by have h1 := HF4.out.size; have h2 := HB.out; omega) ?_)
        intro A5 c5 w5 _ _ hown5 hfr5 _
        have HO5 : Hid (Own w5 base A5 c5 B2) := Lib.hid (own_list2 HB2.out HN2.out hown5)
        have hbk : ∀ b, (Value.slice A2 B.length c2).ownBlock = some b → base ≤ b := fun b h => (HO4.out.lt b h).1
        have HF5 := Lib.hid (HF4.out.trans (hfr5.mono (T := fun b => base ≤ b) (fun b _ h => hbk b h)) (fun _ _ h => h))
        have HQ5 := Lib.hid (HQ4.out.fr hfr5 (own_ne HO4.out HQ4.out (by decide)))
        replace h3 := hfr5.cell h3 (fun h => by have k1 := hbk _ h; have k2 := HGB.out; simp only at k1; omega)
        clear hown5 hfr5 hbk HO4 HS4 HF4 HQ4
        go_wp2_with fail
        refine (U_any m w5 hm64).mono ?_
        rintro e w6 ⟨A6, c6, rfl, hO6, hf6⟩
        have HF6 := Lib.hid (HF5.out.trans (hf6.mono (T := fun b => base ≤ b) (fun _ _ h => h.elim)) (fun _ _ h => h))
        have HO6 : Hid (w6.ownsRow base 5 1 (.slice A5 N2 c5) N2 (B2.map bytec)) := Lib.hid (by rw [HN2.out]; exact HO5.out.fr hf6)
        have HQ6 := Lib.hid (HQ5.out.fr hf6 (fun h => h))
        have HS6 := Lib.hid hO6
        clear hf6 hO6 HF5 HO5 HQ5 h3
        go_wp2_with (at_builtin; refine wpList_appN u8T _ rfl _ _ rfl base _ _ _ rfl HO6.out A6 _ c6 _ rfl HS6.out.rd (bytec_one _) N3 (by rw [HN3.out, HB3.out, List.length_append, HN2.out]) (by unfold maxLen; omega) (by omega) (by have h1 := HF6.out.size; have h2 := HB.out; omega) ?_)
        intro A7 c7 w7 _ _ hown7 hfr7 _
        have HO7 : Hid (Own w7 base A7 c7 B3) := Lib.hid (own_list2 HB3.out HN3.out hown7)
        have HF7 := Lib.hid (HF6.out.trans (hfr7.mono (T := fun b => base ≤ b) (fun b _ h => (HO6.out.lt b h).1)) (fun _ _ h => h))
        have HQ7 := Lib.hid (HQ6.out.fr hfr7 (own_ne HO6.out HQ6.out (by decide)))
        clear hown7 hfr7 HO6 HS6 HF6 HQ6
        go_wp2
        exact ⟨⟨D', d3, A3, c3, B3, A7, c7, hd3n, hd3c, rfl, by rw [← HN3.out], HREST.out.1, HREST.out.2, fun g hg => HOD.out g (List.mem_cons_of_mem _ hg), HE3.out, HO7.out, HQ7.out, HF7.out⟩, by simp [lenS]; omega⟩
      · rw [decide_eq_false hz] at hnt
        have HNT := Lib.hid hnt
        by_cases hm1 : 1 < m
        · -- like ones
          have he2 : B ++ (s (m : Int) ++ (kW.put (i, x) ++ tellG kW D')) = R0 := by rw [tell_same (K := kW) hz hm1] at he; exact he
          have hO0 : O = 0 := by rw [hO, others_zero _ (.inr hm1)]
          have t5 : ((O : Int) == 0) = true := by simp; omega
          have t5' : (O == 0) = true := by simp; omega
          obtain ⟨B4, hB2⟩ : ∃ B4, B4 = B ++ s (m : Int) := ⟨_, rfl⟩
          obtain ⟨B5, hB3⟩ : ∃ B5, B5 = B4 ++ kW.put (i, x) := ⟨_, rfl⟩
          have he3 : B5 ++ tellG kW D' = R0 := by rw [hB3, hB2, List.append_assoc, List.append_assoc]; exact he2
          have hl3 : B5.length ≤ 2000000000000 := by rw [← he3, List.length_append] at hRl; omega
          have hl2 : B4.length ≤ 2000000000000 := by rw [hB3, List.length_append] at hl3; omega
          obtain ⟨N4, hN2⟩ : ∃ N4, N4 = B4.length := ⟨_, rfl⟩
          obtain ⟨N5, hN3⟩ : ∃ N5, N5 = B5.length := ⟨_, rfl⟩
          have hN5 : N5 = N4 + (kW.put (i, x)).length := by rw [hN3, hB3, List.length_append, hN2]
          have HN5 := Lib.hid hN5
          have HB2 := Lib.hid hB2
          have HB5 := Lib.hid hB3
          have HE3 := Lib.hid he3
          have HN4 := Lib.hid hN2
          have HN5L := Lib.hid hN3
          have hN2l : N4 ≤ 2000000000000 := by omega
          have hN3l : N5 ≤ 2000000000000 := by omega
          obtain ⟨A3, hA3⟩ : ∃ A3 : Option Addr, A3 = if c1 = 1 then some ⟨g, o, none⟩ else (some (⟨g, o, none⟩ : Addr)).map (·.add (1 * 3)) := ⟨_, rfl⟩
          have hsl : ∀ w : World, (Instr.sliceAt 176 (.slice (some ⟨g, o, none⟩) d c1) (some (.int .i64 1)) none none).run Tryz.prog w = .ok (.slice A3 (d - 1) (c1 - 1)) w := fun w => by rw [hA3]; exact from_gW _ d c1 1 (by omega) hdc _ rfl w
          have hrest := rest_grs HD.out (show 1 ≤ d by omega) hdc hA3 HA1.out
          obtain ⟨d3, hd3⟩ : ∃ d3, d3 = d - 1 := ⟨_, rfl⟩
          obtain ⟨c3, hc3⟩ : ∃ c3, c3 = c1 - 1 := ⟨_, rfl⟩
          rw [← hd3, ← hc3] at hsl
          rw [← hd3] at hrest
          have hd3c : d3 ≤ c3 := by omega
          have hd3n : d3 ≤ n := by omega
          have hd3d : d3 < d := by omega
          have HREST := Lib.hid hrest
          clear hA3 hrest hd3 hc3
          clear hB2 hB3 he2 he3 he hRl hl2 hl3 hN2 hN3 hN5 hnt hz hm1 hO hO0
          go_wp2_with fail
          refine HOT.out.mono ?_
          rintro e w2 ⟨rfl, hf2⟩
          have HF2 := Lib.hid (HF1.out.trans (hf2.mono (T := fun b => base ≤ b) (fun _ _ h => h.elim)) (fun _ _ h => h))
          have HO2 := Lib.hid (HO.out.fr hf2)
          have HQ2 := Lib.hid (HQ1.out.fr hf2 (fun h => h))
          replace h1 := hf2.cell h1 (fun h => h)
          replace h2 := hf2.cell h2 (fun h => h)
          replace h3 := hf2.cell h3 (fun h => h)
          clear hf2 HOT HF1 HO HQ1
          go_wp2_with fail
          refine (HNT.out w2).mono ?_
          rintro e w3 ⟨rfl, hf3⟩
          have HF3 := Lib.hid (HF2.out.trans (hf3.mono (T := fun b => base ≤ b) (fun _ _ h => h.elim)) (fun _ _ h => h))
          have HO3 := Lib.hid (HO2.out.fr hf3)
          have HQ3 := Lib.hid (HQ2.out.fr hf3 (fun h => h))
          replace h1 := hf3.cell h1 (fun h => h)
          replace h2 := hf3.cell h2 (fun h => h)
          replace h3 := hf3.cell h3 (fun h => h)
          clear hf3 HNT HF2 HO2 HQ2
          go_wp2_with fail
          refine (S_any (m : Int) w3 (by omega) (by omega)).mono ?_
          rintro e w4 ⟨A4, c4, rfl, hO4, hf4⟩
          have HF4 := Lib.hid (HF3.out.trans (hf4.mono (T := fun b => base ≤ b) (fun _ _ h => h.elim)) (fun _ _ h => h))
          have HO4 := Lib.hid (HO3.out.fr hf4)
          have HQ4 := Lib.hid (HQ3.out.fr hf4 (fun h => h))
          have HS4 := Lib.hid hO4
          replace h1 := hf4.cell h1 (fun h => h)
          replace h2 := hf4.cell h2 (fun h => h)
          clear hf4 hO4 HF3 HO3 HQ3 h3
          go_upto_region 19 with (at_builtin; refine wpList_appN u8T _ rfl _ _ rfl base _ _ _ rfl HO4.out A4 _ c4 _ rfl HS4.out.rd (bytec_one _) N4 (by rw [HN4.out, HB2.out, List.length_append]) (by unfold maxLen; omega) (by omega) (by have h1 := HF4.out.size; have h2 := HB.out; omega) ?_)
          intro A5 c5 w6 _ _ hown5 hfr5 _
          go_upto_region 19 with fail
          have hO5 : Own w6 base A5 c5 B4 := own_list2 HB2.out HN4.out hown5
          have hbk : ∀ b, (Value.slice A2 B.length c2).ownBlock = some b → base ≤ b := fun b h => (HO4.out.lt b h).1
          have HF6 := Lib.hid (HF4.out.trans (hfr5.mono (T := fun b => base ≤ b) (fun b _ h => hbk b h)) (fun _ _ h => h))
          have HQ6 := Lib.hid (HQ4.out.fr hfr5 (own_ne HO4.out HQ4.out (by decide)))
          have HS6 := Lib.hid (And.intro (show w6.cell? ⟨q, 0, none⟩ = some (.func (.func 130) #[] #[]) from HQ6.out.cell rfl) (And.intro (hfr5.cell h1 (fun h => by have k1 := hbk _ h; have k2 := HGB.out; simp only at k1; omega)) (hfr5.cell h2 (fun h => by have k1 := hbk _ h; have k2 := HGB.out; simp only at k1; omega))))
          clear hown5 hfr5 hbk HO4 HS4 HF4 HQ4 h1 h2
          have HO6 := Lib.hid hO5
          clear hO5
          refine wp_region_held_drew (S := fun w' => w'.cell? ⟨q, 0, none⟩ = some (.func (.func 130) #[] #[]) ∧ w'.cell? ⟨g, o, none⟩ = some (.bool i) ∧ w'.cell? ⟨g, o + 1, none⟩ = some (.string (txt x))) (by kernel_rfl) ?_ (fun hHeld => ?_)
          · exact HS6.out
          refine tk 0 hHeld ?_
          refine tk 1 hHeld ?_
          refine tk 2 hHeld ?_
          refine tk 3 hHeld ?_
          refine tk 4 hHeld ?_
          refine tk 5 hHeld ?_
          refine tk 6 hHeld ?_
          refine rdo 7 (fun Kx hKx => ?_)
          go_simp
          refine (putW_any i x _ HOKX.out).mono ?_
          rintro e w7 ⟨A9, c9, rfl, hO5, hf5⟩
          have HO5 := Lib.hid hO5
          have HF7 := Lib.hid (HF6.out.drew.trans (hf5.mono (T := fun b => base ≤ b) (fun _ _ h => h.elim)) (fun _ _ h => h))
          have hO6' := (show Own w6.drew base A5 c5 B4 from HO6.out).fr hf5
          have HO6N : Hid (w7.ownsRow base 5 1 (.slice A5 N4 c5) N4 (B4.map bytec)) := Lib.hid (by rw [HN4.out]; exact hO6')
          have HS7 := Lib.hid (And.intro (hf5.cell HS6.out.1 (fun h => h)) (And.intro (hf5.cell HS6.out.2.1 (fun h => h)) (hf5.cell HS6.out.2.2 (fun h => h))))
          have HQ7 := Lib.hid ((show Row w6.drew q 174 _ from HQ6.out).fr hf5 (fun h => h))
          clear hO5 hf5 hO6'
          refine hKx.out _ _ ?_ (fun hHeld => ?_)
          · exact HS7.out
          clear hKx Kx
          refine rdo 8 (fun Kx hKx => ?_)
          refine step_app u8T _ (by rfl) _ _ (by rfl) base _ N4 (B4.map bytec) (by rfl) HO6N.out A9 _ c9 _ (by rfl) HO5.out.rd (bytec_one _) N5 HN5.out (by unfold maxLen; omega) (by omega) (by have h1 := HF7.out.size; have h2 := HB.out; omega) ?_
          intro A6 c6 w8 _ hown8 hfr8
          have HO8 : Hid (Own w8 base A6 c6 B5) := Lib.hid (own_list2 HB5.out HN5L.out hown8)
          have hbk : ∀ b, (Value.slice A5 N4 c5).ownBlock = some b → base ≤ b := fun b h => (HO6N.out.lt b h).1
          have HF8 := Lib.hid (HF7.out.trans (hfr8.mono (T := fun b => base ≤ b) (fun b _ h => hbk b h)) (fun _ _ h => h))
          have HQ8 := Lib.hid (HQ7.out.fr hfr8 (own_ne HO6N.out HQ7.out (by decide)))
          have HS8 := Lib.hid (And.intro (hfr8.cell HS7.out.1 (own_ne HO6N.out HQ7.out (by decide))) (And.intro (hfr8.cell HS7.out.2.1 (fun h => by have h1 := hbk _ h; have h2 := HGB.out; simp only at h1; omega)) (hfr8.cell HS7.out.2.2 (fun h => by have h1 := hbk _ h; have h2 := HGB.out; simp only at h1; omega))))
          clear hown8 hfr8 hbk
          refine hKx.out _ _ ?_ (fun hHeld => ?_)
          · exact HS8.out
          clear hKx Kx
          refine rdo 9 (fun Kx hKx => ?_)
          go_simp
          refine hKx.out _ _ ?_ (fun hHeld => ?_)
          · exact HS8.out
          clear hKx Kx
          (try simp only [Act.put, List.setIfInBounds_toArray, List.set_cons_zero, List.set_cons_succ, List.getElem_toArray, List.getElem_cons_zero, List.getElem_cons_succ])
          refine wpAnyH_done (by kernel_rfl) ?_ _
          go_wp2_with fail
          exact ⟨⟨D', d3, A3, c3, B5, A6, c6, hd3n, hd3c, rfl, by rw [← HN5L.out], HREST.out.1, HREST.out.2, fun g hg => HOD.out g (List.mem_cons_of_mem _ hg), HE3.out, HO8.out, HQ8.out, HF8.out⟩, by simp [lenS]; omega⟩
        · -- others
          have hOp : 0 < O := by rw [hO]; exact others_pos hz hm1 D'
          have he2 : B ++ (s (-(O : Int)) ++ (puts kW ((((i, x), m) :: D').take O) ++ tellG kW ((((i, x), m) :: D').drop O))) = R0 := by
            have h := tell_other (K := kW) (c := (i, x)) (n := m) hz hm1 D'
            rw [show othersG kW.zero (((i, x), m) :: D') = O from hO.symm] at h
            rw [h] at he
            exact he
          have t5 : ((O : Int) == 0) = false := by simp; omega
          have t5' : (O == 0) = false := by simp; omega
          have r5 : IntKind.i64.wrap (-(O : Int)) = -(O : Int) := by rw [IntKind.wrap_i64]; omega
          obtain ⟨B2, hB2⟩ : ∃ B2, B2 = B ++ s (-(O : Int)) := ⟨_, rfl⟩
          have he3 : B2 ++ puts kW ((((i, x), m) :: D').take O) ++ tellG kW ((((i, x), m) :: D').drop O) = R0 := by rw [hB2, List.append_assoc, List.append_assoc]; exact he2
          have hl3 : B2.length + (puts kW ((((i, x), m) :: D').take O)).length ≤ 2000000000000 := by rw [← he3, List.length_append, List.length_append] at hRl; omega
          obtain ⟨N2, hN2⟩ : ∃ N2, N2 = B2.length := ⟨_, rfl⟩
          have HB2 := Lib.hid hB2
          have HE3 := Lib.hid he3
          have HN2 := Lib.hid hN2
          have HL3 := Lib.hid hl3
          have hN2l : N2 ≤ 2000000000000 := by omega
          have hsl2 : ∀ w : World, (Instr.sliceAt 176 (.slice (some ⟨g, o, none⟩) d c1) none (some (.int .i64 (O : Int))) none).run Tryz.prog w = .ok (.slice (some ⟨g, o, none⟩) O c1) w := fun w => to_gW _ d c1 O hole hdc _ rfl w
          have hOD2 : ∀ g ∈ (((i, x), m) :: D').take O, okW g.1 := fun g hg => (HOD.out g (List.mem_of_mem_take hg)).1
          have HOD2 := Lib.hid hOD2
          have HTK := Lib.hid (HD.out.take O hole)
          have hO6 : O ≤ 1000000 := by omega
          obtain ⟨A3, hA3⟩ : ∃ A3 : Option Addr, A3 = if c1 = O then some ⟨g, o, none⟩ else (some (⟨g, o, none⟩ : Addr)).map (·.add (O * 3)) := ⟨_, rfl⟩
          have hsl : ∀ w : World, (Instr.sliceAt 176 (.slice (some ⟨g, o, none⟩) d c1) (some (.int .i64 (O : Int))) none none).run Tryz.prog w = .ok (.slice A3 (d - O) (c1 - O)) w := fun w => by rw [hA3]; exact from_gW _ d c1 O (by omega) hdc _ rfl w
          have hrest := rest_grs HD.out (show O ≤ d by omega) hdc hA3 HA1.out
          obtain ⟨d3, hd3⟩ : ∃ d3, d3 = d - O := ⟨_, rfl⟩
          obtain ⟨c3, hc3⟩ : ∃ c3, c3 = c1 - O := ⟨_, rfl⟩
          rw [← hd3, ← hc3] at hsl
          rw [← hd3] at hrest
          have hd3c : d3 ≤ c3 := by omega
          have hd3n : d3 ≤ n := by omega
          have hd3d : d3 < d := by omega
          have HREST := Lib.hid hrest
          clear hA3 hrest hd3 hc3
          clear hB2 he2 he3 he hRl hl3 hN2 hnt hz hm1 hO hOD2
          go_wp2_with fail
          refine HOT.out.mono ?_
          rintro e w2 ⟨rfl, hf2⟩
          have HF2 := Lib.hid (HF1.out.trans (hf2.mono (T := fun b => base ≤ b) (fun _ _ h => h.elim)) (fun _ _ h => h))
          have HO2 := Lib.hid (HO.out.fr hf2)
          have HQ2 := Lib.hid (HQ1.out.fr hf2 (fun h => h))
          replace h1 := hf2.cell h1 (fun h => h)
          replace h2 := hf2.cell h2 (fun h => h)
          replace h3 := hf2.cell h3 (fun h => h)
          clear hf2 HOT HF1 HO HQ1
          go_wp2_with fail
          refine (HNT.out w2).mono ?_
          rintro e w3 ⟨rfl, hf3⟩
          have HF3 := Lib.hid (HF2.out.trans (hf3.mono (T := fun b => base ≤ b) (fun _ _ h => h.elim)) (fun _ _ h => h))
          have HO3 := Lib.hid (HO2.out.fr hf3)
          have HQ3 := Lib.hid (HQ2.out.fr hf3 (fun h => h))
          replace h1 := hf3.cell h1 (fun h => h)
          replace h2 := hf3.cell h2 (fun h => h)
          replace h3 := hf3.cell h3 (fun h => h)
          clear hf3 HNT HF2 HO2 HQ2
          go_wp2_with fail
          refine (S_any (-(O : Int)) w3 (by omega) (by omega)).mono ?_
          rintro e w4 ⟨A4, c4, rfl, hO4, hf4⟩
          have HF4 := Lib.hid (HF3.out.trans (hf4.mono (T := fun b => base ≤ b) (fun _ _ h => h.elim)) (fun _ _ h => h))
          have HO4 := Lib.hid (HO3.out.fr hf4)
          have HQ4 := Lib.hid (HQ3.out.fr hf4 (fun h => h))
          have HS4 := Lib.hid hO4
          replace h1 := hf4.cell h1 (fun h => h)
          replace h2 := hf4.cell h2 (fun h => h)
          clear hf4 hO4 HF3 HO3 HQ3 h3
          go_upto_region 7 with (at_builtin; refine wpList_appN u8T _ rfl _ _ rfl base _ _ _ rfl HO4.out A4 _ c4 _ rfl HS4.out.rd (bytec_one _) N2 (by rw [HN2.out, HB2.out, List.length_append]) (by unfold maxLen; omega) (by omega) (by have h1 := HF4.out.size; have h2 := HB.out; omega) ?_)
          intro A5 c5 w5 _ _ hown5 hfr5 _
          have HO5 : Hid (Own w5 base A5 c5 B2) := Lib.hid (own_list2 HB2.out HN2.out hown5)
          have hbk : ∀ b, (Value.slice A2 B.length c2).ownBlock = some b → base ≤ b := fun b h => (HO4.out.lt b h).1
          have HF5 := Lib.hid (HF4.out.trans (hfr5.mono (T := fun b => base ≤ b) (fun b _ h => hbk b h)) (fun _ _ h => h))
          have HQ5 := Lib.hid (HQ4.out.fr hfr5 (own_ne HO4.out HQ4.out (by decide)))
          clear hown5 hfr5 hbk HO4 HS4 HF4 HQ4 h1 h2
          go_upto_region 7 with fail
          go_wp2_with fail
          obtain rfl := HN2.out
          refine tell_inW _ _ _ _ _ _ _ _ _ _ _ _ _ _ _ _ _ _ _ _ _ _ _ _ _ _ _ _ _ _ _ _ _ _ _ _ _ _ _ _ _ _ _ _ _ _ _ _ _ _ _ _ _ _ _ _ _ _ _ _ _ _ _ _ _ _ _ _ _ _ _ _ _ _ _ _ _ _ _ base q O c1 c5 (some ⟨g, o, none⟩) A5 B2 ((((i, x), m) :: D').take O) fq w w5 HTK HA1 HOD2 HO5 HQ5 HF5 HB hO6 HL3 ?_
          intro A7 c7 B3 w7 r8 r33 r34 r35 r36 r37 r38 r39 r40 r41 r42 r43 HB3 HO7 HQ7 HF7
          go_wp2_with fail
          exact ⟨⟨(((i, x), m) :: D').drop O, d3, A3, c3, B3, A7, c7, hd3n, hd3c, rfl, rfl, HREST.out.1, HREST.out.2, fun g hg => HOD.out g (List.mem_of_mem_drop hg), by rw [HB3.out]; exact HE3.out, HO7.out, HQ7.out, HF7.out⟩, by simp [lenS]; omega⟩

end Go.Proofs.YtedmnkcoflbciaaGreat
