/-
  Layer 11, the program: the cells of a run that are told each (written by gen11.py out of rleQ.src).
-/
import Derived.Test.YtedmnkcoflbciaaGreatZm20
namespace Go.Proofs.YtedmnkcoflbciaaGreat
open Go.RowKit Mem Go.Lib RleM LebM
attribute [local go_sem ↓] Go.wp_at_zero Go.wp_at_succ
set_option linter.unusedVariables false

theorem puts_snoc {κ : Type} (K : Kd κ) (M : List (κ × Nat)) (j : Nat) (t : κ × Nat) (h : M[j]? = some t) : puts K (M.take (j + 1)) = puts K (M.take j) ++ K.put t.1 := by
  unfold puts
  rw [List.take_add_one, h, List.flatMap_append]
  simp
theorem puts_le {κ : Type} (K : Kd κ) (M : List (κ × Nat)) (j : Nat) : (puts K (M.take j)).length ≤ (puts K M).length := by
  have h : puts K M = puts K (M.take j) ++ puts K (M.drop j) := by unfold puts; rw [← List.flatMap_append, List.take_append_drop]
  rw [h, List.length_append]
  omega
set_option maxRecDepth 1000000 in
noncomputable def tellInU : Code := ((Tryz.f90.body.bind (loopAt 9)).getD .skip)

set_option maxRecDepth 1000000 in
set_option maxHeartbeats 3200000 in
theorem tell_inU (Q0 : Exit → Act → World → Prop) (s0 s1 s3 s4 s6 s7 s8 s9 s10 s11 s12 s13 s14 s15 s16 s17 s18 s19 s20 s21 s22 s23 s24 s25 s26 s27 s28 s29 s33 s34 s35 s36 s37 s38 s39 s40 s41 s42 s43 s44 s45 s46 s47 s48 s49 s50 s51 s52 s53 s54 s55 s56 s57 s58 s59 s60 s61 s62 s63 s64 s65 s66 s67 s68 s69 s70 s71 s72 s73 s74 s75 s76 s77 s78 s79 s80 s81 s82 : Value) (base q k c1 c2 : Nat) (A1 A2 : Option Addr) (B : List UInt8) (M : List ((Bool × Int) × Nat)) (fq : Value) (w wc : World)
    (HM : Hid (Grs nv w A1 k M)) (HA : Hid (∀ ad, A1 = some ad → ad.block < base)) (HOK : Hid (∀ g ∈ M, okU g.1)) (HO : Hid (Own wc base A2 c2 B)) (HQ : Hid (Row wc q 165 [.func (.func 123) #[] #[], fq]))
    (HF : Hid (Fr (fun b => base ≤ b) w wc)) (HB : Hid (base ≤ w.heap.size)) (hk : k ≤ 1000000) (HL : Hid (B.length + (puts kU M).length ≤ 2000000000000))
    (hexit : ∀ (A' : Option Addr) (c' : Nat) (B2 : List UInt8) (w'' : World) (r8 r33 r34 r35 r36 r37 r38 r39 r40 r41 r42 r43 : Value), Hid (B2 = B ++ puts kU M) → Hid (Own w'' base A' c' B2) → Hid (Row w'' q 165 [.func (.func 123) #[] #[], fq]) → Hid (Fr (fun b => base ≤ b) w w'') → Q0 (.exit 3) ⟨List.toArray (s0 :: s1 :: .pointer (some ⟨q, 0, none⟩) :: s3 :: s4 :: .slice A' B2.length c' :: s6 :: s7 :: r8 :: s9 :: s10 :: s11 :: s12 :: s13 :: s14 :: s15 :: s16 :: s17 :: s18 :: s19 :: s20 :: s21 :: s22 :: s23 :: s24 :: s25 :: s26 :: s27 :: s28 :: s29 :: .slice A1 k c1 :: .int .i64 (k : Int) :: .int .i64 (k : Int) :: r33 :: r34 :: r35 :: r36 :: r37 :: r38 :: r39 :: r40 :: r41 :: r42 :: r43 :: s44 :: s45 :: s46 :: s47 :: s48 :: s49 :: s50 :: s51 :: s52 :: s53 :: s54 :: s55 :: s56 :: s57 :: s58 :: s59 :: s60 :: s61 :: s62 :: s63 :: s64 :: s65 :: s66 :: s67 :: s68 :: s69 :: s70 :: s71 :: s72 :: s73 :: s74 :: s75 :: s76 :: s77 :: s78 :: s79 :: s80 :: s81 :: s82 :: []), []⟩ w'') :
    Code.wp Tryz.prog (Code.loop tellInU) Q0 ⟨List.toArray (s0 :: s1 :: .pointer (some ⟨q, 0, none⟩) :: s3 :: s4 :: .slice A2 B.length c2 :: s6 :: s7 :: s8 :: s9 :: s10 :: s11 :: s12 :: s13 :: s14 :: s15 :: s16 :: s17 :: s18 :: s19 :: s20 :: s21 :: s22 :: s23 :: s24 :: s25 :: s26 :: s27 :: s28 :: s29 :: .slice A1 k c1 :: .int .i64 (k : Int) :: .int .i64 0 :: s33 :: s34 :: s35 :: s36 :: s37 :: s38 :: s39 :: s40 :: s41 :: s42 :: s43 :: s44 :: s45 :: s46 :: s47 :: s48 :: s49 :: s50 :: s51 :: s52 :: s53 :: s54 :: s55 :: s56 :: s57 :: s58 :: s59 :: s60 :: s61 :: s62 :: s63 :: s64 :: s65 :: s66 :: s67 :: s68 :: s69 :: s70 :: s71 :: s72 :: s73 :: s74 :: s75 :: s76 :: s77 :: s78 :: s79 :: s80 :: s81 :: s82 :: []), []⟩ wc := by
  conv => arg 2; arg 1; whnf
  have hml := HM.out.1
  have HML := Lib.hid hml
  clear hml
  go_loopw [5, 32] (fun b v wr => ∃ (j : Nat) (B' : List UInt8) (A3 : Option Addr) (c3 : Nat), j ≤ k ∧ v = .int .i64 (j : Int) ∧ b = .slice A3 B'.length c3 ∧ Hid (B' = B ++ puts kU (M.take j)) ∧ Hid (Own wr base A3 c3 B') ∧ Hid (Row wr q 165 [.func (.func 123) #[] #[], fq]) ∧ Hid (Fr (fun b => base ≤ b) w wr)) (fun _ v _ => k - (intOf v).toNat)
  case atStart => exact ⟨0, B, A2, c2, Nat.zero_le _, rfl, rfl, (by rw [List.take_zero]; simp [puts] : B = B ++ puts kU (M.take 0)), HO.out, HQ.out, HF.out⟩
  case round =>
    obtain ⟨j, B', A3, c3, hj, rfl, rfl, HB', HO3, HQ3, HF3⟩ := hrel
    rename World => wr
    by_cases hlt : j < k
    · obtain ⟨t, ht⟩ : ∃ t, M[j]? = some t := ⟨_, List.getElem?_eq_getElem (by have := HML.out; omega)⟩
      have hok := HOK.out t (List.mem_of_getElem? ht)
      have hnx := puts_snoc kU M j t ht
      have hle := puts_le kU M (j + 1)
      obtain ⟨g, o, rfl, hg, h1, h2, h3⟩ := (HM.out.fr HF3.out (fun ad e h => by have := HA.out ad e; omega)).2 j t ht
      obtain ⟨⟨i, x⟩, m⟩ := t
      simp only [nv] at h1 h2 h3
      simp only at hok hnx
      have HOKx := Lib.hid hok
      obtain ⟨B4, hB4⟩ : ∃ B4, B4 = B' ++ kU.put (i, x) := ⟨_, rfl⟩
      have hB4' : B4 = B ++ puts kU (M.take (j + 1)) := by rw [hB4, HB'.out, hnx, List.append_assoc]
      have hB4l : B4.length ≤ 2000000000000 := by rw [hB4', List.length_append]; have := HL.out; omega
      have HB4 := Lib.hid hB4
      have HB4' := Lib.hid hB4'
      have hbs : base ≤ wr.heap.size := by have := HB.out; have := HF3.out.size; omega
      clear ht hok hnx hle hB4 hB4'
      go_upto_region 10 with fail
      obtain ⟨w1, hw1⟩ : ∃ w1, wr.alloc (.cells #[.bool i, (.int .i64 x), .int .i64 (m : Int)] 205) = w1 := ⟨_, rfl⟩
      rw [hw1]
      obtain ⟨g1, hg1'⟩ : ∃ g, wr.heap.size = g := ⟨_, rfl⟩
      rw [hg1']
      have hf1 : Fr (fun _ => False) wr w1 := by rw [← hw1]; exact (Fr.refl _ _).alloc _
      have hg1 : Row w1 g1 205 [.bool i, (.int .i64 x), .int .i64 (m : Int)] := by rw [← hw1, ← hg1']; exact Row.new wr _ _
      have hq1 := HQ3.out.fr hf1 (fun h => h)
      have a0 : w1.cell? ⟨g1, 0, none⟩ = some (.bool i) := hg1.cell rfl
      have a1 : w1.cell? ⟨g1, 1, none⟩ = some (.int .i64 x) := hg1.cell rfl
      have a2 : w1.cell? ⟨q, 0, none⟩ = some (.func (.func 123) #[] #[]) := hq1.cell rfl
      have HO1 := Lib.hid (HO3.out.fr hf1)
      have HF1 := Lib.hid (HF3.out.trans (Fr.mono hf1 (T := fun b => base ≤ b) (fun _ _ h => h.elim)) (fun _ _ h => h))
      have HQ1 := Lib.hid hq1
      clear hw1 hg1' hf1 hg1 h1 h2 h3 hq1
      go_wp2_with fail
      refine (putU_any i x w1 HOKx.out).mono ?_
      rintro e w2 ⟨A4, c4, rfl, hO4, hf2⟩
      have HO2 := Lib.hid (HO1.out.fr hf2)
      have HF2 := Lib.hid (HF1.out.trans (Fr.mono hf2 (T := fun b => base ≤ b) (fun _ _ h => h.elim)) (fun _ _ h => h))
      have HQ2 := Lib.hid (HQ1.out.fr hf2 (fun h => h))
      have HO4 := Lib.hid hO4
      clear hO4 hf2 a0 a1 a2 HO1 HF1 HQ1
      go_wp2_with (at_builtin; refine wpList_appN u8T _ rfl _ _ rfl base _ _ _ rfl HO2.out A4 _ c4 _ rfl HO4.out.rd (bytec_one _) B4.length (by rw [HB4.out, List.length_append]) (by unfold maxLen; omega) (by omega) (by have h1 := HF2.out.size; have h2 := HB.out; omega) ?_)
      intro A' c' w' _ _ hown' hfr' _
      have HO5 : Hid (Own w' base A' c' B4) := Lib.hid (by unfold Own; rw [show B4.map bytec = B'.map bytec ++ (kU.put (i, x)).map bytec by rw [HB4.out, List.map_append]]; exact hown')
      have HF5 : Hid (Fr (fun b => base ≤ b) w w') := Lib.hid (HF2.out.trans (hfr'.mono (T := fun b => base ≤ b) (fun b _ h => (HO2.out.lt b h).1)) (fun _ _ h => h))
      have HQ5 := Lib.hid (HQ2.out.fr hfr' (own_ne HO2.out HQ2.out (by decide)))
      clear hown' hfr'
      go_wp2
      go_roundw
      case rel => exact ⟨j + 1, B4, A', c', by omega, by go_num, rfl, HB4'.out, HO5.out, HQ5.out, HF5.out⟩
      case measure => simp [intOf] <;> omega
    · obtain rfl : j = k := by omega
      have he : B' = B ++ puts kU M := by rw [HB'.out, List.take_of_length_le (by have := HML.out; omega)]
      have HE2 := Lib.hid he
      clear he
      go_wp2_with fail
      exact hexit _ _ _ _ _ _ _ _ _ _ _ _ _ _ _ _ HE2 HO3 HQ3 HF3

set_option maxRecDepth 1000000 in
noncomputable def tellInS : Code := ((Tryz.f90.body.bind (loopAt 9)).getD .skip)

set_option maxRecDepth 1000000 in
set_option maxHeartbeats 3200000 in
theorem tell_inS (Q0 : Exit → Act → World → Prop) (s0 s1 s3 s4 s6 s7 s8 s9 s10 s11 s12 s13 s14 s15 s16 s17 s18 s19 s20 s21 s22 s23 s24 s25 s26 s27 s28 s29 s33 s34 s35 s36 s37 s38 s39 s40 s41 s42 s43 s44 s45 s46 s47 s48 s49 s50 s51 s52 s53 s54 s55 s56 s57 s58 s59 s60 s61 s62 s63 s64 s65 s66 s67 s68 s69 s70 s71 s72 s73 s74 s75 s76 s77 s78 s79 s80 s81 s82 : Value) (base q k c1 c2 : Nat) (A1 A2 : Option Addr) (B : List UInt8) (M : List ((Bool × Int) × Nat)) (fq : Value) (w wc : World)
    (HM : Hid (Grs nv w A1 k M)) (HA : Hid (∀ ad, A1 = some ad → ad.block < base)) (HOK : Hid (∀ g ∈ M, okS g.1)) (HO : Hid (Own wc base A2 c2 B)) (HQ : Hid (Row wc q 165 [.func (.func 156) #[] #[], fq]))
    (HF : Hid (Fr (fun b => base ≤ b) w wc)) (HB : Hid (base ≤ w.heap.size)) (hk : k ≤ 1000000) (HL : Hid (B.length + (puts kS M).length ≤ 2000000000000))
    (hexit : ∀ (A' : Option Addr) (c' : Nat) (B2 : List UInt8) (w'' : World) (r8 r33 r34 r35 r36 r37 r38 r39 r40 r41 r42 r43 : Value), Hid (B2 = B ++ puts kS M) → Hid (Own w'' base A' c' B2) → Hid (Row w'' q 165 [.func (.func 156) #[] #[], fq]) → Hid (Fr (fun b => base ≤ b) w w'') → Q0 (.exit 3) ⟨List.toArray (s0 :: s1 :: .pointer (some ⟨q, 0, none⟩) :: s3 :: s4 :: .slice A' B2.length c' :: s6 :: s7 :: r8 :: s9 :: s10 :: s11 :: s12 :: s13 :: s14 :: s15 :: s16 :: s17 :: s18 :: s19 :: s20 :: s21 :: s22 :: s23 :: s24 :: s25 :: s26 :: s27 :: s28 :: s29 :: .slice A1 k c1 :: .int .i64 (k : Int) :: .int .i64 (k : Int) :: r33 :: r34 :: r35 :: r36 :: r37 :: r38 :: r39 :: r40 :: r41 :: r42 :: r43 :: s44 :: s45 :: s46 :: s47 :: s48 :: s49 :: s50 :: s51 :: s52 :: s53 :: s54 :: s55 :: s56 :: s57 :: s58 :: s59 :: s60 :: s61 :: s62 :: s63 :: s64 :: s65 :: s66 :: s67 :: s68 :: s69 :: s70 :: s71 :: s72 :: s73 :: s74 :: s75 :: s76 :: s77 :: s78 :: s79 :: s80 :: s81 :: s82 :: []), []⟩ w'') :
    Code.wp Tryz.prog (Code.loop tellInS) Q0 ⟨List.toArray (s0 :: s1 :: .pointer (some ⟨q, 0, none⟩) :: s3 :: s4 :: .slice A2 B.length c2 :: s6 :: s7 :: s8 :: s9 :: s10 :: s11 :: s12 :: s13 :: s14 :: s15 :: s16 :: s17 :: s18 :: s19 :: s20 :: s21 :: s22 :: s23 :: s24 :: s25 :: s26 :: s27 :: s28 :: s29 :: .slice A1 k c1 :: .int .i64 (k : Int) :: .int .i64 0 :: s33 :: s34 :: s35 :: s36 :: s37 :: s38 :: s39 :: s40 :: s41 :: s42 :: s43 :: s44 :: s45 :: s46 :: s47 :: s48 :: s49 :: s50 :: s51 :: s52 :: s53 :: s54 :: s55 :: s56 :: s57 :: s58 :: s59 :: s60 :: s61 :: s62 :: s63 :: s64 :: s65 :: s66 :: s67 :: s68 :: s69 :: s70 :: s71 :: s72 :: s73 :: s74 :: s75 :: s76 :: s77 :: s78 :: s79 :: s80 :: s81 :: s82 :: []), []⟩ wc := by
  conv => arg 2; arg 1; whnf
  have hml := HM.out.1
  have HML := Lib.hid hml
  clear hml
  go_loopw [5, 32] (fun b v wr => ∃ (j : Nat) (B' : List UInt8) (A3 : Option Addr) (c3 : Nat), j ≤ k ∧ v = .int .i64 (j : Int) ∧ b = .slice A3 B'.length c3 ∧ Hid (B' = B ++ puts kS (M.take j)) ∧ Hid (Own wr base A3 c3 B') ∧ Hid (Row wr q 165 [.func (.func 156) #[] #[], fq]) ∧ Hid (Fr (fun b => base ≤ b) w wr)) (fun _ v _ => k - (intOf v).toNat)
  case atStart => exact ⟨0, B, A2, c2, Nat.zero_le _, rfl, rfl, (by rw [List.take_zero]; simp [puts] : B = B ++ puts kS (M.take 0)), HO.out, HQ.out, HF.out⟩
  case round =>
    obtain ⟨j, B', A3, c3, hj, rfl, rfl, HB', HO3, HQ3, HF3⟩ := hrel
    rename World => wr
    by_cases hlt : j < k
    · obtain ⟨t, ht⟩ : ∃ t, M[j]? = some t := ⟨_, List.getElem?_eq_getElem (by have := HML.out; omega)⟩
      have hok := HOK.out t (List.mem_of_getElem? ht)
      have hnx := puts_snoc kS M j t ht
      have hle := puts_le kS M (j + 1)
      obtain ⟨g, o, rfl, hg, h1, h2, h3⟩ := (HM.out.fr HF3.out (fun ad e h => by have := HA.out ad e; omega)).2 j t ht
      obtain ⟨⟨i, x⟩, m⟩ := t
      simp only [nv] at h1 h2 h3
      simp only at hok hnx
      have HOKx := Lib.hid hok
      obtain ⟨B4, hB4⟩ : ∃ B4, B4 = B' ++ kS.put (i, x) := ⟨_, rfl⟩
      have hB4' : B4 = B ++ puts kS (M.take (j + 1)) := by rw [hB4, HB'.out, hnx, List.append_assoc]
      have hB4l : B4.length ≤ 2000000000000 := by rw [hB4', List.length_append]; have := HL.out; omega
      have HB4 := Lib.hid hB4
      have HB4' := Lib.hid hB4'
      have hbs : base ≤ wr.heap.size := by have := HB.out; have := HF3.out.size; omega
      clear ht hok hnx hle hB4 hB4'
      go_upto_region 10 with fail
      obtain ⟨w1, hw1⟩ : ∃ w1, wr.alloc (.cells #[.bool i, (.int .i64 x), .int .i64 (m : Int)] 205) = w1 := ⟨_, rfl⟩
      rw [hw1]
      obtain ⟨g1, hg1'⟩ : ∃ g, wr.heap.size = g := ⟨_, rfl⟩
      rw [hg1']
      have hf1 : Fr (fun _ => False) wr w1 := by rw [← hw1]; exact (Fr.refl _ _).alloc _
      have hg1 : Row w1 g1 205 [.bool i, (.int .i64 x), .int .i64 (m : Int)] := by rw [← hw1, ← hg1']; exact Row.new wr _ _
      have hq1 := HQ3.out.fr hf1 (fun h => h)
      have a0 : w1.cell? ⟨g1, 0, none⟩ = some (.bool i) := hg1.cell rfl
      have a1 : w1.cell? ⟨g1, 1, none⟩ = some (.int .i64 x) := hg1.cell rfl
      have a2 : w1.cell? ⟨q, 0, none⟩ = some (.func (.func 156) #[] #[]) := hq1.cell rfl
      have HO1 := Lib.hid (HO3.out.fr hf1)
      have HF1 := Lib.hid (HF3.out.trans (Fr.mono hf1 (T := fun b => base ≤ b) (fun _ _ h => h.elim)) (fun _ _ h => h))
      have HQ1 := Lib.hid hq1
      clear hw1 hg1' hf1 hg1 h1 h2 h3 hq1
      go_wp2_with fail
      refine (putS_any i x w1 HOKx.out).mono ?_
      rintro e w2 ⟨A4, c4, rfl, hO4, hf2⟩
      have HO2 := Lib.hid (HO1.out.fr hf2)
      have HF2 := Lib.hid (HF1.out.trans (Fr.mono hf2 (T := fun b => base ≤ b) (fun _ _ h => h.elim)) (fun _ _ h => h))
      have HQ2 := Lib.hid (HQ1.out.fr hf2 (fun h => h))
      have HO4 := Lib.hid hO4
      clear hO4 hf2 a0 a1 a2 HO1 HF1 HQ1
      go_wp2_with (at_builtin; refine wpList_appN u8T _ rfl _ _ rfl base _ _ _ rfl HO2.out A4 _ c4 _ rfl HO4.out.rd (bytec_one _) B4.length (by rw [HB4.out, List.length_append]) (by unfold maxLen; omega) (by omega) (by have h1 := HF2.out.size; have h2 := HB.out; omega) ?_)
      intro A' c' w' _ _ hown' hfr' _
      have HO5 : Hid (Own w' base A' c' B4) := Lib.hid (by unfold Own; rw [show B4.map bytec = B'.map bytec ++ (kS.put (i, x)).map bytec by rw [HB4.out, List.map_append]]; exact hown')
      have HF5 : Hid (Fr (fun b => base ≤ b) w w') := Lib.hid (HF2.out.trans (hfr'.mono (T := fun b => base ≤ b) (fun b _ h => (HO2.out.lt b h).1)) (fun _ _ h => h))
      have HQ5 := Lib.hid (HQ2.out.fr hfr' (own_ne HO2.out HQ2.out (by decide)))
      clear hown' hfr'
      go_wp2
      go_roundw
      case rel => exact ⟨j + 1, B4, A', c', by omega, by go_num, rfl, HB4'.out, HO5.out, HQ5.out, HF5.out⟩
      case measure => simp [intOf] <;> omega
    · obtain rfl : j = k := by omega
      have he : B' = B ++ puts kS M := by rw [HB'.out, List.take_of_length_le (by have := HML.out; omega)]
      have HE2 := Lib.hid he
      clear he
      go_wp2_with fail
      exact hexit _ _ _ _ _ _ _ _ _ _ _ _ _ _ _ _ HE2 HO3 HQ3 HF3

set_option maxRecDepth 1000000 in
noncomputable def tellInW : Code := ((Tryz.f95.body.bind (loopAt 9)).getD .skip)

set_option maxRecDepth 1000000 in
set_option maxHeartbeats 3200000 in
theorem tell_inW (Q0 : Exit → Act → World → Prop) (s0 s1 s3 s4 s6 s7 s8 s9 s10 s11 s12 s13 s14 s15 s16 s17 s18 s19 s20 s21 s22 s23 s24 s25 s26 s27 s28 s29 s33 s34 s35 s36 s37 s38 s39 s40 s41 s42 s43 s44 s45 s46 s47 s48 s49 s50 s51 s52 s53 s54 s55 s56 s57 s58 s59 s60 s61 s62 s63 s64 s65 s66 s67 s68 s69 s70 s71 s72 s73 s74 s75 s76 s77 s78 s79 s80 s81 s82 : Value) (base q k c1 c2 : Nat) (A1 A2 : Option Addr) (B : List UInt8) (M : List ((Bool × (List UInt8)) × Nat)) (fq : Value) (w wc : World)
    (HM : Hid (Grs sv w A1 k M)) (HA : Hid (∀ ad, A1 = some ad → ad.block < base)) (HOK : Hid (∀ g ∈ M, okW g.1)) (HO : Hid (Own wc base A2 c2 B)) (HQ : Hid (Row wc q 174 [.func (.func 130) #[] #[], fq]))
    (HF : Hid (Fr (fun b => base ≤ b) w wc)) (HB : Hid (base ≤ w.heap.size)) (hk : k ≤ 1000000) (HL : Hid (B.length + (puts kW M).length ≤ 2000000000000))
    (hexit : ∀ (A' : Option Addr) (c' : Nat) (B2 : List UInt8) (w'' : World) (r8 r33 r34 r35 r36 r37 r38 r39 r40 r41 r42 r43 : Value), Hid (B2 = B ++ puts kW M) → Hid (Own w'' base A' c' B2) → Hid (Row w'' q 174 [.func (.func 130) #[] #[], fq]) → Hid (Fr (fun b => base ≤ b) w w'') → Q0 (.exit 3) ⟨List.toArray (s0 :: s1 :: .pointer (some ⟨q, 0, none⟩) :: s3 :: s4 :: .slice A' B2.length c' :: s6 :: s7 :: r8 :: s9 :: s10 :: s11 :: s12 :: s13 :: s14 :: s15 :: s16 :: s17 :: s18 :: s19 :: s20 :: s21 :: s22 :: s23 :: s24 :: s25 :: s26 :: s27 :: s28 :: s29 :: .slice A1 k c1 :: .int .i64 (k : Int) :: .int .i64 (k : Int) :: r33 :: r34 :: r35 :: r36 :: r37 :: r38 :: r39 :: r40 :: r41 :: r42 :: r43 :: s44 :: s45 :: s46 :: s47 :: s48 :: s49 :: s50 :: s51 :: s52 :: s53 :: s54 :: s55 :: s56 :: s57 :: s58 :: s59 :: s60 :: s61 :: s62 :: s63 :: s64 :: s65 :: s66 :: s67 :: s68 :: s69 :: s70 :: s71 :: s72 :: s73 :: s74 :: s75 :: s76 :: s77 :: s78 :: s79 :: s80 :: s81 :: s82 :: []), []⟩ w'') :
    Code.wp Tryz.prog (Code.loop tellInW) Q0 ⟨List.toArray (s0 :: s1 :: .pointer (some ⟨q, 0, none⟩) :: s3 :: s4 :: .slice A2 B.length c2 :: s6 :: s7 :: s8 :: s9 :: s10 :: s11 :: s12 :: s13 :: s14 :: s15 :: s16 :: s17 :: s18 :: s19 :: s20 :: s21 :: s22 :: s23 :: s24 :: s25 :: s26 :: s27 :: s28 :: s29 :: .slice A1 k c1 :: .int .i64 (k : Int) :: .int .i64 0 :: s33 :: s34 :: s35 :: s36 :: s37 :: s38 :: s39 :: s40 :: s41 :: s42 :: s43 :: s44 :: s45 :: s46 :: s47 :: s48 :: s49 :: s50 :: s51 :: s52 :: s53 :: s54 :: s55 :: s56 :: s57 :: s58 :: s59 :: s60 :: s61 :: s62 :: s63 :: s64 :: s65 :: s66 :: s67 :: s68 :: s69 :: s70 :: s71 :: s72 :: s73 :: s74 :: s75 :: s76 :: s77 :: s78 :: s79 :: s80 :: s81 :: s82 :: []), []⟩ wc := by
  conv => arg 2; arg 1; whnf
  have hml := HM.out.1
  have HML := Lib.hid hml
  clear hml
  go_loopw [5, 32] (fun b v wr => ∃ (j : Nat) (B' : List UInt8) (A3 : Option Addr) (c3 : Nat), j ≤ k ∧ v = .int .i64 (j : Int) ∧ b = .slice A3 B'.length c3 ∧ Hid (B' = B ++ puts kW (M.take j)) ∧ Hid (Own wr base A3 c3 B') ∧ Hid (Row wr q 174 [.func (.func 130) #[] #[], fq]) ∧ Hid (Fr (fun b => base ≤ b) w wr)) (fun _ v _ => k - (intOf v).toNat)
  case atStart => exact ⟨0, B, A2, c2, Nat.zero_le _, rfl, rfl, (by rw [List.take_zero]; simp [puts] : B = B ++ puts kW (M.take 0)), HO.out, HQ.out, HF.out⟩
  case round =>
    obtain ⟨j, B', A3, c3, hj, rfl, rfl, HB', HO3, HQ3, HF3⟩ := hrel
    rename World => wr
    by_cases hlt : j < k
    · obtain ⟨t, ht⟩ : ∃ t, M[j]? = some t := ⟨_, List.getElem?_eq_getElem (by have := HML.out; omega)⟩
      have hok := HOK.out t (List.mem_of_getElem? ht)
      have hnx := puts_snoc kW M j t ht
      have hle := puts_le kW M (j + 1)
      obtain ⟨g, o, rfl, hg, h1, h2, h3⟩ := (HM.out.fr HF3.out (fun ad e h => by have := HA.out ad e; omega)).2 j t ht
      obtain ⟨⟨i, x⟩, m⟩ := t
      simp only [sv] at h1 h2 h3
      simp only at hok hnx
      have HOKx := Lib.hid hok
      obtain ⟨B4, hB4⟩ : ∃ B4, B4 = B' ++ kW.put (i, x) := ⟨_, rfl⟩
      have hB4' : B4 = B ++ puts kW (M.take (j + 1)) := by rw [hB4, HB'.out, hnx, List.append_assoc]
      have hB4l : B4.length ≤ 2000000000000 := by rw [hB4', List.length_append]; have := HL.out; omega
      have HB4 := Lib.hid hB4
      have HB4' := Lib.hid hB4'
      have hbs : base ≤ wr.heap.size := by have := HB.out; have := HF3.out.size; omega
      clear ht hok hnx hle hB4 hB4'
      go_upto_region 10 with fail
      obtain ⟨w1, hw1⟩ : ∃ w1, wr.alloc (.cells #[.bool i, (.string (txt x)), .int .i64 (m : Int)] 211) = w1 := ⟨_, rfl⟩
      rw [hw1]
      obtain ⟨g1, hg1'⟩ : ∃ g, wr.heap.size = g := ⟨_, rfl⟩
      rw [hg1']
      have hf1 : Fr (fun _ => False) wr w1 := by rw [← hw1]; exact (Fr.refl _ _).alloc _
      have hg1 : Row w1 g1 211 [.bool i, (.string (txt x)), .int .i64 (m : Int)] := by rw [← hw1, ← hg1']; exact Row.new wr _ _
      have hq1 := HQ3.out.fr hf1 (fun h => h)
      have a0 : w1.cell? ⟨g1, 0, none⟩ = some (.bool i) := hg1.cell rfl
      have a1 : w1.cell? ⟨g1, 1, none⟩ = some (.string (txt x)) := hg1.cell rfl
      have a2 : w1.cell? ⟨q, 0, none⟩ = some (.func (.func 130) #[] #[]) := hq1.cell rfl
      have HO1 := Lib.hid (HO3.out.fr hf1)
      have HF1 := Lib.hid (HF3.out.trans (Fr.mono hf1 (T := fun b => base ≤ b) (fun _ _ h => h.elim)) (fun _ _ h => h))
      have HQ1 := Lib.hid hq1
      clear hw1 hg1' hf1 hg1 h1 h2 h3 hq1
      go_wp2_with fail
      refine (putW_any i x w1 HOKx.out).mono ?_
      rintro e w2 ⟨A4, c4, rfl, hO4, hf2⟩
      have HO2 := Lib.hid (HO1.out.fr hf2)
      have HF2 := Lib.hid (HF1.out.trans (Fr.mono hf2 (T := fun b => base ≤ b) (fun _ _ h => h.elim)) (fun _ _ h => h))
      have HQ2 := Lib.hid (HQ1.out.fr hf2 (fun h => h))
      have HO4 := Lib.hid hO4
      clear hO4 hf2 a0 a1 a2 HO1 HF1 HQ1
      go_wp2_with (at_builtin; refine wpList_appN u8T _ rfl _ _ rfl base _ _ _ rfl HO2.out A4 _ c4 _ rfl HO4.out.rd (bytec_one _) B4.length (by rw [HB4.out, List.length_append]) (by unfold maxLen; omega) (by omega) (by have h1 := HF2.out.size; have h2 := HB.out; omega) ?_)
      intro A' c' w' _ _ hown' hfr' _
      have HO5 : Hid (Own w' base A' c' B4) := Lib.hid (by unfold Own; rw [show B4.map bytec = B'.map bytec ++ (kW.put (i, x)).map bytec by rw [HB4.out, List.map_append]]; exact hown')
      have HF5 : Hid (Fr (fun b => base ≤ b) w w') := Lib.hid (HF2.out.trans (hfr'.mono (T := fun b => base ≤ b) (fun b _ h => (HO2.out.lt b h).1)) (fun _ _ h => h))
      have HQ5 := Lib.hid (HQ2.out.fr hfr' (own_ne HO2.out HQ2.out (by decide)))
      clear hown' hfr'
      go_wp2
      go_roundw
      case rel => exact ⟨j + 1, B4, A', c', by omega, by go_num, rfl, HB4'.out, HO5.out, HQ5.out, HF5.out⟩
      case measure => simp [intOf] <;> omega
    · obtain rfl : j = k := by omega
      have he : B' = B ++ puts kW M := by rw [HB'.out, List.take_of_length_le (by have := HML.out; omega)]
      have HE2 := Lib.hid he
      clear he
      go_wp2_with fail
      exact hexit _ _ _ _ _ _ _ _ _ _ _ _ _ _ _ _ HE2 HO3 HQ3 HF3

end Go.Proofs.YtedmnkcoflbciaaGreat
