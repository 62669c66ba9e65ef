/-
  Layer 20, the law HeadGets (written by gen_gets20.py).
-/
import Derived.Test.YtbnkahjmeobblaaHeN
import Derived.Test.YtbnkahjmeobblaaHeAd
import Derived.Test.YtbnkahjmeobblaaZm39
import Derived.Test.YtbnkahjmeobblaaZm35
import Derived.Test.YtbnkahjmeobblaaZm28
namespace Go.Proofs.Ytbnkahjmeobblaa
open Go.RowKit Mem Go.Lib LebM UtfM AcM OpM HeM
attribute [local go_sem ↓] Go.wp_at_zero Go.wp_at_succ
set_option linter.unusedVariables false

theorem run_len20 (a : Tx) : ∀ (k : Nat) (last : Tx) (B : List UInt8), (runA a k last B).1.length ≤ B.length
  | 0, _, _ => Nat.zero_le _
  | k + 1, last, B => by
    have h := first_le B
    have ih := run_len20 a k (firstA B).1 (B.drop (firstA B).2.1)
    rw [List.length_drop] at ih
    unfold runA
    split
    · exact Nat.zero_le _
    · rename_i h0
      have h1 := (h.2.2.2 (by omega)).1
      split
      · exact Nat.zero_le _
      · split
        · exact Nat.zero_le _
        · show ((firstA B).1 :: (runA a k (firstA B).1 (B.drop (firstA B).2.1)).1).length ≤ _
          rw [List.length_cons]
          omega
theorem get_len20 (a : Tx) (B : List UInt8) : (getA a B).1.length ≤ B.length + 1 := by
  have h := gu_le B
  have h2 := run_len20 a (gu B).1 [] (B.drop (gu B).2.1)
  rw [List.length_drop] at h2
  unfold getA
  split
  · exact Nat.zero_le _
  · split
    · exact Nat.zero_le _
    · show (a :: (runA a (gu B).1 [] (B.drop (gu B).2.1)).1).length ≤ _
      rw [List.length_cons]
      omega
theorem tab_len20 (a : Tx) (s : St) : (tabS a s).1.length ≤ s.l.length + 1 := by
  unfold tabS
  split
  · exact Nat.zero_le _
  · exact get_len20 a s.l
theorem deps_16 (s : St) : (deps s).1.length ≤ 16 := by
  have h : (num 16 s).1 ≤ 16 := by
    unfold num
    split
    · exact Nat.zero_le _
    · exact (DirM.numD_lt 16 s.l).1
  show (depS (num 16 s).1 [] (num 16 s).2).1.length ≤ 16
  rw [depS_len]
  simp only [List.length_nil]
  omega
theorem getH_d (B : List UInt8) : (getH B).1.d.length ≤ 16 := by
  unfold getH
  split
  · exact Nat.zero_le _
  · exact deps_16 ⟨B, 0⟩
theorem shr_chg : Shr chg := Shr.bnd (Shr.bnd (shr_num _) (fun k => shr_depS k [])) fun _ => (shr_pos _).bnd fun _ => (shr_byt _).bnd fun _ => (shr_pos _).bnd fun _ => (shr_pos _).bnd fun _ => shr_sig.bnd fun _ => (shr_num _).bnd fun _ => (shr_byt _).bnd fun _ => Shr.bnd (f := chk _) (fun s => Nat.le_refl _) fun _ => shr_rt _
theorem getH_T (B : List UInt8) : (getH B).2.1.length ≤ B.length + 1 := by
  unfold getH
  split
  · exact Nat.zero_le _
  · have h := tab_len20 (chg ⟨B, 0⟩).1.a (chg ⟨B, 0⟩).2
    have h2 : (chg ⟨B, 0⟩).2.l.length ≤ B.length := shr_chg ⟨B, 0⟩
    show (tabS (chg ⟨B, 0⟩).1.a (chg ⟨B, 0⟩).2).1.length ≤ _
    omega
set_option maxRecDepth 100000 in
set_option maxHeartbeats 12800000 in
theorem headgets_law (A : Option Addr) (n c : Nat) (B : List UInt8) (w : World) (hr : Rd w A n (B.map bytec)) (hc : n ≤ c) (hcm : c ≤ maxLen) :
    Calls Try.prog 4 #[.slice A n c] w fun e w' => e = .returned (.bool true) ∧ Fr (fun _ => False) w w' := by
  have HBN : Hid (B.length = n) := Lib.hid (by simpa using hr.1)
  have hn63 : n ≤ 9223372036854775807 := by unfold maxLen at hcm; omega
  have HM_w := Lib.hid hr
  have HAW := Lib.hid (fun w' => awake20_any w')
  have hp := fun w' (hf : Fr (fun _ => False) w w') (hn : n ≤ 3000) => hGet_any A n c B w' (hr.fr hf (fun _ _ h => h)) hc (by omega)
  have hq := fun w' (hf : Fr (fun _ => False) w w') (hn : n ≤ 3000) => rGet20_any A n c B w' (hr.fr hf (fun _ _ h => h)) hc (by omega) (fun h ad e => Nat.lt_of_lt_of_le (hr.lt h ad e) hf.size)
  have hd16 := getH_d B
  have hT1 := getH_T B
  obtain ⟨⟨ch, T, K, F⟩, hX⟩ : ∃ X, getH B = X := ⟨_, rfl⟩
  simp only [hX] at hp hq
  rw [hX] at hd16 hT1
  obtain ⟨nt, hnt⟩ : ∃ k, T.length = k := ⟨_, rfl⟩
  simp only [hnt] at hp hq
  obtain ⟨a, q, s, t, m, d⟩ := ch
  obtain ⟨nd, hnd⟩ : ∃ k, d.length = k := ⟨_, rfl⟩
  unfold chc at hp hq
  simp only [hnd] at hp hq
  simp only [hnd, hnt] at hd16 hT1
  have HP := Lib.hid hp
  have HQ := Lib.hid hq
  have HNT := Lib.hid hnt
  have HND := Lib.hid hnd
  have HDT : Hid (nd ≤ 16 ∧ nt ≤ n + 1) := Lib.hid ⟨hd16, by rw [HBN.out] at hT1; exact hT1⟩
  have HF_w : Hid (Fr (fun _ => False) w w) := Lib.hid (Fr.refl _ _)
  clear hp hq hnt hnd hd16 hT1 hX hr hcm
  go_enter Try.func4, Try.ntmps4
  go_wp2_with fail
  refine (HAW.out _).mono ?_
  rintro e x1 ⟨rfl, hf⟩
  have HF_x1 : Hid (Fr (fun _ => False) w x1) := Lib.hid (HF_w.out.trans hf (fun _ _ h => h))
  clear hf
  by_cases hq : 3000 < n
  · have tq : decide ((3000 : Int) < (n : Int)) = true := decide_eq_true (by omega)
    have tq' : decide (3000 < n) = true := decide_eq_true hq
    go_wp2_with fail
    refine (HAW.out _).mono ?_
    rintro e x2 ⟨rfl, hf⟩
    have HF_x2 : Hid (Fr (fun _ => False) w x2) := Lib.hid (HF_x1.out.trans hf (fun _ _ h => h))
    clear hf
    go_wp2_with fail
    go_ret
    exact ⟨rfl, HF_x2.out⟩
  · have tq : decide ((3000 : Int) < (n : Int)) = false := decide_eq_false (by omega)
    have tq' : decide (3000 < n) = false := decide_eq_false hq
    have hn3 : n ≤ 3000 := by omega
    go_wp2_with fail
    refine (HP.out _ HF_x1.out hn3).mono ?_
    rintro e x2 ⟨A1, c1, A2, c2, rfl, ho, h32, ht, hf⟩
    have HF_x2 : Hid (Fr (fun _ => False) w x2) := Lib.hid (HF_x1.out.trans hf (fun _ _ h => h))
    have ho := ho.hsh h32
    simp only [HND.out] at ho
    have HH_x2 : Hid (Hsh x2 A1 nd d) := Lib.hid ho
    have ht := ht.rd
    simp only [HNT.out] at ht
    have HT_x2 : Hid (Rd x2 A2 nt (T.map tc)) := Lib.hid ht
    clear ho ht h32
    clear hf
    obtain ⟨bx, hbx⟩ : ∃ q, x2.heap.size = q := ⟨_, rfl⟩
    obtain ⟨a3, ha3⟩ : ∃ w, x2.alloc (.cells [.string ⟨#[]⟩, .int .i64 0, .int .i64 0, .int .i64 0, .string ⟨#[]⟩, .slice none 0 0, .slice none 0 0].toArray 25) = w := ⟨_, rfl⟩
    have HZa3 : Hid (Row a3 bx 25 [.string ⟨#[]⟩, .int .i64 0, .int .i64 0, .int .i64 0, .string ⟨#[]⟩, .slice none 0 0, .slice none 0 0]) := Lib.hid (by rw [← ha3, ← hbx]; exact Row.new _ _ _)
    have HAa3 : Hid (Fr (fun _ => False) x2 a3) := Lib.hid (by rw [← ha3]; exact (Fr.refl _ _).alloc _)
    have HQa3 : Hid (x2.heap.size ≤ bx) := Lib.hid (by omega)
    go_wp2_with (refine store_st chSz rfl (.tmp 3) (.tmp 22) rfl bx (by rfl) [.string (txt a), .int .i64 q, .int .i64 s, .int .i64 t, .string (txt m), .slice A1 nd c1, .slice none 0 0] (by rfl) _ _ HZa3.out rfl rfl (by simp [Value.oneCell']) ?_)
    intro x3 hrn hfn
    have hf : Fr (fun _ => False) x2 x3 := HAa3.out.trans hfn (fun k hk h => by have h1 : k = bx := h; have := HQa3.out; omega)
    have HH_x3 := Lib.hid (HH_x2.out.fr hf)
    have HT_x3 := Lib.hid (HT_x2.out.fr hf (fun _ _ h => h))
    have HF_x3 : Hid (Fr (fun _ => False) w x3) := Lib.hid (HF_x2.out.trans hf (fun _ _ h => h))
    have HX_x3 : Hid (Row x3 bx 25 [.string (txt a), .int .i64 q, .int .i64 s, .int .i64 t, .string (txt m), .slice A1 nd c1, .slice none 0 0]) := Lib.hid hrn
    clear hrn hfn hf ha3 hbx
    go_wp2_with fail
    refine (HQ.out _ HF_x3.out hn3).mono ?_
    rintro e x4 ⟨A3, c3, A4, c4, rfl, ho, h32, ht, hf⟩
    have HH_x4 := Lib.hid (HH_x3.out.fr hf)
    have HT_x4 := Lib.hid (HT_x3.out.fr hf (fun _ _ h => h))
    have HX_x4 := Lib.hid (HX_x3.out.fr hf (fun h => h))
    have HF_x4 : Hid (Fr (fun _ => False) w x4) := Lib.hid (HF_x3.out.trans hf (fun _ _ h => h))
    have ho := ho.hsh h32
    simp only [HND.out] at ho
    have HI_x4 : Hid (Hsh x4 A3 nd d) := Lib.hid ho
    have ht := ht.rd
    simp only [HNT.out] at ht
    have HU_x4 : Hid (Rd x4 A4 nt (T.map tc)) := Lib.hid ht
    clear ho ht h32
    clear hf
    obtain ⟨by_, hby_⟩ : ∃ q, x4.heap.size = q := ⟨_, rfl⟩
    obtain ⟨a5, ha5⟩ : ∃ w, x4.alloc (.cells [.string ⟨#[]⟩, .int .i64 0, .int .i64 0, .int .i64 0, .string ⟨#[]⟩, .slice none 0 0, .slice none 0 0].toArray 25) = w := ⟨_, rfl⟩
    have HZa5 : Hid (Row a5 by_ 25 [.string ⟨#[]⟩, .int .i64 0, .int .i64 0, .int .i64 0, .string ⟨#[]⟩, .slice none 0 0, .slice none 0 0]) := Lib.hid (by rw [← ha5, ← hby_]; exact Row.new _ _ _)
    have HAa5 : Hid (Fr (fun _ => False) x4 a5) := Lib.hid (by rw [← ha5]; exact (Fr.refl _ _).alloc _)
    have HQa5 : Hid (x4.heap.size ≤ by_) := Lib.hid (by omega)
    go_wp2_with (refine store_st chSz rfl (.tmp 7) (.tmp 29) rfl by_ (by rfl) [.string (txt a), .int .i64 q, .int .i64 s, .int .i64 t, .string (txt m), .slice A3 nd c3, .slice none 0 0] (by rfl) _ _ HZa5.out rfl rfl (by simp [Value.oneCell']) ?_)
    intro x5 hrn hfn
    have hf : Fr (fun _ => False) x4 x5 := HAa5.out.trans hfn (fun k hk h => by have h1 : k = by_ := h; have := HQa5.out; omega)
    have HH_x5 := Lib.hid (HH_x4.out.fr hf)
    have HT_x5 := Lib.hid (HT_x4.out.fr hf (fun _ _ h => h))
    have HX_x5 := Lib.hid (HX_x4.out.fr hf (fun h => h))
    have HI_x5 := Lib.hid (HI_x4.out.fr hf)
    have HU_x5 := Lib.hid (HU_x4.out.fr hf (fun _ _ h => h))
    have HF_x5 : Hid (Fr (fun _ => False) w x5) := Lib.hid (HF_x4.out.trans hf (fun _ _ h => h))
    have HY_x5 : Hid (Row x5 by_ 25 [.string (txt a), .int .i64 q, .int .i64 s, .int .i64 t, .string (txt m), .slice A3 nd c3, .slice none 0 0]) := Lib.hid hrn
    clear hrn hfn hf ha5 hby_
    have hsm : Calls Try.prog 17 #[.agg #[.string (txt a), .int .i64 q, .int .i64 s, .int .i64 t, .string (txt m), .slice A1 nd c1, .slice none 0 0], .agg #[.string (txt a), .int .i64 q, .int .i64 s, .int .i64 t, .string (txt m), .slice A3 nd c3, .slice none 0 0]] x5 fun e w' => e = .returned (.bool true) ∧ Fr (fun _ => False) x5 w' := by
      have h := rSame20_any ⟨a, q, s, t, m, d⟩ A1 c1 A3 c3 x5 (by simp only; rw [HND.out]; exact HH_x5.out) (by simp only; rw [HND.out]; exact HI_x5.out) (by simp only; rw [HND.out]; have := HDT.out; omega)
      unfold chc at h
      simp only [HND.out] at h
      exact h
    have HSM := Lib.hid hsm
    have te : ((F : Int) == (F : Int)) = true := by simp
    have tk : ((K : Int) == (K : Int)) = true := by simp
    clear hsm
    have c5_0 : x5.cell? ⟨bx, 0, none⟩ = some (.string (txt a)) := Row.cell HX_x5.out rfl
    have c5_1 : x5.cell? ⟨bx, 1, none⟩ = some (.int .i64 q) := Row.cell HX_x5.out rfl
    have c5_2 : x5.cell? ⟨bx, 2, none⟩ = some (.int .i64 s) := Row.cell HX_x5.out rfl
    have c5_3 : x5.cell? ⟨bx, 3, none⟩ = some (.int .i64 t) := Row.cell HX_x5.out rfl
    have c5_4 : x5.cell? ⟨bx, 4, none⟩ = some (.string (txt m)) := Row.cell HX_x5.out rfl
    have c5_5 : x5.cell? ⟨bx, 5, none⟩ = some (.slice A1 nd c1) := Row.cell HX_x5.out rfl
    have c5_6 : x5.cell? ⟨bx, 6, none⟩ = some (.slice none 0 0) := Row.cell HX_x5.out rfl
    have c5_7 : x5.cell? ⟨by_, 0, none⟩ = some (.string (txt a)) := Row.cell HY_x5.out rfl
    have c5_8 : x5.cell? ⟨by_, 1, none⟩ = some (.int .i64 q) := Row.cell HY_x5.out rfl
    have c5_9 : x5.cell? ⟨by_, 2, none⟩ = some (.int .i64 s) := Row.cell HY_x5.out rfl
    have c5_10 : x5.cell? ⟨by_, 3, none⟩ = some (.int .i64 t) := Row.cell HY_x5.out rfl
    have c5_11 : x5.cell? ⟨by_, 4, none⟩ = some (.string (txt m)) := Row.cell HY_x5.out rfl
    have c5_12 : x5.cell? ⟨by_, 5, none⟩ = some (.slice A3 nd c3) := Row.cell HY_x5.out rfl
    have c5_13 : x5.cell? ⟨by_, 6, none⟩ = some (.slice none 0 0) := Row.cell HY_x5.out rfl
    go_wp2_with fail
    refine (HSM.out).mono ?_
    clear c5_0 c5_1 c5_2 c5_3 c5_4 c5_5 c5_6 c5_7 c5_8 c5_9 c5_10 c5_11 c5_12 c5_13
    rintro e x6 ⟨rfl, hf⟩
    have HH_x6 := Lib.hid (HH_x5.out.fr hf)
    have HT_x6 := Lib.hid (HT_x5.out.fr hf (fun _ _ h => h))
    have HX_x6 := Lib.hid (HX_x5.out.fr hf (fun h => h))
    have HI_x6 := Lib.hid (HI_x5.out.fr hf)
    have HU_x6 := Lib.hid (HU_x5.out.fr hf (fun _ _ h => h))
    have HY_x6 := Lib.hid (HY_x5.out.fr hf (fun h => h))
    have HF_x6 : Hid (Fr (fun _ => False) w x6) := Lib.hid (HF_x5.out.trans hf (fun _ _ h => h))
    clear hf
    have hs2 := racSame_any A2 nt c2 T A4 nt c4 T x6 HT_x6.out HU_x6.out (by have := HDT.out; omega) (by have := HDT.out; omega)
    rw [decide_eq_true rfl] at hs2
    have HS2 := Lib.hid hs2
    clear hs2
    go_wp2_with fail
    refine (HS2.out).mono ?_
    rintro e x7 ⟨rfl, hf⟩
    have HH_x7 := Lib.hid (HH_x6.out.fr hf)
    have HT_x7 := Lib.hid (HT_x6.out.fr hf (fun _ _ h => h))
    have HX_x7 := Lib.hid (HX_x6.out.fr hf (fun h => h))
    have HI_x7 := Lib.hid (HI_x6.out.fr hf)
    have HU_x7 := Lib.hid (HU_x6.out.fr hf (fun _ _ h => h))
    have HY_x7 := Lib.hid (HY_x6.out.fr hf (fun h => h))
    have HF_x7 : Hid (Fr (fun _ => False) w x7) := Lib.hid (HF_x6.out.trans hf (fun _ _ h => h))
    clear hf
    go_wp2_with fail
    go_ret
    exact ⟨rfl, HF_x7.out⟩
end Go.Proofs.Ytbnkahjmeobblaa
