/-
  Layer 16's laws: what the law's columns are; DirGets.
-/
import Derived.Test.YtfgjneodhmfknaaDirJ
namespace Go.Proofs.Ytfgjneodhmfknaa
open Go.RowKit Mem Go.Lib LebM DirM
attribute [local go_sem ↓] Go.wp_at_zero Go.wp_at_succ
set_option linter.unusedVariables false

theorem ok_of : ∀ (l : List Col) (last : Int), l.Pairwise (fun x y => x.1 < y.1) → (∀ x ∈ l, last < (x.1 : Int) ∧ x.1 ≤ 1048576 ∧ 0 < x.2.length ∧ x.2.length ≤ 1048576) → Ok last l
  | [], last, _, _ => trivial
  | c :: l, last, hp, hb => by
    have h := hb c (List.mem_cons_self ..)
    have hp2 := List.pairwise_cons.1 hp
    refine ⟨h.1, h.2.1, h.2.2.1, h.2.2.2, ok_of l c.1 hp2.2 (fun x hx => ?_)⟩
    have h3 := hb x (List.mem_cons_of_mem _ hx)
    have h4 := hp2.1 x hx
    exact ⟨by omega, h3.2⟩
theorem full_len (l : List Col) : (full l).length ≤ l.length := List.length_filter_le _ _
theorem colsW_len (S : List UInt8) (D : List (List UInt8)) : (colsW S D).length ≤ 60 := by
  have h := (colsL_ok 0 (S.take 60) D).1
  rw [List.length_take] at h
  unfold colsW
  omega
theorem colsW_ok (S : List UInt8) (D : List (List UInt8)) : ∀ x ∈ colsW S D, 0 < x.1 ∧ x.1 ≤ 15360 ∧ x.2.length ≤ 200 := by
  intro x hx
  have h := (colsL_ok 0 (S.take 60) D).2 x hx
  rw [List.length_take] at h
  have : min 60 S.length ≤ 60 := Nat.min_le_left _ _
  omega
theorem fullW_ok (S : List UInt8) (D : List (List UInt8)) : Ok (-1) (full (colsW S D)) := by
  refine ok_of _ _ ((colsL_rise 0 (S.take 60) D).filter _) (fun x hx => ?_)
  obtain ⟨h1, h2⟩ := List.mem_filter.1 hx
  have h3 := colsW_ok S D x h1
  have h4 := of_decide_eq_true h2
  omega
theorem full_full (l : List Col) : full (full l) = full l := by
  unfold full
  rw [List.filter_filter]
  simp
theorem headC_len (l : List Col) (h : ∀ x ∈ l, x.1 ≤ 15360 ∧ x.2.length ≤ 200) : (headC l).length ≤ 4 * l.length ∧ 2 * l.length ≤ (headC l).length := by
  induction l with
  | nil => exact ⟨Nat.le_refl _, Nat.le_refl _⟩
  | cons c l ih =>
    have hc := h c (List.mem_cons_self ..)
    obtain ⟨i1, i2⟩ := ih (fun x hx => h x (List.mem_cons_of_mem _ hx))
    have h1 := u_len_le 1 c.1 (by omega)
    have h2 := u_len_le 1 c.2.length (by omega)
    have h3 := u_pos c.1
    have h4 := u_pos c.2.length
    show ((u c.1 ++ u c.2.length) ++ headC l).length ≤ 4 * (l.length + 1) ∧ 2 * (l.length + 1) ≤ ((u c.1 ++ u c.2.length) ++ headC l).length
    rw [List.length_append, List.length_append]
    omega
theorem dataC_len (l : List Col) (m : Nat) (h : ∀ x ∈ l, x.2.length ≤ m) : (dataC l).length ≤ m * l.length := by
  induction l with
  | nil => exact Nat.zero_le _
  | cons c l ih =>
    have hc := h c (List.mem_cons_self ..)
    have i1 := ih (fun x hx => h x (List.mem_cons_of_mem _ hx))
    show (c.2 ++ dataC l).length ≤ m * (l.length + 1)
    rw [List.length_append, Nat.mul_add, Nat.mul_one]
    omega
theorem dataC_full (l : List Col) : dataC (full l) = dataC l := by
  induction l with
  | nil => rfl
  | cons c l ih =>
    by_cases h : 0 < c.2.length
    · have e : full (c :: l) = c :: full l := by unfold full; rw [List.filter_cons, if_pos (decide_eq_true h)]
      rw [e]
      show c.2 ++ dataC (full l) = c.2 ++ dataC l
      rw [ih]
    · have e : full (c :: l) = full l := by unfold full; rw [List.filter_cons, if_neg (fun h2 => h (of_decide_eq_true h2))]
      rw [e, ih]
      show dataC l = c.2 ++ dataC l
      rw [List.eq_nil_of_length_eq_zero (show c.2.length = 0 by omega)]
      rfl
/-- how long the bytes of the law's columns are -/
theorem putW_len (S : List UInt8) (D : List (List UInt8)) : (dataC (colsW S D)).length < (putC (colsW S D)).length ∧ (putC (colsW S D)).length ≤ (dataC (colsW S D)).length + 1 + 6 * (full (colsW S D)).length ∧ (putC (colsW S D)).length ≤ 13000 ∧ (dataC (colsW S D)).length ≤ 12000 := by
  have h1 := colsW_len S D
  have h2 := full_len (colsW S D)
  have h3 := headC_len (full (colsW S D)) (fun x hx => by have := colsW_ok S D x (List.mem_filter.1 hx).1; omega)
  have h4 := dataC_len (colsW S D) 200 (fun x hx => (colsW_ok S D x hx).2.2)
  have h5 : (u (full (colsW S D)).length).length = 1 := by rw [u_small (by omega)]; rfl
  unfold putC
  rw [List.length_append, List.length_append, dataC_full, h5]
  have h6 : 200 * (colsW S D).length ≤ 200 * 60 := Nat.mul_le_mul_left _ h1
  omega
theorem map_len {L : List Cl} {l : List Col} (h : L.map Cl.v = l) : L.length = l.length := by rw [← h, List.length_map]
set_option maxRecDepth 100000 in
set_option maxHeartbeats 3200000 in
theorem gets16_law (A : Option Addr) (n c : Nat) (B : List UInt8) (w : World) (hr : Rd w A n (B.map bytec)) (hc : n ≤ c) (hn : n ≤ maxLen) :
    Calls Try.prog 4 #[.slice A n c] w fun e w' => e = .returned (.bool true) ∧ Fr (fun _ => False) w w' := by
  have hn : n ≤ 9223372036854775807 := hn
  have haw := fun w => awake16_any w
  have HAW := Lib.hid haw
  have HRD := Lib.hid hr
  clear haw hr
  by_cases hl : 1500 < n
  · have t1 : decide ((1500 : Int) < (n : Int)) = true := decide_eq_true (by omega)
    have t1' : decide (1500 < n) = true := decide_eq_true hl
    clear hl
    go_enter Try.func4, Try.ntmps4
    go_wp2_with fail
    refine (HAW.out w).mono ?_
    rintro e w1 ⟨rfl, hf1⟩
    have HF1 := Lib.hid hf1
    clear hf1
    go_wp2_with fail
    refine (HAW.out w1).mono ?_
    rintro e w2 ⟨rfl, hf2⟩
    have HF2 := Lib.hid (HF1.out.trans hf2 (fun _ _ h => h))
    clear hf2
    go_wp2_with fail
    go_ret
    exact ⟨rfl, HF2.out⟩
  · have t1 : decide ((1500 : Int) < (n : Int)) = false := decide_eq_false (by omega)
    have t1' : decide (1500 < n) = false := decide_eq_false hl
    have hfu : full (getC B).1 = (getC B).1 := by
      by_cases h : (getC B).2 = 0
      · exact ok_full (put_get h).2.1
      · rw [get_nil h]; rfl
    have hml : (getC B).1.length ≤ 64 := by
      by_cases h : (getC B).2 = 0
      · exact (put_get h).1
      · rw [get_nil h]; simp
    obtain ⟨M, hM⟩ : ∃ M, M = (getC B).1 := ⟨_, rfl⟩
    obtain ⟨E, hE⟩ : ∃ E, E = (getC B).2 := ⟨_, rfl⟩
    have hga := fun w h => get_any A n c B w h hc (by omega)
    have hrg := fun w h => rget_any A n c B w h hc (by omega)
    rw [← hM] at hfu hml
    rw [← hM, ← hE] at hga hrg
    obtain ⟨nM, hnM⟩ : ∃ nM, M.length = nM := ⟨_, rfl⟩
    rw [hnM] at hml hrg
    have HGA := Lib.hid hga
    have HRG := Lib.hid hrg
    have HFU := Lib.hid hfu
    have HNM := Lib.hid hnM
    clear hga hrg hM hE hfu hnM
    go_enter Try.func4, Try.ntmps4
    go_wp2_with fail
    refine (HAW.out w).mono ?_
    rintro e w1 ⟨rfl, hf1⟩
    have HF1 := Lib.hid hf1
    clear hf1
    go_wp2_with fail
    refine (HGA.out w1 (HRD.out.fr HF1.out (fun _ _ h => h))).mono ?_
    rintro e w2 ⟨A2, c2, L, rfl, hL, hco, hf2⟩
    have hln : L.length = nM := by rw [map_len hL]; exact HNM.out
    rw [hln] at hco ⊢
    have HL := Lib.hid hL
    have HCO := Lib.hid hco
    have HF2 := Lib.hid (HF1.out.trans hf2 (fun _ _ h => h))
    clear hL hco hf2 hln
    go_wp2_with fail
    refine (HRG.out w2 (HRD.out.fr HF2.out (fun _ _ h => h))).mono ?_
    rintro e w3 ⟨A3, c3, rfl, hpr, hf3⟩
    have hsa := lsame_any A2 nM c2 L A3 nM c3 M w3 (HCO.out.fr hf3) hpr (by omega) (by omega)
    rw [show decide (L.map Cl.v = full M) = true from decide_eq_true (by rw [HL.out, HFU.out])] at hsa
    have HSA := Lib.hid hsa
    have HF3 := Lib.hid (HF2.out.trans hf3 (fun _ _ h => h))
    have t2 : ((E : Int) == (E : Int)) = true := by simp
    have t3 : ((nM : Int) == (nM : Int)) = true := by simp
    clear hpr hf3 hsa
    go_wp2_with fail
    refine HSA.out.mono ?_
    rintro e w4 ⟨rfl, hf4⟩
    have HF4 := Lib.hid (HF3.out.trans hf4 (fun _ _ h => h))
    clear hf4
    go_wp2_with fail
    go_ret
    exact ⟨rfl, HF4.out⟩
end Go.Proofs.Ytfgjneodhmfknaa
