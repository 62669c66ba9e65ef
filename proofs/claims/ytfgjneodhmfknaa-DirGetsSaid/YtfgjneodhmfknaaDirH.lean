/-
  Layer 16, the program: Get; all its contracts together.
-/
import Derived.Test.YtfgjneodhmfknaaDirG
import Derived.Test.YtfgjneodhmfknaaDirD
namespace Go.Proofs.Ytfgjneodhmfknaa
open Go.RowKit Mem Go.Lib LebM DirM
attribute [local go_sem ↓] Go.wp_at_zero Go.wp_at_succ
set_option linter.unusedVariables false

theorem rf_stuck {b : Bool} {x e : Nat} (h : e ≠ 0) : rf b x e = e := by unfold rf; rw [if_neg (fun h2 => h h2.2)]
theorem num_stuck {s : St} (m : Nat) (h : s.e ≠ 0) : s.num m = (0, s) := by unfold St.num; rw [if_pos h]
theorem refu_stuck {s : St} (b : Bool) (x : Nat) (h : s.e ≠ 0) : s.refu b x = s := by unfold St.refu; rw [rf_stuck h]
theorem pls_stuck : ∀ (k : Nat) (last : Int) (s : St), s.e ≠ 0 → (St.pls k last s).2 = s
  | 0, _, s, _ => rfl
  | k + 1, last, s, h => by
    rw [pls_succ, num_stuck _ h]
    simp only [num_stuck _ h, refu_stuck _ _ h]
    exact pls_stuck k _ s h
theorem cols_stuck : ∀ (P : List (Nat × Nat)) (s : St), s.e ≠ 0 → (s.cols P).2 = s
  | [], s, _ => rfl
  | p :: P, s, h => by
    have e : s.byt p.2 = ([], s) := by unfold St.byt; rw [if_pos h]
    show (St.cols P (s.byt p.2).2).2 = s
    rw [e]
    exact cols_stuck P s h
theorem num_zero (B : List UInt8) (m : Nat) : St.num ⟨B, 0⟩ m = ((numD m B).1, ⟨B.drop (numD m B).2.1, (numD m B).2.2⟩) := by unfold St.num; rw [if_neg (by simp)]
theorem pls_eq : ∀ (k : Nat) (last : Int) (B : List UInt8), ((plD k last B).1 = 0 → St.pls k last ⟨B, 0⟩ = ((plD k last B).2.1, ⟨(plD k last B).2.2, 0⟩)) ∧ ((plD k last B).1 ≠ 0 → (St.pls k last ⟨B, 0⟩).2.e = (plD k last B).1)
  | 0, _, B => ⟨fun _ => rfl, fun h => absurd rfl h⟩
  | k + 1, last, B => by
    rw [pls_succ, num_zero]
    obtain ⟨a, ha⟩ : ∃ a, a = numD 1048576 B := ⟨_, rfl⟩
    by_cases h1 : a.2.2 ≠ 0
    · have e : plD (k + 1) last B = (a.2.2, [], []) := by unfold plD; rw [← ha, if_pos h1]
      rw [e]
      refine ⟨fun h => absurd h h1, fun _ => ?_⟩
      simp only [← ha]
      rw [num_stuck _ h1]
      rw [refu_stuck _ _ h1]
      rw [pls_stuck _ _ _ h1]
    · have h1' : a.2.2 = 0 := by omega
      simp only [← ha, h1']
      rw [num_zero]
      obtain ⟨C, hC⟩ : ∃ C, C = B.drop a.2.1 := ⟨_, rfl⟩
      obtain ⟨b, hb⟩ : ∃ b, b = numD 1048576 C := ⟨_, rfl⟩
      by_cases h2 : b.2.2 ≠ 0
      · have e : plD (k + 1) last B = (b.2.2, [], []) := by unfold plD; rw [← ha, ← hC, ← hb, if_neg h1, if_pos h2]
        rw [e]
        refine ⟨fun h => absurd h h2, fun _ => ?_⟩
        simp only [← hC, ← hb]
        rw [refu_stuck _ _ h2]
        rw [pls_stuck _ _ _ h2]
      · have h2' : b.2.2 = 0 := by omega
        simp only [← hC, ← hb, h2']
        by_cases h3 : (a.1 : Int) ≤ last ∨ b.1 = 0
        · have e : plD (k + 1) last B = (3, [], []) := by unfold plD; rw [← ha, ← hC, ← hb, if_neg h1, if_neg h2, if_pos h3]
          rw [e]
          refine ⟨fun h => absurd h (by decide), fun _ => ?_⟩
          have hbb : (decide ((a.1 : Int) ≤ last) || decide (b.1 = 0)) = true := by simpa using h3
          rw [hbb]
          rw [show (St.refu ⟨C.drop b.2.1, 0⟩ true 3) = ⟨C.drop b.2.1, 3⟩ from rfl]
          rw [pls_stuck _ _ _ (fun h => absurd h (by simp))]
        · have e : plD (k + 1) last B = ((plD k a.1 (C.drop b.2.1)).1, (a.1, b.1) :: (plD k a.1 (C.drop b.2.1)).2.1, (plD k a.1 (C.drop b.2.1)).2.2) := by
            conv => lhs; unfold plD
            rw [← ha, ← hC, ← hb, if_neg h1, if_neg h2, if_neg h3]
          rw [e]
          have hbb : (decide ((a.1 : Int) ≤ last) || decide (b.1 = 0)) = false := by simpa using h3
          rw [hbb]
          rw [show (St.refu ⟨C.drop b.2.1, 0⟩ false 3) = ⟨C.drop b.2.1, 0⟩ from rfl]
          obtain ⟨i1, i2⟩ := pls_eq k a.1 (C.drop b.2.1)
          exact ⟨fun h => by rw [i1 h], fun h => i2 h⟩
theorem cols_eq : ∀ (P : List (Nat × Nat)) (B : List UInt8), ((coD P B).1 = 0 → St.cols P ⟨B, 0⟩ = ((coD P B).2.1, ⟨(coD P B).2.2, 0⟩)) ∧ ((coD P B).1 ≠ 0 → (St.cols P ⟨B, 0⟩).2.e = (coD P B).1)
  | [], B => ⟨fun _ => rfl, fun h => absurd rfl h⟩
  | p :: P, B => by
    by_cases h1 : B.length < p.2
    · have e : coD (p :: P) B = (2, [], []) := by unfold coD; rw [if_pos h1]
      have e2 : St.byt ⟨B, 0⟩ p.2 = ([], ⟨B, 2⟩) := by unfold St.byt; rw [if_neg (by simp), if_pos h1]
      rw [e]
      refine ⟨fun h => absurd h (by decide), fun _ => ?_⟩
      show (St.cols P (St.byt ⟨B, 0⟩ p.2).2).2.e = 2
      rw [e2, cols_stuck _ _ (fun h => absurd h (by simp))]
    · have e : coD (p :: P) B = ((coD P (B.drop p.2)).1, (p.1, B.take p.2) :: (coD P (B.drop p.2)).2.1, (coD P (B.drop p.2)).2.2) := by
        conv => lhs; unfold coD
        rw [if_neg h1]
      have e2 : St.byt ⟨B, 0⟩ p.2 = (B.take p.2, ⟨B.drop p.2, 0⟩) := by unfold St.byt; rw [if_neg (by simp), if_neg h1]
      rw [e]
      have e3 : St.cols (p :: P) ⟨B, 0⟩ = ((p.1, B.take p.2) :: (St.cols P ⟨B.drop p.2, 0⟩).1, (St.cols P ⟨B.drop p.2, 0⟩).2) := by
        show ((p.1, (St.byt ⟨B, 0⟩ p.2).1) :: (St.cols P (St.byt ⟨B, 0⟩ p.2).2).1, (St.cols P (St.byt ⟨B, 0⟩ p.2).2).2) = _
        rw [e2]
      rw [e3]
      obtain ⟨i1, i2⟩ := cols_eq P (B.drop p.2)
      exact ⟨fun h => by rw [i1 h], fun h => i2 h⟩
def St.fin (s : St) : St := s.refu (decide (0 < s.l.length)) 3
/-- the reader's answer is the chapter's -/
theorem get_eq (B : List UInt8) (p : List (Nat × Nat) × St) (q : List Col × St) (hp : p = St.places ⟨B, 0⟩) (hq : q = p.2.cols p.1) : getC B = if q.2.fin.e ≠ 0 then ([], q.2.fin.e) else (q.1, 0) := by
  obtain ⟨a, ha⟩ : ∃ a, a = numD 64 B := ⟨_, rfl⟩
  have hp2 : p = St.pls a.1 (-1) ⟨B.drop a.2.1, a.2.2⟩ := by rw [hp]; unfold St.places; rw [num_zero, ← ha]
  by_cases h1 : a.2.2 ≠ 0
  · have e : getC B = ([], a.2.2) := by unfold getC; rw [← ha, if_pos h1]
    have e1 : p.2 = ⟨B.drop a.2.1, a.2.2⟩ := by rw [hp2]; exact pls_stuck _ _ _ h1
    have e2 : q.2 = ⟨B.drop a.2.1, a.2.2⟩ := by rw [hq, e1]; exact cols_stuck _ _ h1
    have e3 : q.2.fin = ⟨B.drop a.2.1, a.2.2⟩ := by rw [e2]; exact refu_stuck _ _ h1
    rw [e, e3, if_pos h1]
  · rw [show a.2.2 = 0 by omega] at hp2
    obtain ⟨D, hD⟩ : ∃ D, D = plD a.1 (-1) (B.drop a.2.1) := ⟨_, rfl⟩
    obtain ⟨i1, i2⟩ := pls_eq a.1 (-1) (B.drop a.2.1)
    rw [← hp2, ← hD] at i1 i2
    by_cases h2 : D.1 ≠ 0
    · have e : getC B = ([], D.1) := by unfold getC; rw [← ha, if_neg h1, ← hD, if_pos h2]
      have e1 := i2 h2
      have h2' : p.2.e ≠ 0 := by rw [e1]; exact h2
      have e2 : q.2 = p.2 := by rw [hq]; exact cols_stuck _ _ h2'
      have e3 : q.2.fin = p.2 := by rw [e2]; exact refu_stuck _ _ h2'
      rw [e, e3, if_pos h2', e1]
    · have e1 := i1 (by omega)
      rw [e1] at hq
      simp only at hq
      obtain ⟨E, hE⟩ : ∃ E, E = coD D.2.1 D.2.2 := ⟨_, rfl⟩
      obtain ⟨j1, j2⟩ := cols_eq D.2.1 D.2.2
      rw [← hq, ← hE] at j1 j2
      by_cases h3 : E.1 ≠ 0
      · have e : getC B = ([], E.1) := by unfold getC; rw [← ha, if_neg h1, ← hD, if_neg h2, ← hE, if_pos h3]
        have e4 := j2 h3
        have h3' : q.2.e ≠ 0 := by rw [e4]; exact h3
        have e3 : q.2.fin = q.2 := refu_stuck _ _ h3'
        rw [e, e3, if_pos h3', e4]
      · have e4 := j1 (by omega)
        have e5 : q.2.fin = ⟨E.2.2, rf (decide (0 < E.2.2.length)) 3 0⟩ := by rw [e4]; rfl
        by_cases h4 : 0 < E.2.2.length
        · have e : getC B = ([], 3) := by unfold getC; rw [← ha, if_neg h1, ← hD, if_neg h2, ← hE, if_neg h3, if_pos h4]
          rw [e, e5, decide_eq_true h4]
          rfl
        · have e : getC B = (E.2.1, 0) := by unfold getC; rw [← ha, if_neg h1, ← hD, if_neg h2, ← hE, if_neg h3, if_neg h4]
          rw [e, e5, decide_eq_false h4, e4]
          rfl
theorem pls_le : ∀ (k : Nat) (last : Int) (s : St), (St.pls k last s).1.length = k ∧ ∀ q ∈ (St.pls k last s).1, q.2 ≤ 1048576
  | 0, _, s => ⟨rfl, fun q hq => by cases hq⟩
  | k + 1, last, s => by
    rw [pls_succ]
    obtain ⟨i1, i2⟩ := pls_le k (s.num 1048576).1 (((s.num 1048576).2.num 1048576).2.refu (decide (((s.num 1048576).1 : Int) ≤ last) || decide (((s.num 1048576).2.num 1048576).1 = 0)) 3)
    refine ⟨by rw [List.length_cons, i1], fun q hq => ?_⟩
    rcases List.mem_cons.1 hq with h | h
    · rw [h]
      exact St.num_le _ _
    · exact i2 q h
theorem rdrSz : (Try.prog.info? 53).map (·.size) = some 2 := by kernel_rfl
set_option maxRecDepth 100000 in
set_option maxHeartbeats 6400000 in
/-- THE CONTRACT of Get -/
theorem get_any (A : Option Addr) (n c : Nat) (B : List UInt8) (w : World) (hr : Rd w A n (B.map bytec)) (hc : n ≤ c) (hn : n ≤ 100000000) :
    Calls Try.prog 13 #[.slice A n c] w fun e w' => ∃ A' c' L, e = .returned (.tuple #[.slice A' L.length c', .int .i64 ((getC B).2 : Int)]) ∧ L.map Cl.v = (getC B).1 ∧ Cols w' A' L.length L ∧ Fr (fun _ => False) w w' := by
  obtain ⟨p, hp⟩ : ∃ p, p = St.places ⟨B, 0⟩ := ⟨_, rfl⟩
  obtain ⟨q, hq⟩ : ∃ q, q = p.2.cols p.1 := ⟨_, rfl⟩
  have hge := get_eq B p q hp hq
  have hpl : p.1.length ≤ 64 ∧ ∀ q ∈ p.1, q.2 ≤ 1048576 := by
    rw [hp]
    unfold St.places
    obtain ⟨i1, i2⟩ := pls_le (St.num ⟨B, 0⟩ 64).1 (-1) (St.num ⟨B, 0⟩ 64).2
    exact ⟨by rw [i1]; exact St.num_le _ _, i2⟩
  obtain ⟨g, hg⟩ : ∃ g, w.heap.size = g := ⟨_, rfl⟩
  obtain ⟨w1, hw1⟩ : ∃ w1, w.alloc (.cells #[.slice none 0 0, .int .i64 0] 53) = w1 := ⟨_, rfl⟩
  have hf1 : Fr (fun _ => False) w w1 := by rw [← hw1]; exact (Fr.refl _ _).alloc _
  have hr1 : Row w1 g 53 [.slice none 0 0, .int .i64 0] := by rw [← hw1, ← hg]; exact Row.new w _ _
  have HRD := Lib.hid hr
  have HGG := Lib.hid hg
  have HF1 := Lib.hid hf1
  have HR1 := Lib.hid hr1
  have HGE := Lib.hid hge
  have HPL := Lib.hid hpl
  have hpa := fun w h => places_any g ⟨B, 0⟩ w h
  rw [← hp] at hpa
  have HPA := Lib.hid hpa
  have HQ := Lib.hid hq
  clear hp hq hge hpl hr hf1 hr1 hpa
  go_enter Try.func13, Try.ntmps13
  go_upto_region 2 with (refine store_st rdrSz rfl (.tmp 4) (.tmp 7) rfl g (by rfl) [.slice A n c, .int .i64 0] (by rfl) _ _ HR1.out rfl rfl (by simp [Value.oneCell']) ?_)
  intro w2 hr2 hf2
  have hf02 : Fr (fun _ => False) w w2 := HF1.out.trans hf2 (fun b hb h => by have := HGG.out; omega)
  have HF2 := Lib.hid hf02
  have hrd2 : Rdm w2 g ⟨B, 0⟩ := ⟨A, n, c, hr2, HRD.out.fr hf02 (fun _ _ h => h), hc, hn, fun h0 ad e => by rw [← HGG.out]; exact HRD.out.lt h0 ad e⟩
  have HRD2 := Lib.hid hrd2
  have HGS : Hid (g < w2.heap.size) := Lib.hid (Row.lt hr2)
  clear hr2 hf2 hf02 hrd2 hw1 hg
  go_wp2_with fail
  refine (HPA.out w2 HRD2.out).mono ?_
  rintro e w3 ⟨A3, c3, rfl, ho3, hs3, hf3⟩
  have hca := columns_any g w2.heap.size p.2 A3 c3 p.1 w3 hs3 ho3 HGS.out (by have := HPL.out.1; omega) HPL.out.2
  rw [← HQ.out] at hca
  have HCA := Lib.hid hca
  have hgs3 : g < w3.heap.size := by have h1 := hf3.size; have h2 := HGS.out; omega
  have HF3 : Hid (Fr (fun _ => False) w w3) := Lib.hid (HF2.out.trans hf3 (fun b hb h => by have h1 : b = g := h; have := HGG.out; omega))
  obtain ⟨np, hnp⟩ : ∃ np, p.1.length = np := ⟨_, rfl⟩
  rw [hnp] at HCA ⊢
  clear ho3 hs3 hf3 hca hnp
  go_wp2_with fail
  refine HCA.out.mono ?_
  rintro e w4 ⟨A4, c4, L, rfl, ho4, hd4, hL4, hs4, hf4⟩
  have HF4 : Hid (Fr (fun _ => False) w w4) := Lib.hid (HF3.out.trans hf4 (fun b hb h => by have h1 : b = g := h; have := HGG.out; omega))
  have HO4 := Lib.hid ho4
  have HD4 := Lib.hid hd4
  have HG3 : Hid (g < w3.heap.size) := Lib.hid hgs3
  have HL4 := Lib.hid hL4
  have hfu := fun b w h => refuseS_any g q.2 3 3 b w h rfl
  have HFU := Lib.hid hfu
  have HS4 := Lib.hid hs4
  obtain ⟨nL, hnL⟩ : ∃ nL, L.length = nL := ⟨_, rfl⟩
  have HNL := Lib.hid hnL
  rw [hnL]
  obtain ⟨A5, n5, c5, k1, k2, _, _, _⟩ := hs4
  have hln5 : q.2.l.length = n5 := by simpa using k2.1
  have d0 : w4.cell? ⟨g, 0, none⟩ = some (.slice A5 n5 c5) := Row.cell k1 rfl
  obtain ⟨b, hb⟩ : ∃ b : Bool, b = decide (0 < n5) := ⟨_, rfl⟩
  have t1 : decide ((0 : Int) < (n5 : Int)) = b := by rw [hb]; exact decide_eq_decide.2 (by omega)
  have t1' : decide (0 < n5) = b := hb.symm
  have hfin : q.2.fin = q.2.refu b 3 := by unfold St.fin; rw [hln5, ← hb]
  have HFIN := Lib.hid hfin
  clear ho4 hd4 hL4 hf4 hgs3 hfu hnL k1 k2 hln5 hb hfin
  go_wp2_with fail
  refine (HFU.out b w4 HS4.out).mono ?_
  rintro e w5 ⟨rfl, hs5, hf5⟩
  rw [← HFIN.out] at hs5
  have HF5 : Hid (Fr (fun _ => False) w w5) := Lib.hid (HF4.out.trans hf5 (fun b hb h => by have h1 : b = g := h; have := HGG.out; omega))
  have HCO5 : Hid (Cols w5 A4 L.length L) := Lib.hid (by
    have hn : ∀ k, w3.heap.size ≤ k → ¬ k = g := fun k hk h => by have := HG3.out; omega
    exact ⟨(HO4.out.frS hf5 (fun k hk h => hn k hk h)).prs, fun x hx => Own.byt (base := w3.heap.size) (hf5.own (HD4.out x hx) (fun k hk h => hn k ((HD4.out x hx).lt k hk).1 h)) x.id⟩)
  obtain ⟨E, hE⟩ : ∃ E, E = q.2.fin.e := ⟨_, rfl⟩
  obtain ⟨A6, n6, c6, k1, _, _, _, _⟩ := hs5
  rw [← hE] at k1
  have d1 : w5.cell? ⟨g, 1, none⟩ = some (.int .i64 (E : Int)) := Row.cell k1 rfl
  have hge := HGE.out
  rw [← hE] at hge
  clear d0 hf5 k1 hE t1 t1' HFU HFIN
  by_cases he : E = 0
  · subst he
    rw [if_neg (by simp)] at hge
    have HG2 := Lib.hid hge
    clear hge
    go_wp2_with fail
    refine bodyPost_ret (v := .tuple #[.slice A4 nL c4, .int .i64 0]) (by simp [results, Try.results13, go_sem]) rfl ?_
    rw [HG2.out]
    exact ⟨A4, c4, L, by rw [HNL.out]; rfl, HL4.out, HCO5.out, HF5.out⟩
  · rw [if_pos he] at hge
    have HG2 := Lib.hid hge
    have t2 : ((E : Int) != 0) = true := by simp; omega
    have t2' : (E != 0) = true := by simp; omega
    clear hge he
    go_wp2_with fail
    go_still (by kernel_rfl)
    go_wp2_with fail
    refine bodyPost_ret (v := .tuple #[.slice none 0 0, .int .i64 (E : Int)]) (by simp [results, Try.results13, go_sem]) rfl ?_
    rw [HG2.out]
    exact ⟨none, 0, [], rfl, rfl, Cols.nil _ _, HF5.out.drew⟩
end Go.Proofs.Ytfgjneodhmfknaa
