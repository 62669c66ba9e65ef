/-
  Layer 20, the program: the reader: refuse, number, bytes (out of layer 16's).
  Layer 17, the program: Zero, Actor, Id, Compare, rightPoint.
-/
import Derived.Test.YtbnkahjmeobblaaZm21
import Derived.Test.YtbnkahjmeobblaaZm03
import Derived.Test.YtbnkahjmeobblaaZm09
import Derived.Test.YtbnkahjmeobblaaZm20
import Derived.Test.YtbnkahjmeobblaaZm14
import Derived.Deep.DeepCutAuto
import Derived.Deep.CutRange
namespace Go.Proofs.Ytbnkahjmeobblaa
open Go.RowKit Mem Go.Lib LebM DirM HeM
attribute [local go_sem ↓] Go.wp_at_zero Go.wp_at_succ
set_option linter.unusedVariables false

/-- a reader in memory -/
def HdR (w : World) (g : Nat) (A : Option Addr) (n c e : Nat) : Prop := Row w g 71 [.slice A n c, .int .i64 (e : Int)]
def Hdm (w : World) (g : Nat) (s : St) : Prop := ∃ A n c, HdR w g A n c s.e ∧ Rd w A n (s.l.map bytec) ∧ n ≤ c ∧ n ≤ 100000000 ∧ (0 < n → ∀ ad, A = some ad → ad.block < g)
theorem Hdm.cut {w : World} {g n c k E : Nat} {A : Option Addr} {B : List UInt8} (hr : HdR w g A n c E) (hrd : Rd w A n (B.map bytec)) (hnc : n ≤ c) (hn9 : n ≤ 100000000) (hne : 0 < n → ∀ ad, A = some ad → ad.block < g) (hk : k ≤ n) :
    Hdm (w.setCell ⟨g, 0, none⟩ (.slice (if c = k then A else A.map (·.add k)) (n - k) (c - k))) g ⟨B.drop k, E⟩ := by
  have hBn : B.length = n := by simpa using hrd.1
  have hcut := hrd.cut hk (Nat.le_refl n) hnc
  rw [List.take_of_length_le (by simp [hBn]), ← List.map_drop] at hcut
  have hb : 0 < n - k → ∀ ad, (if c = k then A else A.map (·.add k)) = some ad → ad.block < g := by
    intro hn ad e
    split at e
    · exact hne (by omega) ad e
    · cases A with
      | none => cases e
      | some a0 =>
        simp at e
        subst e
        rw [add_block]
        exact hne (by omega) a0 rfl
  exact ⟨_, _, _, Row.set hr 0 _, hcut.frp (Fr.set1 _ g 0 _) (fun hn ad e h => by have h7 := hb hn ad e; have h8 : ad.block = g := h; omega), by omega, by omega, hb⟩
theorem Hdm.cut_eq {w : World} {g n c E : Nat} {A : Option Addr} {B : List UInt8} (hr : HdR w g A n c E) (hrd : Rd w A n (B.map bytec)) (hnc : n ≤ c) (hn9 : n ≤ 100000000) (hne : 0 < n → ∀ ad, A = some ad → ad.block < g) (hk : c ≤ n) :
    Hdm (w.setCell ⟨g, 0, none⟩ (.slice A 0 0)) g ⟨B.drop c, E⟩ := by
  have h := Hdm.cut hr hrd hnc hn9 hne hk
  rw [if_pos rfl, Nat.sub_self, show n - c = 0 by omega] at h
  exact h
theorem Hdm.cut_ne {w : World} {g n c k E : Nat} {A : Option Addr} {B : List UInt8} (hr : HdR w g A n c E) (hrd : Rd w A n (B.map bytec)) (hnc : n ≤ c) (hn9 : n ≤ 100000000) (hne : 0 < n → ∀ ad, A = some ad → ad.block < g) (hk : k ≤ n) (hck : ¬ c = k) :
    Hdm (w.setCell ⟨g, 0, none⟩ (.slice (A.map (·.add k)) (n - k) (c - k))) g ⟨B.drop k, E⟩ := by
  have h := Hdm.cut hr hrd hnc hn9 hne hk
  rw [if_neg hck] at h
  exact h
set_option maxRecDepth 100000 in
set_option maxHeartbeats 1600000 in
theorem hRefuse_any (g : Nat) (A : Option Addr) (n c E X : Nat) (x : Int) (b : Bool) (w : World) (hr : HdR w g A n c E) (hx : x = (X : Int)) :
    Calls Try.prog 61 #[.pointer (some ⟨g, 0, none⟩), .bool b, .int .i64 x] w fun e w' => e = .returned (.tuple #[]) ∧ HdR w' g A n c (rf b X E) ∧ Fr (fun k => k = g) w w' := by
  have d1 : w.cell? ⟨g, 1, none⟩ = some (.int .i64 (E : Int)) := Row.cell hr rfl
  have f1 : w.frozen? ⟨g, 1, none⟩ = false := Row.free hr 1
  have HR := Lib.hid hr
  have HX := Lib.hid hx
  clear hr hx
  cases b with
  | false =>
    go_enter Try.func61, Try.ntmps61
    go_wp2_with fail
    refine bodyPost_end (v := .tuple #[]) (by simp [results, Try.results61, go_sem]) rfl ?_
    refine ⟨rfl, ?_, Fr.refl _ _⟩
    exact HR.out
  | true =>
    by_cases he : E = 0
    · have t0 : ((E : Int) == 0) = true := by simp; omega
      have t0' : (E == 0) = true := by simp; omega
      have HE := Lib.hid he
      clear he
      go_enter Try.func61, Try.ntmps61
      go_wp2_with fail
      refine bodyPost_end (v := .tuple #[]) (by simp [results, Try.results61, go_sem]) rfl ?_
      refine ⟨rfl, ?_, Fr.set1 _ _ _ _⟩
      have h := HR.out.set 1 (.int .i64 x)
      unfold HdR rf
      rw [if_pos ⟨rfl, HE.out⟩, ← HX.out]
      exact h
    · have t0 : ((E : Int) == 0) = false := by simp; omega
      have t0' : (E == 0) = false := by simp; omega
      have HE := Lib.hid he
      clear he
      go_enter Try.func61, Try.ntmps61
      go_wp2_with fail
      refine bodyPost_end (v := .tuple #[]) (by simp [results, Try.results61, go_sem]) rfl ?_
      refine ⟨rfl, ?_, Fr.refl _ _⟩
      unfold rf
      rw [if_neg (fun h => HE.out h.2)]
      exact HR.out
set_option maxRecDepth 100000 in
set_option maxHeartbeats 3200000 in
theorem hNumber_any (g : Nat) (s : St) (m : Nat) (w : World) (h : Hdm w g s) (hm : m ≤ 9007199254740991) :
    Calls Try.prog 60 #[.pointer (some ⟨g, 0, none⟩), .int .u64 (m : Int)] w fun e w' => e = .returned (.int .i64 ((num m s).1 : Int)) ∧ Hdm w' g (num m s).2 ∧ Fr (fun k => k = g) w w' := by
  obtain ⟨B, E⟩ := s
  by_cases hE : E = 0
  · subst hE
    have es : num m ⟨B, 0⟩ = ((numD m B).1, ⟨B.drop (numD m B).2.1, (numD m B).2.2⟩) := by unfold num; rw [if_neg (by simp)]
    obtain ⟨A, n, c, hr, hrd, hnc, hn9, hne⟩ := h
    simp only at hr hrd
    have d0 : w.cell? ⟨g, 0, none⟩ = some (.slice A n c) := Row.cell hr rfl
    have d1 : w.cell? ⟨g, 1, none⟩ = some (.int .i64 0) := Row.cell hr rfl
    have hbd := gu_lt B
    have hBn : B.length = n := by simpa using hrd.1
    obtain ⟨N, hN⟩ : ∃ N, N = (gu B).1 := ⟨_, rfl⟩
    obtain ⟨k, hk⟩ : ∃ k, k = (gu B).2.1 := ⟨_, rfl⟩
    obtain ⟨E, hE⟩ : ∃ E, E = (gu B).2.2 := ⟨_, rfl⟩
    have hg := GetU_any A n c B w hrd hnc
    rw [← hN, ← hk, ← hE] at hbd hg
    rw [hBn] at hbd
    have hnum : numD m B = if E ≠ 0 then (0, 0, E) else if m < N then (0, 0, 4) else (N, k, 0) := by unfold numD; rw [← hN, ← hk, ← hE]
    have hN0 : E ≠ 0 → N = 0 ∧ k = 0 := by
      intro h
      rw [hE] at h
      rw [hN, hk]
      unfold gu at h ⊢
      split
      · exact ⟨rfl, rfl⟩
      · split
        · rename_i h1 h2
          rw [if_neg h1, if_pos h2] at h
          exact absurd rfl h
        · exact ⟨rfl, rfl⟩
    clear hN hk hE
    have HR := Lib.hid hr
    have HRD := Lib.hid hrd
    have HG := Lib.hid hg
    have HNE := Lib.hid hne
    have HBN := Lib.hid hBn
    clear hr hrd hg hne hBn
    by_cases he : E = 0
    · have t0 : ((E : Int) != 0) = false := by simp; omega
      have t0' : (E != 0) = false := by simp; omega
      rw [if_neg (by omega)] at hnum
      by_cases hl : m < N
      · rw [if_pos hl] at hnum
        have t1 : decide ((m : Int) < (N : Int)) = true := by simp; omega
        have t1' : decide (m < N) = true := by simp; omega
        rw [es, hnum]
        have hrf1 := fun w h => hRefuse_any g A n c 0 E (E : Int) false w h rfl
        have hrf2 := fun w h => hRefuse_any g A n c 0 4 4 true w h rfl
        have HF1 := Lib.hid hrf1
        have HF2 := Lib.hid hrf2
        clear hnum es hbd hN0 hl hrf1 hrf2 he
        go_enter Try.func60, Try.ntmps60
        go_wp2_with fail
        refine HG.out.mono ?_
        rintro e w1 ⟨rfl, hf1⟩
        have HR1 := Lib.hid (Row.fr HR.out hf1 (fun h => h))
        have HK1 : Hid (Fr (fun k => k = g) w w1) := Lib.hid (hf1.mono (fun _ _ h => h.elim))
        clear hf1 d0 d1
        go_wp2_with fail
        refine (HF1.out w1 HR1.out).mono ?_
        rintro e w2 ⟨rfl, hr2, hf2⟩
        have HR2 := Lib.hid hr2
        have HK2 := Lib.hid (HK1.out.trans hf2 (fun _ _ h => h))
        clear hr2 hf2
        go_wp2_with fail
        refine (HF2.out w2 HR2.out).mono ?_
        rintro e w3 ⟨rfl, hr3, hf3⟩
        have d1 : w3.cell? ⟨g, 1, none⟩ = some (.int .i64 4) := Row.cell hr3 rfl
        have HR3 := Lib.hid hr3
        have HK3 := Lib.hid (HK2.out.trans hf3 (fun _ _ h => h))
        clear hr3 hf3
        go_wp2_with fail
        go_ret
        exact ⟨rfl, ⟨A, n, c, HR3.out, HRD.out.frp HK3.out (fun hn ad e h => by have h7 := HNE.out hn ad e; have h8 : ad.block = g := h; omega), hnc, hn9, HNE.out⟩, HK3.out⟩
      · rw [if_neg hl] at hnum
        have t1 : decide ((m : Int) < (N : Int)) = false := by simp; omega
        have t1' : decide (m < N) = false := by simp; omega
        have e4 : IntKind.i64.wrap (N : Int) = (N : Int) := by rw [IntKind.wrap_i64]; omega
        have hkn : k ≤ n := hbd.2.1
        rw [es, hnum]
        have hrf1 := fun w h => hRefuse_any g A n c 0 E (E : Int) false w h rfl
        have hrf2 := fun w h => hRefuse_any g A n c 0 4 4 false w h rfl
        have HF1 := Lib.hid hrf1
        have HF2 := Lib.hid hrf2
        clear hnum es hbd hN0 hl hrf1 hrf2 he
        go_enter Try.func60, Try.ntmps60
        go_wp2_with fail
        refine HG.out.mono ?_
        rintro e w1 ⟨rfl, hf1⟩
        have HR1 := Lib.hid (Row.fr HR.out hf1 (fun h => h))
        have HK1 : Hid (Fr (fun k => k = g) w w1) := Lib.hid (hf1.mono (fun _ _ h => h.elim))
        clear hf1 d0 d1
        go_wp2_with fail
        refine (HF1.out w1 HR1.out).mono ?_
        rintro e w2 ⟨rfl, hr2, hf2⟩
        have HR2 := Lib.hid hr2
        have HK2 := Lib.hid (HK1.out.trans hf2 (fun _ _ h => h))
        clear hr2 hf2
        go_wp2_with fail
        refine (HF2.out w2 HR2.out).mono ?_
        rintro e w3 ⟨rfl, hr3, hf3⟩
        have d0 : w3.cell? ⟨g, 0, none⟩ = some (.slice A n c) := Row.cell hr3 rfl
        have d1 : w3.cell? ⟨g, 1, none⟩ = some (.int .i64 0) := Row.cell hr3 rfl
        have f0 : w3.frozen? ⟨g, 0, none⟩ = false := Row.free hr3 0
        have HR3 := Lib.hid hr3
        have HK3 := Lib.hid (HK2.out.trans hf3 (fun _ _ h => h))
        have HRD3 := Lib.hid (HRD.out.frp HK3.out (fun hn ad e h => by have h7 := HNE.out hn ad e; have h8 : ad.block = g := h; omega))
        clear hr3 hf3
        by_cases hck : c = k
        · subst hck
          go_wp2_with fail
          go_ret
          exact ⟨rfl, Hdm.cut_eq HR3.out HRD3.out hnc hn9 HNE.out hkn, HK3.out.trans (Fr.set1 _ g 0 _) (fun _ _ h => h)⟩
        · go_wp2_with fail
          go_ret
          exact ⟨rfl, Hdm.cut_ne HR3.out HRD3.out hnc hn9 HNE.out hkn hck, HK3.out.trans (Fr.set1 _ g 0 _) (fun _ _ h => h)⟩
    · obtain ⟨hN1, hk1⟩ := hN0 he
      subst hN1 hk1
      have t0 : ((E : Int) != 0) = true := by simp; omega
      have t0' : (E != 0) = true := by simp; omega
      rw [if_pos he] at hnum
      have t1 : decide ((m : Int) < ((0 : Nat) : Int)) = false := by simp
      have t1' : decide ((m : Int) < 0) = false := by simp
      rw [es, hnum]
      have hrf1 := fun w h => hRefuse_any g A n c 0 E (E : Int) true w h rfl
      have hrf2 := fun w h => hRefuse_any g A n c E 4 4 false w h rfl
      have HF1 := Lib.hid hrf1
      have HF2 := Lib.hid hrf2
      clear hnum es hbd hN0 hrf1 hrf2 he
      go_enter Try.func60, Try.ntmps60
      go_wp2_with fail
      refine HG.out.mono ?_
      rintro e w1 ⟨rfl, hf1⟩
      have HR1 := Lib.hid (Row.fr HR.out hf1 (fun h => h))
      have HK1 : Hid (Fr (fun k => k = g) w w1) := Lib.hid (hf1.mono (fun _ _ h => h.elim))
      clear hf1 d0 d1
      go_wp2_with fail
      refine (HF1.out w1 HR1.out).mono ?_
      rintro e w2 ⟨rfl, hr2, hf2⟩
      have HR2 := Lib.hid hr2
      have HK2 := Lib.hid (HK1.out.trans hf2 (fun _ _ h => h))
      clear hr2 hf2
      go_wp2_with fail
      refine (HF2.out w2 HR2.out).mono ?_
      rintro e w3 ⟨rfl, hr3, hf3⟩
      have d1 : w3.cell? ⟨g, 1, none⟩ = some (.int .i64 (E : Int)) := Row.cell hr3 rfl
      have HR3 := Lib.hid hr3
      have HK3 := Lib.hid (HK2.out.trans hf3 (fun _ _ h => h))
      clear hr3 hf3
      go_wp2_with fail
      go_ret
      exact ⟨rfl, ⟨A, n, c, HR3.out, HRD.out.frp HK3.out (fun hn ad e h => by have h7 := HNE.out hn ad e; have h8 : ad.block = g := h; omega), hnc, hn9, HNE.out⟩, HK3.out⟩
  · have es : num m ⟨B, E⟩ = (0, ⟨B, E⟩) := by unfold num; rw [if_pos hE]
    rw [es]
    have t0 : ((E : Int) != 0) = true := by simp; omega
    have t0' : (E != 0) = true := by simp; omega
    have H := Lib.hid h
    obtain ⟨A, n, c, hr, _⟩ := h
    have d1 : w.cell? ⟨g, 1, none⟩ = some (.int .i64 (E : Int)) := Row.cell hr rfl
    clear hr hE es
    go_enter Try.func60, Try.ntmps60
    go_wp2_with fail
    go_ret
    exact ⟨rfl, H.out, Fr.refl _ _⟩
set_option maxRecDepth 100000 in
set_option maxHeartbeats 3200000 in
theorem hBytes_any (g : Nat) (s : St) (m : Nat) (w : World) (h : Hdm w g s) (hm : m ≤ 9007199254740991) :
    Calls Try.prog 74 #[.pointer (some ⟨g, 0, none⟩), .int .i64 (m : Int)] w fun e w' => ∃ A' c', e = .returned (.slice A' (byt m s).1.length c') ∧ Rd w' A' (byt m s).1.length ((byt m s).1.map bytec) ∧ (byt m s).1.length ≤ c' ∧ (0 < (byt m s).1.length → ∀ ad, A' = some ad → ad.block < g) ∧ Hdm w' g (byt m s).2 ∧ Fr (fun k => k = g) w w' := by
  obtain ⟨B, E⟩ := s
  obtain ⟨A, n, c, hr, hrd, hnc, hn9, hne⟩ := h
  simp only at hr hrd
  have d0 : w.cell? ⟨g, 0, none⟩ = some (.slice A n c) := Row.cell hr rfl
  have d1 : w.cell? ⟨g, 1, none⟩ = some (.int .i64 (E : Int)) := Row.cell hr rfl
  have hBn : B.length = n := by simpa using hrd.1
  have HR := Lib.hid hr
  have HRD := Lib.hid hrd
  have HNE := Lib.hid hne
  have HBN := Lib.hid hBn
  clear hr hrd hne
  obtain ⟨b, hb⟩ : ∃ b : Bool, b = decide (n < m) := ⟨_, rfl⟩
  have t1 : decide ((n : Int) < (m : Int)) = b := by rw [hb]; exact decide_eq_decide.2 (by omega)
  have t1' : decide (n < m) = b := hb.symm
  obtain ⟨E2, hE2⟩ : ∃ E2, E2 = rf b 2 E := ⟨_, rfl⟩
  have hrf := fun w h => hRefuse_any g A n c E 2 2 b w h rfl
  rw [← hE2] at hrf
  have HF1 := Lib.hid hrf
  clear hrf
  by_cases he : E2 = 0
  · have hEb : E = 0 ∧ b = false := by
      unfold rf at hE2
      split at hE2
      · omega
      · rename_i h1
        have h2 : E = 0 := by omega
        refine ⟨h2, ?_⟩
        cases b
        · rfl
        · exact absurd ⟨rfl, h2⟩ h1
    obtain ⟨rfl, rfl⟩ := hEb
    have hmn : m ≤ n := by
      rcases Nat.lt_or_ge n m with h | h
      · rw [decide_eq_true h] at hb
        cases hb
      · exact h
    have es : byt m ⟨B, 0⟩ = (B.take m, ⟨B.drop m, 0⟩) := by unfold byt; rw [if_neg (by simp), if_neg (by show ¬ B.length < m; omega)]
    rw [es]
    have t2 : ((E2 : Int) != 0) = false := by simp; omega
    have t2' : (E2 != 0) = false := by simp; omega
    have HE := Lib.hid he
    clear es he hb hE2
    go_enter Try.func74, Try.ntmps74
    go_wp2_with fail
    refine (HF1.out w HR.out).mono ?_
    rintro e w1 ⟨rfl, hr1, hf1⟩
    have hrd1 := HRD.out.frp hf1 (fun hn ad e h => by have h7 := HNE.out hn ad e; have h8 : ad.block = g := h; omega)
    have hrt := rd_take hrd1 hmn
    rw [← List.map_take] at hrt
    have HRT := Lib.hid hrt
    have HRD1 := Lib.hid hrd1
    have HK1 := Lib.hid hf1
    clear d0 d1
    have d0 : w1.cell? ⟨g, 0, none⟩ = some (.slice A n c) := Row.cell hr1 rfl
    have d1 : w1.cell? ⟨g, 1, none⟩ = some (.int .i64 (E2 : Int)) := Row.cell hr1 rfl
    have f0 : w1.frozen? ⟨g, 0, none⟩ = false := Row.free hr1 0
    have hgw : g < w.heap.size := Row.lt HR.out
    obtain ⟨z, hz⟩ : ∃ z, z = (B.take m).length := ⟨_, rfl⟩
    have hzm : z = m := by rw [hz, List.length_take, HBN.out]; omega
    subst hzm
    have HGW := Lib.hid hgw
    have HZ := Lib.hid hz
    have hr10 : HdR w1 g A n c 0 := by have h := hr1; rw [HE.out] at h; exact h
    have HR10 := Lib.hid hr10
    have HRF : Hid (∀ u, Rd (w1.setCell ⟨g, 0, none⟩ u) A z ((B.take z).map bytec)) := Lib.hid (fun u => HRT.out.frp (Fr.set1 _ g 0 _) (fun hn ad e h => by have h7 := HNE.out (by omega) ad e; have h8 : ad.block = g := h; omega))
    have HAB : Hid (0 < z → ∀ ad, A = some ad → ad.block < g) := Lib.hid (fun h ad e => HNE.out (by omega) ad e)
    clear hr1 hf1 hrd1 hrt hr10 hgw hz
    by_cases hck : c = z
    · subst hck
      go_wp2_with fail
      go_ret
      rw [← HZ.out]
      exact ⟨A, c, rfl, HRF.out _, Nat.le_refl _, HAB.out, Hdm.cut_eq HR10.out HRD1.out hnc hn9 HNE.out hmn, HK1.out.trans (Fr.set1 _ g 0 _) (fun _ _ h => h)⟩
    · go_wp2_with fail
      go_ret
      rw [← HZ.out]
      exact ⟨A, c, rfl, HRF.out _, by omega, HAB.out, Hdm.cut_ne HR10.out HRD1.out hnc hn9 HNE.out hmn hck, HK1.out.trans (Fr.set1 _ g 0 _) (fun _ _ h => h)⟩
  · have es : byt m ⟨B, E⟩ = ([], ⟨B, E2⟩) := by
      unfold byt
      unfold rf at hE2
      by_cases h0 : E = 0
      · subst h0
        rw [if_neg (by simp)]
        cases b
        · rw [if_neg (by simp)] at hE2
          exact absurd hE2 he
        · rw [if_pos ⟨rfl, rfl⟩] at hE2
          have : n < m := of_decide_eq_true hb.symm
          rw [if_pos (by show B.length < m; omega), hE2]
      · rw [if_neg (fun h => h0 h.2)] at hE2
        rw [if_pos h0, hE2]
    rw [es]
    have t2 : ((E2 : Int) != 0) = true := by simp; omega
    have t2' : (E2 != 0) = true := by simp; omega
    clear es he hb hE2
    go_enter Try.func74, Try.ntmps74
    go_wp2_with fail
    refine (HF1.out w HR.out).mono ?_
    rintro e w1 ⟨rfl, hr1, hf1⟩
    clear d0 d1
    have d1 : w1.cell? ⟨g, 1, none⟩ = some (.int .i64 (E2 : Int)) := Row.cell hr1 rfl
    have HR1 := Lib.hid hr1
    have HK1 := Lib.hid hf1
    clear hr1 hf1
    go_wp2_with fail
    go_ret
    exact ⟨none, 0, rfl, Rd.nil _ _, Nat.le_refl _, fun h => absurd h (Nat.lt_irrefl _), ⟨A, n, c, HR1.out, HRD.out.frp HK1.out (fun hn ad e h => by have h7 := HNE.out hn ad e; have h8 : ad.block = g := h; omega), hnc, hn9, HNE.out⟩, HK1.out⟩
end Go.Proofs.Ytbnkahjmeobblaa
namespace Go.Proofs.Ytbnkahjmeobblaa
open Go.RowKit Mem Go.Lib LebM UtfM VaM OpM
attribute [local go_sem ↓] Go.wp_at_zero Go.wp_at_succ
set_option linter.unusedVariables false

set_option maxRecDepth 100000 in
set_option maxHeartbeats 1600000 in
theorem zero_any (x : Nm) (w : World) : Calls Try.prog 68 #[nmc x] w fun e w' => e = .returned (.bool (zeroB x)) ∧ Fr (fun _ => False) w w' := by
  obtain ⟨b, hb⟩ : ∃ b, zeroB x = b := ⟨_, rfl⟩
  obtain ⟨q1, q2⟩ := n_eql0 x
  rw [hb] at q2 ⊢
  clear hb
  unfold nmc
  go_enter Try.func68, Try.ntmps68
  go_wp2_with fail
  go_ret
  exact ⟨rfl, (Fr.refl _ _).alloc _⟩
/-- all texts are actors -/
def actorsB (l : List (List UInt8)) : Bool := l.all actorB
set_option maxRecDepth 100000 in
set_option maxHeartbeats 1600000 in
theorem actor_any (A : Option Addr) (n c : Nat) (l : List (List UInt8)) (w : World) (hr : Rd w A n (l.map strc)) (hn : n ≤ 1000) (hl : ∀ B ∈ l, B.length ≤ 1000000000000000000) :
    Calls Try.prog 21 #[.slice A n c] w fun e w' => e = .returned (.bool (actorsB l)) ∧ w = w' := by
  have hln : l.length = n := by simpa using hr.1
  obtain ⟨r, hrr⟩ : ∃ r, actorsB l = r := ⟨_, rfl⟩
  rw [hrr]
  have HRR := Lib.hid hrr
  have HR := Lib.hid hr
  have HLN := Lib.hid hln
  have HL := Lib.hid hl
  clear hr hln hl hrr
  go_enter Try.func21, Try.ntmps21
  go_wp2_with fail
  go_loop [4, 7] (fun _ i => ∃ k : Nat, k ≤ n ∧ i = .int .i64 (k : Int) ∧ Hid (actorsB (l.take k) = true)) (fun _ i => n - (intOf i).toNat)
  case atStart => exact ⟨0, Nat.zero_le _, rfl, (by simp [actorsB] : actorsB (l.take 0) = true)⟩
  case round =>
    obtain ⟨k, hk, rfl, HA⟩ := hrel
    by_cases hlt : k < n
    · obtain ⟨ad, u, rfl, hu, hcell⟩ := HR.out.at_ hlt
      obtain ⟨B, hB⟩ : ∃ B, l[k]? = some B := ⟨_, List.getElem?_eq_getElem (by have := HLN.out; omega)⟩
      rw [List.getElem?_map, hB] at hu
      injection hu with hu
      subst hu
      unfold strc at hcell
      have hBl := HL.out B (List.mem_of_getElem? hB)
      obtain ⟨q, hq⟩ : ∃ q, actorB B = q := ⟨_, rfl⟩
      have hnext : actorsB (l.take (k + 1)) = q := by
        have h := HA.out
        unfold actorsB at h ⊢
        rw [List.take_add_one, hB, List.all_append, h]
        simp [hq]
      have HNX := Lib.hid hnext
      have hsz := txt_sz B
      obtain ⟨m, hm⟩ : ∃ m, m = B.length := ⟨_, rfl⟩
      rw [← hm] at hsz hBl
      have te := txt_e B
      obtain ⟨z, hz⟩ : ∃ z, decide (B = []) = z := ⟨_, rfl⟩
      rw [hz] at te
      have HZ := Lib.hid hz
      have HM := Lib.hid hm
      have HQ := Lib.hid hq
      clear hB hnext hz hm hq
      have htz : (txt B).toList.isEmpty = z := by
        rw [show (txt B).toList = B from ByteArray.toList_mk _, ← HZ.out]
        cases B <;> simp
      cases z with
      | true =>
        have hq2 : q = false := by rw [← HQ.out]; have := HZ.out; simp at this; subst this; rfl
        have hrf : false = r := by
          rw [← HRR.out]
          unfold actorsB
          rw [← List.take_append_drop (k + 1) l, List.all_append]
          have h := HNX.out
          unfold actorsB at h
          rw [h, hq2, Bool.false_and]
        have HRF := Lib.hid hrf
        clear hrf hq2
        go_wp2_with fail
        go_ret
        exact ⟨by rw [← HRF.out]; rfl, rfl⟩
      | false =>
        by_cases hb : 16 < m
        · have t1 : decide ((16 : Int) < (m : Int)) = true := by simp; omega
          have t2 : decide (16 < m) = true := by simp; omega
          have hq2 : q = false := by rw [← HQ.out]; unfold actorB; have := HM.out; simp; omega
          have hrf : false = r := by
            rw [← HRR.out]
            unfold actorsB
            rw [← List.take_append_drop (k + 1) l, List.all_append]
            have h := HNX.out
            unfold actorsB at h
            rw [h, hq2, Bool.false_and]
          have HRF := Lib.hid hrf
          clear hrf hq2
          go_wp2_with fail
          go_ret
          exact ⟨by rw [← HRF.out]; rfl, rfl⟩
        · have t1 : decide ((16 : Int) < (m : Int)) = false := by simp; omega
          have t2 : decide (16 < m) = false := by simp; omega
          have hq2 : q = true := by
            rw [← HQ.out]
            have h1 := HM.out
            have h2 := HZ.out
            have h3 : 0 < B.length := List.length_pos_iff.2 (by simpa using h2)
            unfold actorB
            simp
            omega
          have HN2 : Hid (actorsB (l.take (k + 1)) = true) := Lib.hid (by rw [HNX.out, hq2])
          clear hq2
          go_wp2_with fail
          go_round
          case rel => exact ⟨k + 1, by omega, by go_num, HN2⟩
          case measure => simp [intOf]; omega
    · obtain rfl : k = n := by omega
      have hrf : true = r := by
        rw [← HRR.out]
        have := HA.out
        rw [List.take_of_length_le (by have := HLN.out; omega)] at this
        exact this.symm
      have HRF := Lib.hid hrf
      clear hrf
      go_wp2_with fail
      go_ret
      exact ⟨by rw [← HRF.out]; rfl, rfl⟩
/-- one text, out of the argument's row that was just made -/
theorem actor1 (B : List UInt8) (w : World) {k : Nat} (hk : k = w.heap.size) (hl : B.length ≤ 1000000000000000000) :
    Calls Try.prog 21 #[.slice (some ⟨k, 0, none⟩) 1 1] (w.alloc (.cells #[.string (txt B)] 9)) fun e w' => e = .returned (.bool (actorB B)) ∧ Fr (fun _ => False) w w' := by
  refine (actor_any (some ⟨k, 0, none⟩) 1 1 [B] _ (Rd.one' hk _ _) (by omega) (by simpa using hl)).mono ?_
  rintro e w' ⟨rfl, rfl⟩
  exact ⟨by simp [actorsB], (Fr.refl _ _).alloc _⟩
end Go.Proofs.Ytbnkahjmeobblaa
