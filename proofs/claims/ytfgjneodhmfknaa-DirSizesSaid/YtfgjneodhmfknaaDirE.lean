/-
  Layer 16, the program: the reader: refuse, number, bytes.
-/
import Derived.Test.YtfgjneodhmfknaaDirC
import Derived.Test.YtfgjneodhmfknaaLebD
namespace Go.Proofs.Ytfgjneodhmfknaa
open Go.RowKit Mem Go.Lib LebM DirM
attribute [local go_sem ↓] Go.wp_at_zero Go.wp_at_succ
set_option linter.unusedVariables false

/-- what a reader is: what is left, and the error -/
structure St where
  l : List UInt8
  e : Nat
def rf (b : Bool) (x e : Nat) : Nat := if b = true ∧ e = 0 then x else e
def St.num (s : St) (m : Nat) : Nat × St := if s.e ≠ 0 then (0, s) else ((numD m s.l).1, ⟨s.l.drop (numD m s.l).2.1, (numD m s.l).2.2⟩)
def St.byt (s : St) (n : Nat) : List UInt8 × St := if s.e ≠ 0 then ([], s) else if s.l.length < n then ([], ⟨s.l, 2⟩) else (s.l.take n, ⟨s.l.drop n, 0⟩)
/-- a reader in memory -/
def RdR (w : World) (g : Nat) (A : Option Addr) (n c e : Nat) : Prop := Row w g 53 [.slice A n c, .int .i64 (e : Int)]
def Rdm (w : World) (g : Nat) (s : St) : Prop := ∃ A n c, RdR w g A n c s.e ∧ Rd w A n (s.l.map bytec) ∧ n ≤ c ∧ n ≤ 100000000 ∧ (0 < n → ∀ ad, A = some ad → ad.block < g)
theorem Rdm.cut {w : World} {g n c k : Nat} {A : Option Addr} {B : List UInt8} (hr : RdR w g A n c 0) (hrd : Rd w A n (B.map bytec)) (hnc : n ≤ c) (hn9 : n ≤ 100000000) (hne : 0 < n → ∀ ad, A = some ad → ad.block < g) (hk : k ≤ n) :
    Rdm (w.setCell ⟨g, 0, none⟩ (.slice (if c = k then A else A.map (·.add k)) (n - k) (c - k))) g ⟨B.drop k, 0⟩ := by
  have hBn : B.length = n := by simpa using hrd.1
  have hcut := hrd.cut hk (Nat.le_refl n) hnc
  rw [List.take_of_length_le (by simp [hBn]), ← List.map_drop] at hcut
  have hb : 0 < n - k → ∀ ad, (if c = k then A else A.map (·.add k)) = some ad → ad.block < g := by
    intro hn ad e
    split at e
    · exact hne (by omega) ad e
    · cases A with
      | none => cases e
      | some a0 =>
        simp at e
        subst e
        rw [add_block]
        exact hne (by omega) a0 rfl
  exact ⟨_, _, _, Row.set hr 0 _, hcut.frp (Fr.set1 _ g 0 _) (fun hn ad e h => by have h7 := hb hn ad e; have h8 : ad.block = g := h; omega), by omega, by omega, hb⟩
theorem Rdm.cut_eq {w : World} {g n c : Nat} {A : Option Addr} {B : List UInt8} (hr : RdR w g A n c 0) (hrd : Rd w A n (B.map bytec)) (hnc : n ≤ c) (hn9 : n ≤ 100000000) (hne : 0 < n → ∀ ad, A = some ad → ad.block < g) (hk : c ≤ n) :
    Rdm (w.setCell ⟨g, 0, none⟩ (.slice A 0 0)) g ⟨B.drop c, 0⟩ := by
  have h := Rdm.cut hr hrd hnc hn9 hne hk
  rw [if_pos rfl, Nat.sub_self, show n - c = 0 by omega] at h
  exact h
theorem Rdm.cut_ne {w : World} {g n c k : Nat} {A : Option Addr} {B : List UInt8} (hr : RdR w g A n c 0) (hrd : Rd w A n (B.map bytec)) (hnc : n ≤ c) (hn9 : n ≤ 100000000) (hne : 0 < n → ∀ ad, A = some ad → ad.block < g) (hk : k ≤ n) (hck : ¬ c = k) :
    Rdm (w.setCell ⟨g, 0, none⟩ (.slice (A.map (·.add k)) (n - k) (c - k))) g ⟨B.drop k, 0⟩ := by
  have h := Rdm.cut hr hrd hnc hn9 hne hk
  rw [if_neg hck] at h
  exact h
set_option maxRecDepth 100000 in
set_option maxHeartbeats 1600000 in
theorem refuse_any (g : Nat) (A : Option Addr) (n c E X : Nat) (x : Int) (b : Bool) (w : World) (hr : RdR w g A n c E) (hx : x = (X : Int)) :
    Calls Try.prog 23 #[.pointer (some ⟨g, 0, none⟩), .bool b, .int .i64 x] w fun e w' => e = .returned (.tuple #[]) ∧ RdR w' g A n c (rf b X E) ∧ Fr (fun k => k = g) w w' := by
  have d1 : w.cell? ⟨g, 1, none⟩ = some (.int .i64 (E : Int)) := Row.cell hr rfl
  have f1 : w.frozen? ⟨g, 1, none⟩ = false := Row.free hr 1
  have HR := Lib.hid hr
  have HX := Lib.hid hx
  clear hr hx
  cases b with
  | false =>
    go_enter Try.func23, Try.ntmps23
    go_wp2_with fail
    refine bodyPost_end (v := .tuple #[]) (by simp [results, Try.results23, go_sem]) rfl ?_
    refine ⟨rfl, ?_, Fr.refl _ _⟩
    exact HR.out
  | true =>
    by_cases he : E = 0
    · have t0 : ((E : Int) == 0) = true := by simp; omega
      have t0' : (E == 0) = true := by simp; omega
      have HE := Lib.hid he
      clear he
      go_enter Try.func23, Try.ntmps23
      go_wp2_with fail
      refine bodyPost_end (v := .tuple #[]) (by simp [results, Try.results23, go_sem]) rfl ?_
      refine ⟨rfl, ?_, Fr.set1 _ _ _ _⟩
      have h := HR.out.set 1 (.int .i64 x)
      unfold RdR rf
      rw [if_pos ⟨rfl, HE.out⟩, ← HX.out]
      exact h
    · have t0 : ((E : Int) == 0) = false := by simp; omega
      have t0' : (E == 0) = false := by simp; omega
      have HE := Lib.hid he
      clear he
      go_enter Try.func23, Try.ntmps23
      go_wp2_with fail
      refine bodyPost_end (v := .tuple #[]) (by simp [results, Try.results23, go_sem]) rfl ?_
      refine ⟨rfl, ?_, Fr.refl _ _⟩
      unfold rf
      rw [if_neg (fun h => HE.out h.2)]
      exact HR.out
set_option maxRecDepth 100000 in
set_option maxHeartbeats 3200000 in
theorem number_any (g : Nat) (s : St) (m : Nat) (w : World) (h : Rdm w g s) (hm : m ≤ 1048576) :
    Calls Try.prog 27 #[.pointer (some ⟨g, 0, none⟩), .int .u64 (m : Int)] w fun e w' => e = .returned (.int .i64 ((s.num m).1 : Int)) ∧ Rdm w' g (s.num m).2 ∧ Fr (fun k => k = g) w w' := by
  obtain ⟨B, E⟩ := s
  by_cases hE : E = 0
  · subst hE
    have es : St.num ⟨B, 0⟩ m = ((numD m B).1, ⟨B.drop (numD m B).2.1, (numD m B).2.2⟩) := by unfold St.num; rw [if_neg (by simp)]
    obtain ⟨A, n, c, hr, hrd, hnc, hn9, hne⟩ := h
    simp only at hr hrd
    have d0 : w.cell? ⟨g, 0, none⟩ = some (.slice A n c) := Row.cell hr rfl
    have d1 : w.cell? ⟨g, 1, none⟩ = some (.int .i64 0) := Row.cell hr rfl
    have hbd := gu_lt B
    have hBn : B.length = n := by simpa using hrd.1
    obtain ⟨N, hN⟩ : ∃ N, N = (gu B).1 := ⟨_, rfl⟩
    obtain ⟨k, hk⟩ : ∃ k, k = (gu B).2.1 := ⟨_, rfl⟩
    obtain ⟨E, hE⟩ : ∃ E, E = (gu B).2.2 := ⟨_, rfl⟩
    have hg := GetU_any A n c B w hrd hnc
    rw [← hN, ← hk, ← hE] at hbd hg
    rw [hBn] at hbd
    have hnum : numD m B = if E ≠ 0 then (0, 0, E) else if m < N then (0, 0, 4) else (N, k, 0) := by unfold numD; rw [← hN, ← hk, ← hE]
    have hN0 : E ≠ 0 → N = 0 ∧ k = 0 := by
      intro h
      rw [hE] at h
      rw [hN, hk]
      unfold gu at h ⊢
      split
      · exact ⟨rfl, rfl⟩
      · split
        · rename_i h1 h2
          rw [if_neg h1, if_pos h2] at h
          exact absurd rfl h
        · exact ⟨rfl, rfl⟩
    clear hN hk hE
    have HR := Lib.hid hr
    have HRD := Lib.hid hrd
    have HG := Lib.hid hg
    have HNE := Lib.hid hne
    have HBN := Lib.hid hBn
    clear hr hrd hg hne hBn
    by_cases he : E = 0
    · have t0 : ((E : Int) != 0) = false := by simp; omega
      have t0' : (E != 0) = false := by simp; omega
      rw [if_neg (by omega)] at hnum
      by_cases hl : m < N
      · rw [if_pos hl] at hnum
        have t1 : decide ((m : Int) < (N : Int)) = true := by simp; omega
        have t1' : decide (m < N) = true := by simp; omega
        rw [es, hnum]
        have hrf1 := fun w h => refuse_any g A n c 0 E (E : Int) false w h rfl
        have hrf2 := fun w h => refuse_any g A n c 0 4 4 true w h rfl
        have HF1 := Lib.hid hrf1
        have HF2 := Lib.hid hrf2
        clear hnum es hbd hN0 hl hrf1 hrf2 he
        go_enter Try.func27, Try.ntmps27
        go_wp2_with fail
        refine HG.out.mono ?_
        rintro e w1 ⟨rfl, hf1⟩
        have HR1 := Lib.hid (Row.fr HR.out hf1 (fun h => h))
        have HK1 : Hid (Fr (fun k => k = g) w w1) := Lib.hid (hf1.mono (fun _ _ h => h.elim))
        clear hf1 d0 d1
        go_wp2_with fail
        refine (HF1.out w1 HR1.out).mono ?_
        rintro e w2 ⟨rfl, hr2, hf2⟩
        have HR2 := Lib.hid hr2
        have HK2 := Lib.hid (HK1.out.trans hf2 (fun _ _ h => h))
        clear hr2 hf2
        go_wp2_with fail
        refine (HF2.out w2 HR2.out).mono ?_
        rintro e w3 ⟨rfl, hr3, hf3⟩
        have d1 : w3.cell? ⟨g, 1, none⟩ = some (.int .i64 4) := Row.cell hr3 rfl
        have HR3 := Lib.hid hr3
        have HK3 := Lib.hid (HK2.out.trans hf3 (fun _ _ h => h))
        clear hr3 hf3
        go_wp2_with fail
        go_ret
        exact ⟨rfl, ⟨A, n, c, HR3.out, HRD.out.frp HK3.out (fun hn ad e h => by have h7 := HNE.out hn ad e; have h8 : ad.block = g := h; omega), hnc, hn9, HNE.out⟩, HK3.out⟩
      · rw [if_neg hl] at hnum
        have t1 : decide ((m : Int) < (N : Int)) = false := by simp; omega
        have t1' : decide (m < N) = false := by simp; omega
        have e4 : IntKind.i64.wrap (N : Int) = (N : Int) := by rw [IntKind.wrap_i64]; omega
        have hkn : k ≤ n := hbd.2.1
        rw [es, hnum]
        have hrf1 := fun w h => refuse_any g A n c 0 E (E : Int) false w h rfl
        have hrf2 := fun w h => refuse_any g A n c 0 4 4 false w h rfl
        have HF1 := Lib.hid hrf1
        have HF2 := Lib.hid hrf2
        clear hnum es hbd hN0 hl hrf1 hrf2 he
        go_enter Try.func27, Try.ntmps27
        go_wp2_with fail
        refine HG.out.mono ?_
        rintro e w1 ⟨rfl, hf1⟩
        have HR1 := Lib.hid (Row.fr HR.out hf1 (fun h => h))
        have HK1 : Hid (Fr (fun k => k = g) w w1) := Lib.hid (hf1.mono (fun _ _ h => h.elim))
        clear hf1 d0 d1
        go_wp2_with fail
        refine (HF1.out w1 HR1.out).mono ?_
        rintro e w2 ⟨rfl, hr2, hf2⟩
        have HR2 := Lib.hid hr2
        have HK2 := Lib.hid (HK1.out.trans hf2 (fun _ _ h => h))
        clear hr2 hf2
        go_wp2_with fail
        refine (HF2.out w2 HR2.out).mono ?_
        rintro e w3 ⟨rfl, hr3, hf3⟩
        have d0 : w3.cell? ⟨g, 0, none⟩ = some (.slice A n c) := Row.cell hr3 rfl
        have d1 : w3.cell? ⟨g, 1, none⟩ = some (.int .i64 0) := Row.cell hr3 rfl
        have f0 : w3.frozen? ⟨g, 0, none⟩ = false := Row.free hr3 0
        have HR3 := Lib.hid hr3
        have HK3 := Lib.hid (HK2.out.trans hf3 (fun _ _ h => h))
        have HRD3 := Lib.hid (HRD.out.frp HK3.out (fun hn ad e h => by have h7 := HNE.out hn ad e; have h8 : ad.block = g := h; omega))
        clear hr3 hf3
        by_cases hck : c = k
        · subst hck
          go_wp2_with fail
          go_ret
          exact ⟨rfl, Rdm.cut_eq HR3.out HRD3.out hnc hn9 HNE.out hkn, HK3.out.trans (Fr.set1 _ g 0 _) (fun _ _ h => h)⟩
        · go_wp2_with fail
          go_ret
          exact ⟨rfl, Rdm.cut_ne HR3.out HRD3.out hnc hn9 HNE.out hkn hck, HK3.out.trans (Fr.set1 _ g 0 _) (fun _ _ h => h)⟩
    · obtain ⟨hN1, hk1⟩ := hN0 he
      subst hN1 hk1
      have t0 : ((E : Int) != 0) = true := by simp; omega
      have t0' : (E != 0) = true := by simp; omega
      rw [if_pos he] at hnum
      have t1 : decide ((m : Int) < ((0 : Nat) : Int)) = false := by simp
      have t1' : decide ((m : Int) < 0) = false := by simp
      rw [es, hnum]
      have hrf1 := fun w h => refuse_any g A n c 0 E (E : Int) true w h rfl
      have hrf2 := fun w h => refuse_any g A n c E 4 4 false w h rfl
      have HF1 := Lib.hid hrf1
      have HF2 := Lib.hid hrf2
      clear hnum es hbd hN0 hrf1 hrf2 he
      go_enter Try.func27, Try.ntmps27
      go_wp2_with fail
      refine HG.out.mono ?_
      rintro e w1 ⟨rfl, hf1⟩
      have HR1 := Lib.hid (Row.fr HR.out hf1 (fun h => h))
      have HK1 : Hid (Fr (fun k => k = g) w w1) := Lib.hid (hf1.mono (fun _ _ h => h.elim))
      clear hf1 d0 d1
      go_wp2_with fail
      refine (HF1.out w1 HR1.out).mono ?_
      rintro e w2 ⟨rfl, hr2, hf2⟩
      have HR2 := Lib.hid hr2
      have HK2 := Lib.hid (HK1.out.trans hf2 (fun _ _ h => h))
      clear hr2 hf2
      go_wp2_with fail
      refine (HF2.out w2 HR2.out).mono ?_
      rintro e w3 ⟨rfl, hr3, hf3⟩
      have d1 : w3.cell? ⟨g, 1, none⟩ = some (.int .i64 (E : Int)) := Row.cell hr3 rfl
      have HR3 := Lib.hid hr3
      have HK3 := Lib.hid (HK2.out.trans hf3 (fun _ _ h => h))
      clear hr3 hf3
      go_wp2_with fail
      go_ret
      exact ⟨rfl, ⟨A, n, c, HR3.out, HRD.out.frp HK3.out (fun hn ad e h => by have h7 := HNE.out hn ad e; have h8 : ad.block = g := h; omega), hnc, hn9, HNE.out⟩, HK3.out⟩
  · have es : St.num ⟨B, E⟩ m = (0, ⟨B, E⟩) := by unfold St.num; rw [if_pos hE]
    rw [es]
    have t0 : ((E : Int) != 0) = true := by simp; omega
    have t0' : (E != 0) = true := by simp; omega
    have H := Lib.hid h
    obtain ⟨A, n, c, hr, _⟩ := h
    have d1 : w.cell? ⟨g, 1, none⟩ = some (.int .i64 (E : Int)) := Row.cell hr rfl
    clear hr hE es
    go_enter Try.func27, Try.ntmps27
    go_wp2_with fail
    go_ret
    exact ⟨rfl, H.out, Fr.refl _ _⟩
set_option maxRecDepth 100000 in
set_option maxHeartbeats 3200000 in
theorem bytes_any (g : Nat) (s : St) (m : Nat) (w : World) (h : Rdm w g s) (hm : m ≤ 1048576) :
    Calls Try.prog 26 #[.pointer (some ⟨g, 0, none⟩), .int .i64 (m : Int)] w fun e w' => ∃ A' c', e = .returned (.slice A' (s.byt m).1.length c') ∧ Own w' w.heap.size A' c' (s.byt m).1 ∧ Rdm w' g (s.byt m).2 ∧ Fr (fun k => k = g) w w' := by
  obtain ⟨B, E⟩ := s
  obtain ⟨A, n, c, hr, hrd, hnc, hn9, hne⟩ := h
  simp only at hr hrd
  have d0 : w.cell? ⟨g, 0, none⟩ = some (.slice A n c) := Row.cell hr rfl
  have d1 : w.cell? ⟨g, 1, none⟩ = some (.int .i64 (E : Int)) := Row.cell hr rfl
  have hBn : B.length = n := by simpa using hrd.1
  have HR := Lib.hid hr
  have HRD := Lib.hid hrd
  have HNE := Lib.hid hne
  have HBN := Lib.hid hBn
  clear hr hrd hne
  obtain ⟨b, hb⟩ : ∃ b : Bool, b = decide (n < m) := ⟨_, rfl⟩
  have t1 : decide ((n : Int) < (m : Int)) = b := by rw [hb]; exact decide_eq_decide.2 (by omega)
  have t1' : decide (n < m) = b := hb.symm
  obtain ⟨E2, hE2⟩ : ∃ E2, E2 = rf b 2 E := ⟨_, rfl⟩
  have hrf := fun w h => refuse_any g A n c E 2 2 b w h rfl
  rw [← hE2] at hrf
  have HF1 := Lib.hid hrf
  clear hrf
  by_cases he : E2 = 0
  · have hEb : E = 0 ∧ b = false := by
      unfold rf at hE2
      split at hE2
      · omega
      · rename_i h1
        have h2 : E = 0 := by omega
        refine ⟨h2, ?_⟩
        cases b
        · rfl
        · exact absurd ⟨rfl, h2⟩ h1
    obtain ⟨rfl, rfl⟩ := hEb
    have hmn : m ≤ n := by
      rcases Nat.lt_or_ge n m with h | h
      · rw [decide_eq_true h] at hb
        cases hb
      · exact h
    have es : St.byt ⟨B, 0⟩ m = (B.take m, ⟨B.drop m, 0⟩) := by unfold St.byt; rw [if_neg (by simp), if_neg (by show ¬ B.length < m; omega)]
    rw [es]
    have t2 : ((E2 : Int) != 0) = false := by simp; omega
    have t2' : (E2 != 0) = false := by simp; omega
    have HE := Lib.hid he
    clear es he hb hE2
    go_enter Try.func26, Try.ntmps26
    go_wp2_with fail
    refine (HF1.out w HR.out).mono ?_
    rintro e w1 ⟨rfl, hr1, hf1⟩
    have hrd1 := HRD.out.frp hf1 (fun hn ad e h => by have h7 := HNE.out hn ad e; have h8 : ad.block = g := h; omega)
    have hrt := rd_take hrd1 hmn
    rw [← List.map_take] at hrt
    have hcl := cloneB_any A m c (B.take m) w1 hrt (by omega)
    have HCL := Lib.hid hcl
    have HR1 := Lib.hid hr1
    have HRD1 := Lib.hid hrd1
    have HK1 := Lib.hid hf1
    clear d0 d1
    have d0 : w1.cell? ⟨g, 0, none⟩ = some (.slice A n c) := Row.cell hr1 rfl
    have d1 : w1.cell? ⟨g, 1, none⟩ = some (.int .i64 (E2 : Int)) := Row.cell hr1 rfl
    clear hr1 hf1 hrd1 hrt hcl
    go_wp2_with fail
    refine HCL.out.mono ?_
    rintro e w2 ⟨A3, c3, rfl, ho3, hf3⟩
    have HO3 := Lib.hid ho3
    have HR2 := Lib.hid (Row.fr HR1.out hf3 (fun h => h))
    have HK2 : Hid (Fr (fun k => k = g) w w2) := Lib.hid (HK1.out.trans hf3 (fun _ _ h => h.elim))
    have HRD2 := Lib.hid (HRD1.out.fr hf3 (fun _ _ h => h))
    clear ho3 hf3 d0 d1
    have d0 : w2.cell? ⟨g, 0, none⟩ = some (.slice A n c) := Row.cell HR2.out rfl
    have f0 : w2.frozen? ⟨g, 0, none⟩ = false := Row.free HR2.out 0
    have hgw : g < w.heap.size := Row.lt HR.out
    obtain ⟨z, hz⟩ : ∃ z, z = (B.take m).length := ⟨_, rfl⟩
    rw [← hz]
    have HGW := Lib.hid hgw
    have HZ := Lib.hid hz
    have HLT : Hid (w.heap.size ≤ w1.heap.size) := Lib.hid HK1.out.size
    have hr2 : RdR w2 g A n c 0 := by have h := HR2.out; rw [HE.out] at h; exact h
    have HR20 := Lib.hid hr2
    clear hgw hz hr2
    by_cases hck : c = m
    · subst hck
      go_wp2_with fail
      go_ret
      rw [HZ.out]
      exact ⟨A3, c3, rfl, (Fr.set1 w2 g 0 _).own (HO3.out.base HLT.out) (fun k hk h => by have h1 := (HO3.out.lt k hk).1; have h2 := HGW.out; have := HLT.out; omega),
        Rdm.cut_eq HR20.out HRD2.out hnc hn9 HNE.out hmn, HK2.out.trans (Fr.set1 _ g 0 _) (fun _ _ h => h)⟩
    · go_wp2_with fail
      go_ret
      rw [HZ.out]
      exact ⟨A3, c3, rfl, (Fr.set1 w2 g 0 _).own (HO3.out.base HLT.out) (fun k hk h => by have h1 := (HO3.out.lt k hk).1; have h2 := HGW.out; have := HLT.out; omega),
        Rdm.cut_ne HR20.out HRD2.out hnc hn9 HNE.out hmn hck, HK2.out.trans (Fr.set1 _ g 0 _) (fun _ _ h => h)⟩
  · have es : St.byt ⟨B, E⟩ m = ([], ⟨B, E2⟩) := by
      unfold St.byt
      unfold rf at hE2
      by_cases h0 : E = 0
      · subst h0
        rw [if_neg (by simp)]
        cases b
        · rw [if_neg (by simp)] at hE2
          exact absurd hE2 he
        · rw [if_pos ⟨rfl, rfl⟩] at hE2
          have : n < m := of_decide_eq_true hb.symm
          rw [if_pos (by show B.length < m; omega), hE2]
      · rw [if_neg (fun h => h0 h.2)] at hE2
        rw [if_pos h0, hE2]
    rw [es]
    have t2 : ((E2 : Int) != 0) = true := by simp; omega
    have t2' : (E2 != 0) = true := by simp; omega
    clear es he hb hE2
    go_enter Try.func26, Try.ntmps26
    go_wp2_with fail
    refine (HF1.out w HR.out).mono ?_
    rintro e w1 ⟨rfl, hr1, hf1⟩
    clear d0 d1
    have d1 : w1.cell? ⟨g, 1, none⟩ = some (.int .i64 (E2 : Int)) := Row.cell hr1 rfl
    have HR1 := Lib.hid hr1
    have HK1 := Lib.hid hf1
    clear hr1 hf1
    go_wp2_with fail
    go_ret
    exact ⟨none, 0, rfl, Own.nil _ _, ⟨A, n, c, HR1.out, HRD.out.frp HK1.out (fun hn ad e h => by have h7 := HNE.out hn ad e; have h8 : ad.block = g := h; omega), hnc, hn9, HNE.out⟩, HK1.out⟩
end Go.Proofs.Ytfgjneodhmfknaa
