/-
  Layer 11, the program: read (written by gen11.py out of rleT.src).
-/
import Derived.Test.YtmdobloncbljeaaRleS
import Derived.Test.YtmdobloncbljeaaRleF
import Derived.Test.YtmdobloncbljeaaRleP
import Derived.Test.YtmdobloncbljeaaSt
namespace Go.Proofs.Ytmdobloncbljeaa
open Go.RowKit Mem Go.Lib RleM LebM
attribute [local go_sem ↓] Go.wp_at_zero Go.wp_at_succ
set_option linter.unusedVariables false

/-- what is read: cells and the error's number -/
def toC {κ : Type} : Except Nat (List (κ × Nat)) → List κ × Nat
  | .ok g => (spreadG g, 0)
  | .error e => ([], e)
def leftAt (w : World) (g : Nat) : Nat := match w.cell? ⟨g, 2, none⟩ with
  | some (.slice _ n _) => n
  | _ => 0
theorem Rdr.leftAt {β : Type} {f : β → Value} {T G : TypeId} {fp fg : Value} {w : World} {base g : Nat} {most : Int} {r : Rs (Bool × β)} (h : Rdr f T G fp fg w base g most r) : leftAt w g = r.left.length := by
  obtain ⟨⟨A, n, c, Ag, cg, h1, h2, h3, h4, h5⟩, hb⟩ := h
  have hc : w.cell? ⟨g, 2, none⟩ = some (.slice A n c) := h1.cell rfl
  have hl : r.left.length = n := by simpa using h2.1
  unfold Go.Proofs.Ytmdobloncbljeaa.leftAt
  rw [hc, hl]
theorem rdSzU : (Try.prog.info? 63).map (·.size) = some 6 := by kernel_rfl
theorem rdSzS : (Try.prog.info? 63).map (·.size) = some 6 := by kernel_rfl
theorem rd_oneS (A : Option Addr) (n c : Nat) (most : Int) : ([Value.func (.func 30) #[] #[], .func (.func 31) #[] #[], .slice A n c, .slice none 0 0, .int .i64 0, .int .i64 most] : List Value).toArray.all (·.oneCell') = true := by simp [Value.oneCell']
set_option maxRecDepth 1000000 in
set_option maxHeartbeats 3200000 in
theorem readS_any (A : Option Addr) (n c : Nat) (B : List UInt8) (most : Int) (w : World) (hr : Rd w A n (B.map bytec)) (hc : n ≤ c) (hn : n ≤ 1000000) (hm0 : -9223372036854775808 ≤ most) (hm1 : most ≤ 1000000) :
    Calls Try.prog 25 #[.agg #[.func (.func 30) #[] #[], .func (.func 31) #[] #[]], .slice A n c, .int .i64 most] w fun e w' =>
      ∃ A' c', e = .returned (.tuple #[.slice A' (toC (readG kS most B)).1.length c', .int .i64 ((toC (readG kS most B)).2 : Nat)]) ∧ OwnC nv 30 w' w.heap.size A' c' (toC (readG kS most B)).1 ∧ Fr (fun _ => False) w w' := by
  have hBn : B.length = n := by simpa using hr.1
  have hA : 0 < n → ∀ ad, A = some ad → ad.block < w.heap.size := fun h0 ad e => hr.lt h0 ad e
  obtain ⟨RES, hRES⟩ : ∃ R, R = readG kS most B := ⟨_, rfl⟩
  rw [← hRES]
  unfold readG at hRES
  obtain ⟨LP, hLP⟩ : ∃ L, L = loopG kS most B.length (⟨B, [], 0⟩ : Rs (Bool × Int)) := ⟨_, rfl⟩
  rw [← hLP] at hRES
  have HRES := Lib.hid hRES
  have HLP := Lib.hid hLP
  obtain ⟨w1, hw1⟩ : ∃ w1, w.alloc (.cells #[.func (.func 30) #[] #[], .func (.func 31) #[] #[]] 46) = w1 := ⟨_, rfl⟩
  obtain ⟨q, hq⟩ : ∃ q, w.heap.size = q := ⟨_, rfl⟩
  have hf1 : Fr (fun _ => False) w w1 := by rw [← hw1]; exact (Fr.refl _ _).alloc _
  have hqb : Row w1 q 46 [.func (.func 30) #[] #[], .func (.func 31) #[] #[]] := by rw [← hw1, ← hq]; exact Row.new w _ _
  have hqs : w1.heap.size = q + 1 := by rw [← hw1, ← hq]; simp
  have a0 : w1.cell? ⟨q, 0, none⟩ = some (.func (.func 30) #[] #[]) := hqb.cell rfl
  have a1 : w1.cell? ⟨q, 1, none⟩ = some (.func (.func 31) #[] #[]) := hqb.cell rfl
  have HR := Lib.hid (hr.fr hf1 (fun _ _ h => h))
  have HA := Lib.hid hA
  have HQB := Lib.hid hqb
  have HF1 := Lib.hid hf1
  have HQ := Lib.hid hq
  have HQS := Lib.hid hqs
  have HBN := Lib.hid hBn
  clear hRES hLP hr hA hqb hf1 hqs hBn
  go_enter Try.func25, Try.ntmps25
  go_upto_region 1 with fail
  clear hw1 hq
  obtain ⟨g, hg⟩ : ∃ g, w1.heap.size = g := ⟨_, rfl⟩
  have hblk : (w1.alloc (.cells #[Value.nilFunc, Value.nilFunc, .slice none 0 0, .slice none 0 0, .int .i64 0, .int .i64 0] 63)).heap[g]? = some (.cells #[Value.nilFunc, Value.nilFunc, .slice none 0 0, .slice none 0 0, .int .i64 0, .int .i64 0] 63 (0, 0)) := by rw [← hg]; exact heap_alloc_new w1 _
  have HBLK := Lib.hid hblk
  have HG := Lib.hid hg
  clear hblk
  go_upto_region 2 with (refine store_st rdSzS rfl (.tmp 8) (.tmp 13) rfl g (by rfl) [.func (.func 30) #[] #[], .func (.func 31) #[] #[], .slice A n c, .slice none 0 0, .int .i64 0, .int .i64 most] (by rfl) _ _ HBLK.out rfl rfl (rd_oneS _ _ _ _) ?_)
  intro w2 hrow2 hf2
  have hF2 : Fr (fun _ => False) w1 w2 := ((Fr.refl (fun _ => False) w1).alloc _).trans hf2 (fun b hb h => by have h1 := HG.out; omega)
  have hq2 := HQB.out.fr hF2 (fun h => h)
  have hR2 : RdS w2 g g most ⟨B, [], 0⟩ := ⟨⟨A, n, c, none, 0, hrow2, HR.out.fr hF2 (fun _ _ h => h), hc, fun h0 ad e => by have h1 := HA.out h0 ad e; have h2 := HQ.out; have h3 := HQS.out; have h4 := HG.out; omega, OwnG.nil _ _ _⟩, Nat.le_refl _⟩
  have hI2 : Inv okS (⟨B, [], 0⟩ : Rs (Bool × Int)) := ⟨by have h1 := HBN.out; simp only [List.length_nil]; omega, rfl, Nat.zero_le _, fun g h => by simp at h⟩
  have HR2 := Lib.hid hR2
  have HI2 := Lib.hid hI2
  have HQ2 := Lib.hid hq2
  have HF2 := Lib.hid (HF1.out.trans hF2 (fun _ _ h => h))
  have HRA := Lib.hid (HR.out.fr hF2 (fun _ _ h => h))
  have HAG : Hid (0 < n → ∀ ad, A = some ad → ad.block < g) := Lib.hid (fun h0 ad e => by have h1 := HA.out h0 ad e; have h2 := HQ.out; have h3 := HQS.out; have h4 := HG.out; omega)
  have HQG : Hid (q < g ∧ w.heap.size ≤ q) := Lib.hid (by have h2 := HQ.out; have h3 := HQS.out; have h4 := HG.out; omega)
  clear hrow2 hf2 hF2 hq2 hR2 hI2 HBLK a0 a1 HR HA HQB HF1 hg
  go_upto_region 2 with fail
  go_wp2_with fail
  go_loopw [9] (fun v wr => ∃ (r' : Rs (Bool × Int)) (fl : Nat), Hid (RdS wr g g most r') ∧ Hid (Inv okS r') ∧ Hid (loopG kS most fl r' = LP) ∧ Hid (r'.left.length ≤ fl) ∧ Hid (Fr (fun k => g ≤ k) w2 wr)) (fun _ wr => leftAt wr g)
  case atStart => exact ⟨⟨B, [], 0⟩, B.length, HR2.out, HI2.out, HLP.out.symm, (Nat.le_refl _ : B.length ≤ B.length), Fr.refl _ _⟩
  case round =>
    obtain ⟨r', fl, HR3, HI3, HE3, HL3, HF3⟩ := hrel
    rename World => wr
    obtain ⟨⟨A3, n3, c3, Ag, cg, hrow3, hrd3, hnc3, hA3, hO3⟩, -⟩ := HR3.out
    have hl3 : r'.left.length = n3 := by simpa using hrd3.1
    have c2 : wr.cell? ⟨g, 2, none⟩ = some (.slice A3 n3 c3) := hrow3.cell rfl
    by_cases hn3 : 0 < n3
    · have t0 : decide ((0 : Int) < (n3 : Int)) = true := by simp; omega
      have t0' : decide (0 < n3) = true := by simp; omega
      have hne : r'.left ≠ [] := fun h => by rw [h] at hl3; simp at hl3; omega
      obtain ⟨f2, rfl⟩ : ∃ f2, fl = f2 + 1 := ⟨fl - 1, by have := HL3.out; omega⟩
      have he := HE3.out
      rw [loopG, if_neg hne] at he
      have hrun := runS_any g g most r' wr HR3.out HI3.out hm0 hm1
      obtain ⟨RR, hRR⟩ : ∃ RR, RR = runG kS most r' := ⟨_, rfl⟩
      rw [← hRR] at he hrun
      have HRUN := Lib.hid hrun
      have HRR := Lib.hid hRR
      have HML : Hid (leftAt wr g = n3) := Lib.hid (by rw [HR3.out.leftAt]; exact hl3)
      have HL3' := Lib.hid hl3
      clear hrow3 hrd3 hnc3 hA3 hO3 hl3 hne hrun hRR
      go_wp2_with fail
      refine HRUN.out.mono ?_
      rintro e w3 ⟨hf3, hE⟩
      have HF4 := Lib.hid (HF3.out.trans hf3 (fun _ _ h => h))
      clear hf3 HRUN c2
      cases RR with
      | error er =>
        simp only at he
        obtain ⟨rfl, her⟩ := hE
        have hx : RES = .error er := by rw [HRES.out, ← he]
        have HX := Lib.hid hx
        have t1 : ((er : Int) != 0) = true := by simp; omega
        have t1' : (er != 0) = true := by simp; omega
        clear he hx her
        go_wp2_with fail
        rw [HX.out]
        exact bodyPost_ret (v := .tuple #[.slice none 0 0, .int .i64 (er : Int)]) (by simp [results, Try.results25, go_sem]) rfl ⟨none, 0, rfl, OwnC.nil _ _ _, HF2.out.trans HF4.out (fun b hb h => by have h1 := HQG.out; omega)⟩
      | ok r2 =>
        simp only at he
        obtain ⟨rfl, hR4⟩ := hE
        have HR4 := Lib.hid hR4
        have HE4 := Lib.hid he
        obtain ⟨hi4, hl4⟩ := runG_inv goodS hm1 HRR.out.symm HI3.out
        have HI4 := Lib.hid hi4
        have HL4 := Lib.hid hl4
        have HML4 : Hid (leftAt w3 g = r2.left.length) := Lib.hid hR4.leftAt
        clear he hR4 hi4 hl4
        go_wp2_with fail
        exact ⟨⟨r2, f2, HR4.out, HI4.out, HE4.out, by have h1 := HL4.out; have h2 := HL3.out; show r2.left.length ≤ f2; omega, HF4.out⟩, by rw [HML.out, HML4.out]; have h1 := HL4.out; have h2 := HL3'.out; omega⟩
    · have h30 : n3 = 0 := by omega
      subst h30
      have hlp : LP = .ok r' := by
        have h := HE3.out
        have hnil : r'.left = [] := List.eq_nil_of_length_eq_zero hl3
        cases fl with
        | zero => exact h.symm
        | succ f => rw [loopG, if_pos hnil] at h; exact h.symm
      have hres := HRES.out
      rw [hlp] at hres
      simp only at hres
      have hbnd := HI3.out.len
      have hct := HI3.out.cnt
      have htot := HI3.out.tot
      by_cases hneg : most < 0
      · have t1 : decide (most < 0) = true := by simp; omega
        rw [if_pos hneg] at hres
        have HX := Lib.hid hres
        clear hres hneg hlp hrow3 hrd3 hnc3 hA3 hO3 hl3
        go_wp2_with fail
        rw [HX.out]
        exact bodyPost_ret (v := .tuple #[.slice none 0 0, .int .i64 3]) (by simp [results, Try.results25, go_sem]) rfl ⟨none, 0, rfl, OwnC.nil _ _ _, HF2.out.trans HF3.out (fun b hb h => by have h1 := HQG.out; omega)⟩
      · have t1 : decide (most < 0) = false := by simp; omega
        rw [if_neg hneg] at hres
        obtain ⟨NG, hNG⟩ : ∃ NG, NG = r'.gs.length := ⟨_, rfl⟩
        have hcap := (own_cap hO3).2
        have htell := tellS_any Ag r'.gs.length cg r'.gs wr hO3.grs hcap.1 (fun ad e => (hO3.lt ad.block (by rw [e]; rfl)).2) (by omega) HI3.out.all (fun g hg => by have := mem_total hg; omega)
        rw [← hNG] at htell hrow3
        have q3 := HQ2.out.fr HF3.out (fun h => by have h1 := HQG.out; omega)
        have a0 : wr.cell? ⟨q, 0, none⟩ = some (.func (.func 30) #[] #[]) := q3.cell rfl
        have a1 : wr.cell? ⟨q, 1, none⟩ = some (.func (.func 31) #[] #[]) := q3.cell rfl
        have c3' : wr.cell? ⟨g, 3, none⟩ = some (.slice Ag NG cg) := hrow3.cell rfl
        have HTELL := Lib.hid htell
        have HROW3 := Lib.hid hrow3
        have HO3 := Lib.hid hO3
        have HNG := Lib.hid hNG
        obtain ⟨TW, hTW⟩ : ∃ TW, TW = tellW kS r'.gs := ⟨_, rfl⟩
        rw [← hTW] at HTELL hres
        obtain ⟨E, hE⟩ : ∃ E, decide (TW = B) = E := ⟨_, rfl⟩
        have HE := Lib.hid hE
        clear hneg hlp hrd3 hnc3 hA3 hl3 htell q3 hrow3 hO3 hNG hTW hE hcap
        go_wp2_with fail
        refine HTELL.out.mono ?_
        rintro e w4 ⟨A5, c5, rfl, hO5, hf5⟩
        have heq := equal_any A5 A TW.length c5 n c TW B w4 hO5.rd ((HRA.out.frp HF3.out (fun h0 ad e h => by have := HAG.out h0 ad e; omega)).fr hf5 (fun _ _ h => h))
        rw [HE.out] at heq
        have HEQ := Lib.hid heq
        have HF5 := Lib.hid (HF2.out.trans (HF3.out.trans (hf5.mono (T := fun k => g ≤ k) (fun _ _ h => h.elim)) (fun _ _ h => h)) (S := fun _ => False) (fun b hb h => by have h1 := HQG.out; omega))
        have HROW5 := Lib.hid (HROW3.out.fr hf5 (fun h => h))
        have HO5 := Lib.hid (HO3.out.fr hf5)
        clear heq hO5 hf5 HTELL a0 a1 c3' c2
        have d3 : w4.cell? ⟨g, 3, none⟩ = some (.slice Ag NG cg) := HROW5.out.cell rfl
        have d4 : w4.cell? ⟨g, 4, none⟩ = some (.int .i64 (r'.count : Int)) := HROW5.out.cell rfl
        cases E with
        | false =>
          rw [if_pos (of_decide_eq_false HE.out)] at hres
          have HX := Lib.hid hres
          clear hres d3 d4
          go_wp2_with fail
          refine HEQ.out.mono ?_
          rintro e w5 ⟨rfl, rfl⟩
          go_wp2_with fail
          rw [HX.out]
          exact bodyPost_ret (v := .tuple #[.slice none 0 0, .int .i64 3]) (by simp [results, Try.results25, go_sem]) rfl ⟨none, 0, rfl, OwnC.nil _ _ _, HF5.out⟩
        | true =>
          rw [if_neg (fun h => h (of_decide_eq_true HE.out))] at hres
          have HX := Lib.hid hres
          obtain ⟨CN, hCN⟩ : ∃ CN, CN = r'.count := ⟨_, rfl⟩
          rw [← hCN] at d4
          have hcn6 : CN ≤ 1000000 := by omega
          have t2 : decide ((2147483647 : Int) < (CN : Int)) = false := by simp; omega
          have t2' : decide (2147483647 < CN) = false := by simp; omega
          have hsp := spreadC_any Ag r'.gs.length cg r'.gs CN w4 HO5.out.grs (by omega) (by omega) hcn6
          rw [← HNG.out] at hsp
          have HSP := Lib.hid hsp
          clear hres hCN hsp
          go_wp2_with fail
          refine HEQ.out.mono ?_
          rintro e w5 ⟨rfl, rfl⟩
          go_wp2_with fail
          refine HSP.out.mono ?_
          rintro e w6 ⟨A6, c6, rfl, hO6, hf6⟩
          have HO6 := Lib.hid hO6
          have HF6 := Lib.hid (HF5.out.trans hf6 (fun _ _ h => h))
          have HSZ := Lib.hid HF5.out.size
          clear hO6 hf6 HSP HEQ d3 d4
          go_wp2_with fail
          rw [HX.out]
          exact bodyPost_ret (v := .tuple #[.slice A6 (spreadG r'.gs).length c6, .int .i64 0]) (by simp [results, Try.results25, go_sem]) rfl ⟨A6, c6, rfl, HO6.out.base HSZ.out, HF6.out⟩

end Go.Proofs.Ytmdobloncbljeaa
