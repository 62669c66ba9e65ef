/-
  Layer 11, the program: read (written by gen11.py out of rleT.src).
  Plain mathematics of layer 11: what is told is read as it was; what is read is told so.
-/
import Derived.Test.YtcoohjjjiakdjaaZm11
import Derived.Test.YtcoohjjjiakdjaaZm15
import Derived.Test.YtcoohjjjiakdjaaZm08
namespace Go.Proofs.Ytcoohjjjiakdjaa
open Go.RowKit Mem Go.Lib RleM LebM
attribute [local go_sem ↓] Go.wp_at_zero Go.wp_at_succ
set_option linter.unusedVariables false

/-- what is read: cells and the error's number -/
def toC {κ : Type} : Except Nat (List (κ × Nat)) → List κ × Nat
  | .ok g => (spreadG g, 0)
  | .error e => ([], e)
def leftAt (w : World) (g : Nat) : Nat := match w.cell? ⟨g, 2, none⟩ with
  | some (.slice _ n _) => n
  | _ => 0
theorem Rdr.leftAt {β : Type} {f : β → Value} {T G : TypeId} {fp fg : Value} {w : World} {base g : Nat} {most : Int} {r : Rs (Bool × β)} (h : Rdr f T G fp fg w base g most r) : leftAt w g = r.left.length := by
  obtain ⟨⟨A, n, c, Ag, cg, h1, h2, h3, h4, h5⟩, hb⟩ := h
  have hc : w.cell? ⟨g, 2, none⟩ = some (.slice A n c) := h1.cell rfl
  have hl : r.left.length = n := by simpa using h2.1
  unfold Go.Proofs.Ytcoohjjjiakdjaa.leftAt
  rw [hc, hl]
theorem rdSzU : (Try.prog.info? 102).map (·.size) = some 6 := by kernel_rfl
theorem rd_oneU (A : Option Addr) (n c : Nat) (most : Int) : ([Value.func (.func 53) #[] #[], .func (.func 54) #[] #[], .slice A n c, .slice none 0 0, .int .i64 0, .int .i64 most] : List Value).toArray.all (·.oneCell') = true := by simp [Value.oneCell']
set_option maxRecDepth 1000000 in
set_option maxHeartbeats 3200000 in
theorem readU_any (A : Option Addr) (n c : Nat) (B : List UInt8) (most : Int) (w : World) (hr : Rd w A n (B.map bytec)) (hc : n ≤ c) (hn : n ≤ 1000000) (hm0 : -9223372036854775808 ≤ most) (hm1 : most ≤ 1000000) :
    Calls Try.prog 36 #[.agg #[.func (.func 53) #[] #[], .func (.func 54) #[] #[]], .slice A n c, .int .i64 most] w fun e w' =>
      ∃ A' c', e = .returned (.tuple #[.slice A' (toC (readG kU most B)).1.length c', .int .i64 ((toC (readG kU most B)).2 : Nat)]) ∧ OwnC nv 50 w' w.heap.size A' c' (toC (readG kU most B)).1 ∧ Fr (fun _ => False) w w' := by
  have hBn : B.length = n := by simpa using hr.1
  have hA : 0 < n → ∀ ad, A = some ad → ad.block < w.heap.size := fun h0 ad e => hr.lt h0 ad e
  obtain ⟨RES, hRES⟩ : ∃ R, R = readG kU most B := ⟨_, rfl⟩
  rw [← hRES]
  unfold readG at hRES
  obtain ⟨LP, hLP⟩ : ∃ L, L = loopG kU most B.length (⟨B, [], 0⟩ : Rs (Bool × Int)) := ⟨_, rfl⟩
  rw [← hLP] at hRES
  have HRES := Lib.hid hRES
  have HLP := Lib.hid hLP
  obtain ⟨w1, hw1⟩ : ∃ w1, w.alloc (.cells #[.func (.func 53) #[] #[], .func (.func 54) #[] #[]] 72) = w1 := ⟨_, rfl⟩
  obtain ⟨q, hq⟩ : ∃ q, w.heap.size = q := ⟨_, rfl⟩
  have hf1 : Fr (fun _ => False) w w1 := by rw [← hw1]; exact (Fr.refl _ _).alloc _
  have hqb : Row w1 q 72 [.func (.func 53) #[] #[], .func (.func 54) #[] #[]] := by rw [← hw1, ← hq]; exact Row.new w _ _
  have hqs : w1.heap.size = q + 1 := by rw [← hw1, ← hq]; simp
  have a0 : w1.cell? ⟨q, 0, none⟩ = some (.func (.func 53) #[] #[]) := hqb.cell rfl
  have a1 : w1.cell? ⟨q, 1, none⟩ = some (.func (.func 54) #[] #[]) := hqb.cell rfl
  have HR := Lib.hid (hr.fr hf1 (fun _ _ h => h))
  have HA := Lib.hid hA
  have HQB := Lib.hid hqb
  have HF1 := Lib.hid hf1
  have HQ := Lib.hid hq
  have HQS := Lib.hid hqs
  have HBN := Lib.hid hBn
  clear hRES hLP hr hA hqb hf1 hqs hBn
  go_enter Try.func36, Try.ntmps36
  go_upto_region 1 with fail
  clear hw1 hq
  obtain ⟨g, hg⟩ : ∃ g, w1.heap.size = g := ⟨_, rfl⟩
  have hblk : (w1.alloc (.cells #[Value.nilFunc, Value.nilFunc, .slice none 0 0, .slice none 0 0, .int .i64 0, .int .i64 0] 102)).heap[g]? = some (.cells #[Value.nilFunc, Value.nilFunc, .slice none 0 0, .slice none 0 0, .int .i64 0, .int .i64 0] 102 (0, 0)) := by rw [← hg]; exact heap_alloc_new w1 _
  have HBLK := Lib.hid hblk
  have HG := Lib.hid hg
  clear hblk
  go_upto_region 2 with (refine store_st rdSzU rfl (.tmp 8) (.tmp 13) rfl g (by rfl) [.func (.func 53) #[] #[], .func (.func 54) #[] #[], .slice A n c, .slice none 0 0, .int .i64 0, .int .i64 most] (by rfl) _ _ HBLK.out rfl rfl (rd_oneU _ _ _ _) ?_)
  intro w2 hrow2 hf2
  have hF2 : Fr (fun _ => False) w1 w2 := ((Fr.refl (fun _ => False) w1).alloc _).trans hf2 (fun b hb h => by have h1 := HG.out; omega)
  have hq2 := HQB.out.fr hF2 (fun h => h)
  have hR2 : RdU w2 g g most ⟨B, [], 0⟩ := ⟨⟨A, n, c, none, 0, hrow2, HR.out.fr hF2 (fun _ _ h => h), hc, fun h0 ad e => by have h1 := HA.out h0 ad e; have h2 := HQ.out; have h3 := HQS.out; have h4 := HG.out; omega, OwnG.nil _ _ _⟩, Nat.le_refl _⟩
  have hI2 : Inv okU (⟨B, [], 0⟩ : Rs (Bool × Int)) := ⟨by have h1 := HBN.out; simp only [List.length_nil]; omega, rfl, Nat.zero_le _, fun g h => by simp at h⟩
  have HR2 := Lib.hid hR2
  have HI2 := Lib.hid hI2
  have HQ2 := Lib.hid hq2
  have HF2 := Lib.hid (HF1.out.trans hF2 (fun _ _ h => h))
  have HRA := Lib.hid (HR.out.fr hF2 (fun _ _ h => h))
  have HAG : Hid (0 < n → ∀ ad, A = some ad → ad.block < g) := Lib.hid (fun h0 ad e => by have h1 := HA.out h0 ad e; have h2 := HQ.out; have h3 := HQS.out; have h4 := HG.out; omega)
  have HQG : Hid (q < g ∧ w.heap.size ≤ q) := Lib.hid (by have h2 := HQ.out; have h3 := HQS.out; have h4 := HG.out; omega)
  clear hrow2 hf2 hF2 hq2 hR2 hI2 HBLK a0 a1 HR HA HQB HF1 hg
  go_upto_region 2 with fail
  go_wp2_with fail
  go_loopw [9] (fun v wr => ∃ (r' : Rs (Bool × Int)) (fl : Nat), Hid (RdU wr g g most r') ∧ Hid (Inv okU r') ∧ Hid (loopG kU most fl r' = LP) ∧ Hid (r'.left.length ≤ fl) ∧ Hid (Fr (fun k => g ≤ k) w2 wr)) (fun _ wr => leftAt wr g)
  case atStart => exact ⟨⟨B, [], 0⟩, B.length, HR2.out, HI2.out, HLP.out.symm, (Nat.le_refl _ : B.length ≤ B.length), Fr.refl _ _⟩
  case round =>
    obtain ⟨r', fl, HR3, HI3, HE3, HL3, HF3⟩ := hrel
    rename World => wr
    obtain ⟨⟨A3, n3, c3, Ag, cg, hrow3, hrd3, hnc3, hA3, hO3⟩, -⟩ := HR3.out
    have hl3 : r'.left.length = n3 := by simpa using hrd3.1
    have c2 : wr.cell? ⟨g, 2, none⟩ = some (.slice A3 n3 c3) := hrow3.cell rfl
    by_cases hn3 : 0 < n3
    · have t0 : decide ((0 : Int) < (n3 : Int)) = true := by simp; omega
      have t0' : decide (0 < n3) = true := by simp; omega
      have hne : r'.left ≠ [] := fun h => by rw [h] at hl3; simp at hl3; omega
      obtain ⟨f2, rfl⟩ : ∃ f2, fl = f2 + 1 := ⟨fl - 1, by have := HL3.out; omega⟩
      have he := HE3.out
      rw [loopG, if_neg hne] at he
      have hrun := runU_any g g most r' wr HR3.out HI3.out hm0 hm1
      obtain ⟨RR, hRR⟩ : ∃ RR, RR = runG kU most r' := ⟨_, rfl⟩
      rw [← hRR] at he hrun
      have HRUN := Lib.hid hrun
      have HRR := Lib.hid hRR
      have HML : Hid (leftAt wr g = n3) := Lib.hid (by rw [HR3.out.leftAt]; exact hl3)
      have HL3' := Lib.hid hl3
      clear hrow3 hrd3 hnc3 hA3 hO3 hl3 hne hrun hRR
      go_wp2_with fail
      refine HRUN.out.mono ?_
      rintro e w3 ⟨hf3, hE⟩
      have HF4 := Lib.hid (HF3.out.trans hf3 (fun _ _ h => h))
      clear hf3 HRUN c2
      cases RR with
      | error er =>
        simp only at he
        obtain ⟨rfl, her⟩ := hE
        have hx : RES = .error er := by rw [HRES.out, ← he]
        have HX := Lib.hid hx
        have t1 : ((er : Int) != 0) = true := by simp; omega
        have t1' : (er != 0) = true := by simp; omega
        clear he hx her
        go_wp2_with fail
        rw [HX.out]
        exact bodyPost_ret (v := .tuple #[.slice none 0 0, .int .i64 (er : Int)]) (by simp [results, Try.results36, go_sem]) rfl ⟨none, 0, rfl, OwnC.nil _ _ _, HF2.out.trans HF4.out (fun b hb h => by have h1 := HQG.out; omega)⟩
      | ok r2 =>
        simp only at he
        obtain ⟨rfl, hR4⟩ := hE
        have HR4 := Lib.hid hR4
        have HE4 := Lib.hid he
        obtain ⟨hi4, hl4⟩ := runG_inv goodU hm1 HRR.out.symm HI3.out
        have HI4 := Lib.hid hi4
        have HL4 := Lib.hid hl4
        have HML4 : Hid (leftAt w3 g = r2.left.length) := Lib.hid hR4.leftAt
        clear he hR4 hi4 hl4
        go_wp2_with fail
        exact ⟨⟨r2, f2, HR4.out, HI4.out, HE4.out, by have h1 := HL4.out; have h2 := HL3.out; show r2.left.length ≤ f2; omega, HF4.out⟩, by rw [HML.out, HML4.out]; have h1 := HL4.out; have h2 := HL3'.out; omega⟩
    · have h30 : n3 = 0 := by omega
      subst h30
      have hlp : LP = .ok r' := by
        have h := HE3.out
        have hnil : r'.left = [] := List.eq_nil_of_length_eq_zero hl3
        cases fl with
        | zero => exact h.symm
        | succ f => rw [loopG, if_pos hnil] at h; exact h.symm
      have hres := HRES.out
      rw [hlp] at hres
      simp only at hres
      have hbnd := HI3.out.len
      have hct := HI3.out.cnt
      have htot := HI3.out.tot
      by_cases hneg : most < 0
      · have t1 : decide (most < 0) = true := by simp; omega
        rw [if_pos hneg] at hres
        have HX := Lib.hid hres
        clear hres hneg hlp hrow3 hrd3 hnc3 hA3 hO3 hl3
        go_wp2_with fail
        rw [HX.out]
        exact bodyPost_ret (v := .tuple #[.slice none 0 0, .int .i64 3]) (by simp [results, Try.results36, go_sem]) rfl ⟨none, 0, rfl, OwnC.nil _ _ _, HF2.out.trans HF3.out (fun b hb h => by have h1 := HQG.out; omega)⟩
      · have t1 : decide (most < 0) = false := by simp; omega
        rw [if_neg hneg] at hres
        obtain ⟨NG, hNG⟩ : ∃ NG, NG = r'.gs.length := ⟨_, rfl⟩
        have hcap := (own_cap hO3).2
        have htell := tellU_any Ag r'.gs.length cg r'.gs wr hO3.grs hcap.1 (fun ad e => (hO3.lt ad.block (by rw [e]; rfl)).2) (by omega) HI3.out.all (fun g hg => by have := mem_total hg; omega)
        rw [← hNG] at htell hrow3
        have q3 := HQ2.out.fr HF3.out (fun h => by have h1 := HQG.out; omega)
        have a0 : wr.cell? ⟨q, 0, none⟩ = some (.func (.func 53) #[] #[]) := q3.cell rfl
        have a1 : wr.cell? ⟨q, 1, none⟩ = some (.func (.func 54) #[] #[]) := q3.cell rfl
        have c3' : wr.cell? ⟨g, 3, none⟩ = some (.slice Ag NG cg) := hrow3.cell rfl
        have HTELL := Lib.hid htell
        have HROW3 := Lib.hid hrow3
        have HO3 := Lib.hid hO3
        have HNG := Lib.hid hNG
        obtain ⟨TW, hTW⟩ : ∃ TW, TW = tellW kU r'.gs := ⟨_, rfl⟩
        rw [← hTW] at HTELL hres
        obtain ⟨E, hE⟩ : ∃ E, decide (TW = B) = E := ⟨_, rfl⟩
        have HE := Lib.hid hE
        clear hneg hlp hrd3 hnc3 hA3 hl3 htell q3 hrow3 hO3 hNG hTW hE hcap
        go_wp2_with fail
        refine HTELL.out.mono ?_
        rintro e w4 ⟨A5, c5, rfl, hO5, hf5⟩
        have heq := equal_any A5 A TW.length c5 n c TW B w4 hO5.rd ((HRA.out.frp HF3.out (fun h0 ad e h => by have := HAG.out h0 ad e; omega)).fr hf5 (fun _ _ h => h))
        rw [HE.out] at heq
        have HEQ := Lib.hid heq
        have HF5 := Lib.hid (HF2.out.trans (HF3.out.trans (hf5.mono (T := fun k => g ≤ k) (fun _ _ h => h.elim)) (fun _ _ h => h)) (S := fun _ => False) (fun b hb h => by have h1 := HQG.out; omega))
        have HROW5 := Lib.hid (HROW3.out.fr hf5 (fun h => h))
        have HO5 := Lib.hid (HO3.out.fr hf5)
        clear heq hO5 hf5 HTELL a0 a1 c3' c2
        have d3 : w4.cell? ⟨g, 3, none⟩ = some (.slice Ag NG cg) := HROW5.out.cell rfl
        have d4 : w4.cell? ⟨g, 4, none⟩ = some (.int .i64 (r'.count : Int)) := HROW5.out.cell rfl
        cases E with
        | false =>
          rw [if_pos (of_decide_eq_false HE.out)] at hres
          have HX := Lib.hid hres
          clear hres d3 d4
          go_wp2_with fail
          refine HEQ.out.mono ?_
          rintro e w5 ⟨rfl, rfl⟩
          go_wp2_with fail
          rw [HX.out]
          exact bodyPost_ret (v := .tuple #[.slice none 0 0, .int .i64 3]) (by simp [results, Try.results36, go_sem]) rfl ⟨none, 0, rfl, OwnC.nil _ _ _, HF5.out⟩
        | true =>
          rw [if_neg (fun h => h (of_decide_eq_true HE.out))] at hres
          have HX := Lib.hid hres
          obtain ⟨CN, hCN⟩ : ∃ CN, CN = r'.count := ⟨_, rfl⟩
          rw [← hCN] at d4
          have hcn6 : CN ≤ 1000000 := by omega
          have t2 : decide ((2147483647 : Int) < (CN : Int)) = false := by simp; omega
          have t2' : decide (2147483647 < CN) = false := by simp; omega
          have hsp := spreadC_any Ag r'.gs.length cg r'.gs CN w4 HO5.out.grs (by omega) (by omega) hcn6
          rw [← HNG.out] at hsp
          have HSP := Lib.hid hsp
          clear hres hCN hsp
          go_wp2_with fail
          refine HEQ.out.mono ?_
          rintro e w5 ⟨rfl, rfl⟩
          go_wp2_with fail
          refine HSP.out.mono ?_
          rintro e w6 ⟨A6, c6, rfl, hO6, hf6⟩
          have HO6 := Lib.hid hO6
          have HF6 := Lib.hid (HF5.out.trans hf6 (fun _ _ h => h))
          have HSZ := Lib.hid HF5.out.size
          clear hO6 hf6 HSP HEQ d3 d4
          go_wp2_with fail
          rw [HX.out]
          exact bodyPost_ret (v := .tuple #[.slice A6 (spreadG r'.gs).length c6, .int .i64 0]) (by simp [results, Try.results36, go_sem]) rfl ⟨A6, c6, rfl, HO6.out.base HSZ.out, HF6.out⟩

theorem rdSzS : (Try.prog.info? 102).map (·.size) = some 6 := by kernel_rfl
end Go.Proofs.Ytcoohjjjiakdjaa
namespace Go.Proofs.Ytcoohjjjiakdjaa.RleM
open LebM
set_option linter.unusedVariables false

section
variable {κ : Type}
theorem wf_cut {l k : List (κ × Nat)} (h : WF (l ++ k)) : WF l ∧ WF k := by
  constructor
  · revert h
    refine snoc_ind (p := fun k => WF (l ++ k) → WF l) (fun h => by simpa using h) (fun k x ih h => ?_) k
    rw [← List.append_assoc] at h
    exact ih ((wf_snoc _ x.1 x.2).1 h).1
  · induction l with
    | nil => exact h
    | cons x l ih => exact ih h.2.2
end
section
variable {κ : Type} [DecidableEq κ] {K : Kd κ} {p : κ → Prop}
/-- what is put is read -/
def Back (K : Kd κ) (p : κ → Prop) : Prop := ∀ c, p c → c ≠ K.zero → ∀ R : List UInt8, K.get (K.put c ++ R) = (c, (K.put c).length, 0)
theorem add_next {g0 l : List (κ × Nat)} {c : κ} {n : Nat} (h : WF (g0 ++ (c, n) :: l)) : addG g0 c n = g0 ++ [(c, n)] := by
  have h2 : WF (g0 ++ [(c, n)]) := by
    have e : g0 ++ (c, n) :: l = (g0 ++ [(c, n)]) ++ l := by simp
    rw [e] at h
    exact (wf_cut h).1
  obtain ⟨-, h3, h4⟩ := (wf_snoc _ _ _).1 h2
  exact add_new h3 h4
theorem many_back (hb : Back K p) : ∀ (M g0 : List (κ × Nat)) (R : List UInt8) (cnt : Nat), WF (g0 ++ M) → (∀ g ∈ M, p g.1 ∧ g.1 ≠ K.zero ∧ ¬ 1 < g.2) →
    manyG K M.length ⟨puts K M ++ R, g0, cnt⟩ = .ok ⟨R, g0 ++ M, cnt + M.length⟩
  | [], g0, R, cnt, _, _ => by simp [manyG, puts]
  | (c, n) :: M, g0, R, cnt, hw, h => by
    obtain ⟨h1, h2, h3⟩ := h (c, n) (List.mem_cons_self ..)
    simp only at h1 h2 h3
    have hn : n = 1 := by have h0 : 0 < n := (wf_cut hw).2.1; omega
    subst hn
    have hg := hb c h1 h2 (puts K M ++ R)
    have hp : puts K ((c, 1) :: M) ++ R = K.put c ++ (puts K M ++ R) := by unfold puts; rw [List.flatMap_cons, List.append_assoc]
    rw [hp, List.length_cons, manyG]
    simp only [hg, ne_eq, not_true_eq_false, if_false, List.drop_left]
    rw [add_next hw, many_back hb M (g0 ++ [(c, 1)]) R (cnt + 1) (by simpa using hw) (fun g hg => h g (List.mem_cons_of_mem _ hg))]
    simp
    omega
theorem drop_others {z : κ} (l : List (κ × Nat)) : (l.take (othersG z l)).length = othersG z l := by rw [List.length_take, Nat.min_eq_left (others_le z l)]
theorem total_take (z : κ) : ∀ l : List (κ × Nat), WF l → total (l.take (othersG z l)) = othersG z l
  | [], _ => rfl
  | (c, n) :: l, h => by
    rw [othersG]
    split
    · rfl
    · next hq =>
      have h0 : 0 < n := h.1
      have hn : n = 1 := by omega
      rw [List.take_succ_cons, total, total_take z l h.2.2, hn, Nat.add_comm]
theorem loop_back (hb : Back K p) (most : Int) : ∀ (m : Nat) (l : List (κ × Nat)), l.length ≤ m → ∀ (f : Nat) (g0 : List (κ × Nat)) (cnt : Nat), WF (g0 ++ l) → (∀ g ∈ l, p g.1) → (tellG K l).length ≤ f → (cnt : Int) ≤ most → total l < 9223372036854775808 →
    loopG K most f ⟨tellG K l, g0, cnt⟩ = if (cnt : Int) + total l ≤ most then .ok ⟨[], g0 ++ l, cnt + total l⟩ else .error 4 := by
  intro m
  induction m with
  | zero =>
    intro l hl f g0 cnt hw hp hf hc ht
    obtain rfl : l = [] := List.eq_nil_of_length_eq_zero (by omega)
    rw [tell_nil, if_pos (by simp [total]; exact hc)]
    cases f <;> simp [loopG, total]
  | succ m ih =>
    intro l hl f g0 cnt hw hp hf hc ht
    match l, hl with
    | [], _ =>
      rw [tell_nil, if_pos (by simp [total]; exact hc)]
      cases f <;> simp [loopG, total]
    | (c, n) :: l, hl =>
      have hn0 : 0 < n := (wf_cut hw).2.1
      rw [List.length_cons] at hl
      rw [total] at ht
      have hw2 : WF (g0 ++ [(c, n)] ++ l) := by simpa using hw
      by_cases hz : c = K.zero
      · subst hz
        rw [tell_none] at hf ⊢
        have hsp := s_pos 0
        rw [List.length_append] at hf
        obtain ⟨f, rfl⟩ : ∃ f', f = f' + 1 := ⟨f - 1, by omega⟩
        rw [loopG, if_neg (by intro e; have := congrArg List.length e; simp only [List.length_append, List.length_nil] at this; omega)]
        have h1 := gs_back 0 (u n ++ tellG K l) (by omega) (by omega)
        have h2 := gu_back n (tellG K l) (by omega)
        have hrun : runG K most ⟨s 0 ++ (u n ++ tellG K l), g0, cnt⟩ = if (cnt : Int) + n ≤ most then .ok ⟨tellG K l, g0 ++ [(K.zero, n)], cnt + n⟩ else .error 4 := by
          unfold runG noneG
          simp only [h1, h2, List.drop_left, ne_eq, not_true_eq_false, if_false, if_true, add_next hw]
        rw [hrun]
        by_cases hfit : (cnt : Int) + n ≤ most
        · rw [if_pos hfit]
          simp only
          rw [ih l (by omega) f _ _ hw2 (fun g hg => hp g (List.mem_cons_of_mem _ hg)) (by rw [List.length_append] at hf; omega) (by omega) (by omega)]
          by_cases hall : (cnt : Int) + total ((K.zero, n) :: l) ≤ most
          · rw [if_pos hall, if_pos (by rw [total] at hall; omega), total]
            simp [Nat.add_assoc]
          · rw [if_neg hall, if_neg (by rw [total] at hall; omega)]
        · rw [if_neg hfit, if_neg (by rw [total]; omega)]
      · by_cases hm : 1 < n
        · rw [tell_same hz hm] at hf ⊢
          have hsp := s_pos (n : Int)
          rw [List.length_append] at hf
          obtain ⟨f, rfl⟩ : ∃ f', f = f' + 1 := ⟨f - 1, by omega⟩
          rw [loopG, if_neg (by intro e; have := congrArg List.length e; simp only [List.length_append, List.length_nil] at this; omega)]
          have h1 := gs_back (n : Int) (K.put c ++ tellG K l) (by omega) (by omega)
          have h2 := hb c (hp (c, n) (List.mem_cons_self ..)) hz (tellG K l)
          have hrun : runG K most ⟨s (n : Int) ++ (K.put c ++ tellG K l), g0, cnt⟩ = if (cnt : Int) + n ≤ most then .ok ⟨tellG K l, g0 ++ [(c, n)], cnt + n⟩ else .error 4 := by
            unfold runG sameG
            simp only [h1, h2, List.drop_left, ne_eq, not_true_eq_false, if_false, add_next hw, Int.toNat_natCast]
            rw [if_neg (by omega), if_pos (by omega)]
          rw [hrun]
          by_cases hfit : (cnt : Int) + n ≤ most
          · rw [if_pos hfit]
            simp only
            rw [ih l (by omega) f _ _ hw2 (fun g hg => hp g (List.mem_cons_of_mem _ hg)) (by rw [List.length_append] at hf; omega) (by omega) (by omega)]
            by_cases hall : (cnt : Int) + total ((c, n) :: l) ≤ most
            · rw [if_pos hall, if_pos (by rw [total] at hall; omega), total]
              simp [Nat.add_assoc]
            · rw [if_neg hall, if_neg (by rw [total] at hall; omega)]
          · rw [if_neg hfit, if_neg (by rw [total]; omega)]
        · obtain ⟨O, hO⟩ : ∃ O, O = othersG K.zero ((c, n) :: l) := ⟨_, rfl⟩
          have hOp : 0 < O := by rw [hO]; exact others_pos hz hm l
          have hOl : O ≤ l.length + 1 := by rw [hO]; exact others_le K.zero ((c, n) :: l)
          have hwl := (wf_cut hw).2
          have htt := total_take K.zero _ hwl
          have hlen := drop_others (z := K.zero) ((c, n) :: l)
          have hmem : ∀ g ∈ ((c, n) :: l).take O, p g.1 ∧ g.1 ≠ K.zero ∧ ¬ 1 < g.2 := by
            intro g hg
            obtain ⟨k, hk⟩ := List.getElem?_of_mem hg
            rw [List.getElem?_take] at hk
            split at hk
            · next hko =>
              rw [hO] at hko
              exact ⟨hp g (List.mem_of_getElem? hk), others_mem K.zero _ k g hko hk⟩
            · cases hk
          have hte := tell_other (K := K) hz hm l
          rw [← hO] at hte htt hlen
          obtain ⟨M, hM⟩ : ∃ M, M = ((c, n) :: l).take O := ⟨_, rfl⟩
          obtain ⟨D, hD⟩ : ∃ D, D = ((c, n) :: l).drop O := ⟨_, rfl⟩
          have hMD : (c, n) :: l = M ++ D := by rw [hM, hD, List.take_append_drop]
          have hDl : D.length ≤ m := by rw [hD, List.length_drop, List.length_cons]; omega
          rw [← hM, ← hD] at hte
          rw [← hM] at htt hlen hmem
          have htd : total ((c, n) :: l) = O + total D := by rw [hMD, total_app, htt]
          have htd2 : O + total D < 9223372036854775808 := by rw [← htd, total]; exact ht
          rw [hte] at hf ⊢
          have hsp := s_pos (-((O : Nat) : Int))
          rw [List.length_append] at hf
          obtain ⟨f, rfl⟩ : ∃ f', f = f' + 1 := ⟨f - 1, by omega⟩
          rw [loopG, if_neg (by intro e; have := congrArg List.length e; simp only [List.length_append, List.length_nil] at this; omega)]
          have h1 := gs_back (-((O : Nat) : Int)) (puts K M ++ tellG K D) (by omega) (by omega)
          have hw3 : WF (g0 ++ M ++ D) := by rw [List.append_assoc, ← hMD]; exact hw
          have h2 := many_back hb M g0 (tellG K D) cnt (wf_cut hw3).1 hmem
          rw [hlen] at h2
          have hrun : runG K most ⟨s (-((O : Nat) : Int)) ++ (puts K M ++ tellG K D), g0, cnt⟩ = if (cnt : Int) + O ≤ most then .ok ⟨tellG K D, g0 ++ M, cnt + O⟩ else .error 4 := by
            unfold runG unlikeG
            simp only [h1, List.drop_left, ne_eq, not_true_eq_false, if_false, Int.neg_neg, Int.toNat_natCast, h2]
            rw [if_neg (by omega), if_neg (by omega)]
          rw [hrun, htd]
          by_cases hfit : (cnt : Int) + O ≤ most
          · rw [if_pos hfit]
            simp only
            rw [ih D hDl f _ _ hw3 (fun g hg => hp g (by rw [hMD]; exact List.mem_append_right _ hg)) (by rw [List.length_append] at hf; omega) (by omega) (by omega)]
            by_cases hall : (cnt : Int) + (O + total D : Nat) ≤ most
            · rw [if_pos hall, if_pos (by omega), hMD]
              simp [Nat.add_assoc]
            · rw [if_neg hall, if_neg (by omega)]
          · rw [if_neg hfit, if_neg (by omega)]
/-- all of them nothing -/
theorem told_none {x : List κ} (h : ∀ c ∈ x, c = K.zero) : tellW K (gatherG x) = [] := by
  have hw := wf_gather x
  have hm : ∀ g ∈ gatherG x, g.1 = K.zero := by
    intro g hg
    have hs : g.1 ∈ spreadG (gatherG x) ∨ g.2 = 0 := by
      clear hw
      generalize gatherG x = l at hg
      induction l with
      | nil => cases hg
      | cons a l ih =>
        obtain ⟨c, n⟩ := a
        rcases List.mem_cons.1 hg with rfl | hg
        · rcases Nat.eq_zero_or_pos n with h0 | h0
          · exact .inr h0
          · exact .inl (by rw [spreadG]; exact List.mem_append_left _ (List.mem_replicate.2 ⟨by omega, rfl⟩))
        · rcases ih hg with h | h
          · exact .inl (by rw [spreadG]; exact List.mem_append_right _ h)
          · exact .inr h
    rcases hs with hs | hs
    · rw [spread_gather] at hs; exact h _ hs
    · exfalso
      generalize gatherG x = l at hg hw
      induction l with
      | nil => cases hg
      | cons a l ih =>
        obtain ⟨c, n⟩ := a
        rcases List.mem_cons.1 hg with rfl | hg
        · have := hw.1; simp only at hs; omega
        · exact ih hg hw.2.2
  match gatherG x, hw, hm with
  | [], _, _ => rfl
  | [(c, n)], _, hm =>
    have e : c = K.zero := hm (c, n) (List.mem_cons_self ..)
    show (if c = K.zero then _ else _) = _
    exact if_pos e
  | (c, n) :: (d, k) :: l, hw, hm =>
    exfalso
    have e1 : c = K.zero := hm (c, n) (List.mem_cons_self ..)
    have e2 : d = K.zero := hm (d, k) (List.mem_cons_of_mem _ (List.mem_cons_self ..))
    exact hw.2.1 (d, k) rfl (by rw [e1]; exact e2)
theorem told_some {x : List κ} {c : κ} (hc : c ∈ x) (hz : c ≠ K.zero) : tellW K (gatherG x) = tellG K (gatherG x) := by
  have hx := spread_gather x
  match gatherG x, hx with
  | [], hx => rfl
  | [(d, n)], hx =>
    show (if d = K.zero then _ else _) = _
    refine if_neg (fun e => hz ?_)
    rw [← hx] at hc
    simp [spreadG] at hc
    rw [hc.2, e]
  | _ :: _ :: _, hx => rfl
theorem tell_ne : ∀ {l : List (κ × Nat)}, l ≠ [] → tellG K l ≠ []
  | [], h => absurd rfl h
  | (c, n) :: l, _ => by
    intro e
    have := congrArg List.length e
    by_cases hz : c = K.zero
    · subst hz; rw [tell_none, List.length_append] at this; have := s_pos 0; simp only [List.length_nil] at *; omega
    · by_cases hm : 1 < n
      · rw [tell_same hz hm, List.length_append] at this; have := s_pos (n : Int); simp only [List.length_nil] at *; omega
      · rw [tell_other hz hm, List.length_append] at this; have := s_pos (-((othersG K.zero ((c, n) :: l) : Nat) : Int)); simp only [List.length_nil] at *; omega
theorem read_back (hb : Back K p) {x : List κ} {c : κ} (hp : ∀ c ∈ x, p c) (hc : c ∈ x) (hz : c ≠ K.zero) (hx : x.length < 9223372036854775808) (most : Int) (hm : 0 ≤ most) :
    readG K most (tellW K (gatherG x)) = if (x.length : Int) ≤ most then .ok (gatherG x) else .error 4 := by
  have hpg : ∀ g ∈ gatherG x, p g.1 := by
    intro g hg
    have : g.1 ∈ x := by
      have hw := wf_gather x
      have hs : g.1 ∈ spreadG (gatherG x) := by
        generalize gatherG x = l at hg hw
        induction l with
        | nil => cases hg
        | cons a l ih =>
          obtain ⟨c, n⟩ := a
          rw [spreadG]
          rcases List.mem_cons.1 hg with rfl | hg
          · have := hw.1; exact List.mem_append_left _ (List.mem_replicate.2 ⟨by omega, rfl⟩)
          · exact List.mem_append_right _ (ih hg hw.2.2)
      rwa [spread_gather] at hs
    exact hp _ this
  have ht := total_gather x
  have h := loop_back hb most _ (gatherG x) (Nat.le_refl _) (tellG K (gatherG x)).length [] 0 (by simpa using wf_gather x) hpg (Nat.le_refl _) hm (by rw [ht]; exact hx)
  rw [ht] at h
  have hs := told_some (K := K) hc hz
  unfold readG
  rw [hs, h]
  by_cases hf : (x.length : Int) ≤ most
  · rw [if_pos (by simpa using hf), if_pos hf]
    simp only [List.nil_append]
    rw [if_neg (by omega), hs, if_neg (by simp)]
  · rw [if_neg (by simpa using hf), if_neg hf]
theorem read_nil (most : Int) (hm : 0 ≤ most) : readG K most [] = .ok [] := by
  unfold readG
  simp only [List.length_nil, loopG]
  rw [if_neg (by omega), if_neg (by show ¬ (tellW K [] ≠ []); intro h; exact h rfl)]
/-- what is read is a column's bytes -/
theorem none_wf {most : Int} {z : κ} {r r' : Rs κ} (h : noneG z most r = .ok r') (hw : WF r.gs) : WF r'.gs := by
  unfold noneG at h
  split at h
  · cases h
  · split at h
    · injection h with h; subst h; exact wf_add hw _ _
    · cases h
theorem same_wf {most : Int} {n : Nat} {r r' : Rs κ} (h : sameG K most n r = .ok r') (hw : WF r.gs) : WF r'.gs := by
  unfold sameG at h
  split at h
  · split at h
    · cases h
    · injection h with h; subst h; exact wf_add hw _ _
  · cases h
theorem many_wf : ∀ (n : Nat) {r r' : Rs κ}, manyG K n r = .ok r' → WF r.gs → WF r'.gs
  | 0, r, r', h, hw => by injection h with h; subst h; exact hw
  | n + 1, r, r', h, hw => by
    rw [manyG] at h
    split at h
    · cases h
    · exact many_wf n (r := ⟨r.left.drop (K.get r.left).2.1, addG r.gs (K.get r.left).1 1, r.count + 1⟩) h (wf_add hw (K.get r.left).1 1)
theorem run_wf {most : Int} {r r' : Rs κ} (h : runG K most r = .ok r') (hw : WF r.gs) : WF r'.gs := by
  unfold runG at h
  split at h
  · cases h
  · split at h
    · exact none_wf h hw
    · split at h
      · exact same_wf h hw
      · unfold unlikeG at h
        split at h
        · exact many_wf _ h hw
        · cases h
theorem loop_inv {ok : κ → Prop} (hG : Good K ok) {most : Int} (hm : most ≤ 1000000) : ∀ (f : Nat) {r r' : Rs κ}, loopG K most f r = .ok r' → WF r.gs → Inv ok r → WF r'.gs ∧ Inv ok r'
  | 0, r, r', h, hw, hI => by injection h with h; subst h; exact ⟨hw, hI⟩
  | f + 1, r, r', h, hw, hI => by
    rw [loopG] at h
    split at h
    · injection h with h; subst h; exact ⟨hw, hI⟩
    · split at h
      · cases h
      · next r2 hr => exact loop_inv hG hm f h (run_wf hr hw) (runG_inv hG hm hr hI).1
theorem read_ok {ok : κ → Prop} (hG : Good K ok) {most : Int} (hm : most ≤ 1000000) {B : List UInt8} (hB : B.length ≤ 1000000) {gs : List (κ × Nat)} (h : readG K most B = .ok gs) :
    tellW K (gatherG (spreadG gs)) = B ∧ (∀ c ∈ spreadG gs, ok c) ∧ (spreadG gs).length ≤ 1000000 := by
  unfold readG at h
  split at h
  · cases h
  · next r hr =>
    split at h
    · cases h
    · split at h
      · cases h
      · next hq =>
        injection h with h
        subst h
        obtain ⟨h1, h2⟩ := loop_inv hG hm _ hr trivial ⟨by simp; exact hB, rfl, Nat.zero_le _, fun g hg => by cases hg⟩
        refine ⟨by rw [gather_spread h1]; exact Decidable.byContradiction hq, ?_, by rw [spread_len, h2.tot]; exact h2.cnt⟩
        have ha := h2.all
        clear hr h1 h2 hq
        generalize r.gs = l at ha
        intro c hc
        induction l with
        | nil => cases hc
        | cons a l ih =>
          obtain ⟨d, n⟩ := a
          rw [spreadG] at hc
          rcases List.mem_append.1 hc with hc | hc
          · rw [(List.mem_replicate.1 hc).2]; exact ha (d, n) (List.mem_cons_self ..)
          · exact ih (fun g hg => ha g (List.mem_cons_of_mem _ hg)) hc
end
/-- cells that may be -/
def mayU (c : Bool × Int) : Prop := (c.1 = false → c.2 = 0) ∧ okU c
def mayS (c : Bool × Int) : Prop := (c.1 = false → c.2 = 0) ∧ okS c
def mayW (c : Bool × List UInt8) : Prop := (c.1 = false → c.2 = []) ∧ okW c
theorem backU : Back kU mayU := by
  rintro ⟨i, x⟩ ⟨h0, h1, h2⟩ hz R
  simp only at h0 h1 h2
  have hi : i = true := by
    cases i with
    | true => rfl
    | false => exact absurd (by rw [h0 rfl]; rfl) hz
  subst hi
  have hg : gu (kU.put (true, x) ++ R) = (x.toNat, (u x.toNat).length, 0) := gu_back x.toNat R (by omega)
  show (if (gu (kU.put (true, x) ++ R)).2.2 ≠ 0 then _ else if 9223372036854775807 < (gu (kU.put (true, x) ++ R)).1 then _ else ((true, ((gu (kU.put (true, x) ++ R)).1 : Int)), (gu (kU.put (true, x) ++ R)).2.1, 0)) = _
  rw [hg]
  rw [if_neg (by simp), if_neg (by simp only; omega)]
  show ((true, ((x.toNat : Nat) : Int)), (u x.toNat).length, 0) = ((true, x), (u x.toNat).length, 0)
  rw [show ((x.toNat : Nat) : Int) = x by omega]
theorem backS : Back kS mayS := by
  rintro ⟨i, x⟩ ⟨h0, h1, h2⟩ hz R
  simp only at h0 h1 h2
  have hi : i = true := by
    cases i with
    | true => rfl
    | false => exact absurd (by rw [h0 rfl]; rfl) hz
  subst hi
  have hg : gs (kS.put (true, x) ++ R) = (x, (s x).length, 0) := gs_back x R h1 h2
  show (if (gs (kS.put (true, x) ++ R)).2.2 ≠ 0 then _ else ((true, (gs (kS.put (true, x) ++ R)).1), (gs (kS.put (true, x) ++ R)).2.1, 0)) = _
  rw [hg]
  rw [if_neg (by simp)]
  rfl
theorem backW : Back kW mayW := by
  rintro ⟨i, x⟩ ⟨h0, h1⟩ hz R
  simp only at h0
  have h1' : x.length ≤ 1000000 := h1
  have hi : i = true := by
    cases i with
    | true => rfl
    | false => exact absurd (by rw [h0 rfl]; rfl) hz
  subst hi
  have hg : gu (kW.put (true, x) ++ R) = (x.length, (u x.length).length, 0) := by
    have h := gu_back x.length (x ++ R) (by omega)
    rw [← List.append_assoc] at h
    exact h
  show (if (gu (kW.put (true, x) ++ R)).2.2 ≠ 0 then _ else if (kW.put (true, x) ++ R).length - (gu (kW.put (true, x) ++ R)).2.1 < (gu (kW.put (true, x) ++ R)).1 then _ else ((true, ((kW.put (true, x) ++ R).drop (gu (kW.put (true, x) ++ R)).2.1).take (gu (kW.put (true, x) ++ R)).1), (gu (kW.put (true, x) ++ R)).2.1 + (gu (kW.put (true, x) ++ R)).1, 0)) = _
  rw [hg]
  have hl : (kW.put (true, x) ++ R).length = (u x.length).length + x.length + R.length := by show (u x.length ++ x ++ R).length = _; simp only [List.length_append]
  rw [if_neg (by simp), if_neg (by rw [hl]; simp only; omega)]
  show ((true, ((u x.length ++ x ++ R).drop (u x.length).length).take x.length), (u x.length).length + x.length, 0) = ((true, x), (u x.length ++ x).length, 0)
  rw [List.append_assoc, List.drop_left, List.take_left, List.length_append]
end Go.Proofs.Ytcoohjjjiakdjaa.RleM
