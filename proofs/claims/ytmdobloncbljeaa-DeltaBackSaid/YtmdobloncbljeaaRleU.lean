/-
  Layer 11, the program: Put, Get and their like (written by gen11.py out of rleU.src).
-/
import Derived.Test.YtmdobloncbljeaaRleT
namespace Go.Proofs.Ytmdobloncbljeaa
open Go.RowKit Mem Go.Lib RleM LebM
attribute [local go_sem ↓] Go.wp_at_zero Go.wp_at_succ
set_option linter.unusedVariables false

theorem mem_gather {κ : Type} [DecidableEq κ] {p : κ → Prop} {L : List κ} (h : ∀ x ∈ L, p x) : ∀ g ∈ gatherG L, p g.1 := by
  revert h
  refine snoc_ind (p := fun L => (∀ x ∈ L, p x) → ∀ g ∈ gatherG L, p g.1) (fun _ g hg => by cases hg) (fun l x ih h g hg => ?_) L
  rw [gather_snoc] at hg
  rcases mem_addG hg with e | ⟨g', hg', e⟩
  · rw [e]; exact h x (by simp)
  · rw [← e]; exact ih (fun y hy => h y (by simp [hy])) g' hg'
theorem kdSzU : (Try.prog.info? 46).map (·.size) = some 2 := by kernel_rfl
theorem kdSzS : (Try.prog.info? 46).map (·.size) = some 2 := by kernel_rfl
theorem kd_oneS : ([Value.func (.func 30) #[] #[], .func (.func 31) #[] #[]] : List Value).toArray.all (·.oneCell') = true := by simp [Value.oneCell']
set_option maxRecDepth 100000 in
theorem kindS_any (w : World) : Calls Try.prog 21 #[] w fun e w' => e = .returned (.agg #[.func (.func 30) #[] #[], .func (.func 31) #[] #[]]) ∧ Fr (fun _ => False) w w' := by
  obtain ⟨w1, hw1⟩ : ∃ w1, w.alloc (.cells #[Value.nilFunc, Value.nilFunc] 46) = w1 := ⟨_, rfl⟩
  obtain ⟨q, hq⟩ : ∃ q, w.heap.size = q := ⟨_, rfl⟩
  have hf1 : Fr (fun _ => False) w w1 := by rw [← hw1]; exact (Fr.refl _ _).alloc _
  have hqb : Row w1 q 46 [Value.nilFunc, Value.nilFunc] := by rw [← hw1, ← hq]; exact Row.new w _ _
  have HF1 := Lib.hid hf1
  have HQB := Lib.hid hqb
  have HQ := Lib.hid hq
  clear hf1 hqb
  go_enter Try.func21, Try.ntmps21
  go_upto_region 1 with fail
  clear hw1 hq
  go_wp2_with (refine store_st kdSzS rfl (.tmp 0) (.tmp 1) rfl q (by rfl) [.func (.func 30) #[] #[], .func (.func 31) #[] #[]] (by rfl) _ _ HQB.out rfl rfl kd_oneS ?_)
  intro w5 hr5 hf5
  have HF5 : Hid (Fr (fun _ => False) w w5) := Lib.hid (HF1.out.trans hf5 (fun b hb h => by have h1 := HQ.out; omega))
  have d0 : w5.cell? ⟨q, 0, none⟩ = some (.func (.func 30) #[] #[]) := hr5.cell rfl
  have d1 : w5.cell? ⟨q, 1, none⟩ = some (.func (.func 31) #[] #[]) := hr5.cell rfl
  clear hr5 hf5
  go_wp2_with fail
  exact bodyPost_ret (v := .agg #[.func (.func 30) #[] #[], .func (.func 31) #[] #[]]) (by simp [results, Try.results21, go_sem, d0, d1]) rfl ⟨rfl, HF5.out⟩
set_option maxRecDepth 100000 in
set_option maxHeartbeats 1600000 in
theorem pPutS_any (A : Option Addr) (n c : Nat) (L : List (Bool × Int)) (w : World) (hL : Cls nv w A n L) (hn : n ≤ 1000000) (hok : ∀ x ∈ L, okS x) :
    Calls Try.prog 13 #[.slice A n c] w (Gives w (tellW kS (gatherG L))) := by
  have HL := Lib.hid hL
  have HLN := Lib.hid hL.1
  have HOK := Lib.hid hok
  clear hL hok
  go_enter Try.func13, Try.ntmps13
  go_wp2_with fail
  refine (kindS_any w).mono ?_
  rintro e w1 ⟨rfl, hf1⟩
  have HF1 := Lib.hid hf1
  clear hf1
  go_wp2_with fail
  refine (gatherC_any A n c L w1 (HL.out.fr HF1.out (fun _ _ h => h)) hn).mono ?_
  rintro e w2 ⟨A2, c2, rfl, hO2, hf2⟩
  have hgl := gather_len L
  rw [HLN.out] at hgl
  have hcap := (own_cap hO2).2.1
  have htell := tellS_any A2 (gatherG L).length c2 (gatherG L) w2 hO2.grs hcap (fun ad e => (hO2.lt ad.block (by rw [e]; rfl)).2) (by omega) (mem_gather HOK.out) (fun g hg => by have h1 := gather_mem hg; have h2 := HLN.out; omega)
  have HTELL := Lib.hid htell
  have HF2 := Lib.hid (HF1.out.trans hf2 (fun _ _ h => h))
  obtain ⟨NG, hNG⟩ : ∃ NG, NG = (gatherG L).length := ⟨_, rfl⟩
  rw [← hNG] at HTELL ⊢
  clear hO2 hf2 hgl hcap htell HF1 hNG
  go_wp2_with fail
  refine HTELL.out.mono ?_
  rintro e w3 ⟨A3, c3, rfl, hO3, hf3⟩
  have HO3 := Lib.hid (hO3.base HF2.out.size)
  have HF3 := Lib.hid (HF2.out.trans hf3 (fun _ _ h => h))
  clear hO3 hf3 HTELL
  go_wp2_with fail
  go_ret
  exact ⟨A3, c3, rfl, HO3.out, HF3.out⟩
set_option maxRecDepth 100000 in
set_option maxHeartbeats 1600000 in
theorem pGetS_any (A : Option Addr) (n c : Nat) (B : List UInt8) (most : Int) (w : World) (hr : Rd w A n (B.map bytec)) (hc : n ≤ c) (hn : n ≤ 1000000) (hm0 : -9223372036854775808 ≤ most) (hm1 : most ≤ 1000000) :
    Calls Try.prog 18 #[.slice A n c, .int .i64 most] w fun e w' =>
      ∃ A' c', e = .returned (.tuple #[.slice A' (toC (readG kS most B)).1.length c', .int .i64 ((toC (readG kS most B)).2 : Nat)]) ∧ OwnC nv 30 w' w.heap.size A' c' (toC (readG kS most B)).1 ∧ Fr (fun _ => False) w w' := by
  have HR := Lib.hid hr
  have hread := fun (w1 : World) (hf : Fr (fun _ => False) w w1) => readS_any A n c B most w1 (HR.out.fr hf (fun _ _ h => h)) hc hn hm0 hm1
  obtain ⟨X, hX⟩ : ∃ X, X = toC (readG kS most B) := ⟨_, rfl⟩
  rw [← hX] at hread ⊢
  have HREAD := Lib.hid hread
  clear hr hread hX
  go_enter Try.func18, Try.ntmps18
  go_wp2_with fail
  refine (kindS_any w).mono ?_
  rintro e w1 ⟨rfl, hf1⟩
  have HF1 := Lib.hid hf1
  clear hf1
  go_wp2_with fail
  refine (HREAD.out w1 HF1.out).mono ?_
  rintro e w2 ⟨A2, c2, rfl, hO2, hf2⟩
  have HO2 := Lib.hid (hO2.base HF1.out.size)
  have HF2 := Lib.hid (HF1.out.trans hf2 (fun _ _ h => h))
  clear hO2 hf2
  go_wp2_with fail
  refine bodyPost_ret (v := .tuple #[.slice A2 X.1.length c2, .int .i64 (X.2 : Nat)]) (by simp [results, Try.results18, go_sem]) rfl ⟨A2, c2, rfl, HO2.out, HF2.out⟩

end Go.Proofs.Ytmdobloncbljeaa
