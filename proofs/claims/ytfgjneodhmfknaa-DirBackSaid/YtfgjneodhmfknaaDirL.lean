/-
  Layer 16's law DirBack.
-/
import Derived.Test.YtfgjneodhmfknaaDirK
namespace Go.Proofs.Ytfgjneodhmfknaa
open Go.RowKit Mem Go.Lib LebM DirM
attribute [local go_sem ↓] Go.wp_at_zero Go.wp_at_succ
set_option linter.unusedVariables false

/-- what the law asks, without any program -/
theorem back_facts (S : List UInt8) (D : List (List UInt8)) (j : Nat) (x : UInt8) (hj : j < (putC (colsW S D)).length) :
    getC (putC (colsW S D)) = (full (colsW S D), 0) ∧ getC ((putC (colsW S D)).take j) = ([], 2) ∧ getC (putC (colsW S D) ++ [x]) = ([], 3) := by
  have hok := fullW_ok S D
  have hl : (full (colsW S D)).length ≤ 64 := by have h1 := full_len (colsW S D); have h2 := colsW_len S D; omega
  refine ⟨get_put hok hl, get_front hok hl hj, get_more hok hl (R := [x]) (by simp)⟩
set_option maxRecDepth 100000 in
set_option maxHeartbeats 6400000 in
theorem back16_law (A : Option Addr) (n c : Nat) (S : List UInt8) (A' : Option Addr) (n' c' : Nat) (D : List (List UInt8)) (cut : Nat) (more : UInt8) (w : World) (hS : Rd w A n (S.map bytec)) (hD : Rd w A' n' (D.map strc)) (hn : n ≤ maxLen) (hn' : n' ≤ maxLen) (hm : ∀ d ∈ D, d.length ≤ maxLen) (hcut : cut < 65536) :
    Calls Try.prog 5 #[.slice A n c, .slice A' n' c', .int .u16 (cut : Int), bytec more] w fun e w' => e = .returned (.bool true) ∧ Fr (fun _ => False) w w' := by
  have haw := awake16_any w
  have hco := fun w h1 h2 => lcols_any A n c S A' n' c' D w h1 h2 hn hn' hm
  have hwl := colsW_len S D
  have hwo := colsW_ok S D
  have hpl := putW_len S D
  obtain ⟨W, hW⟩ : ∃ W, W = colsW S D := ⟨_, rfl⟩
  obtain ⟨P, hP⟩ : ∃ P, P = putC W := ⟨_, rfl⟩
  have hfl := full_len W
  obtain ⟨j, hj⟩ : ∃ j, j = cut % P.length := ⟨_, rfl⟩
  have hjl : j < P.length := by
    rw [hj]
    refine Nat.mod_lt _ ?_
    rw [hP, hW]
    have := hpl.1
    omega
  have hfa := back_facts S D j more (by rw [← hW, ← hP]; exact hjl)
  rw [← hW] at hco hwl hwo hpl hfa
  rw [← hP] at hpl hfa
  obtain ⟨F, hF⟩ : ∃ F, F = full W := ⟨_, rfl⟩
  rw [← hF] at hfa hfl
  have hff : full W = F := hF.symm
  obtain ⟨np, hnp⟩ : ∃ np, P.length = np := ⟨_, rfl⟩
  obtain ⟨nW, hnW⟩ : ∃ nW, W.length = nW := ⟨_, rfl⟩
  obtain ⟨nF, hnF⟩ : ∃ nF, F.length = nF := ⟨_, rfl⟩
  rw [hnW] at hwl hco
  rw [hnp] at hpl hjl hj
  rw [hnF, hnW] at hfl
  have hnp2 : np ≤ 13000 := hpl.2.2.1
  have hnpp : 0 < np := by omega
  have HAW := Lib.hid haw
  have HCO := Lib.hid hco
  have HWO := Lib.hid hwo
  have HFA := Lib.hid hfa
  have HFF := Lib.hid hff
  have HNP := Lib.hid hnp
  have HNW := Lib.hid hnW
  have HNF := Lib.hid hnF
  have HJ := Lib.hid hj
  have HS := Lib.hid hS
  have HD := Lib.hid hD
  have HP := Lib.hid hP
  obtain ⟨xb, hxb⟩ : ∃ xb : Int, xb = (more.toNat : Int) := ⟨_, rfl⟩
  rw [show bytec more = .int .u8 xb by rw [hxb]; rfl]
  have HMB : Hid (bytec more = .int .u8 xb) := Lib.hid (by rw [hxb]; rfl)
  have r1 : IntKind.i64.wrap (cut : Int) = (cut : Int) := by rw [IntKind.wrap_i64]; omega
  have r2 : (cut : Int).tmod (np : Int) = (j : Int) := by rw [hj]; exact (Int.ofNat_tmod cut np).symm
  have t0 : ((np : Int) == 0) = false := by simp; omega
  have t0' : (np == 0) = false := by simp; omega
  clear haw hco hwo hpl hfa hff hnp hnW hnF hj hS hD hn hn' hm hW hP hF hxb
  go_enter Try.func5, Try.ntmps5
  go_wp2_with fail
  refine HAW.out.mono ?_
  rintro e w1 ⟨rfl, hf1⟩
  have HF1 := Lib.hid hf1
  clear hf1
  go_wp2_with fail
  refine (HCO.out w1 (HS.out.fr HF1.out (fun _ _ h => h)) (HD.out.fr HF1.out (fun _ _ h => h))).mono ?_
  rintro e w2 ⟨A1, c1, A2, c2, L, rfl, hL, hcl, hpr, hf2⟩
  have hpu := put_any A1 nW c1 L w2 hcl (by omega) (by
    intro x hx
    have h := HWO.out x.v (by rw [← hL]; exact List.mem_map_of_mem hx)
    have h2 : x.v.1 = x.id := rfl
    omega) (by
    intro x hx
    have h := HWO.out x.v (by rw [← hL]; exact List.mem_map_of_mem hx)
    have h2 : x.v.2 = x.B := rfl
    rw [h2] at h
    omega)
  rw [hL, ← HP.out] at hpu
  unfold Gives at hpu
  rw [HNP.out] at hpu
  have HPU := Lib.hid hpu
  have HPR := Lib.hid hpr
  have HF2 := Lib.hid (HF1.out.trans hf2 (fun _ _ h => h))
  clear hL hcl hpr hf2 hpu
  go_wp2_with fail
  refine HPU.out.mono ?_
  rintro e w3 ⟨A3, c3, rfl, ho3, hf3⟩
  have hc3 := ho3.cap
  rw [HNP.out] at hc3
  have hr3 := ho3.rd
  rw [HNP.out] at hr3
  have hga := get_any A3 np c3 P w3 hr3 hc3.1 (by omega)
  rw [HFA.out.1] at hga
  have HGA := Lib.hid hga
  have HR3 := Lib.hid hr3
  have HF3 := Lib.hid (HF2.out.trans hf3 (fun _ _ h => h))
  have HPR3 := Lib.hid (HPR.out.fr hf3 (fun _ _ h => h))
  have hcc3 : np ≤ c3 := hc3.1
  have hjc : j ≤ c3 := by omega
  clear ho3 hf3 hr3 hga hc3
  go_wp2_with fail
  refine HGA.out.mono ?_
  rintro e w4 ⟨A4, c4, L4, rfl, hL4, hco4, hf4⟩
  have hl4 : L4.length = nF := by rw [map_len hL4]; exact HNF.out
  rw [hl4] at hco4 ⊢
  have HL4 := Lib.hid hL4
  have HCO4 := Lib.hid hco4
  have HF4 := Lib.hid (HF3.out.trans hf4 (fun _ _ h => h))
  have HR4 := Lib.hid (HR3.out.fr hf4 (fun _ _ h => h))
  have HPR4 := Lib.hid (HPR3.out.fr hf4 (fun _ _ h => h))
  have htk := rd_take HR4.out (show j ≤ np by omega)
  rw [← List.map_take] at htk
  have hgb := get_any A3 j c3 (P.take j) w4 htk hjc (by omega)
  rw [HFA.out.2.1] at hgb
  have HGB := Lib.hid hgb
  clear hL4 hco4 hf4 htk hgb hl4
  go_wp2_with fail
  refine HGB.out.mono ?_
  rintro e w5 ⟨A5, c5, L5, rfl, hL5, _, hf5⟩
  obtain rfl : L5 = [] := List.map_eq_nil_iff.1 hL5
  have HF5 := Lib.hid (HF4.out.trans hf5 (fun _ _ h => h))
  have HR5 := Lib.hid (HR4.out.fr hf5 (fun _ _ h => h))
  have HPR5 := Lib.hid (HPR4.out.fr hf5 (fun _ _ h => h))
  have HCO5 := Lib.hid (HCO4.out.fr hf5)
  clear hL5 hf5
  have hmade := World.ownsRow_made (base := w5.heap.size) (e := 5) (size := 1) w5 #[] 0 (Nat.le_refl _) (Nat.zero_le _) rfl
  have HMD := Lib.hid hmade
  have hra := HR5.out.fr ((Fr.refl (fun _ => False) w5).alloc (.cells #[] 5)) (fun _ _ h => h)
  have HRA := Lib.hid hra
  clear hmade hra
  go_wp2_with (at_builtin; refine wpList_appN u8T _ rfl _ _ rfl w5.heap.size _ _ _ rfl HMD.out A3 _ c3 _ rfl HRA.out (bytec_one _) np (by omega) (by unfold maxLen; omega) (by omega) (by simp) ?_)
  intro A6 c6 w6 _ _ hown6 hfr6 _
  have hf6 : Fr (fun _ => False) w5 w6 := ((Fr.refl (fun _ => False) w5).alloc _).trans hfr6 (fun b hb h => by simp [Value.ownBlock] at h; omega)
  have ho6 : w6.ownsRow w5.heap.size 5 1 (.slice A6 np c6) np (P.map bytec) := hown6
  have HO6 := Lib.hid ho6
  have HF56 := Lib.hid hf6
  have HSZ : Hid (w5.heap.size ≤ w6.heap.size) := Lib.hid hf6.size
  clear hown6 hfr6 hf6 ho6
  obtain ⟨np1, hnp1⟩ : ∃ np1, np1 = np + 1 := ⟨_, rfl⟩
  have hnp1l : np1 ≤ 13001 := by omega
  have HN1 := Lib.hid hnp1
  clear hnp1
  have HOA := Lib.hid (HO6.out.alloc (.cells #[.int .u8 xb] 5))
  go_wp2_with (at_builtin; refine wpList_appN u8T _ rfl _ _ rfl w5.heap.size _ _ _ rfl HOA.out _ _ _ _ rfl (Rd.one _ _ _) (one_one _ _) np1 HN1.out (by unfold maxLen; omega) (by omega) (by have := HSZ.out; simp; omega) ?_)
  intro A7 c7 w7 hle7 _ hown7 hfr7 _
  have hr7 : Rd w7 A7 np1 ((P ++ [more]).map bytec) := by rw [List.map_append, List.map_singleton, HMB.out]; exact Rd.of_own hown7
  have hf7 : Fr (fun _ => False) w5 w7 := (HF56.out.alloc _).trans hfr7 (fun b hb h => by have h1 := (HO6.out.lt b h).1; omega)
  have HF7 := Lib.hid (HF5.out.trans hf7 (fun _ _ h => h))
  have HPR7 := Lib.hid (HPR5.out.fr hf7 (fun _ _ h => h))
  have HCO7 := Lib.hid (HCO5.out.fr hf7)
  have hgc := get_any A7 np1 c7 (P ++ [more]) w7 hr7 hle7 (by omega)
  rw [HFA.out.2.2] at hgc
  have HGC := Lib.hid hgc
  clear hr7 hf7 hgc hown7 hfr7
  go_wp2_with fail
  refine HGC.out.mono ?_
  rintro e w8 ⟨A8, c8, L8, rfl, hL8, _, hf8⟩
  obtain rfl : L8 = [] := List.map_eq_nil_iff.1 hL8
  have HF8 := Lib.hid (HF7.out.trans hf8 (fun _ _ h => h))
  have hsa := lsame_any A4 nF c4 L4 A2 nW c2 W w8 (HCO7.out.fr hf8) (HPR7.out.fr hf8 (fun _ _ h => h)) (by omega) (by omega)
  rw [show decide (L4.map Cl.v = full W) = true from decide_eq_true (by rw [HL4.out, HFF.out])] at hsa
  have HSA := Lib.hid hsa
  clear hL8 hf8 hsa
  go_wp2_with fail
  refine HSA.out.mono ?_
  rintro e w9 ⟨rfl, hf9⟩
  have HF9 := Lib.hid (HF8.out.trans hf9 (fun _ _ h => h))
  clear hf9
  go_wp2_with fail
  go_ret
  exact ⟨rfl, HF9.out⟩
end Go.Proofs.Ytfgjneodhmfknaa
