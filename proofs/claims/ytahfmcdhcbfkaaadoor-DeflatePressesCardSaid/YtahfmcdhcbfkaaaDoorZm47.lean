/-
  Layer 9's reference: Fixed, Dynamic.
  Layer 9's reference: Press.
-/
import Derived.Test.YtahfmcdhcbfkaaaDoorZm43
import Derived.Test.YtahfmcdhcbfkaaaDoorZm08
import Derived.Test.YtahfmcdhcbfkaaaDoorZm41
import Derived.Test.YtahfmcdhcbfkaaaDoorZm07
import Derived.Test.YtahfmcdhcbfkaaaDoorZm44
import Derived.Test.YtahfmcdhcbfkaaaDoorZm46
import Derived.Test.YtahfmcdhcbfkaaaDoorZm42
namespace Go.Proofs.YtahfmcdhcbfkaaaDoor
open Go.RowKit BitsM Mem Go.Lib
attribute [local go_sem ↓] Go.wp_at_zero Go.wp_at_succ
set_option linter.unusedVariables false
set_option maxRecDepth 100000

theorem fixA_15 : (∀ x ∈ SyM.fixA, x ≤ 15) ∧ ∀ x ∈ SyM.fixB, x ≤ 15 := by decide +kernel
theorem bits3_one (a b c : Int) : ∀ u ∈ [Value.int .u8 a, .int .u8 b, .int .u8 c], u.oneCell' = true := by
  intro u hu
  simp at hu
  rcases hu with rfl | rfl | rfl <;> rfl

set_option maxHeartbeats 3200000 in
theorem rFixed_any (A : Option Addr) (n c : Nat) (B : List UInt8) (w : World) (hr : Rd w A n (B.map bytec)) (hn : n ≤ 10000) :
    Calls Tryd.prog 19 #[.slice A n c] w fun e w' => ∃ A' c', e = .returned (.slice A' (DeM.fixedBits B).length c') ∧ w'.ownsRow w.heap.size 5 1 (.slice A' (DeM.fixedBits B).length c') (DeM.fixedBits B).length ((DeM.fixedBits B).map bitc) ∧ Fr (fun _ => False) w w' := by
  have hbl : B.length = n := by simpa using hr.1
  obtain ⟨T, hT⟩ : ∃ T, T = LzM.press B := ⟨_, rfl⟩
  have hTn : T.length ≤ n := by rw [hT, ← hbl]; exact LzV.press_len B
  obtain ⟨X, hX⟩ : ∃ X, X = DeM.toksBits SyM.fixA SyM.fixB T := ⟨_, rfl⟩
  have hXl := toksBits_len SyM.fixA SyM.fixB T
  rw [← hX] at hXl
  obtain ⟨N, hN⟩ : ∃ N, N = 3 + X.length := ⟨_, rfl⟩
  have hfix : DeM.fixedBits B = [true, true, false] ++ X := by rw [hX, hT]; rfl
  have hfl : (DeM.fixedBits B).length = N := by rw [hfix, hN]; simp; omega
  rw [hfl]
  have HP : Hid (∀ w', Fr (fun _ => False) w w' → Calls Tryd.prog 36 #[.slice A n c] w' fun e w'' => ∃ A' c', e = .returned (.slice A' T.length c') ∧ OwnT w'' w'.heap.size A' c' T ∧ Fr (fun _ => False) w' w'') := Lib.hid (fun w' hf => by
    rw [hT]
    exact rPress_any A n c B w' (hr.fr hf (fun _ _ h => h)) (by omega))
  have HFX := Lib.hid hfix
  have HN := Lib.hid hN
  have HX := Lib.hid hX
  have HTF : Hid (∀ t ∈ T, Fits t) := Lib.hid (by rw [hT]; exact press_fits B)
  have HTN := Lib.hid hTn
  have hNb : N ≤ 10000000 := by omega
  obtain ⟨tn, htn⟩ : ∃ t, t = T.length := ⟨_, rfl⟩
  rw [← htn] at HP
  have HTL := Lib.hid htn
  have htb : tn ≤ 10000 := by omega
  clear hr hbl hT hTn hX hXl hN hfix hfl htn
  go_enter Tryd.func19, Tryd.ntmps19
  go_wp2_with fail
  refine (rAgreed_any w).mono ?_
  rintro e w1 ⟨A1, c1, A2, c2, rfl, ho1, ho2, hf1⟩
  have HO1 := Lib.hid (And.intro ho1 ho2)
  have HF1 := Lib.hid hf1
  clear ho1 ho2 hf1
  go_wp2_with fail
  obtain ⟨w2, hw2⟩ : ∃ w2, w2 = w1.alloc (.cells #[Value.int .u8 1, .int .u8 1, .int .u8 0] 5) := ⟨_, rfl⟩
  obtain ⟨g, hg⟩ : ∃ g, g = w1.heap.size := ⟨_, rfl⟩
  have hown : w2.ownsRow w.heap.size 5 1 (.slice (some ⟨g, 0, none⟩) 3 3) 3 [.int .u8 1, .int .u8 1, .int .u8 0] := by
    rw [hw2]
    exact own_full hg (by rw [hg]; exact HF1.out.size) _ [.int .u8 1, .int .u8 1, .int .u8 0] (by simp [maxLen])
  have hf12 : Fr (fun _ => False) w1 w2 := by rw [hw2]; exact (Fr.refl _ w1).alloc _
  rw [← hw2, ← hg]
  have HG := Lib.hid hown
  have HF2 := Lib.hid (HF1.out.trans hf12 (fun _ _ h => h))
  have HO2 : Hid (Rd w2 A1 288 (SyM.fixA.map natc) ∧ Rd w2 A2 32 (SyM.fixB.map natc) ∧ (∀ ad, A1 = some ad → ad.block < w2.heap.size) ∧ ∀ ad, A2 = some ad → ad.block < w2.heap.size) := Lib.hid (by
    have h1 := hf12.own HO1.out.1 (fun _ _ h => h)
    have h2 := hf12.own HO1.out.2 (fun _ _ h => h)
    exact ⟨Rd.of_own h1, Rd.of_own h2, fun ad h => (h1.lt ad.block (by rw [h]; rfl)).2, fun ad h => (h2.lt ad.block (by rw [h]; rfl)).2⟩)
  clear hown hf12 hw2 hg HO1
  refine (HP.out w2 HF2.out).mono ?_
  rintro e w3 ⟨A3, c3, rfl, ho3, hf3⟩
  have ht3 := ho3.toks
  rw [← HTL.out] at ht3
  have HTK := Lib.hid (rTokens_any A3 A1 A2 tn c3 288 c1 32 c2 T SyM.fixA SyM.fixB w3 ht3 htb HTF.out (HO2.out.1.fr hf3 (fun _ _ h => h)) (HO2.out.2.1.fr hf3 (fun _ _ h => h)) (fun ad h => Nat.lt_of_lt_of_le (HO2.out.2.2.1 ad h) hf3.size) (fun ad h => Nat.lt_of_lt_of_le (HO2.out.2.2.2 ad h) hf3.size) (by omega) (by omega) (by omega) (by omega) fixA_15.1 fixA_15.2)
  have HF3 := Lib.hid (HF2.out.trans hf3 (fun _ _ h => h))
  have HG3 := Lib.hid (hf3.own HG.out (fun _ _ h => h))
  clear ho3 ht3 hf3 HP HO2 HG
  go_wp2_with fail
  refine HTK.out.mono ?_
  rintro e w4 ⟨A4, c4, rfl, ho4, hf4⟩
  rw [← HX.out] at ho4 ⊢
  have HR4 := Lib.hid (Rd.of_own ho4)
  have HF4 := Lib.hid (HF3.out.trans hf4 (fun _ _ h => h))
  have HG4 := Lib.hid (hf4.own HG3.out (fun _ _ h => h))
  obtain ⟨xn, hxn⟩ : ∃ x, x = X.length := ⟨_, rfl⟩
  rw [← hxn] at HR4 ⊢
  have HXN : Hid (N = 3 + xn) := Lib.hid (by rw [HN.out, hxn])
  have hbase : w.heap.size ≤ w4.heap.size := HF4.out.size
  have HBS := Lib.hid hbase
  clear ho4 hf4 HTK HG3 hxn hbase
  go_wp2_with (at_builtin; refine wpList_appN u8T _ rfl _ _ rfl w.heap.size _ 3 _ rfl HG4.out _ xn _ _ rfl HR4.out (bitc_one _) N HXN.out (by unfold maxLen; omega) (by omega) HBS.out ?_)
  intro A5 c5 w5 _ _ hown5 hf5 _
  have HO5 : Hid (w5.ownsRow w.heap.size 5 1 (.slice A5 N c5) N ((DeM.fixedBits B).map bitc)) := Lib.hid (own_list hown5 (by rw [HFX.out]; simp [bitc]))
  have HF5 : Hid (Fr (fun _ => False) w w5) := Lib.hid (HF4.out.trans hf5 (fun b hb h => by have h1 := (HG4.out.lt b h).1; omega))
  clear hown5 hf5
  go_wp2_with fail
  go_ret
  exact ⟨A5, c5, rfl, HO5.out, HF5.out⟩

set_option maxHeartbeats 6400000 in
theorem rDynamic_any (A : Option Addr) (n c : Nat) (B : List UInt8) (w : World) (hr : Rd w A n (B.map bytec)) (hn : n ≤ 10000) :
    Calls Tryd.prog 20 #[.slice A n c] w fun e w' => ∃ A' c', e = .returned (.slice A' (DeM.dynBits B).length c') ∧ w'.ownsRow w.heap.size 5 1 (.slice A' (DeM.dynBits B).length c') (DeM.dynBits B).length ((DeM.dynBits B).map bitc) ∧ Fr (fun _ => False) w w' := by
  have hbl : B.length = n := by simpa using hr.1
  obtain ⟨T, hT⟩ : ∃ T, T = LzM.press B := ⟨_, rfl⟩
  have hTn : T.length ≤ n := by rw [hT, ← hbl]; exact LzV.press_len B
  obtain ⟨dl1, dl2, dl3, dl4, dl5, dl6⟩ := dyn_is T
  obtain ⟨dw1, dw2⟩ := weigh_le T SyM.start 1 start_le.1 start_le.2
  have hwl := SyM.weigh_length T SyM.start
  rw [start_len.1, start_len.2] at hwl
  obtain ⟨U, hU⟩ : ∃ U, U = (SyM.weigh T SyM.start).1 := ⟨_, rfl⟩
  obtain ⟨V, hV⟩ : ∃ V, V = (SyM.weigh T SyM.start).2 := ⟨_, rfl⟩
  obtain ⟨x, hx⟩ : ∃ x, x = DeM.dynX T := ⟨_, rfl⟩
  obtain ⟨y, hy⟩ : ∃ y, y = DeM.dynY T := ⟨_, rfl⟩
  have hxU : x = HuffM.lens 15 U := by rw [hx, hU]; rfl
  have hyV : y = HuffM.lens 15 V := by rw [hy, hV]; rfl
  have hpl := dyn_put T
  rw [← hx, ← hy] at hpl
  rw [← hx] at dl1 dl3
  rw [← hy] at dl2 dl4
  rw [← hU] at dl5 dw1 hwl
  rw [← hV] at dl6 dw2 hwl
  obtain ⟨P, hP⟩ : ∃ P, P = CoM.putBits (CoM.trimL x 257) (CoM.trimL y 1) := ⟨_, rfl⟩
  rw [← hP] at hpl
  obtain ⟨X, hX⟩ : ∃ X, X = DeM.toksBits x y T := ⟨_, rfl⟩
  have hXl := toksBits_len x y T
  rw [← hX] at hXl
  obtain ⟨N1, hN1⟩ : ∃ N, N = 3 + P.length := ⟨_, rfl⟩
  obtain ⟨N, hN⟩ : ∃ N, N = N1 + X.length := ⟨_, rfl⟩
  have hfix : DeM.dynBits B = [true, false, true] ++ P ++ X := by rw [hX, hP, hx, hy, hT]; rfl
  have hfl : (DeM.dynBits B).length = N := by rw [hfix, hN, hN1]; simp; omega
  rw [hfl]
  have HP : Hid (Calls Tryd.prog 36 #[.slice A n c] w fun e w'' => ∃ A' c', e = .returned (.slice A' T.length c') ∧ OwnT w'' w.heap.size A' c' T ∧ Fr (fun _ => False) w w'') := Lib.hid (by
    rw [hT]
    exact rPress_any A n c B w hr (by omega))
  have HFX := Lib.hid hfix
  have HNN := Lib.hid (And.intro hN1 hN)
  have HPX := Lib.hid (And.intro hP hX)
  have HTF : Hid (∀ t ∈ T, Fits t) := Lib.hid (by rw [hT]; exact press_fits B)
  have HUV := Lib.hid (And.intro hU hV)
  have HXY := Lib.hid (And.intro hxU hyV)
  have HD := Lib.hid (And.intro dl1 (And.intro dl2 (And.intro dl3 dl4)))
  have HC : Hid (HuffM.cnt U ≤ 2 ^ 15 ∧ HuffM.cnt V ≤ 2 ^ 15 ∧ (∀ x ∈ U, x ≤ 1073741824) ∧ (∀ x ∈ V, x ≤ 1073741824)) := Lib.hid ⟨dl5, dl6, fun x hx => by have := dw1 x hx; omega, fun x hx => by have := dw2 x hx; omega⟩
  have HWL := Lib.hid hwl
  have hNb : N ≤ 10000000 := by omega
  have hN1b : N1 ≤ 10000000 := by omega
  obtain ⟨tn, htn⟩ : ∃ t, t = T.length := ⟨_, rfl⟩
  rw [← htn] at HP
  have HTL := Lib.hid htn
  have htb : tn ≤ 10000 := by omega
  clear hr hbl hT hTn hX hXl hN hN1 hfix hfl htn dl1 dl2 dl3 dl4 dl5 dl6 dw1 dw2 hwl hU hV hx hy hxU hyV hpl hP
  go_enter Tryd.func20, Tryd.ntmps20
  go_wp2_with fail
  refine HP.out.mono ?_
  rintro e w1 ⟨A3, c3, rfl, ho3, hf1⟩
  have ht3 := ho3.toks
  rw [← HTL.out] at ht3
  have HT1 := Lib.hid ht3
  have HF1 := Lib.hid hf1
  have HWE := Lib.hid (rWeights_any A3 tn c3 T w1 ht3 (by omega) HTF.out)
  clear ho3 ht3 hf1 HP
  go_wp2_with fail
  refine HWE.out.mono ?_
  rintro e w2 ⟨ga, gb, rfl, hna, hnb, hf2⟩
  rw [← HUV.out.1] at hna
  rw [← HUV.out.2] at hnb
  have hra : Rd w2 (some ⟨ga, 0, none⟩) 286 (U.map natc) := by
    have h := Row.rd hna 0 286 (by rw [List.length_map, HWL.out.1]; omega)
    rw [List.drop_zero, List.take_of_length_le (by rw [List.length_map, HWL.out.1]; omega)] at h
    exact h
  have hrb : Rd w2 (some ⟨gb, 0, none⟩) 30 (V.map natc) := by
    have h := Row.rd hnb 0 30 (by rw [List.length_map, HWL.out.2]; omega)
    rw [List.drop_zero, List.take_of_length_le (by rw [List.length_map, HWL.out.2]; omega)] at h
    exact h
  have HF2 := Lib.hid (HF1.out.trans hf2 (fun _ _ h => h))
  have HT2 := Lib.hid (HT1.out.fr hf2 (fun _ _ h => h))
  have HLA : Hid (Calls Tryd.prog 38 #[.int .i64 15, .slice (some ⟨ga, 0, none⟩) 286 286] w2 fun e w' => ∃ A' c', e = .returned (.slice A' 286 c') ∧ 286 ≤ c' ∧ Rd w' A' 286 (x.map natc) ∧ Fr (fun _ => False) w2 w' ∧ ∀ ad, A' = some ad → ad.block < w'.heap.size) := Lib.hid (by
    rw [HXY.out.1]
    exact rLengths_any onceC (some ⟨ga, 0, none⟩) 286 286 15 U w2 hra (by omega) (by omega) (fun ad h => hra.lt (by omega) ad h) HC.out.2.2.1 (by omega) (by omega) HC.out.1)
  have HRB2 := Lib.hid hrb
  clear hna hnb hf2 hra hrb HWE HT1
  go_wp2_with fail
  refine HLA.out.mono ?_
  rintro e w3 ⟨Ax, cx, rfl, hcx, hrx, hf3, hbx⟩
  have hrb3 := HRB2.out.fr hf3 (fun _ _ h => h)
  have HLB : Hid (Calls Tryd.prog 38 #[.int .i64 15, .slice (some ⟨gb, 0, none⟩) 30 30] w3 fun e w' => ∃ A' c', e = .returned (.slice A' 30 c') ∧ 30 ≤ c' ∧ Rd w' A' 30 (y.map natc) ∧ Fr (fun _ => False) w3 w' ∧ ∀ ad, A' = some ad → ad.block < w'.heap.size) := Lib.hid (by
    rw [HXY.out.2]
    exact rLengths_any onceC (some ⟨gb, 0, none⟩) 30 30 15 V w3 hrb3 (by omega) (by omega) (fun ad h => hrb3.lt (by omega) ad h) HC.out.2.2.2 (by omega) (by omega) HC.out.2.1)
  have HF3 := Lib.hid (HF2.out.trans hf3 (fun _ _ h => h))
  have HT3 := Lib.hid (HT2.out.fr hf3 (fun _ _ h => h))
  have HRX3 := Lib.hid (And.intro hrx (And.intro hbx hcx))
  clear hrb3 hf3 hrx hbx hcx HLA HRB2 HT2
  go_wp2_with fail
  refine HLB.out.mono ?_
  rintro e w4 ⟨Ay, cy, rfl, hcy, hry, hf4, hby⟩
  have HF4 := Lib.hid (HF3.out.trans hf4 (fun _ _ h => h))
  have HT4 := Lib.hid (HT3.out.fr hf4 (fun _ _ h => h))
  have HRX4 := Lib.hid (And.intro (HRX3.out.1.fr hf4 (fun _ _ h => h)) (And.intro (fun ad h => Nat.lt_of_lt_of_le (HRX3.out.2.1 ad h) hf4.size) HRX3.out.2.2))
  have HRY4 := Lib.hid (And.intro hry (And.intro hby hcy))
  clear hf4 hry hby hcy HLB HRX3 HT3
  go_wp2_with fail
  obtain ⟨w5, hw5⟩ : ∃ w5, w5 = w4.alloc (.cells #[Value.int .u8 1, .int .u8 0, .int .u8 1] 5) := ⟨_, rfl⟩
  obtain ⟨g, hg⟩ : ∃ g, g = w4.heap.size := ⟨_, rfl⟩
  have hown : w5.ownsRow w.heap.size 5 1 (.slice (some ⟨g, 0, none⟩) 3 3) 3 [.int .u8 1, .int .u8 0, .int .u8 1] := by
    rw [hw5]
    exact own_full hg (by rw [hg]; exact HF4.out.size) _ [.int .u8 1, .int .u8 0, .int .u8 1] (by simp [maxLen])
  have hf45 : Fr (fun _ => False) w4 w5 := by rw [hw5]; exact (Fr.refl _ w4).alloc _
  rw [← hw5, ← hg]
  have HG := Lib.hid hown
  have HF5 := Lib.hid (HF4.out.trans hf45 (fun _ _ h => h))
  have HF45 := Lib.hid hf45
  have HGB : Hid (w4.heap.size ≤ g) := Lib.hid (by omega)
  have HRX5 := Lib.hid (And.intro (HRX4.out.1.fr hf45 (fun _ _ h => h)) (fun (ad : Addr) (h : Ax = some ad) => Nat.lt_of_lt_of_le (HRX4.out.2.1 ad h) hf45.size))
  have HRY5 := Lib.hid (And.intro (HRY4.out.1.fr hf45 (fun _ _ h => h)) (fun (ad : Addr) (h : Ay = some ad) => Nat.lt_of_lt_of_le (HRY4.out.2.1 ad h) hf45.size))
  have HPT := Lib.hid (rPut_any (rLengths_any onceC) Ax Ay 286 cx 30 cy x y w5 HRX5.out.1 HRY5.out.1 HRX4.out.2.2 HRY4.out.2.2 (by omega) (by omega) (by omega) (by omega) HD.out.2.2.1 HD.out.2.2.2)
  clear hown hf45 hw5 hg
  refine HPT.out.mono ?_
  rintro e w6 ⟨A6, c6, rfl, hr6, hf6⟩
  rw [← HPX.out.1] at hr6 ⊢
  obtain ⟨pn, hpn⟩ : ∃ x, x = P.length := ⟨_, rfl⟩
  rw [← hpn] at hr6 ⊢
  have HPN : Hid (N1 = 3 + pn) := Lib.hid (by rw [HNN.out.1, hpn])
  have HR6 := Lib.hid hr6
  have HF6 := Lib.hid (HF5.out.trans hf6 (fun _ _ h => h))
  have HG6 := Lib.hid (hf6.own HG.out (fun _ _ h => h))
  have HF46 := Lib.hid (HF45.out.trans hf6 (fun _ _ h => h))
  clear hr6 hf6 hpn HPT HRX5 HRY5 HG
  go_wp2_with (at_builtin; refine wpList_appN u8T _ rfl _ _ rfl w.heap.size _ 3 _ rfl HG6.out _ pn _ _ rfl HR6.out (bitc_one _) N1 HPN.out (by unfold maxLen; omega) (by omega) HF6.out.size ?_)
  intro A7 c7 w7 _ _ hown7 hf7 _
  have hf47 : Fr (fun _ => False) w4 w7 := HF46.out.trans hf7 (fun b hb h => by simp [Value.ownBlock] at h; have := HGB.out; omega)
  have HF7 : Hid (Fr (fun _ => False) w w7) := Lib.hid (HF4.out.trans hf47 (fun _ _ h => h))
  have HO7 : Hid (w7.ownsRow w.heap.size 5 1 (.slice A7 N1 c7) N1 (([true, false, true] ++ P).map bitc)) := Lib.hid (own_list hown7 (by simp [bitc]))
  have HTK := Lib.hid (rTokens_any A3 Ax Ay tn c3 286 cx 30 cy T x y w7 (HT4.out.fr hf47 (fun _ _ h => h)) htb HTF.out (HRX4.out.1.fr hf47 (fun _ _ h => h)) (HRY4.out.1.fr hf47 (fun _ _ h => h)) (fun ad h => Nat.lt_of_lt_of_le (HRX4.out.2.1 ad h) hf47.size) (fun ad h => Nat.lt_of_lt_of_le (HRY4.out.2.1 ad h) hf47.size) (by omega) (by omega) (by omega) (by omega) HD.out.2.2.1 HD.out.2.2.2)
  clear hown7 hf7 hf47
  go_wp2_with fail
  refine HTK.out.mono ?_
  rintro e w8 ⟨A8, c8, rfl, ho8, hf8⟩
  rw [← HPX.out.2] at ho8 ⊢
  have HR8 := Lib.hid (Rd.of_own ho8)
  have HF8 := Lib.hid (HF7.out.trans hf8 (fun _ _ h => h))
  have HO8 := Lib.hid (hf8.own HO7.out (fun _ _ h => h))
  obtain ⟨xn, hxn⟩ : ∃ x, x = X.length := ⟨_, rfl⟩
  rw [← hxn] at HR8 ⊢
  have HXN : Hid (N = N1 + xn) := Lib.hid (by rw [HNN.out.2, hxn])
  clear ho8 hf8 hxn HTK HO7
  go_wp2_with (at_builtin; refine wpList_appN u8T _ rfl _ _ rfl w.heap.size _ N1 _ rfl HO8.out _ xn _ _ rfl HR8.out (bitc_one _) N HXN.out (by unfold maxLen; omega) (by omega) HF8.out.size ?_)
  intro A9 c9 w9 _ _ hown9 hf9 _
  have HO9 : Hid (w9.ownsRow w.heap.size 5 1 (.slice A9 N c9) N ((DeM.dynBits B).map bitc)) := Lib.hid (own_list hown9 (by rw [HFX.out]; simp [bitc]))
  have HF9 : Hid (Fr (fun _ => False) w w9) := Lib.hid (HF8.out.trans hf9 (fun b hb h => by have h1 := (HO8.out.lt b h).1; omega))
  clear hown9 hf9
  go_wp2_with fail
  go_ret
  exact ⟨A9, c9, rfl, HO9.out, HF9.out⟩
end Go.Proofs.YtahfmcdhcbfkaaaDoor
namespace Go.Proofs.YtahfmcdhcbfkaaaDoor
open Go.RowKit BitsM Mem Go.Lib
attribute [local go_sem ↓] Go.wp_at_zero Go.wp_at_succ
set_option linter.unusedVariables false
set_option maxRecDepth 100000

set_option maxHeartbeats 3200000 in
theorem rPress9_any (A : Option Addr) (n c : Nat) (B : List UInt8) (w : World) (hr : Rd w A n (B.map bytec)) (hc : n ≤ c) (hcm : c ≤ maxLen) (hn : n ≤ 10000) :
    Calls Tryd.prog 9 #[.slice A n c] w (Gives w (DeM.pressB B)) := by
  have hbl : B.length = n := by simpa using hr.1
  have HST := Lib.hid (rStored_any A n c B w hr hc hcm (by omega))
  have HFI : Hid (∀ w', Fr (fun _ => False) w w' → Calls Tryd.prog 19 #[.slice A n c] w' fun e w'' => ∃ A' c', e = .returned (.slice A' (DeM.fixedBits B).length c') ∧ w''.ownsRow w'.heap.size 5 1 (.slice A' (DeM.fixedBits B).length c') (DeM.fixedBits B).length ((DeM.fixedBits B).map bitc) ∧ Fr (fun _ => False) w' w'') := Lib.hid (fun w' hf => rFixed_any A n c B w' (hr.fr hf (fun _ _ h => h)) hn)
  have HDY : Hid (∀ w', Fr (fun _ => False) w w' → Calls Tryd.prog 20 #[.slice A n c] w' fun e w'' => ∃ A' c', e = .returned (.slice A' (DeM.dynBits B).length c') ∧ w''.ownsRow w'.heap.size 5 1 (.slice A' (DeM.dynBits B).length c') (DeM.dynBits B).length ((DeM.dynBits B).map bitc) ∧ Fr (fun _ => False) w' w'') := Lib.hid (fun w' hf => rDynamic_any A n c B w' (hr.fr hf (fun _ _ h => h)) hn)
  have hs := storedB_len B (by omega)
  have hf := fixed_len B
  have hd := dyn_len B
  obtain ⟨R, hR⟩ : ∃ R, R = DeM.pressB B := ⟨_, rfl⟩
  rw [← hR]
  unfold DeM.pressB at hR
  simp only at hR
  obtain ⟨S, hS⟩ : ∃ S, S = DeM.storedB B := ⟨_, rfl⟩
  obtain ⟨X, hX⟩ : ∃ S, S = DeM.fixedBits B := ⟨_, rfl⟩
  obtain ⟨Y, hY⟩ : ∃ S, S = DeM.dynBits B := ⟨_, rfl⟩
  rw [← hS] at HST hs hR
  rw [← hX] at HFI hf hR
  rw [← hY] at HDY hd hR
  obtain ⟨s, hsl⟩ : ∃ s, s = S.length := ⟨_, rfl⟩
  obtain ⟨x, hxl⟩ : ∃ s, s = X.length := ⟨_, rfl⟩
  obtain ⟨y, hyl⟩ : ∃ s, s = Y.length := ⟨_, rfl⟩
  rw [← hxl] at HFI hf hR
  rw [← hyl] at HDY hd hR
  rw [← hsl] at hs hR
  have HSL := Lib.hid hsl
  have HXL := Lib.hid hxl
  have HYL := Lib.hid hyl
  have HRR := Lib.hid hR
  have hxb : x ≤ 2000000 := by omega
  have hyb : y ≤ 2000000 := by omega
  have hsb : s ≤ 20000 := by omega
  obtain ⟨m, hm⟩ : ∃ m, m = 8 * s := ⟨_, rfl⟩
  have em : (8 : Int) * (s : Int) = (m : Int) := by omega
  have em2 : IntKind.i64.wrap ((8 : Int) * (s : Int)) = (m : Int) := by rw [IntKind.wrap_i64]; omega
  rw [← hm] at HRR
  have hmb : m ≤ 160000 := by omega
  clear hr hbl hs hf hd hR hS hX hY hsl hxl hyl hm
  go_enter Tryd.func9, Tryd.ntmps9
  go_wp2_with fail
  refine HST.out.mono ?_
  rintro e w1 ⟨A1, c1, rfl, hO1, hf1⟩
  rw [← HSL.out]
  have HO1 := Lib.hid hO1
  have HF1 := Lib.hid hf1
  clear hO1 hf1 HST
  go_wp2_with fail
  refine (HFI.out w1 HF1.out).mono ?_
  rintro e w2 ⟨A2, c2, rfl, ho2, hf2⟩
  have HF2 := Lib.hid (HF1.out.trans hf2 (fun _ _ h => h))
  have HO2 := Lib.hid (HO1.out.fr hf2)
  have HX2 := Lib.hid (Rd.of_own ho2)
  clear ho2 hf2 HFI HO1
  go_wp2_with fail
  refine (HDY.out w2 HF2.out).mono ?_
  rintro e w3 ⟨A3, c3, rfl, ho3, hf3⟩
  have HF3 := Lib.hid (HF2.out.trans hf3 (fun _ _ h => h))
  have HO3 := Lib.hid (HO2.out.fr hf3)
  have HX3 := Lib.hid (HX2.out.fr hf3 (fun _ _ h => h))
  have HY3 := Lib.hid (Rd.of_own ho3)
  clear ho3 hf3 HDY HO2 HX2
  have HBX : Hid (∀ w', Fr (fun _ => False) w3 w' → Calls Tryd.prog 21 #[.slice A2 x c2] w' fun e w'' => ∃ A c, e = .returned (.slice A (pack X).length c) ∧ w''.ownsRow w'.heap.size 5 1 (.slice A (pack X).length c) (pack X).length ((pack X).map bytec) ∧ Fr (fun _ => False) w' w'') := Lib.hid (fun w' hf => bytes_any A2 x c2 X w' (HX3.out.fr hf (fun _ _ h => h)) (by omega))
  have HBY : Hid (∀ w', Fr (fun _ => False) w3 w' → Calls Tryd.prog 21 #[.slice A3 y c3] w' fun e w'' => ∃ A c, e = .returned (.slice A (pack Y).length c) ∧ w''.ownsRow w'.heap.size 5 1 (.slice A (pack Y).length c) (pack Y).length ((pack Y).map bytec) ∧ Fr (fun _ => False) w' w'') := Lib.hid (fun w' hf => bytes_any A3 y c3 Y w' (HY3.out.fr hf (fun _ _ h => h)) (by omega))
  have hrr := HRR.out
  by_cases hxm : x < m
  · rw [if_pos hxm] at hrr
    have t1 : decide ((x : Int) < (m : Int)) = true := by simp; omega
    have HRR2 := Lib.hid hrr
    clear hrr HRR
    go_wp2_with fail
    refine (HBX.out w3 (Fr.refl _ _)).mono ?_
    rintro e w4 ⟨A4, c4, rfl, ho4, hf4⟩
    obtain ⟨p, hp⟩ : ∃ p, p = (pack X).length := ⟨_, rfl⟩
    rw [← hp] at ho4 ⊢
    have HP := Lib.hid hp
    have HO4 := Lib.hid ho4
    have HF4 := Lib.hid (HF3.out.trans hf4 (fun _ _ h => h))
    have HF34 := Lib.hid hf4
    clear ho4 hf4 hp
    by_cases hyx : y < x
    · have hrr := HRR2.out
      rw [if_pos hyx] at hrr
      have t2 : decide ((y : Int) < (x : Int)) = true := by simp; omega
      have HRR3 := Lib.hid hrr
      clear hrr HRR2
      go_wp2_with fail
      refine (HBY.out w4 HF34.out).mono ?_
      rintro e w5 ⟨A5, c5, rfl, ho5, hf5⟩
      obtain ⟨p5, hp5⟩ : ∃ p, p = (pack Y).length := ⟨_, rfl⟩
      rw [← hp5] at ho5 ⊢
      have HP5 := Lib.hid hp5
      have HO5 := Lib.hid ho5
      have HF5 := Lib.hid (HF4.out.trans hf5 (fun _ _ h => h))
      clear ho5 hf5 hp5
      go_wp2_with fail
      go_ret
      have e5 := HP5.out
      rw [← HRR3.out] at e5
      subst e5
      refine ⟨A5, c5, rfl, ?_, HF5.out⟩
      have h := HO5.out
      rw [← HRR3.out] at h
      exact own_base h HF4.out.size
    · have hrr := HRR2.out
      rw [if_neg hyx] at hrr
      have t2 : decide ((y : Int) < (x : Int)) = false := by simp; omega
      have HRR3 := Lib.hid hrr
      clear hrr HRR2
      go_wp2_with fail
      go_ret
      have e5 := HP.out
      rw [← HRR3.out] at e5
      subst e5
      refine ⟨A4, c4, rfl, ?_, HF4.out⟩
      have h := HO4.out
      rw [← HRR3.out] at h
      exact own_base h HF3.out.size
  · rw [if_neg hxm] at hrr
    have t1 : decide ((x : Int) < (m : Int)) = false := by simp; omega
    by_cases hym : y < m
    · rw [if_pos hym] at hrr
      have t2 : decide ((y : Int) < (m : Int)) = true := by simp; omega
      have HRR3 := Lib.hid hrr
      clear hrr HRR
      go_wp2_with fail
      refine (HBY.out w3 (Fr.refl _ _)).mono ?_
      rintro e w5 ⟨A5, c5, rfl, ho5, hf5⟩
      obtain ⟨p5, hp5⟩ : ∃ p, p = (pack Y).length := ⟨_, rfl⟩
      rw [← hp5] at ho5 ⊢
      have HP5 := Lib.hid hp5
      have HO5 := Lib.hid ho5
      have HF5 := Lib.hid (HF3.out.trans hf5 (fun _ _ h => h))
      clear ho5 hf5 hp5
      go_wp2_with fail
      go_ret
      have e5 := HP5.out
      rw [← HRR3.out] at e5
      subst e5
      refine ⟨A5, c5, rfl, ?_, HF5.out⟩
      have h := HO5.out
      rw [← HRR3.out] at h
      exact own_base h HF3.out.size
    · rw [if_neg hym] at hrr
      have t2 : decide ((y : Int) < (m : Int)) = false := by simp; omega
      have HRR3 := Lib.hid hrr
      clear hrr HRR
      go_wp2_with fail
      go_ret
      have e5 := HSL.out
      rw [← HRR3.out] at e5
      subst e5
      refine ⟨A1, c1, rfl, ?_, HF3.out⟩
      have h := HO3.out
      rw [← HRR3.out] at h
      exact h
end Go.Proofs.YtahfmcdhcbfkaaaDoor
