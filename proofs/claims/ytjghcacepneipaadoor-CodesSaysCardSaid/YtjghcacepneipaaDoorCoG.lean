/-
  Layer 8: the law CodesSays, out of the contract of Press (written by gen_says.py).
-/
import Derived.Test.YtjghcacepneipaaDoorCoD
import Derived.Test.YtjghcacepneipaaDoorCoH
import Derived.Test.YtjghcacepneipaaDoorCoF
import Derived.Test.YtjghcacepneipaaDoorCoO
import Derived.Deep.DeepCutAuto
import Derived.Deep.RegionHeld3
namespace Go.Proofs.YtjghcacepneipaaDoor
open Go.RowKit CoM Mem Go.Lib
attribute [local go_sem ↓] Go.wp_at_zero Go.wp_at_succ
set_option linter.unusedVariables false

theorem pressI_nil {L : List Nat} {f i : Nat} (h : pressI L f i = []) (hf : L.length ≤ i + f) : L.length ≤ i := by
  cases f with
  | zero => omega
  | succ f =>
    rw [pressI] at h
    split at h
    · cases h
    · omega

set_option maxRecDepth 100000 in
set_option maxHeartbeats 6400000 in
theorem says8_law {w : World} (HP : PressC w) (A : Option Addr) (n c : Nat) (B : List UInt8) (hB : Rd w A n (B.map bytec)) (hc : n ≤ c) (hcm : c ≤ maxLen) :
    Calls Tryd.prog 7 #[.slice A n c] w fun e w' => e = .returned (.bool true) ∧ Fr (fun _ => False) w w' := by
  have HAW := Lib.hid (awake8_any HP)
  have HPX := Lib.hid HP
  have HR := Lib.hid hB
  clear hB HP
  by_cases hn : 500 < n
  · go_enter Tryd.func7, Tryd.ntmps7
    go_wp2_with fail
    refine (HAW.out w (Fr.refl _ _)).mono ?_
    rintro e w2 ⟨rfl, hf2⟩
    go_wp2_with fail
    refine (HAW.out w2 hf2).mono ?_
    rintro e w3 ⟨rfl, hf3⟩
    go_wp2_with fail
    go_ret
    exact ⟨rfl, hf2.trans hf3 (fun _ _ h => h)⟩
  · have hn2 : n ≤ 500 := by omega
    clear hn
    obtain ⟨L, hL⟩ : ∃ L, L = modL B := ⟨_, rfl⟩
    have HLX : Hid (∀ x ∈ L, x ≤ 15) := Lib.hid (by rw [hL]; exact modL_le B)
    have HLN : Hid (L.length = n) := Lib.hid (by rw [hL, modL_len]; simpa using HR.out.1)
    have HLB := Lib.hid hL
    clear hL
    go_enter Tryd.func7, Tryd.ntmps7
    go_wp2_with fail
    refine (HAW.out w (Fr.refl _ _)).mono ?_
    rintro e w2 ⟨rfl, hf2⟩
    have HF2 := Lib.hid hf2
    clear hf2
    go_wp2_with fail
    refine (right8_any A n c B w2 (HR.out.fr HF2.out (fun _ _ h => h)) (by omega)).mono ?_
    rintro e w3 ⟨A3, c3, rfl, hc3, hm3, hr3, hf3⟩
    rw [← HLB.out] at hr3
    have HF3 := Lib.hid (HF2.out.trans hf3 (fun _ _ h => h))
    have HR3 := Lib.hid hr3
    have HC3 := Lib.hid (And.intro hc3 hm3)
    clear hc3 hm3 hr3 hf3
    go_wp2_with fail
    refine (HPX.out A3 n c3 L w3 HF3.out HR3.out HC3.out.1 HC3.out.2 (by omega) HLX.out).mono ?_
    rintro e w4 ⟨A4, c4, rfl, hI4, hf4⟩
    have HF4 := Lib.hid (HF3.out.trans hf4 (fun _ _ h => h))
    have HR4 := Lib.hid (HR3.out.fr hf4 (fun _ _ h => h))
    obtain ⟨T, hT⟩ : ∃ T, T = items L := ⟨_, rfl⟩
    have hTn := items_len L
    rw [HLN.out, ← hT] at hTn
    rw [← hT] at hI4 ⊢
    obtain ⟨N, hN⟩ : ∃ N, N = T.length := ⟨_, rfl⟩
    rw [← hN] at hI4 hTn ⊢
    have HI4 := Lib.hid hI4
    have HT := Lib.hid hT
    have HN := Lib.hid hN
    obtain ⟨base, hbase⟩ : ∃ base, base = w4.heap.size := ⟨_, rfl⟩
    have HB := Lib.hid hbase
    clear hI4 hf4 hT hN HR3 hbase
    go_wp2_with fail
    go_loopw [5, 6] (fun s q wr => ∃ (j f i : Nat) (A1 : Option Addr) (c1 : Nat), j ≤ N ∧ i ≤ n ∧ q = .int .i64 (j : Int) ∧ s = .slice A1 i c1 ∧ Hid (T.drop j = pressI L f i) ∧ L.length ≤ i + f ∧ Hid (wr.ownsRow base 3 1 (.slice A1 i c1) i ((L.take i).map natc)) ∧ Hid (Fr (fun _ => False) w4 wr)) (fun _ q _ => N - (intOf q).toNat)
    case atStart => exact ⟨0, n, 0, none, 0, Nat.zero_le _, Nat.zero_le _, rfl, rfl, by show T = _; rw [HT.out, items, HLN.out], by have := HLN.out; omega, World.ownsRow_nil _ _ _ _, Fr.refl _ _⟩
    case round =>
      obtain ⟨j, f, i, A1, c1, hj, hi, rfl, rfl, HD, hlf, HO, HF⟩ := hrel
      rename World => wr
      have HLF := Lib.hid hlf
      clear hlf
      by_cases hlt : j < N
      · obtain ⟨t, ht⟩ : ∃ t, T[j]? = some t := ⟨_, List.getElem?_eq_getElem (by have := HN.out; omega)⟩
        obtain ⟨g, o, rfl, hg, h1, h2, h3⟩ := (HI4.out.fr HF.out (fun _ _ => id)).2 j t ht
        have hdr : T.drop j = t :: T.drop (j + 1) := by rw [List.drop_eq_getElem_cons (by have := HN.out; omega)]; congr 1; exact (List.getElem?_eq_some_iff.1 ht).2
        have hd := HD.out
        rw [hdr] at hd
        obtain ⟨f, rfl⟩ : ∃ f', f = f' + 1 := by
          cases f with
          | zero => cases hd
          | succ f => exact ⟨f, rfl⟩
        rw [pressI] at hd
        have hil : i < L.length := by
          by_cases h : i < L.length
          · exact h
          · rw [if_neg h] at hd; cases hd
        rw [if_pos hil] at hd
        injection hd with hd1 hd2
        obtain ⟨nn, v, hnn, hn1, hin, hn138, hv15, htk, hcase⟩ := item_cases L i hil HLX.out
        rw [hnn] at hd2
        rw [HLN.out] at hin
        rw [← hd1] at hcase
        have HD2 := Lib.hid hd2
        have HTK := Lib.hid htk
        clear ht hdr hd1 hd2 HD hnn htk hil
        rcases hcase with ⟨x, rfl, hx, hx2, rfl⟩ | ⟨x, rfl, hx, hx2, rfl⟩ | ⟨x, rfl, hx, hx2, hi0, hv⟩ | ⟨rfl, hx⟩
        · try simp only at h1 h2 h3
          have HNN := Lib.hid hx
          go_upto_region 10 with fail
          obtain ⟨gt, hgt⟩ : ∃ gt, gt = wr.heap.size := ⟨_, rfl⟩
          obtain ⟨w5, hw5⟩ : ∃ w5, w5 = wr.alloc (.cells #[.int .i64 18, .int .i64 7, .int .u64 (x : Int)] 32) := ⟨_, rfl⟩
          rw [← hw5, ← hgt]
          have k1 : w5.cell? ⟨gt, 0, none⟩ = some (.int .i64 18) := by rw [hw5, hgt]; exact cells_new8 rfl [.int .i64 18, .int .i64 7, .int .u64 (x : Int)] _ 0 _ rfl
          have k2 : w5.cell? ⟨gt, 1, none⟩ = some (.int .i64 7) := by rw [hw5, hgt]; exact cells_new8 rfl [.int .i64 18, .int .i64 7, .int .u64 (x : Int)] _ 1 _ rfl
          have k3 : w5.cell? ⟨gt, 2, none⟩ = some (.int .u64 (x : Int)) := by rw [hw5, hgt]; exact cells_new8 rfl [.int .i64 18, .int .i64 7, .int .u64 (x : Int)] _ 2 _ rfl
          have HF5 : Hid (Fr (fun _ => False) w4 w5) := Lib.hid (by rw [hw5]; exact HF.out.alloc _)
          have HO5 : Hid (w5.ownsRow base 3 1 (.slice A1 i c1) i ((L.take i).map natc)) := Lib.hid (by rw [hw5]; exact HO.out.alloc _)
          clear hw5 hgt h1 h2 h3 HO HF
          go_wp2_with fail
          go_quiet (fail)
          obtain ⟨w6, hw6⟩ : ∃ w6, w6 = w5.drewN nq := ⟨_, rfl⟩
          rw [← hw6]
          have HF6 : Hid (Fr (fun _ => False) w4 w6) := Lib.hid (by rw [hw6]; exact HF5.out.drewN nq)
          have HO6 : Hid (w6.ownsRow base 3 1 (.slice A1 i c1) i ((L.take i).map natc)) := Lib.hid (by rw [hw6]; exact HO5.out)
          replace k1 : w6.cell? ⟨gt, 0, none⟩ = some (.int .i64 18) := by rw [hw6]; exact k1
          replace k2 : w6.cell? ⟨gt, 1, none⟩ = some (.int .i64 7) := by rw [hw6]; exact k2
          replace k3 : w6.cell? ⟨gt, 2, none⟩ = some (.int .u64 (x : Int)) := by rw [hw6]; exact k3
          clear hw6 HF5 HO5
          go_wp2_with fail
          have e8 : (11 : Int) + (x : Int) = (nn : Int) := by have := HNN.out; omega
          rw [e8]
          clear e8 k1 k2 k3 hx
          go_loopw [5, 10] (fun s q wx => ∃ (m p : Nat) (A2 : Option Addr) (c2 : Nat) (X : List Nat), p = i + m ∧ m ≤ nn ∧ q = .int .i64 (m : Int) ∧ s = .slice A2 p c2 ∧ Hid (X = L.take i ++ List.replicate m 0) ∧ Hid (wx.ownsRow base 3 1 (.slice A2 p c2) p (X.map natc)) ∧ Hid (Fr (fun _ => False) w4 wx)) (fun _ q _ => nn - (intOf q).toNat)
          case atStart => exact ⟨0, i, A1, c1, L.take i, rfl, Nat.zero_le _, rfl, rfl, by show _ = _; rw [List.replicate_zero, List.append_nil], HO6.out, HF6.out⟩
          case round =>
            obtain ⟨m, p, A2, c2, X, hp, hm, rfl, rfl, HX, HO2, HF2⟩ := hrel
            rename World => wx
            by_cases hlt2 : m < nn
            · have HPP := Lib.hid hp
              clear hp
              go_wp2_with (at_builtin; refine wpList_appN int8T _ rfl _ _ rfl base _ _ _ rfl (HO2.out.alloc _) _ _ _ _ rfl (Rd.one _ _ _) (one_one _ _) (p + 1) rfl (by unfold maxLen; have := HPP.out; omega) (by have := HPP.out; omega) (by have h1 := HF2.out.size; have h2 := HB.out; simp; omega) ?_)
              intro A3 c3 w3 h1 h2 hown3 hf3 _
              obtain ⟨X3, hX3⟩ : ∃ X3, X3 = X ++ [0] := ⟨_, rfl⟩
              have HX3 : Hid (X3 = L.take i ++ List.replicate (m + 1) 0) := Lib.hid (by rw [hX3, HX.out, List.replicate_succ', ← List.append_assoc])
              have HO3 : Hid (w3.ownsRow base 3 1 (.slice A3 (p + 1) c3) (p + 1) (X3.map natc)) := Lib.hid (by
                rw [hX3, List.map_append]
                exact hown3)
              have HF3 := Lib.hid ((HF2.out.alloc _).trans hf3 (fun b hb h => by have h1 := HO2.out.lt b h; have h2 := HB.out; omega))
              clear hown3 hf3 HO2 hX3
              go_wp2_with fail
              exact ⟨⟨m + 1, p + 1, A3, c3, X3, by have := HPP.out; omega, by omega, by go_num, rfl, HX3.out, HO3.out, HF3.out⟩, by simp [intOf]; omega⟩
            · obtain rfl : m = nn := by omega
              have hown2 := HO2.out
              rw [HX.out, ← HTK.out] at hown2
              have HO3 := Lib.hid hown2
              clear hown2 HO2
              go_wp2_with fail
              exact ⟨⟨j + 1, f, p, A2, c2, by omega, by have := HLN.out; omega, rfl, rfl, by rw [hp]; exact HD2.out, by have := HLF.out; omega, by have h := HO3.out; rw [← hp] at h; exact h, HF2.out⟩, by simp [intOf]; omega⟩
        · try simp only at h1 h2 h3
          have HNN := Lib.hid hx
          go_upto_region 10 with fail
          obtain ⟨gt, hgt⟩ : ∃ gt, gt = wr.heap.size := ⟨_, rfl⟩
          obtain ⟨w5, hw5⟩ : ∃ w5, w5 = wr.alloc (.cells #[.int .i64 17, .int .i64 3, .int .u64 (x : Int)] 32) := ⟨_, rfl⟩
          rw [← hw5, ← hgt]
          have k1 : w5.cell? ⟨gt, 0, none⟩ = some (.int .i64 17) := by rw [hw5, hgt]; exact cells_new8 rfl [.int .i64 17, .int .i64 3, .int .u64 (x : Int)] _ 0 _ rfl
          have k2 : w5.cell? ⟨gt, 1, none⟩ = some (.int .i64 3) := by rw [hw5, hgt]; exact cells_new8 rfl [.int .i64 17, .int .i64 3, .int .u64 (x : Int)] _ 1 _ rfl
          have k3 : w5.cell? ⟨gt, 2, none⟩ = some (.int .u64 (x : Int)) := by rw [hw5, hgt]; exact cells_new8 rfl [.int .i64 17, .int .i64 3, .int .u64 (x : Int)] _ 2 _ rfl
          have HF5 : Hid (Fr (fun _ => False) w4 w5) := Lib.hid (by rw [hw5]; exact HF.out.alloc _)
          have HO5 : Hid (w5.ownsRow base 3 1 (.slice A1 i c1) i ((L.take i).map natc)) := Lib.hid (by rw [hw5]; exact HO.out.alloc _)
          clear hw5 hgt h1 h2 h3 HO HF
          go_wp2_with fail
          go_quiet (fail)
          obtain ⟨w6, hw6⟩ : ∃ w6, w6 = w5.drewN nq := ⟨_, rfl⟩
          rw [← hw6]
          have HF6 : Hid (Fr (fun _ => False) w4 w6) := Lib.hid (by rw [hw6]; exact HF5.out.drewN nq)
          have HO6 : Hid (w6.ownsRow base 3 1 (.slice A1 i c1) i ((L.take i).map natc)) := Lib.hid (by rw [hw6]; exact HO5.out)
          replace k1 : w6.cell? ⟨gt, 0, none⟩ = some (.int .i64 17) := by rw [hw6]; exact k1
          replace k2 : w6.cell? ⟨gt, 1, none⟩ = some (.int .i64 3) := by rw [hw6]; exact k2
          replace k3 : w6.cell? ⟨gt, 2, none⟩ = some (.int .u64 (x : Int)) := by rw [hw6]; exact k3
          clear hw6 HF5 HO5
          go_wp2_with fail
          have e8 : (3 : Int) + (x : Int) = (nn : Int) := by have := HNN.out; omega
          rw [e8]
          clear e8 k1 k2 k3 hx
          go_loopw [5, 10] (fun s q wx => ∃ (m p : Nat) (A2 : Option Addr) (c2 : Nat) (X : List Nat), p = i + m ∧ m ≤ nn ∧ q = .int .i64 (m : Int) ∧ s = .slice A2 p c2 ∧ Hid (X = L.take i ++ List.replicate m 0) ∧ Hid (wx.ownsRow base 3 1 (.slice A2 p c2) p (X.map natc)) ∧ Hid (Fr (fun _ => False) w4 wx)) (fun _ q _ => nn - (intOf q).toNat)
          case atStart => exact ⟨0, i, A1, c1, L.take i, rfl, Nat.zero_le _, rfl, rfl, by show _ = _; rw [List.replicate_zero, List.append_nil], HO6.out, HF6.out⟩
          case round =>
            obtain ⟨m, p, A2, c2, X, hp, hm, rfl, rfl, HX, HO2, HF2⟩ := hrel
            rename World => wx
            by_cases hlt2 : m < nn
            · have HPP := Lib.hid hp
              clear hp
              go_wp2_with (at_builtin; refine wpList_appN int8T _ rfl _ _ rfl base _ _ _ rfl (HO2.out.alloc _) _ _ _ _ rfl (Rd.one _ _ _) (one_one _ _) (p + 1) rfl (by unfold maxLen; have := HPP.out; omega) (by have := HPP.out; omega) (by have h1 := HF2.out.size; have h2 := HB.out; simp; omega) ?_)
              intro A3 c3 w3 h1 h2 hown3 hf3 _
              obtain ⟨X3, hX3⟩ : ∃ X3, X3 = X ++ [0] := ⟨_, rfl⟩
              have HX3 : Hid (X3 = L.take i ++ List.replicate (m + 1) 0) := Lib.hid (by rw [hX3, HX.out, List.replicate_succ', ← List.append_assoc])
              have HO3 : Hid (w3.ownsRow base 3 1 (.slice A3 (p + 1) c3) (p + 1) (X3.map natc)) := Lib.hid (by
                rw [hX3, List.map_append]
                exact hown3)
              have HF3 := Lib.hid ((HF2.out.alloc _).trans hf3 (fun b hb h => by have h1 := HO2.out.lt b h; have h2 := HB.out; omega))
              clear hown3 hf3 HO2 hX3
              go_wp2_with fail
              exact ⟨⟨m + 1, p + 1, A3, c3, X3, by have := HPP.out; omega, by omega, by go_num, rfl, HX3.out, HO3.out, HF3.out⟩, by simp [intOf]; omega⟩
            · obtain rfl : m = nn := by omega
              have hown2 := HO2.out
              rw [HX.out, ← HTK.out] at hown2
              have HO3 := Lib.hid hown2
              clear hown2 HO2
              go_wp2_with fail
              exact ⟨⟨j + 1, f, p, A2, c2, by omega, by have := HLN.out; omega, rfl, rfl, by rw [hp]; exact HD2.out, by have := HLF.out; omega, by have h := HO3.out; rw [← hp] at h; exact h, HF2.out⟩, by simp [intOf]; omega⟩
        · try simp only at h1 h2 h3
          have HNN := Lib.hid hx
          go_upto_region 10 with fail
          obtain ⟨gt, hgt⟩ : ∃ gt, gt = wr.heap.size := ⟨_, rfl⟩
          obtain ⟨w5, hw5⟩ : ∃ w5, w5 = wr.alloc (.cells #[.int .i64 16, .int .i64 2, .int .u64 (x : Int)] 32) := ⟨_, rfl⟩
          rw [← hw5, ← hgt]
          have k1 : w5.cell? ⟨gt, 0, none⟩ = some (.int .i64 16) := by rw [hw5, hgt]; exact cells_new8 rfl [.int .i64 16, .int .i64 2, .int .u64 (x : Int)] _ 0 _ rfl
          have k2 : w5.cell? ⟨gt, 1, none⟩ = some (.int .i64 2) := by rw [hw5, hgt]; exact cells_new8 rfl [.int .i64 16, .int .i64 2, .int .u64 (x : Int)] _ 1 _ rfl
          have k3 : w5.cell? ⟨gt, 2, none⟩ = some (.int .u64 (x : Int)) := by rw [hw5, hgt]; exact cells_new8 rfl [.int .i64 16, .int .i64 2, .int .u64 (x : Int)] _ 2 _ rfl
          have HF5 : Hid (Fr (fun _ => False) w4 w5) := Lib.hid (by rw [hw5]; exact HF.out.alloc _)
          have HO5 : Hid (w5.ownsRow base 3 1 (.slice A1 i c1) i ((L.take i).map natc)) := Lib.hid (by rw [hw5]; exact HO.out.alloc _)
          clear hw5 hgt h1 h2 h3 HO HF
          go_wp2_with fail
          go_quiet (fail)
          obtain ⟨w6, hw6⟩ : ∃ w6, w6 = w5.drewN nq := ⟨_, rfl⟩
          rw [← hw6]
          have HF6 : Hid (Fr (fun _ => False) w4 w6) := Lib.hid (by rw [hw6]; exact HF5.out.drewN nq)
          have HO6 : Hid (w6.ownsRow base 3 1 (.slice A1 i c1) i ((L.take i).map natc)) := Lib.hid (by rw [hw6]; exact HO5.out)
          replace k1 : w6.cell? ⟨gt, 0, none⟩ = some (.int .i64 16) := by rw [hw6]; exact k1
          replace k2 : w6.cell? ⟨gt, 1, none⟩ = some (.int .i64 2) := by rw [hw6]; exact k2
          replace k3 : w6.cell? ⟨gt, 2, none⟩ = some (.int .u64 (x : Int)) := by rw [hw6]; exact k3
          clear hw6 HF5 HO5
          obtain ⟨i1, hi1⟩ : ∃ i1, i1 = i - 1 := ⟨_, rfl⟩
          have hcl : ((L.take i).map natc)[i1]? = some (natc v) := by
            rw [hi1, List.getElem?_map, List.getElem?_take, if_pos (by omega), List.getElem?_eq_getElem (by have := HLN.out; omega), ← hv, getElem!_pos L (i - 1) (by have := HLN.out; omega)]
            rfl
          obtain ⟨ga, hA, cz, _⟩ := own_at HO6.out hcl
          subst hA
          unfold natc at cz
          have hi1w : IntKind.i64.wrap ((i : Int) - 1) = (i1 : Int) := by rw [IntKind.wrap_i64]; omega
          have hi1i : (i : Int) - 1 = (i1 : Int) := by omega
          have hi1l : i1 < i := by omega
          have yq1 : ((i : Int) == 0) = false := by simp; omega
          clear hi1 hcl hv
          go_wp2_with fail
          go_quiet (fail)
          obtain ⟨w7, hw7⟩ : ∃ w7, w7 = w6.drewN nq := ⟨_, rfl⟩
          rw [← hw7]
          have HF7 : Hid (Fr (fun _ => False) w4 w7) := Lib.hid (by rw [hw7]; exact HF6.out.drewN nq)
          have HO7 : Hid (w7.ownsRow base 3 1 (.slice (some ⟨ga, 0, none⟩) i c1) i ((L.take i).map natc)) := Lib.hid (by rw [hw7]; exact HO6.out)
          replace k1 : w7.cell? ⟨gt, 0, none⟩ = some (.int .i64 16) := by rw [hw7]; exact k1
          replace k2 : w7.cell? ⟨gt, 1, none⟩ = some (.int .i64 2) := by rw [hw7]; exact k2
          replace k3 : w7.cell? ⟨gt, 2, none⟩ = some (.int .u64 (x : Int)) := by rw [hw7]; exact k3
          clear cz
          clear hw7 HF6 HO6
          go_wp2_with fail
          have e8 : (3 : Int) + (x : Int) = (nn : Int) := by have := HNN.out; omega
          rw [e8]
          clear e8 k1 k2 k3 hx
          go_loopw [5, 10] (fun s q wx => ∃ (m p : Nat) (A2 : Option Addr) (c2 : Nat) (X : List Nat), p = i + m ∧ m ≤ nn ∧ q = .int .i64 (m : Int) ∧ s = .slice A2 p c2 ∧ Hid (X = L.take i ++ List.replicate m v) ∧ Hid (wx.ownsRow base 3 1 (.slice A2 p c2) p (X.map natc)) ∧ Hid (Fr (fun _ => False) w4 wx)) (fun _ q _ => nn - (intOf q).toNat)
          case atStart => exact ⟨0, i, some ⟨ga, 0, none⟩, c1, L.take i, rfl, Nat.zero_le _, rfl, rfl, by show _ = _; rw [List.replicate_zero, List.append_nil], HO7.out, HF7.out⟩
          case round =>
            obtain ⟨m, p, A2, c2, X, hp, hm, rfl, rfl, HX, HO2, HF2⟩ := hrel
            rename World => wx
            by_cases hlt2 : m < nn
            · have HPP := Lib.hid hp
              clear hp
              go_wp2_with (at_builtin; refine wpList_appN int8T _ rfl _ _ rfl base _ _ _ rfl (HO2.out.alloc _) _ _ _ _ rfl (Rd.one _ _ _) (one_one _ _) (p + 1) rfl (by unfold maxLen; have := HPP.out; omega) (by have := HPP.out; omega) (by have h1 := HF2.out.size; have h2 := HB.out; simp; omega) ?_)
              intro A3 c3 w3 h1 h2 hown3 hf3 _
              obtain ⟨X3, hX3⟩ : ∃ X3, X3 = X ++ [v] := ⟨_, rfl⟩
              have HX3 : Hid (X3 = L.take i ++ List.replicate (m + 1) v) := Lib.hid (by rw [hX3, HX.out, List.replicate_succ', ← List.append_assoc])
              have HO3 : Hid (w3.ownsRow base 3 1 (.slice A3 (p + 1) c3) (p + 1) (X3.map natc)) := Lib.hid (by
                rw [hX3, List.map_append]
                exact hown3)
              have HF3 := Lib.hid ((HF2.out.alloc _).trans hf3 (fun b hb h => by have h1 := HO2.out.lt b h; have h2 := HB.out; omega))
              clear hown3 hf3 HO2 hX3
              go_wp2_with fail
              exact ⟨⟨m + 1, p + 1, A3, c3, X3, by have := HPP.out; omega, by omega, by go_num, rfl, HX3.out, HO3.out, HF3.out⟩, by simp [intOf]; omega⟩
            · obtain rfl : m = nn := by omega
              have hown2 := HO2.out
              rw [HX.out, ← HTK.out] at hown2
              have HO3 := Lib.hid hown2
              clear hown2 HO2
              go_wp2_with fail
              exact ⟨⟨j + 1, f, p, A2, c2, by omega, by have := HLN.out; omega, rfl, rfl, by rw [hp]; exact HD2.out, by have := HLF.out; omega, by have h := HO3.out; rw [← hp] at h; exact h, HF2.out⟩, by simp [intOf]; omega⟩
        · simp only at h1 h2 h3
          have yq1 : ((v : Int) == 16) = false := by simp; omega
          have yq2 : ((v : Int) == 17) = false := by simp; omega
          have yq3 : ((v : Int) == 18) = false := by simp; omega
          have yq4 : decide ((v : Int) < 0) = false := by (try simp) <;> omega
          have yq5 : decide ((v : Int) > 18) = false := by (try simp) <;> omega
          have yq6 : decide ((18 : Int) < (v : Int)) = false := by simp; omega
          try simp only at h1 h2 h3
          have HNN := Lib.hid hx
          subst hx
          go_upto_region 10 with fail
          obtain ⟨gt, hgt⟩ : ∃ gt, gt = wr.heap.size := ⟨_, rfl⟩
          obtain ⟨w5, hw5⟩ : ∃ w5, w5 = wr.alloc (.cells #[.int .i64 (v : Int), .int .i64 0, .int .u64 0] 32) := ⟨_, rfl⟩
          rw [← hw5, ← hgt]
          have k1 : w5.cell? ⟨gt, 0, none⟩ = some (.int .i64 (v : Int)) := by rw [hw5, hgt]; exact cells_new8 rfl [.int .i64 (v : Int), .int .i64 0, .int .u64 0] _ 0 _ rfl
          have k2 : w5.cell? ⟨gt, 1, none⟩ = some (.int .i64 0) := by rw [hw5, hgt]; exact cells_new8 rfl [.int .i64 (v : Int), .int .i64 0, .int .u64 0] _ 1 _ rfl
          have k3 : w5.cell? ⟨gt, 2, none⟩ = some (.int .u64 0) := by rw [hw5, hgt]; exact cells_new8 rfl [.int .i64 (v : Int), .int .i64 0, .int .u64 0] _ 2 _ rfl
          have HF5 : Hid (Fr (fun _ => False) w4 w5) := Lib.hid (by rw [hw5]; exact HF.out.alloc _)
          have HO5 : Hid (w5.ownsRow base 3 1 (.slice A1 i c1) i ((L.take i).map natc)) := Lib.hid (by rw [hw5]; exact HO.out.alloc _)
          clear hw5 hgt h1 h2 h3 HO HF
          go_wp2_with fail
          go_quiet (fail)
          obtain ⟨w6, hw6⟩ : ∃ w6, w6 = w5.drewN nq := ⟨_, rfl⟩
          rw [← hw6]
          have HF6 : Hid (Fr (fun _ => False) w4 w6) := Lib.hid (by rw [hw6]; exact HF5.out.drewN nq)
          have HO6 : Hid (w6.ownsRow base 3 1 (.slice A1 i c1) i ((L.take i).map natc)) := Lib.hid (by rw [hw6]; exact HO5.out)
          replace k1 : w6.cell? ⟨gt, 0, none⟩ = some (.int .i64 (v : Int)) := by rw [hw6]; exact k1
          replace k2 : w6.cell? ⟨gt, 1, none⟩ = some (.int .i64 0) := by rw [hw6]; exact k2
          replace k3 : w6.cell? ⟨gt, 2, none⟩ = some (.int .u64 0) := by rw [hw6]; exact k3
          clear hw6 HF5 HO5
          go_wp2_with fail
          clear k1 k2 k3 HNN
          go_loopw [5, 10] (fun s q wx => ∃ (m p : Nat) (A2 : Option Addr) (c2 : Nat) (X : List Nat), p = i + m ∧ m ≤ 1 ∧ q = .int .i64 (m : Int) ∧ s = .slice A2 p c2 ∧ Hid (X = L.take i ++ List.replicate m v) ∧ Hid (wx.ownsRow base 3 1 (.slice A2 p c2) p (X.map natc)) ∧ Hid (Fr (fun _ => False) w4 wx)) (fun _ q _ => 1 - (intOf q).toNat)
          case atStart => exact ⟨0, i, A1, c1, L.take i, rfl, Nat.zero_le _, rfl, rfl, by show _ = _; rw [List.replicate_zero, List.append_nil], HO6.out, HF6.out⟩
          case round =>
            obtain ⟨m, p, A2, c2, X, hp, hm, rfl, rfl, HX, HO2, HF2⟩ := hrel
            rename World => wx
            by_cases hlt2 : m < 1
            · have HPP := Lib.hid hp
              clear hp
              go_wp2_with (at_builtin; refine wpList_appN int8T _ rfl _ _ rfl base _ _ _ rfl (HO2.out.alloc _) _ _ _ _ rfl (Rd.one _ _ _) (one_one _ _) (p + 1) rfl (by unfold maxLen; have := HPP.out; omega) (by have := HPP.out; omega) (by have h1 := HF2.out.size; have h2 := HB.out; simp; omega) ?_)
              intro A3 c3 w3 h1 h2 hown3 hf3 _
              obtain ⟨X3, hX3⟩ : ∃ X3, X3 = X ++ [v] := ⟨_, rfl⟩
              have HX3 : Hid (X3 = L.take i ++ List.replicate (m + 1) v) := Lib.hid (by rw [hX3, HX.out, List.replicate_succ', ← List.append_assoc])
              have HO3 : Hid (w3.ownsRow base 3 1 (.slice A3 (p + 1) c3) (p + 1) (X3.map natc)) := Lib.hid (by
                rw [hX3, List.map_append]
                exact hown3)
              have HF3 := Lib.hid ((HF2.out.alloc _).trans hf3 (fun b hb h => by have h1 := HO2.out.lt b h; have h2 := HB.out; omega))
              clear hown3 hf3 HO2 hX3
              go_wp2_with fail
              exact ⟨⟨m + 1, p + 1, A3, c3, X3, by have := HPP.out; omega, by omega, by go_num, rfl, HX3.out, HO3.out, HF3.out⟩, by simp [intOf]; omega⟩
            · obtain rfl : m = 1 := by omega
              have hown2 := HO2.out
              rw [HX.out, ← HTK.out] at hown2
              have HO3 := Lib.hid hown2
              clear hown2 HO2
              go_wp2_with fail
              exact ⟨⟨j + 1, f, p, A2, c2, by omega, by have := HLN.out; omega, rfl, rfl, by rw [hp]; exact HD2.out, by have := HLF.out; omega, by have h := HO3.out; rw [← hp] at h; exact h, HF2.out⟩, by simp [intOf]; omega⟩
      · obtain rfl : j = N := by omega
        have hnil : pressI L f i = [] := by rw [← HD.out, List.drop_of_length_le (by have := HN.out; omega)]
        have hin : i = n := by have := pressI_nil hnil HLF.out; have := HLN.out; omega
        subst hin
        have hown := HO.out
        rw [List.take_of_length_le (by have := HLN.out; omega)] at hown
        have hrd := Rd.of_own hown
        have HS := Lib.hid (fun w' (hf : Fr (fun _ => False) wr w') => same8_yes A1 A3 i c1 i c3 L L w' (hrd.fr hf (fun _ _ h => h)) ((HR4.out.fr HF.out (fun _ _ h => h)).fr hf (fun _ _ h => h)) (by omega) (by omega) (fun _ => rfl))
        clear hnil hown hrd HD HO
        have hq : ((i : Int) == (i : Int)) = true := by simp
        go_wp2_with fail
        refine (HS.out wr (Fr.refl _ _)).mono ?_
        rintro e w9 ⟨rfl, hf9⟩
        have HF9 := Lib.hid ((HF4.out.trans HF.out (fun _ _ h => h)).trans hf9 (fun _ _ h => h))
        clear hf9
        go_wp2_with fail
        go_ret
        exact ⟨rfl, HF9.out⟩
end Go.Proofs.YtjghcacepneipaaDoor
