/-
  The law CodesFew, out of the contract of Press.
-/
import Derived.Test.YtjghcacepneipaaDoorCoD
import Derived.Test.YtjghcacepneipaaDoorCoH
import Derived.Test.YtjghcacepneipaaDoorCoN
import Derived.Test.YtjghcacepneipaaDoorCoK
namespace Go.Proofs.YtjghcacepneipaaDoor
open Go.RowKit CoM Mem Go.Lib
attribute [local go_sem ↓] Go.wp_at_zero Go.wp_at_succ
set_option linter.unusedVariables false

set_option maxRecDepth 100000 in
set_option maxHeartbeats 3200000 in
theorem few8_law {w : World} (HP : PressC w) (A : Option Addr) (n c : Nat) (B : List UInt8) (x q : Nat) (hx : x < 256) (hq : q < 65536) (hB : Rd w A n (B.map bytec)) (hc : n ≤ c) (hcm : c ≤ maxLen) :
    Calls Tryd.prog 8 #[.slice A n c, .int .u8 (x : Int), .int .u16 (q : Int)] w fun e w' => e = .returned (.bool true) ∧ Fr (fun _ => False) w w' := by
  have HAW := Lib.hid (awake8_any HP)
  have HPX := Lib.hid HP
  have HR := Lib.hid hB
  clear hB HP
  by_cases hn : 500 < n
  · go_enter Tryd.func8, Tryd.ntmps8
    go_wp2_with fail
    refine (HAW.out w (Fr.refl _ _)).mono ?_
    rintro e w2 ⟨rfl, hf2⟩
    go_wp2_with fail
    refine (HAW.out w2 hf2).mono ?_
    rintro e w3 ⟨rfl, hf3⟩
    go_wp2_with fail
    go_ret
    exact ⟨rfl, hf2.trans hf3 (fun _ _ h => h)⟩
  · have hn2 : n ≤ 500 := by omega
    clear hn
    obtain ⟨k, hk⟩ : ∃ k, k = q % 400 := ⟨_, rfl⟩
    obtain ⟨v, hv⟩ : ∃ v, v = x % 16 := ⟨_, rfl⟩
    have hk4 : k < 400 := by omega
    have hv16 : v < 16 := by omega
    have e1 : (q : Int).tmod 400 = (k : Int) := by rw [hk, Int.tmod_eq_emod_of_nonneg (by omega)]; omega
    have e2 : (x : Int).tmod 16 = (v : Int) := by rw [hv, Int.tmod_eq_emod_of_nonneg (by omega)]; omega
    have hmk := mk_int k (by omega)
    have hln : B.length = n := by simpa using HR.out.1
    have HLN := Lib.hid hln
    clear hk hv hln
    go_enter Tryd.func8, Tryd.ntmps8
    go_wp2_with fail
    refine (HAW.out w (Fr.refl _ _)).mono ?_
    rintro e w2 ⟨rfl, hf2⟩
    have HF2 := Lib.hid hf2
    clear hf2
    have hmk2 := hmk w2
    clear hmk
    go_wp2_with fail
    obtain ⟨g, hg⟩ : ∃ g, g = w2.heap.size := ⟨_, rfl⟩
    have hz := NR.zeros w2 k
    obtain ⟨w3, hw3⟩ : ∃ w3, w3 = w2.alloc (.cells (Array.replicate k (.int .i64 0)) 3) := ⟨_, rfl⟩
    rw [← hg, ← hw3] at hz
    have HF3 : Hid (Fr (fun _ => False) w w3) := Lib.hid (by rw [hw3]; exact HF2.out.alloc _)
    have HG := Lib.hid (show w.heap.size ≤ g by rw [hg]; exact HF2.out.size)
    have HZ := Lib.hid hz
    rw [← hg, ← hw3]
    clear hmk2 hz hw3 hg
    go_loopw [9] (fun i wr => ∃ m : Nat, m ≤ k ∧ i = .int .i64 (m : Int) ∧ Hid (NR wr g (List.replicate m v ++ List.replicate (k - m) 0)) ∧ Hid (Fr (fun _ => False) w wr)) (fun i _ => k - (intOf i).toNat)
    case atStart => exact ⟨0, Nat.zero_le _, rfl, HZ.out, HF3.out⟩
    case round =>
      obtain ⟨m, hm, rfl, HN, HF⟩ := hrel
      rename World => wr
      by_cases hlt : m < k
      · have c1 := HN.out.at_ (i := m) (by simp; omega)
        have f1 : wr.frozen? ⟨g, m, none⟩ = false := Row.free HN.out m
        have HN2 := Lib.hid (HN.out.set m v)
        have HF4 := Lib.hid (HF.out.trans (Fr.set1 wr g m (.int .i64 (v : Int))) (fun b hb h => by have := HG.out; omega))
        go_wp2_with fail
        refine ⟨⟨m + 1, by omega, by go_num, ?_, HF4.out⟩, by simp [intOf]; omega⟩
        show NR _ _ _
        rw [← fill_next hlt]
        exact HN2.out
      · obtain rfl : m = k := by omega
        have hnr := HN.out
        rw [Nat.sub_self, List.replicate_zero, List.append_nil] at hnr
        have HNR := Lib.hid hnr
        clear hnr HN
        go_wp2_with fail
        refine (right8_any A n c B wr (HR.out.fr HF.out (fun _ _ h => h)) (by omega)).mono ?_
        rintro e w5 ⟨A5, c5, rfl, hc5, hm5, hr5, hf5⟩
        have HF5 := Lib.hid (HF.out.trans hf5 (fun _ _ h => h))
        have HN5 := Lib.hid (Row.fr HNR.out hf5 (fun h => h))
        have HC5 := Lib.hid (And.intro hc5 hm5)
        have HR5 := Lib.hid hr5
        clear hc5 hm5 hr5 hf5 HNR
        go_wp2_with fail
        refine (HPX.out A5 n c5 (modL B) w5 HF5.out HR5.out HC5.out.1 HC5.out.2 (by omega) (modL_le B)).mono ?_
        rintro e w6 ⟨A6, c6, rfl, _, hf6⟩
        have HF6 := Lib.hid (HF5.out.trans hf6 (fun _ _ h => h))
        have HN6 := Lib.hid (Row.fr HN5.out hf6 (fun h => h))
        obtain ⟨a, ha⟩ : ∃ a, a = (items (modL B)).length := ⟨_, rfl⟩
        have han : a ≤ n := by have h := items_len (modL B); rw [modL_len] at h; have := HLN.out; omega
        rw [← ha]
        have t1 : decide ((a : Int) ≤ (n : Int)) = true := by simp; omega
        have t1q : decide (a ≤ n) = true := by simp; omega
        clear ha hf6 HN5
        go_wp2_with fail
        have hrd : Rd w6 (some ⟨g, 0, none⟩) m ((List.replicate m v).map natc) := by
          have h := NR.rd HN6.out
          rw [List.length_replicate] at h
          exact h
        refine (HPX.out (some ⟨g, 0, none⟩) m m (List.replicate m v) w6 HF6.out hrd (Nat.le_refl _) (by unfold maxLen; omega) (by omega) (fun y hy => by have := List.eq_of_mem_replicate hy; omega)).mono ?_
        rintro e w7 ⟨A7, c7, rfl, _, hf7⟩
        have HF7 := Lib.hid (HF6.out.trans hf7 (fun _ _ h => h))
        obtain ⟨b, hb⟩ : ∃ b, b = (items (List.replicate m v)).length := ⟨_, rfl⟩
        have hbm : b ≤ 4 + m / 6 := by rw [hb]; exact items_rep m v
        rw [← hb]
        obtain ⟨d, hd⟩ : ∃ d, d = m / 6 := ⟨_, rfl⟩
        rw [← hd] at hbm
        have e3 : (m : Int).tdiv 6 = (d : Int) := by rw [hd, Int.tdiv_eq_ediv_of_nonneg (by omega)]; omega
        have hd2 : d ≤ 400 := by omega
        clear hb hd hf7
        go_wp2_with fail
        go_ret
        refine ⟨?_, HF7.out⟩
        simp
        omega
end Go.Proofs.YtjghcacepneipaaDoor
