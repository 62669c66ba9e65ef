/-
  Contract of layer 4's program: what stands behind the bytes.
-/
import Derived.Test.YtjjeahijcibafaaDoorShqF
namespace Go.Proofs.YtjjeahijcibafaaDoor
open Go.RowKit ShaM Mem Go.Lib
attribute [local go_sem ↓] Go.wp_at_zero Go.wp_at_succ

theorem bk8 (n : Nat) : tail8 n = bk (n * 8 % 18446744073709551616) 8 := by
  unfold tail8
  generalize n * 8 % 18446744073709551616 = x
  rfl
/-- what stands behind so many bytes -/
def endB (n : Nat) : List Nat := [128] ++ List.replicate (zeros n) 0 ++ tail8 n
theorem endB_len (n : Nat) : (endB n).length = 9 + zeros n := by unfold endB; rw [bk8]; simp [bk_len]; omega
theorem padded_end (B : List Nat) : padded B = B ++ endB B.length := by unfold padded endB; simp
theorem endB_lt (n : Nat) : ∀ b ∈ endB n, b < 256 := by
  intro b hb
  have h := padded_lt (B := List.replicate n 0) (by intro b hb; have := List.eq_of_mem_replicate hb; omega) b
  rw [padded_end, List.length_replicate] at h
  exact h (List.mem_append_right _ hb)

set_option maxRecDepth 100000 in
set_option maxHeartbeats 1600000 in
theorem ending_any (n : Nat) (w : World) (hn : n ≤ 1125899906842624) :
    Calls Tryd.prog 20 #[.int .u64 (n : Int)] w fun e w' => ∃ A c, e = .returned (.slice A (9 + zeros n) c) ∧ OwnB w' w.heap.size A c (endB n) ∧ Fr (fun _ => False) w w' := by
  have hzz : zeros n < 64 := Nat.mod_lt _ (by omega)
  go_enter Tryd.func20, Tryd.ntmps20
  go_wp2_with fail
  go_loopw [3] (fun v wr => ∃ (q : Nat) (A' : Option Addr) (c' : Nat), 1 ≤ q ∧ q ≤ 1 + zeros n ∧ v = .slice A' q c' ∧ Hid (wr.ownsRow w.heap.size 5 1 (.slice A' q c') q ((128 :: List.replicate (q - 1) 0).map byten)) ∧ Fr (fun _ => False) w wr)
    (fun v _ => match v with | .slice _ m _ => 200 - m | _ => 0)
  case atStart => exact ⟨1, _, _, by omega, by omega, rfl, Lib.hid (own_full (k := w.heap.size) rfl (Nat.le_refl _) 5 [.int .u8 128] (by unfold maxLen; simp)), (Fr.refl _ _).alloc _⟩
  case round =>
    obtain ⟨q, A3, c3, hq1, hq, rfl, HO, hfr⟩ := hrel
    have hst : (n + q) % 64 = 56 ↔ q = 1 + zeros n := by
      have := zeros_stop n (q - 1) (by omega)
      rw [show n + 1 + (q - 1) = n + q from by omega] at this
      rw [this]
      omega
    have hsz := hfr.size
    by_cases hend : q = 1 + zeros n
    · have t56 : (((n : Int) + (q : Int)) % 64 != 56) = false := by have := hst.2 hend; simp; omega
      have HFR := Lib.hid hfr
      obtain ⟨x, hx⟩ : ∃ x, x = 8 * n := ⟨_, rfl⟩
      have ex : IntKind.u64.wrap (8 * (n : Int)) = (x : Int) := by rw [IntKind.wrap_u64]; omega
      have ex2 : 8 * (n : Int) = (x : Int) := by omega
      have hx64 : x < 18446744073709551616 := by omega
      obtain ⟨w1, hw1⟩ : ∃ w1, wr.alloc (.cells (List.replicate 8 (Value.int .u8 0)).toArray 59) = w1 := ⟨_, rfl⟩
      have hrow1 : Row w1 wr.heap.size 59 (List.replicate 8 (Value.int .u8 0)) := by rw [← hw1]; exact Row.new _ _ _
      have hf1 : Fr (fun _ => False) wr w1 := by rw [← hw1]; exact (Fr.refl _ _).alloc _
      obtain ⟨g4, hg4⟩ : ∃ g4, g4 = wr.heap.size := ⟨_, rfl⟩
      rw [← hg4] at hrow1
      have hput := put_any g4 0 8 8 x 59 _ w1 hx64 (by omega) (by simp) hrow1
      have HPUT := Lib.hid hput
      have HF1 := Lib.hid hf1
      have HX := Lib.hid hx
      have HW1 := Lib.hid hw1
      have HG4 := Lib.hid hg4
      have HEND := Lib.hid hend
      clear hst hend hx hw1 hrow1 hf1 hput hfr hg4
      go_upto_region 5 with fail
      change Code.wp _ _ _ _ (wr.alloc (.cells (List.replicate 8 (Value.int .u8 0)).toArray 59))
      rw [HW1.out, ← HG4.out]
      go_wp2_with fail
      refine HPUT.out.mono ?_
      rintro e w2 ⟨rfl, hrow2, hf2⟩
      have hsp : splice (List.replicate 8 (Value.int .u8 0)) 0 ((bk x 8).map byten) = (bk x 8).map byten := by
        unfold splice
        rw [List.drop_of_length_le (by simp [bk_len])]
        simp
      rw [hsp] at hrow2
      have hf3 : Fr (fun _ => False) wr w2 := HF1.out.trans hf2 (fun b hb e => by have := HG4.out; omega)
      have hown2 := hf3.own HO.out (fun _ _ h => h)
      have hrd : Rd w2 (some ⟨g4, 0, none⟩) 8 ((bk x 8).map byten) := by
        have h := hrow2.rd 0 8 (by simp [bk_len])
        rw [List.drop_zero, List.take_of_length_le (by simp [bk_len])] at h
        exact h
      have hs2 := hf3.size
      have HF3 := Lib.hid (HFR.out.trans hf3 (fun _ _ h => h))
      clear hsp hrow2 hf2 hf3
      go_wp2_with (at_builtin; refine wpList_appN u8T _ rfl _ _ rfl w.heap.size _ _ _ rfl hown2 _ _ _ _ rfl hrd (byten_one _) (9 + zeros n) (by have := HEND.out; omega) (by unfold maxLen; omega) (by omega) (by omega) ?_)
      intro A4 c4 w4 _ _ hown4 hfr4 _
      have ho4 : OwnB w4 w.heap.size A4 c4 (endB n) := by
        unfold OwnB
        rw [endB_len]
        refine own_list hown4 ?_
        unfold endB
        rw [bk8, show n * 8 % 18446744073709551616 = x from by rw [HX.out]; omega, HEND.out]
        simp
      have hf4 := HF3.out.trans hfr4 (T := _) (fun b hb h => by have := hown2.lt b h; omega)
      have HO4 := Lib.hid ho4
      have HF4 := Lib.hid hf4
      clear hown4 hfr4 ho4 hf4 hown2 hrd
      go_wp2_with fail
      go_ret
      exact ⟨A4, c4, rfl, HO4.out, HF4.out⟩
    · have t56 : (((n : Int) + (q : Int)) % 64 != 56) = true := by
        have : ¬ (n + q) % 64 = 56 := fun h => hend (hst.1 h)
        simp; omega
      have hown := HO.out
      clear hst
      go_wp2_with (at_builtin; refine wpList_appN u8T _ rfl _ _ rfl w.heap.size _ _ _ rfl (hown.alloc _) _ _ _ _ rfl (Rd.one _ _ _) (one_one _ _) (q + 1) rfl (by unfold maxLen; omega) (by omega) (by simp; omega) ?_)
      intro A4 c4 w4 _ _ hown4 hfr4 _
      have hown5 := own_list hown4 (ys := (128 :: List.replicate (q + 1 - 1) 0).map byten) (by
        rw [show q + 1 - 1 = (q - 1) + 1 from by omega, List.replicate_succ']
        simp [byten])
      have hf4 : Fr (fun _ => False) w w4 := (hfr.alloc _).trans hfr4 (fun b hb h => by have := hown.lt b h; omega)
      have HO4 := Lib.hid hown5
      clear hown4 hfr4 hown5 hown
      go_wp2
      go_roundw
      case rel => exact ⟨q + 1, A4, c4, by omega, by omega, rfl, HO4, hf4⟩
      case measure => simp; omega
end Go.Proofs.YtjjeahijcibafaaDoor
