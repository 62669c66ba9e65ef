/-
  The law RawPads (written by gen_laws15.py).
-/
import Derived.Test.YtcoohjjjiakdjaaRaF
import Derived.Test.YtcoohjjjiakdjaaRleY
namespace Go.Proofs.Ytcoohjjjiakdjaa
open Go.RowKit Mem Go.Lib RleM LebM VaM
attribute [local go_sem ↓] Go.wp_at_zero Go.wp_at_succ
set_option linter.unusedVariables false

theorem own_cls {w : World} {base c n : Nat} {A : Option Addr} {L : List (Bool × Int)} (h : OwnC nv 50 w base A c L) (hn : L.length = n) : Cls nv w A n L := by
  have h1 := h.cls
  rw [hn] at h1
  exact h1
set_option maxRecDepth 100000 in
set_option maxHeartbeats 6400000 in
theorem rawpads_law (K : RawC) (A : Option Addr) (n c : Nat) (L : List (Bool × Int)) (m : Int) (w : World) (hL : Cls nv w A n L) (hn : n ≤ maxLen) (hm : -9223372036854775808 ≤ m ∧ m < 9223372036854775808) :
    Calls Try.prog 5 #[.slice A n c, .int .i64 m] w fun e w' => e = .returned (.bool true) ∧ Fr (fun _ => False) w w' := by
  have hn' : n ≤ 9223372036854775807 := hn
  have haw := fun w' => awake15_any K w'
  have HAW := Lib.hid haw
  have HL := Lib.hid hL
  have HLN := Lib.hid hL.1
  clear haw hL hn
  by_cases hbig : 500 < n
  · have t1 : decide ((500 : Int) < (n : Int)) = true := by simp; omega
    have t1' : decide (500 < n) = true := by simp; omega
    go_enter Try.func5, Try.ntmps5
    go_wp2_with fail
    refine (HAW.out _).mono ?_
    rintro e w1 ⟨rfl, hf⟩
    have HF1 := Lib.hid hf
    clear hf
    go_wp2_with fail
    refine (HAW.out _).mono ?_
    rintro e w2 ⟨rfl, hf⟩
    have HF2 := Lib.hid (HF1.out.trans hf (fun _ _ h => h))
    clear hf
    go_wp2_with fail
    go_ret
    exact ⟨rfl, HF2.out⟩
  have t1 : decide ((500 : Int) < (n : Int)) = false := by simp; omega
  have t1' : decide (500 < n) = false := by simp; omega
  by_cases hbig2 : 10000 < m
  · have t2 : decide ((10000 : Int) < m) = true := by simp; omega
    go_enter Try.func5, Try.ntmps5
    go_wp2_with fail
    refine (HAW.out _).mono ?_
    rintro e w1 ⟨rfl, hf⟩
    have HF1 := Lib.hid hf
    clear hf
    go_wp2_with fail
    refine (HAW.out _).mono ?_
    rintro e w2 ⟨rfl, hf⟩
    have HF2 := Lib.hid (HF1.out.trans hf (fun _ _ h => h))
    clear hf
    go_wp2_with fail
    go_ret
    exact ⟨rfl, HF2.out⟩
  have t2 : decide ((10000 : Int) < m) = false := by simp; omega
  have hpad := fun (w' : World) (hf : Fr (fun _ => False) w w') => K.pad A n c L m w' (HL.out.fr hf (fun _ _ h => h)) (by omega) hm.1 (by omega)
  by_cases h0 : 0 < n
  · have e : padR L m = (L, decide ((n : Int) = m)) := by unfold padR; rw [if_pos (by have := HLN.out; omega), HLN.out]
    obtain ⟨b, hb⟩ : ∃ b, decide ((n : Int) = m) = b := ⟨_, rfl⟩
    rw [hb] at e
    simp only [e, HLN.out] at hpad
    have t3 : decide ((0 : Int) < (n : Int)) = true := by simp; omega
    have t3' : decide (0 < n) = true := by simp; omega
    have t4 : ((n : Int) == m) = b := by rw [← hb]; rfl
    have t5 : (b == b) = true := by simp
    have HPAD := Lib.hid hpad
    have hn5 : n ≤ 500 := by omega
    clear hpad e hb hm hbig hbig2
    go_enter Try.func5, Try.ntmps5
    go_wp2_with fail
    refine (HAW.out _).mono ?_
    rintro e w1 ⟨rfl, hf⟩
    have HF1 := Lib.hid hf
    clear hf
    go_wp2_with fail
    refine (HPAD.out w1 HF1.out).mono ?_
    intro e w2 h2
    obtain ⟨A2, c2, rfl, ho, hf⟩ := h2
    have HF2 := Lib.hid (HF1.out.trans hf (fun _ _ h => h))
    have hsame := rsameC_any A2 n c2 L A n c L w2 (own_cls ho HLN.out) (HL.out.fr HF2.out (fun _ _ h => h)) (by omega) (by omega)
    rw [show decide (L = L) = true from by simp] at hsame
    have HS := Lib.hid hsame
    clear ho hf hsame
    go_wp2_with fail
    refine HS.out.mono ?_
    rintro e w3 ⟨rfl, hf⟩
    have HF3 := Lib.hid (HF2.out.trans hf (fun _ _ h => h))
    clear hf
    go_wp2_with fail
    go_ret
    exact ⟨rfl, HF3.out⟩
  · obtain rfl : n = 0 := by omega
    obtain ⟨k, hk⟩ : ∃ k : Nat, k = m.toNat := ⟨_, rfl⟩
    have e : padR L m = (List.replicate k (false, 0), true) := by
      unfold padR
      rw [if_neg (by have := HLN.out; omega), if_neg (by omega), hk]
    simp only [e, List.length_replicate] at hpad
    have hmk := fun w' => mkCn k (by omega) w'
    have HPAD := Lib.hid hpad
    have HMK := Lib.hid hmk
    have hkl : k ≤ 10000 := by omega
    have HKM := Lib.hid hk
    clear hpad e hmk hk
    go_enter Try.func5, Try.ntmps5
    go_wp2_with fail
    refine (HAW.out _).mono ?_
    rintro e w1 ⟨rfl, hf⟩
    have HF1 := Lib.hid hf
    clear hf
    go_wp2_with fail
    refine (HPAD.out w1 HF1.out).mono ?_
    intro e w2 h2
    obtain ⟨A2, c2, rfl, ho, hf⟩ := h2
    have HF2 := Lib.hid (HF1.out.trans hf (fun _ _ h => h))
    obtain ⟨w3, hw3⟩ : ∃ w3, w2.alloc (.cells ((List.replicate k ((false, 0) : Bool × Int)).flatMap (ccells nv)).toArray 50) = w3 := ⟨_, rfl⟩
    have hmk2 := HMK.out w2
    obtain ⟨g, hg⟩ : ∃ g, w2.heap.size = g := ⟨_, rfl⟩
    rw [hw3, hg] at hmk2
    have hr3 : Row w3 g 50 ((List.replicate k ((false, 0) : Bool × Int)).flatMap (ccells nv)) := by rw [← hw3, ← hg]; exact Row.new w2 _ _
    have hf3 : Fr (fun _ => False) w2 w3 := by rw [← hw3]; exact (Fr.refl _ _).alloc _
    have ho3 := own_rowC (base := 0) (n := k) (by simp) hr3 (Nat.zero_le _) (by unfold maxLen; omega)
    have hsame := rsameC_any A2 k c2 _ (some ⟨g, 0, none⟩) k k _ w3 (own_cls (ho.fr hf3) (by simp)) (own_cls ho3 (by simp)) (by omega) (by omega)
    rw [show decide (List.replicate k ((false, 0) : Bool × Int) = List.replicate k (false, 0)) = true from by simp] at hsame
    have HS := Lib.hid hsame
    have HF3 := Lib.hid (HF2.out.trans hf3 (fun _ _ h => h))
    clear ho hf hsame hr3 hf3 ho3 hw3 hg
    by_cases hneg : 0 ≤ m
    · obtain rfl : m = (k : Int) := by have := HKM.out; omega
      go_wp2_with fail
      refine HS.out.mono ?_
      rintro e w4 ⟨rfl, hf⟩
      have HF4 := Lib.hid (HF3.out.trans hf (fun _ _ h => h))
      clear hf
      go_wp2_with fail
      go_ret
      exact ⟨rfl, HF4.out⟩
    · obtain rfl : k = 0 := by have := HKM.out; omega
      simp only [Int.natCast_zero] at hmk2
      go_wp2_with fail
      refine HS.out.mono ?_
      rintro e w4 ⟨rfl, hf⟩
      have HF4 := Lib.hid (HF3.out.trans hf (fun _ _ h => h))
      clear hf
      go_wp2_with fail
      go_ret
      exact ⟨rfl, HF4.out⟩
end Go.Proofs.Ytcoohjjjiakdjaa
