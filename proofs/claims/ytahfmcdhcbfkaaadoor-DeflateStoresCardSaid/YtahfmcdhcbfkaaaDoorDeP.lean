/-
  The law DeflateZeros, out of the program's contracts.
-/
import Derived.Test.YtahfmcdhcbfkaaaDoorZm08
import Derived.Test.YtahfmcdhcbfkaaaDoorZm42
import Derived.Deep.DeepCutAuto
namespace Go.Proofs.YtahfmcdhcbfkaaaDoor
open Go.RowKit BitsM Mem Go.Lib
attribute [local go_sem ↓] Go.wp_at_zero Go.wp_at_succ
set_option linter.unusedVariables false
set_option maxRecDepth 100000

/-- a block of bytes -/
def BR (w : World) (g : Nat) (L : List UInt8) : Prop := Row w g 5 (L.map bytec)
theorem BR.zeros (w : World) (k : Nat) : BR (w.alloc (.cells (Array.replicate k (.int .u8 0)) 5)) w.heap.size (List.replicate k 0) := by
  have h := Row.new w 5 ((List.replicate k (0 : UInt8)).map bytec)
  have e : ((List.replicate k (0 : UInt8)).map bytec).toArray = Array.replicate k (.int .u8 0) := by
    rw [List.map_replicate]
    apply Array.ext'
    simp [bytec]
  rw [e] at h
  exact h
theorem BR.set {w : World} {g : Nat} {L : List UInt8} (h : BR w g L) (i x : Nat) (hx : x < 256) : BR (w.setCell ⟨g, i, none⟩ (.int .u8 (x : Int))) g (L.set i (UInt8.ofNat x)) := by
  have h2 := Row.set h i (bytec (UInt8.ofNat x))
  rw [← List.map_set] at h2
  rw [← bytec_ofNat hx]
  exact h2
theorem BR.at_ {w : World} {g : Nat} {L : List UInt8} (h : BR w g L) {i : Nat} (hi : i < L.length) : ∃ u, w.cell? ⟨g, i, none⟩ = some u :=
  ⟨bytec L[i], Row.cell h (by rw [List.getElem?_map, List.getElem?_eq_getElem hi]; rfl)⟩
theorem BR.rd {w : World} {g : Nat} {L : List UInt8} (h : BR w g L) {n : Nat} (hn : L.length = n) : Rd w (some ⟨g, 0, none⟩) n (L.map bytec) := by
  have h2 := Row.rd h 0 n (by rw [List.length_map]; omega)
  rw [List.drop_zero, List.take_of_length_le (by rw [List.length_map]; omega)] at h2
  exact h2
/-- the first j are filled in -/
def fillC (k j : Nat) (c : UInt8) : List UInt8 := List.replicate j c ++ List.replicate (k - j) 0
theorem fillC_set (k j : Nat) (c : UInt8) (h : j < k) : (fillC k j c).set j c = fillC k (j + 1) c := by
  unfold fillC
  rw [List.set_append_right _ _ (by simp), List.length_replicate, Nat.sub_self, show k - j = (k - (j + 1)) + 1 by omega, List.replicate_succ, List.set_cons_zero, List.replicate_succ']
  simp
set_option maxHeartbeats 3200000 in
theorem zeros9_law {Gl : World → Prop} (K : DeflC Gl) (c N : Nat) (hc : c < 256) (hN : N < 65536) (w : World) (hG : Gl w) :
    Calls Tryd.prog 6 #[.int .u8 (c : Int), .int .u16 (N : Int)] w fun e w' => e = .returned (.bool true) ∧ Fr (fun _ => False) w w' := by
  have HAW := Lib.hid (awake9_any K)
  have HG := Lib.hid hG
  obtain ⟨b, hb⟩ : ∃ b, b = UInt8.ofNat c := ⟨_, rfl⟩
  obtain ⟨k, hk⟩ : ∃ k, k = N % 6000 := ⟨_, rfl⟩
  have hk6 : k < 6000 := by omega
  have e1 : (N : Int).tmod 6000 = (k : Int) := by rw [hk, Int.tmod_eq_emod_of_nonneg (by omega)]; omega
  have hcv : ∀ w : World, (convert 30 3 (.int .u16 (N : Int))).run Tryd.prog w = .ok (.int .i64 (N : Int)) w := by
    intro w
    go_simp
    rw [IntKind.wrap_i64]
    omega
  have hmk := mk_u8 k (by omega)
  have HBB := Lib.hid hb
  clear hG hb hk
  go_enter Tryd.func6, Tryd.ntmps6
  go_wp2_with fail
  refine (HAW.out w HG.out).mono ?_
  rintro e w2 ⟨rfl, hf2⟩
  have HF2 := Lib.hid hf2
  have hmk2 := hmk w2
  clear hf2 hmk
  go_wp2_with fail
  obtain ⟨g, hg⟩ : ∃ g, g = w2.heap.size := ⟨_, rfl⟩
  have hz := BR.zeros w2 k
  obtain ⟨w3, hw3⟩ : ∃ w3, w3 = w2.alloc (.cells (Array.replicate k (.int .u8 0)) 5) := ⟨_, rfl⟩
  rw [← hg, ← hw3] at hz
  have HF3 : Hid (Fr (fun _ => False) w w3) := Lib.hid (by rw [hw3]; exact HF2.out.alloc _)
  have HGG := Lib.hid (show w.heap.size ≤ g by rw [hg]; exact HF2.out.size)
  have HZ := Lib.hid hz
  rw [← hg, ← hw3]
  clear hmk2 hz hw3 hg
  go_loopw [7] (fun i wr => ∃ m : Nat, m ≤ k ∧ i = .int .i64 (m : Int) ∧ Hid (BR wr g (fillC k m b)) ∧ Hid (Fr (fun _ => False) w wr)) (fun i _ => k - (intOf i).toNat)
  case atStart => exact ⟨0, Nat.zero_le _, rfl, HZ.out, HF3.out⟩
  case round =>
    obtain ⟨m, hm, rfl, HN, HF⟩ := hrel
    rename World => wr
    by_cases hlt : m < k
    · obtain ⟨u, c1⟩ := HN.out.at_ (i := m) (by simp [fillC]; omega)
      have f1 : wr.frozen? ⟨g, m, none⟩ = false := Row.free HN.out m
      have HN2 : Hid (BR (wr.setCell ⟨g, m, none⟩ (.int .u8 (c : Int))) g (fillC k (m + 1) b)) := Lib.hid (by
        have h := HN.out.set m c hc
        rw [← HBB.out, fillC_set k m b hlt] at h
        exact h)
      have HF4 := Lib.hid (HF.out.trans (Fr.set1 wr g m (.int .u8 (c : Int))) (fun b hb h => by have := HGG.out; omega))
      go_wp2_with fail
      exact ⟨⟨m + 1, by omega, by go_num, HN2.out, HF4.out⟩, by simp [intOf]; omega⟩
    · obtain rfl : m = k := by omega
      have hn := HN.out
      rw [show fillC m m b = List.replicate m b by simp [fillC]] at hn
      have hrd := hn.rd (n := m) (by simp)
      have HP := Lib.hid (K.press (some ⟨g, 0, none⟩) m m (List.replicate m b) wr (K.fr0 HG.out HF.out) hrd (Nat.le_refl _) (by unfold maxLen; omega) (by omega))
      have hzl := DeM.zeros_len m b
      obtain ⟨p, hp⟩ : ∃ p, p = (DeM.pressB (List.replicate m b)).length := ⟨_, rfl⟩
      rw [← hp] at hzl
      have HPL := Lib.hid hp
      obtain ⟨d, hd⟩ : ∃ d, d = m / 100 := ⟨_, rfl⟩
      rw [← hd] at hzl
      have e3 : (m : Int).tdiv 100 = (d : Int) := by rw [hd, Int.tdiv_eq_ediv_of_nonneg (by omega)]; omega
      have hd2 : d ≤ 60 := by omega
      have hp2 : p ≤ 100 := by omega
      obtain ⟨z, hz⟩ : ∃ z, z = 12 + d := ⟨_, rfl⟩
      have e4 : (12 : Int) + (d : Int) = (z : Int) := by omega
      have t1 : decide ((p : Int) ≤ (z : Int)) = true := by simp; omega
      have t2 : decide (p ≤ z) = true := by simp; omega
      clear hn hrd hp hd hz hzl HN
      go_wp2_with fail
      refine HP.out.mono ?_
      rintro e w5 ⟨A5, c5, rfl, ho5, hf5⟩
      rw [← HPL.out]
      have HF5 := Lib.hid (HF.out.trans hf5 (fun _ _ h => h))
      clear ho5 hf5 HP
      go_wp2_with fail
      go_ret
      exact ⟨rfl, HF5.out⟩
end Go.Proofs.YtahfmcdhcbfkaaaDoor
