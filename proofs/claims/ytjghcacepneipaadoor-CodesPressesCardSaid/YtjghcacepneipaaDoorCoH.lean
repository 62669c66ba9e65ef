/-
  Layer 8's laws: the lengths that a law makes of bytes.
-/
import Derived.Test.YtjghcacepneipaaDoorCoHa
namespace Go.Proofs.YtjghcacepneipaaDoor
open Go.RowKit CoM Mem Go.Lib
attribute [local go_sem ↓] Go.wp_at_zero Go.wp_at_succ
set_option linter.unusedVariables false

set_option maxRecDepth 100000 in
set_option maxHeartbeats 3200000 in
theorem right8_any (A : Option Addr) (n c : Nat) (B : List UInt8) (w : World) (hr : Rd w A n (B.map bytec)) (hn : n ≤ 1000) :
    Calls Tryd.prog 11 #[.slice A n c] w fun e w' => ∃ A' c', e = .returned (.slice A' n c') ∧ n ≤ c' ∧ c' ≤ maxLen ∧ Rd w' A' n ((modL B).map natc) ∧ Fr (fun _ => False) w w' := by
  have hln : B.length = n := by simpa using hr.1
  have HR := Lib.hid hr
  have HLN := Lib.hid hln
  obtain ⟨base, hbase⟩ : ∃ base, base = w.heap.size := ⟨_, rfl⟩
  have HB := Lib.hid hbase
  clear hr hln hbase
  go_enter Tryd.func11, Tryd.ntmps11
  go_wp2_with fail
  go_loopw [3, 4] (fun s i wr => ∃ (k : Nat) (A1 : Option Addr) (c1 : Nat), k ≤ n ∧ i = .int .i64 (k : Int) ∧ s = .slice A1 k c1 ∧ Hid (wr.ownsRow base 3 1 (.slice A1 k c1) k ((modL (B.take k)).map natc)) ∧ Hid (Fr (fun _ => False) w wr)) (fun _ i _ => n - (intOf i).toNat)
  case atStart => exact ⟨0, none, 0, Nat.zero_le _, rfl, rfl, World.ownsRow_nil _ _ _ _, Fr.refl _ _⟩
  case round =>
    obtain ⟨k, A1, c1, hk, rfl, rfl, HO, HF⟩ := hrel
    rename World => wr
    by_cases hlt : k < n
    · obtain ⟨b, hb⟩ : ∃ b, B[k]? = some b := ⟨_, List.getElem?_eq_getElem (by have := HLN.out; omega)⟩
      obtain ⟨ad, v, rfl, hv, hc1⟩ := (HR.out.fr HF.out (fun _ _ h => h)).at_ hlt
      obtain rfl : bytec b = v := by simpa [hb] using hv
      have HMT := Lib.hid (modL_take B hb)
      obtain ⟨u, hu⟩ : ∃ u, u = b.toNat := ⟨_, rfl⟩
      have hu8 : u < 256 := by rw [hu]; exact b.toNat_lt
      obtain ⟨m, hm⟩ : ∃ m, m = u % 16 := ⟨_, rfl⟩
      have hm2 : m < 16 := by omega
      rw [← hu, ← hm] at HMT
      unfold bytec at hc1
      rw [← hu] at hc1
      have q1 : (u : Int).tmod 16 = (m : Int) := by rw [hm, Int.tmod_eq_emod_of_nonneg (by omega)]; omega
      have HSZ := Lib.hid HF.out.size
      clear hb hv hu hm
      go_wp2_with (at_builtin; refine wpList_appN int8T _ rfl _ _ rfl base _ _ _ rfl (HO.out.alloc _) _ _ _ _ rfl (Rd.one _ _ _) (one_one _ _) (k + 1) rfl (by unfold maxLen; omega) (by omega) (by have h1 := HSZ.out; have h2 := HB.out; simp; omega) ?_)
      intro A2 c2 w2 h1 h2 hown2 hf2 _
      have HO2 : Hid (w2.ownsRow base 3 1 (.slice A2 (k + 1) c2) (k + 1) ((modL (B.take (k + 1))).map natc)) := Lib.hid (by
        rw [HMT.out, List.map_append]
        exact hown2)
      have HF2 := Lib.hid ((HF.out.alloc _).trans hf2 (fun b hb h => by have h1 := HO.out.lt b h; have h2 := HB.out; omega))
      clear hown2 hf2 HO
      go_wp2_with fail
      exact ⟨⟨k + 1, A2, c2, by omega, by go_num, rfl, HO2.out, HF2.out⟩, by simp [intOf]; omega⟩
    · obtain rfl : k = n := by omega
      have hown := HO.out
      rw [List.take_of_length_le (by have := HLN.out; omega)] at hown
      have hcap := own_cap hown
      have hrd := Rd.of_own hown
      go_wp2_with fail
      go_ret
      exact ⟨A1, c1, rfl, hcap.2.1, hcap.2.2, hrd, HF.out⟩
end Go.Proofs.YtjghcacepneipaaDoor
