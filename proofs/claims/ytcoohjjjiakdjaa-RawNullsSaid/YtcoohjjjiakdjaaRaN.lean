/-
  The law RawNulls (written by gen_laws15.py).
-/
import Derived.Test.YtcoohjjjiakdjaaRaF
import Derived.Test.YtcoohjjjiakdjaaRaY
namespace Go.Proofs.Ytcoohjjjiakdjaa
open Go.RowKit Mem Go.Lib RleM LebM VaM
attribute [local go_sem ↓] Go.wp_at_zero Go.wp_at_succ
set_option linter.unusedVariables false

set_option maxRecDepth 100000 in
set_option maxHeartbeats 6400000 in
theorem rawnulls_law (K : RawC) (N : Nat) (w : World) (hN : N < 65536) :
    Calls Try.prog 6 #[.int .u16 (N : Int)] w fun e w' => e = .returned (.bool true) ∧ Fr (fun _ => False) w w' := by
  have haw := fun w' => awake15_any K w'
  have HAW := Lib.hid haw
  obtain ⟨k, hk⟩ : ∃ k, k = N % 2000 := ⟨_, rfl⟩
  have e0 : IntKind.i64.wrap (N : Int) = (N : Int) := by rw [IntKind.wrap_i64]; omega
  have e1 : (N : Int).tmod 2000 = (k : Int) := by rw [hk, Int.tmod_eq_emod_of_nonneg (by omega)]; omega
  have e2 : IntKind.i64.wrap (k : Int) = (k : Int) := by rw [IntKind.wrap_i64]; omega
  have hkl : k ≤ 2000 := by omega
  have hzr : ∀ v ∈ List.replicate k zeroV, v.ok ∧ rightV v = true := by
    intro v hv
    rw [(List.mem_replicate.1 hv).2]
    exact ⟨⟨⟨by decide, by decide⟩, by decide, by decide, by decide⟩, rfl⟩
  have hmk := fun w' => mkVn k (by omega) w'
  have hpn := put_nulls k
  have hgn := get_nulls k (by omega)
  have hlen : (List.replicate k zeroV).length = k := List.length_replicate
  obtain ⟨Z, hZ⟩ : ∃ Z, List.replicate k zeroV = Z := ⟨_, rfl⟩
  rw [hZ] at hlen hgn hpn hzr
  simp only [hZ] at hmk
  have HMK := Lib.hid hmk
  have HPN := Lib.hid hpn
  have HGN := Lib.hid hgn
  have HZR := Lib.hid hzr
  have HLEN := Lib.hid hlen
  have t1 : ((k : Int) == (k : Int)) = true := by simp
  clear haw hk hzr hmk hpn hgn hlen hZ
  go_enter Try.func6, Try.ntmps6
  go_wp2_with fail
  refine (HAW.out _).mono ?_
  rintro e w1 ⟨rfl, hf⟩
  have HF1 := Lib.hid hf
  obtain ⟨w2, hw2⟩ : ∃ w2, w1.alloc (.cells (Z.flatMap vls).toArray 46) = w2 := ⟨_, rfl⟩
  have hmk2 := HMK.out w1
  obtain ⟨g, hg⟩ : ∃ g, w1.heap.size = g := ⟨_, rfl⟩
  rw [hw2, hg] at hmk2
  have hr2 : Row w2 g 46 (Z.flatMap vls) := by rw [← hw2, ← hg]; exact Row.new w1 _ _
  have hf2 : Fr (fun _ => False) w1 w2 := by rw [← hw2]; exact (Fr.refl _ _).alloc _
  have hv2 := Vls.row hr2
  rw [HLEN.out] at hv2
  have HV2 := Lib.hid hv2
  have HF2 := Lib.hid (HF1.out.trans hf2 (fun _ _ h => h))
  have hput := K.put (some ⟨g, 0, none⟩) k k Z w2 hv2 (by omega) HZR.out
  rw [HPN.out.1, HPN.out.2] at hput
  unfold Both at hput
  have HPUT := Lib.hid hput
  clear hf hr2 hf2 hv2 hw2 hg hput
  go_wp2_with fail
  refine HPUT.out.mono ?_
  intro e w3 h3
  obtain ⟨A1, c1, A2, c2, rfl, _, _, hf⟩ := h3
  have HF3 := Lib.hid (HF2.out.trans hf (fun _ _ h => h))
  have hget := K.get none 0 0 [] none 0 0 [] (k : Int) w3 (Rd.nil _ _) (Nat.le_refl _) (by omega) (Rd.nil _ _) (Nat.le_refl _) (by omega) (by omega) (by omega)
  rw [HGN.out] at hget
  unfold ValsOut at hget
  simp only [HLEN.out] at hget
  have HGET := Lib.hid hget
  clear hf hget hmk2
  go_wp2_with fail
  refine HGET.out.mono ?_
  intro e w4 h4
  obtain ⟨A4, c4, rfl, ho, hf⟩ := h4
  have HF4 := Lib.hid (HF3.out.trans hf (fun _ _ h => h))
  obtain ⟨w5, hw5⟩ : ∃ w5, w4.alloc (.cells (Z.flatMap vls).toArray 46) = w5 := ⟨_, rfl⟩
  have hmk5 := HMK.out w4
  obtain ⟨g2, hg2⟩ : ∃ g, w4.heap.size = g := ⟨_, rfl⟩
  rw [hw5, hg2] at hmk5
  have hr5 : Row w5 g2 46 (Z.flatMap vls) := by rw [← hw5, ← hg2]; exact Row.new w4 _ _
  have hf5 : Fr (fun _ => False) w4 w5 := by rw [← hw5]; exact (Fr.refl _ _).alloc _
  have hv5 := Vls.row hr5
  rw [HLEN.out] at hv5
  have hv4 := (ho.fr hf5).vls
  rw [HLEN.out] at hv4
  have hsame := rsameV_any A4 k c4 Z (some ⟨g2, 0, none⟩) k k Z w5 hv4 hv5 (by omega) (by omega) true (by simp)
  have HS := Lib.hid hsame
  have HF5 := Lib.hid (HF4.out.trans hf5 (fun _ _ h => h))
  clear ho hf hr5 hf5 hv5 hv4 hsame hw5 hg2
  go_wp2_with fail
  refine HS.out.mono ?_
  rintro e w6 ⟨rfl, hf⟩
  have HF6 := Lib.hid (HF5.out.trans hf (fun _ _ h => h))
  clear hf
  go_wp2_with fail
  go_ret
  exact ⟨rfl, HF6.out⟩
end Go.Proofs.Ytcoohjjjiakdjaa
