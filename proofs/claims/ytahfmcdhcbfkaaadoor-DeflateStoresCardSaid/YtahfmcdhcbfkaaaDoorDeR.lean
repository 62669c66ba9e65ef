/-
  The law DeflateStores, out of the program's contracts (written by gen_laws9.py).
-/
import Derived.Test.YtahfmcdhcbfkaaaDoorDeP
import Derived.Test.YtahfmcdhcbfkaaaDoorZm42
import Derived.Test.YtahfmcdhcbfkaaaDoorZm07
import Derived.Deep.DeepCutAuto
import Derived.Deep.RegionHeld3
import Derived.StillTailTactics
namespace Go.Proofs.YtahfmcdhcbfkaaaDoor
open Go.RowKit BitsM Mem Go.Lib
attribute [local go_sem ↓] Go.wp_at_zero Go.wp_at_succ
set_option linter.unusedVariables false
set_option maxRecDepth 100000

set_option maxHeartbeats 6400000 in
theorem stores9_law {Gl : World → Prop} (K : DeflC Gl) (N c : Nat) (hN : N < 4294967296) (hc : c < 256) (w : World) (hG : Gl w) :
    Calls Tryd.prog 5 #[.int .u32 (N : Int), .int .u8 (c : Int)] w fun e w' => e = .returned (.bool true) ∧ Fr (fun _ => False) w w' := by
  have HAW := Lib.hid (awake9_any K)
  have HG := Lib.hid hG
  obtain ⟨k, hk⟩ : ∃ k, k = N % 200000 := ⟨_, rfl⟩
  have hk6 : k < 200000 := by omega
  have e1 : (N : Int).tmod 200000 = (k : Int) := by rw [hk, Int.tmod_eq_emod_of_nonneg (by omega)]; omega
  have hcv : ∀ w : World, (convert 28 3 (.int .u32 (N : Int))).run Tryd.prog w = .ok (.int .i64 (N : Int)) w := by
    intro w
    go_simp
    rw [IntKind.wrap_i64]
    omega
  have hmk := mk_u8 k (by omega)
  clear hG hk
  go_enter Tryd.func5, Tryd.ntmps5
  go_wp2_with fail
  refine (HAW.out w HG.out).mono ?_
  rintro e w2 ⟨rfl, hf2⟩
  have HF2 := Lib.hid hf2
  have hmk2 := hmk w2
  clear hf2 hmk
  go_wp2_with fail
  obtain ⟨g, hg⟩ : ∃ g, g = w2.heap.size := ⟨_, rfl⟩
  have hz := BR.zeros w2 k
  obtain ⟨w3, hw3⟩ : ∃ w3, w3 = w2.alloc (.cells (Array.replicate k (.int .u8 0)) 5) := ⟨_, rfl⟩
  rw [← hg, ← hw3] at hz
  have HF3 : Hid (Fr (fun _ => False) w w3) := Lib.hid (by rw [hw3]; exact HF2.out.alloc _)
  have HGG := Lib.hid (show w.heap.size ≤ g by rw [hg]; exact HF2.out.size)
  have HZ := Lib.hid hz
  rw [← hg, ← hw3]
  clear hmk2 hz hw3 hg
  go_loopw [7] (fun i wr => ∃ (m : Nat) (L : List UInt8), m ≤ k ∧ i = .int .i64 (m : Int) ∧ Hid (L.length = k) ∧ Hid (BR wr g L) ∧ Hid (Fr (fun _ => False) w wr)) (fun i _ => k - (intOf i).toNat)
  case atStart => exact ⟨0, List.replicate k 0, Nat.zero_le _, rfl, List.length_replicate, HZ.out, HF3.out⟩
  case round =>
    obtain ⟨m, L, hm, rfl, HL, HN, HF⟩ := hrel
    rename World => wr
    by_cases hlt : m < k
    · obtain ⟨u, c1⟩ := HN.out.at_ (i := m) (by rw [HL.out]; exact hlt)
      have f1 : wr.frozen? ⟨g, m, none⟩ = false := Row.free HN.out m
      obtain ⟨q, hq⟩ : ∃ q, q = m / 7 := ⟨_, rfl⟩
      obtain ⟨d, hd⟩ : ∃ d, d = q % 256 := ⟨_, rfl⟩
      obtain ⟨x, hx⟩ : ∃ x, x = (c + d) % 256 := ⟨_, rfl⟩
      have e3 : (m : Int).tdiv 7 = (q : Int) := by rw [hq, Int.tdiv_eq_ediv_of_nonneg (by omega)]; omega
      have hcd : ∀ w : World, (convert 3 5 (.int .i64 (q : Int))).run Tryd.prog w = .ok (.int .u8 (d : Int)) w := by
        intro w
        go_simp
        unfold IntKind.wrap
        simp [IntKind.bits, IntKind.signed]
        first | done | omega
      have e4 : IntKind.u8.wrap ((c : Int) + (d : Int)) = (x : Int) := by unfold IntKind.wrap; simp [IntKind.bits, IntKind.signed]; omega
      have HN2 : Hid (BR (wr.setCell ⟨g, m, none⟩ (.int .u8 (x : Int))) g (L.set m (UInt8.ofNat x))) := Lib.hid (HN.out.set m x (by omega))
      have HL2 : Hid ((L.set m (UInt8.ofNat x)).length = k) := Lib.hid (by rw [List.length_set]; exact HL.out)
      have HF4 := Lib.hid (HF.out.trans (Fr.set1 wr g m (.int .u8 (x : Int))) (fun b hb h => by have := HGG.out; omega))
      have hd256 : d < 256 := by omega
      have hx256 : x < 256 := by omega
      have hqb : q ≤ 100000 := by omega
      clear hq hd hx
      go_wp2_with fail
      exact ⟨⟨m + 1, _, by omega, by go_num, HL2.out, HN2.out, HF4.out⟩, by simp [intOf]; omega⟩
    · obtain rfl : m = k := by omega
      have hrd := HN.out.rd HL.out
      obtain ⟨P, hP⟩ : ∃ P, P = DeM.storedB L := ⟨_, rfl⟩
      obtain ⟨pl, hpl⟩ : ∃ p, p = P.length := ⟨_, rfl⟩
      have HST : Hid (∀ w', Fr (fun _ => False) wr w' → Calls Tryd.prog 10 #[.slice (some ⟨g, 0, none⟩) m m] w' fun e w'' => ∃ A' c', e = .returned (.slice A' pl c') ∧ w''.ownsRow w'.heap.size 5 1 (.slice A' pl c') pl (P.map bytec) ∧ Fr (fun _ => False) w' w'') := Lib.hid (fun w' hf => by
        rw [hpl, hP]
        exact K.stored (some ⟨g, 0, none⟩) m m L w' (K.fr0 (K.fr0 HG.out HF.out) hf) (hrd.fr hf (fun _ _ h => h)) (Nat.le_refl _) (by unfold maxLen; omega) (by omega))
      have HRS : Hid (∀ w', Fr (fun _ => False) wr w' → Calls Tryd.prog 13 #[.slice (some ⟨g, 0, none⟩) m m] w' fun e w'' => ∃ A' c', e = .returned (.slice A' pl c') ∧ w''.ownsRow w'.heap.size 5 1 (.slice A' pl c') pl (P.map bytec) ∧ Fr (fun _ => False) w' w'') := Lib.hid (fun w' hf => by
        rw [hpl, hP]
        exact rStored_any (some ⟨g, 0, none⟩) m m L w' (hrd.fr hf (fun _ _ h => h)) (Nat.le_refl _) (by unfold maxLen; omega) (by omega))
      clear hrd hP hpl
      go_upto_region 9 with fail
      refine wp_region_held_drew (S := fun _ => True) (by kernel_rfl) ?_ (fun hHeld => ?_)
      · exact trivial
      refine wpAnyH_take (i := 0) (v := ?vf0) rfl (by kernel_rfl) (by kernel_rfl) (by kernel_rfl) (fun _ _ _ h => h) (Or.inl ⟨by rfl, ?hyf0⟩) hHeld ?restf0
      case hyf0 => intro w hSw; (try dsimp only at hSw); go_simp; try (with_reducible rfl)
      (try simp only [Act.put, List.setIfInBounds_toArray, List.set_cons_zero, List.set_cons_succ, List.getElem_toArray, List.getElem_cons_zero])
      refine wpAnyH_take (i := 3) (v := ?vf3) rfl (by kernel_rfl) (by kernel_rfl) (by kernel_rfl) (fun _ _ _ h => h) (Or.inl ⟨by rfl, ?hyf3⟩) hHeld ?restf3
      case hyf3 => intro w hSw; (try dsimp only at hSw); go_simp; try (with_reducible rfl)
      (try simp only [Act.put, List.setIfInBounds_toArray, List.set_cons_zero, List.set_cons_succ, List.getElem_toArray, List.getElem_cons_zero, List.getElem_cons_succ])
      refine wpAnyH_ready (rs := [1]) (by kernel_rfl) (by simp) ?_
      refine AllReadyH.cons rfl (fun Kx hKx => ?_) AllReadyH.nil
      go_simp
      refine (HST.out _ (Fr.refl _ _).drew).mono ?_
      rintro e v1 ⟨A1, c1, rfl, ho1, hf1⟩
      have HOA1 := Lib.hid (Rd.of_own ho1)
      have HV1 : Hid (Fr (fun _ => False) wr v1) := Lib.hid ((Fr.refl _ _).drew.trans hf1 (fun _ _ h => h))
      have HSA1_1 : Hid ((convert 22 9 (.slice A1 pl c1)).run Tryd.prog v1 = .ok (.string (txt P)) v1) := Lib.hid (str_rd HOA1.out c1)
      clear ho1 hf1
      refine hKx.out _ _ ?_ (fun hHeld => ?_)
      · exact trivial
      clear hKx Kx
      (try simp only [Act.put, List.setIfInBounds_toArray, List.set_cons_zero, List.set_cons_succ, List.getElem_toArray, List.getElem_cons_zero, List.getElem_cons_succ])
      refine wpAnyH_more (fun w' => (convert 22 9 (.slice A1 pl c1)).run Tryd.prog w' = .ok (.string (txt P)) w') (fun _ h => trivial) ?_ (fun hHeld => ?_)
      · exact HSA1_1.out
      refine wpAnyH_take (i := 2) (v := ?vf2) rfl (by kernel_rfl) (by kernel_rfl) (by kernel_rfl) (fun _ _ _ h => h) (Or.inl ⟨by rfl, ?hyf2⟩) hHeld ?restf2
      case hyf2 => intro w hSw; (try dsimp only at hSw); go_simp; try (with_reducible rfl)
      (try simp only [Act.put, List.setIfInBounds_toArray, List.set_cons_zero, List.set_cons_succ, List.getElem_toArray, List.getElem_cons_zero, List.getElem_cons_succ])
      refine wpAnyH_ready (rs := [4]) (by kernel_rfl) (by simp) ?_
      refine AllReadyH.cons rfl (fun Kx hKx => ?_) AllReadyH.nil
      go_simp
      refine (HRS.out _ HV1.out).mono ?_
      rintro e v2 ⟨A2, c2, rfl, ho2, hf2⟩
      have HOA2 := Lib.hid (Rd.of_own ho2)
      have HV2 : Hid (Fr (fun _ => False) wr v2) := Lib.hid (HV1.out.trans hf2 (fun _ _ h => h))
      have HOA1_2 := Lib.hid (HOA1.out.fr hf2 (fun _ _ h => h))
      have HSA1_2 : Hid ((convert 22 9 (.slice A1 pl c1)).run Tryd.prog v2 = .ok (.string (txt P)) v2) := Lib.hid (str_rd (HOA1_2.out) c1)
      have HSA2_2 : Hid ((convert 22 9 (.slice A2 pl c2)).run Tryd.prog v2 = .ok (.string (txt P)) v2) := Lib.hid (str_rd HOA2.out c2)
      clear ho2 hf2
      refine hKx.out _ _ ?_ (fun hHeld => ?_)
      · exact HSA1_2.out
      clear hKx Kx
      (try simp only [Act.put, List.setIfInBounds_toArray, List.set_cons_zero, List.set_cons_succ, List.getElem_toArray, List.getElem_cons_zero, List.getElem_cons_succ])
      refine wpAnyH_more (fun w' => (convert 22 9 (.slice A1 pl c1)).run Tryd.prog w' = .ok (.string (txt P)) w' ∧ (convert 22 9 (.slice A2 pl c2)).run Tryd.prog w' = .ok (.string (txt P)) w') (fun _ h => h.1) ?_ (fun hHeld => ?_)
      · exact ⟨HSA1_2.out, HSA2_2.out⟩
      refine wpAnyH_take (i := 5) (v := ?vf5) rfl (by kernel_rfl) (by kernel_rfl) (by kernel_rfl) (fun _ _ _ h => h) (Or.inl ⟨by rfl, ?hyf5⟩) hHeld ?restf5
      case hyf5 => intro w hSw; (try dsimp only at hSw); go_simp; try (with_reducible rfl)
      (try simp only [Act.put, List.setIfInBounds_toArray, List.set_cons_zero, List.set_cons_succ, List.getElem_toArray, List.getElem_cons_zero, List.getElem_cons_succ])
      refine wpAnyH_take (i := 6) (v := ?vf6) rfl (by kernel_rfl) (by kernel_rfl) (by kernel_rfl) (fun _ _ _ h => h) (Or.inl ⟨by rfl, ?hyf6⟩) hHeld ?restf6
      case hyf6 => intro w hSw; (try dsimp only at hSw); go_simp; try (with_reducible rfl)
      (try simp only [Act.put, List.setIfInBounds_toArray, List.set_cons_zero, List.set_cons_succ, List.getElem_toArray, List.getElem_cons_zero, List.getElem_cons_succ])
      refine wpAnyH_take (i := 7) (v := ?vf7) rfl (by kernel_rfl) (by kernel_rfl) (by kernel_rfl) (fun _ _ _ h => h) (Or.inl ⟨by rfl, ?hyf7⟩) hHeld ?restf7
      case hyf7 => intro w hSw; (try dsimp only at hSw); go_simp; try (with_reducible rfl)
      (try simp only [Act.put, List.setIfInBounds_toArray, List.set_cons_zero, List.set_cons_succ, List.getElem_toArray, List.getElem_cons_zero, List.getElem_cons_succ])
      refine wpAnyH_done (by kernel_rfl) ?_ _
      go_wp2_with fail
      go_ret
      exact ⟨rfl, HF.out.trans HV2.out (fun _ _ h => h)⟩
end Go.Proofs.YtahfmcdhcbfkaaaDoor
