/-
  Layer 11, the program: nothing, others, add (written by gen11.py out of rleC.src).
-/
import Derived.Test.YtmdobloncbljeaaRleB
import Derived.Test.YtmdobloncbljeaaRleM
import Derived.Lib.Hide
import Derived.Deep.QuietTactic
import Derived.BigQuiet
import Derived.StillTailTactics
import Derived.Deep.DrawnRows
namespace Go.Proofs.Ytmdobloncbljeaa
open Go.RowKit Mem Go.Lib RleM
attribute [local go_sem ↓] Go.wp_at_zero Go.wp_at_succ
set_option linter.unusedVariables false

theorem grpTC : ElemTyS Try.prog 48 57 (.agg #[.bool false, (.int .i64 0), .int .i64 0]) 3 24 := ⟨Try.underlying48, by kernel_rfl, rfl, by decide⟩
set_option maxRecDepth 100000 in
theorem nothingC_any (i : Bool) (x : Int) (n : Int) (w : World) : Calls Try.prog 26 #[.agg #[.bool i, (.int .i64 x), .int .i64 n]] w fun e w' => e = .returned (.bool (decide ((i, x) = (false, 0)))) ∧ Fr (fun _ => False) w w' := by
  have q1 := fun (o p : Operand) (w : World) => cell_gdC .eql i false x 0 o p w
  have q2 := fun (w : World) => cell_eqlC i false x 0 w
  obtain ⟨q, hq⟩ : ∃ q, decide ((i, x) = (false, 0)) = q := ⟨_, rfl⟩
  rw [hq] at q2 ⊢
  clear hq
  go_enter Try.func26, Try.ntmps26
  go_wp2_with fail
  go_ret
  exact ⟨rfl, ((Fr.refl _ _).alloc _).alloc _⟩

set_option maxRecDepth 100000 in
set_option maxHeartbeats 800000 in
theorem othersC_any (A : Option Addr) (n c : Nat) (L : List ((Bool × Int) × Nat)) (w : World) (hL : Grs nv w A n L) (hn : n ≤ 1000000000) :
    Calls Try.prog 27 #[.slice A n c] w fun e w' => e = .returned (.int .i64 (othersG (false, 0) L : Nat)) ∧ Fr (fun _ => False) w w' := by
  have HL := Lib.hid hL
  have hln := hL.1
  have HLN := Lib.hid hln
  clear hL hln
  obtain ⟨R, hR⟩ : ∃ R, R = othersG (false, 0) L := ⟨_, rfl⟩
  rw [← hR]
  have HR := Lib.hid hR
  clear hR
  go_enter Try.func27, Try.ntmps27
  go_wp2_with fail
  go_loopw [7] (fun v wr => ∃ k : Nat, k ≤ n ∧ v = .int .i64 (k : Int) ∧ Hid (othersG (false, 0) (L.drop k) + k = R) ∧ Hid (Fr (fun _ => False) w wr)) (fun v _ => n - (intOf v).toNat)
  case atStart => exact ⟨0, Nat.zero_le _, rfl, HR.out.symm, Fr.refl _ _⟩
  case round =>
    obtain ⟨k, hk, rfl, HE, HF⟩ := hrel
    rename World => wr
    by_cases hlt : k < n
    · obtain ⟨t, ht⟩ : ∃ t, L[k]? = some t := ⟨_, List.getElem?_eq_getElem (by have := HLN.out; omega)⟩
      have hdr : L.drop k = t :: L.drop (k + 1) := by rw [List.drop_eq_getElem_cons (by have := HLN.out; omega)]; congr 1; exact (List.getElem?_eq_some_iff.1 ht).2
      obtain ⟨g, o, rfl, hg, h1, h2, h3⟩ := (HL.out.fr HF.out (fun _ _ => id)).2 k t ht
      obtain ⟨⟨i, x⟩, m⟩ := t
      simp only [nv] at h1 h2 h3
      have he := HE.out
      rw [hdr, othersG] at he
      obtain ⟨q, hq⟩ : ∃ q, decide ((i, x) = ((false, 0) : Bool × Int)) = q := ⟨_, rfl⟩
      have hN := fun (w : World) => nothingC_any i x (m : Int) w
      rw [hq] at hN
      have HN := Lib.hid hN
      have HQ := Lib.hid hq
      clear ht hdr hq hN
      go_wp2_with fail
      obtain ⟨w1, hw1⟩ : ∃ w1, wr.alloc (.cells #[.bool i, (.int .i64 x), .int .i64 (m : Int)] 57) = w1 := ⟨_, rfl⟩
      rw [hw1]
      obtain ⟨g1, hg1'⟩ : ∃ g, wr.heap.size = g := ⟨_, rfl⟩
      rw [hg1']
      have hf1 : Fr (fun _ => False) wr w1 := by rw [← hw1]; exact (Fr.refl _ _).alloc _
      have hg1 : w1.heap[g1]? = some (.cells #[.bool i, (.int .i64 x), .int .i64 (m : Int)] 57 (0, 0)) := by rw [← hw1, ← hg1']; exact heap_alloc_new wr _
      refine (HN.out w1).mono ?_
      rintro e w2 ⟨rfl, hf2⟩
      have hf12 := hf1.trans hf2 (fun _ _ h => h)
      have HF2 := Lib.hid (HF.out.trans hf12 (fun _ _ h => h))
      have hg2 := hf2.blk hg1 (fun h => h)
      have k2 : w2.cell? ⟨g1, 2, none⟩ = some (.int .i64 (m : Int)) := by rw [cell_of hg2 2]; rfl
      clear hw1 hg1' hf1 hg1 hf2 hf12 hg2 h1 h2 h3
      cases q with
      | true =>
        have he2 : k = R := by rw [if_pos (.inl (of_decide_eq_true HQ.out)), Nat.zero_add] at he; exact he
        have HE2 := Lib.hid he2
        clear he he2 k2
        go_wp2_with fail
        go_ret
        exact ⟨by rw [HE2.out]; rfl, HF2.out⟩
      | false =>
        by_cases hm : 1 < m
        · have he2 : k = R := by rw [if_pos (.inr hm), Nat.zero_add] at he; exact he
          have HE2 := Lib.hid he2
          have t1 : decide ((1 : Int) < (m : Int)) = true := by simp; omega
          have t2 : decide (1 < m) = true := by simp; omega
          clear he he2
          go_wp2_with fail
          go_ret
          exact ⟨by rw [HE2.out]; rfl, HF2.out⟩
        · have he2 : othersG (false, 0) (L.drop (k + 1)) + (k + 1) = R := by
            rw [if_neg (by rintro (h | h); exact of_decide_eq_false HQ.out h; exact hm h)] at he
            omega
          have HE2 := Lib.hid he2
          have t1 : decide ((1 : Int) < (m : Int)) = false := by simp; omega
          have t2 : decide (1 < m) = false := by simp; omega
          clear he he2
          go_wp2_with fail
          exact ⟨⟨k + 1, by omega, by go_num, HE2.out, HF2.out⟩, by simp [intOf]; omega⟩
    · obtain rfl : k = n := by omega
      have he : k = R := by have h := HE.out; rw [List.drop_of_length_le (by have := HLN.out; omega)] at h; simpa [othersG] using h
      have HE2 := Lib.hid he
      clear he
      go_wp2_with fail
      go_ret
      exact ⟨by rw [HE2.out]; rfl, HF.out⟩

end Go.Proofs.Ytmdobloncbljeaa
