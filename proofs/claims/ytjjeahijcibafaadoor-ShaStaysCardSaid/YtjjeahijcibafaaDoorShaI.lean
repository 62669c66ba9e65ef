/-
  Contract of layer 4's reference: Plain.
-/
import Derived.Test.YtjjeahijcibafaaDoorShaD
namespace Go.Proofs.YtjjeahijcibafaaDoor
open Go.RowKit ShaM Mem Go.Lib

/-- the hash of bytes, as a value -/
def hashV (B : List UInt8) : Value := .agg ((sha keys first (B.map UInt8.toNat)).map byten).toArray
set_option maxRecDepth 100000 in
theorem rPlain_any (A : Option Addr) (n c : Nat) (B : List UInt8) (w : World) (hr : Rd w A n (B.map bytec)) (hn : n ≤ 1000000) :
    Calls Tryd.prog 10 #[.slice A n c] w fun e w' => e = .returned (hashV B) ∧ Fr (fun _ => False) w w' := by
  have HR := Lib.hid hr
  obtain ⟨R, hR⟩ : ∃ R, R = ((sha keys first (B.map UInt8.toNat)).map byten).toArray := ⟨_, rfl⟩
  have hsz : R.size = 32 := by rw [hR]; simp [sha, outs]
  have hone : R.all (·.oneCell') = true := by rw [hR, List.all_toArray, List.all_eq_true]; exact byten_one _
  unfold hashV
  rw [← hR]
  have HRR := Lib.hid hR
  have HSZ := Lib.hid hsz
  have HONE := Lib.hid hone
  clear hr hR hsz hone
  go_enter Tryd.func10, Tryd.ntmps10
  go_upto_region 1 with fail
  obtain ⟨w0, hw0⟩ : ∃ w0, w.alloc (.cells (Array.replicate 32 (.int .u8 0)) 25) = w0 := ⟨_, rfl⟩
  change Code.wp _ _ _ _ (w.alloc (.cells (Array.replicate 32 (.int .u8 0)) 25))
  rw [hw0]
  have hres0 : w0.heap[w.heap.size]? = some (.cells (Array.replicate 32 (.int .u8 0)) 25 (0, 0)) := by rw [← hw0]; exact heap_alloc_new w _
  have hf0 : Fr (fun _ => False) w w0 := by rw [← hw0]; exact (Fr.refl _ _).alloc _
  obtain ⟨g, hg⟩ : ∃ g, g = w.heap.size := ⟨_, rfl⟩
  rw [← hg] at hres0 ⊢
  have HG := Lib.hid hg
  have HRES := Lib.hid hres0
  have HF0 := Lib.hid hf0
  clear hw0 hg hres0 hf0
  go_wp2_with fail
  refine (Tables_any _).mono ?_
  rintro e w1 ⟨A1, B1, c1, d1, rfl, h1, h2, _, hf1⟩
  have HF1 := Lib.hid (HF0.out.trans hf1 (fun _ _ h => h))
  have HR1 := Lib.hid (HR.out.fr HF1.out (fun _ _ h => h))
  have HA := Lib.hid (show Rd w1 A1 8 (first.map num32) from Rd.of_own h1)
  have HB := Lib.hid (show Rd w1 B1 64 (keys.map num32) from Rd.of_own h2)
  have HRES1 := Lib.hid (hf1.blk HRES.out (fun h => h))
  clear h1 h2 hf1
  go_wp2_with fail
  refine (rOf_any A n c B A1 c1 B1 d1 w1 HR1.out HA.out HB.out hn).mono ?_
  rintro e w2 ⟨rfl, hf2⟩
  have HF2 := Lib.hid (HF1.out.trans hf2 (fun _ _ h => h))
  have HRES2 := Lib.hid (hf2.blk HRES1.out (fun h => h))
  rw [← HRR.out]
  clear hf2
  go_wp2_with (refine wpList_store_blk hashT rfl (.tmp 2) (.tmp 12) rfl g rfl R rfl _ _ HRES2.out HSZ.out (by simp) HONE.out ?_)
  intro w3 hg3 hf3
  have HG3 := Lib.hid hg3
  have HF3 : Hid (Fr (fun _ => False) w w3) := Lib.hid (HF2.out.trans hf3 (fun b hb e => by have := HG.out; omega))
  clear hg3 hf3
  go_wp2_with fail
  exact bodyPost_ret (v := .agg R) (results_blk hashT rfl g rfl R _ HG3.out HSZ.out) rfl ⟨rfl, HF3.out⟩
end Go.Proofs.YtjjeahijcibafaaDoor
