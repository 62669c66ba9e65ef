/-
  The law ShaEnds, out of the program's contracts: at each number of bytes about a block's end the hash is the reference's.
-/
import Derived.Test.YtjjeahijcibafaaDoorShaK
import Derived.Laws.MakeOwn
namespace Go.Proofs.YtjjeahijcibafaaDoor
open Go.RowKit ShaM Mem Go.Lib
attribute [local go_sem ↓] Go.wp_at_zero Go.wp_at_succ

/-- the bytes when k of them are filled -/
def fillB (m f k : Nat) : List UInt8 := (List.range m).map fun i => if i < k then UInt8.ofNat ((f + i) % 256) else 0
theorem fill_len (m f k : Nat) : (fillB m f k).length = m := by simp [fillB]
theorem fill_zero (m f : Nat) : ((fillB m f 0).map bytec).toArray = Array.replicate m (.int .u8 0) := by
  rw [← List.toArray_replicate]
  congr 1
  apply List.ext_getElem
  · simp [fillB]
  · intro i h1 h2
    simp [fillB, bytec]
theorem fill_step (m f k : Nat) : (((fillB m f k).map bytec).toArray).setIfInBounds k (.int .u8 (((f + k) % 256 : Nat) : Int)) = ((fillB m f (k + 1)).map bytec).toArray := by
  rw [List.setIfInBounds_toArray]
  congr 1
  have hb : Value.int .u8 (((f + k) % 256 : Nat) : Int) = bytec (UInt8.ofNat ((f + k) % 256)) := (bytec_ofNat (Nat.mod_lt _ (by omega))).symm
  rw [hb, ← List.map_set]
  congr 1
  apply List.ext_getElem
  · simp [fillB]
  · intro i h1 h2
    rw [List.getElem_set]
    simp only [fillB, List.getElem_map, List.getElem_range]
    by_cases h : k = i
    · subst h; simp
    · rw [if_neg h]
      by_cases h3 : i < k
      · rw [if_pos h3, if_pos (by omega)]
      · rw [if_neg h3, if_neg (by omega)]

theorem made_u8 (m : Nat) : madeCells (Value.int .u8 0).cells (m * 1) = Array.replicate m (.int .u8 0) := by
  apply Array.ext_getElem?
  intro i
  by_cases h : i < m
  · simp [madeCells, Value.cells, h, Nat.mod_one]
  · simp [madeCells, Value.cells, h]
theorem mk_u8 (m : Nat) (hm : m ≤ 1000000) (w : World) : (Instr.makeSlice 22 (.int .i64 (m : Int)) (.int .i64 (m : Int))).run Tryd.prog w = .ok (.slice (some ⟨w.heap.size, 0, none⟩) m m) (w.alloc (.cells (Array.replicate m (.int .u8 0)) 5)) := by
  obtain ⟨i, hi, hz, hs, hb⟩ := info_parts u8T.info
  have h := run_makeSlice (P := Tryd.prog) w 22 5 i _ Tryd.underlying22 hi hz .i64 .i64 (m : Int) (m : Int) (by omega) (by omega) (by rw [hs]; omega) (by rw [hb]; omega) (by omega)
  rw [h, hs, Int.toNat_natCast, made_u8]

set_option maxRecDepth 100000 in
set_option maxHeartbeats 1600000 in
theorem ends_law (K : ShaP) (n f : Nat) (hn : n < 256) (hf : f < 256) (w : World) (hG : Gl w) :
    Calls Tryd.prog 5 #[.int .u8 (n : Int), .int .u8 (f : Int)] w fun e w' => e = .returned (.bool true) ∧ Fr (fun _ => False) w w' := by
  obtain ⟨m, hm⟩ : ∃ m, m = 40 + n % 100 := ⟨_, rfl⟩
  have hmI : 40 + (n : Int) % 100 = (m : Int) := by omega
  have hm200 : m ≤ 200 := by omega
  have HM := Lib.hid hm
  have HGL := Lib.hid hG
  clear hm hG
  go_enter Tryd.func5, Tryd.ntmps5
  go_wp2_with fail
  refine (awake_any K _ HGL.out).mono ?_
  rintro e w1 ⟨rfl, hf1⟩
  have HF1 := Lib.hid hf1
  clear hf1
  have hmk := mk_u8 m (by omega) w1
  go_wp2_with fail
  obtain ⟨g, hg⟩ : ∃ g, g = w1.heap.size := ⟨_, rfl⟩
  obtain ⟨w2, hw2⟩ : ∃ w2, w1.alloc (.cells (Array.replicate m (.int .u8 0)) 5) = w2 := ⟨_, rfl⟩
  have hb2 : w2.heap[g]? = some (.cells ((fillB m f 0).map bytec).toArray 5 (0, 0)) := by rw [← hw2, hg, fill_zero]; exact heap_alloc_new w1 _
  have hf2 : Fr (fun _ => False) w w2 := by rw [← hw2]; exact HF1.out.alloc _
  have hgw : w.heap.size ≤ g := by rw [hg]; exact HF1.out.size
  rw [hw2, ← hg]
  have HB2 := Lib.hid hb2
  have HF2 := Lib.hid hf2
  clear hmk hg hw2 hb2 hf2 HF1
  go_loopw [6] (fun i wr => ∃ k : Nat, k ≤ m ∧ i = .int .i64 (k : Int) ∧ Hid (wr.heap[g]? = some (.cells ((fillB m f k).map bytec).toArray 5 (0, 0))) ∧ Fr (fun b => b = g) w2 wr) (fun i _ => m - (intOf i).toNat)
  case atStart => exact ⟨0, by omega, rfl, HB2, Fr.refl _ _⟩
  case round =>
    obtain ⟨k, hk, rfl, HBk, hfr⟩ := hrel
    by_cases hlt : k < m
    · have hsz : ((fillB m f k).map bytec).toArray.size = m := by simp [fill_len]
      obtain ⟨y, hy⟩ : ∃ y, (((fillB m f k).map bytec).toArray)[k]'(by rw [hsz]; exact hlt) = y := ⟨_, rfl⟩
      have hcell : wr.cell? ⟨g, k, none⟩ = some y := by rw [cell_h HBk.out, Array.getElem?_eq_getElem (by rw [hsz]; exact hlt), hy]
      have hfree : wr.frozen? ⟨g, k, none⟩ = false := by simp [World.frozen?, HBk.out]
      have hu : IntKind.u8.wrap ((f : Int) + (k : Int)) = (((f + k) % 256 : Nat) : Int) := by rw [IntKind.wrap_u8]; omega
      clear hsz hy
      go_wp2_with fail
      have hval : (.int .u8 (((f : Int) + (k : Int)) % 256) : Value) = .int .u8 (((f + k) % 256 : Nat) : Int) := by congr 1
      exact ⟨⟨k + 1, by omega, by go_num, Lib.hid (by rw [hval, set_h HBk.out, fill_step]), hfr.setCell (fun _ => rfl) _⟩, by simp [intOf]; omega⟩
    · obtain rfl : k = m := by omega
      obtain ⟨D, hD⟩ : ∃ D, D = fillB k f k := ⟨_, rfl⟩
      have hDl : D.length = k := by rw [hD, fill_len]
      have hrd : Rd wr (some ⟨g, 0, none⟩) k (D.map bytec) := by
        have := rd_blk HBk.out
        rw [← hD, List.length_map, hDl] at this
        exact this
      have HFr : Hid (Fr (fun _ => False) w wr) := Lib.hid (HF2.out.trans hfr (fun b hb e => by omega))
      have hof := K.of_ (some ⟨wr.heap.size, 0, none⟩) 1 1 [D] (wr.alloc (.cells #[.slice (some ⟨g, 0, none⟩) k k] 22)) (HGL.out.fr0 (HFr.out.alloc _)) (Parts.one rfl _ hrd (Nat.le_refl _)) (by omega) (by omega) (by simp; omega)
      obtain ⟨R, hR⟩ : ∃ R, R = hashV D := ⟨_, rfl⟩
      obtain ⟨hq1, hq2⟩ := hash_eq D
      have hpl := fun w hr => rPlain_any (some ⟨g, 0, none⟩) k k D w hr (by omega)
      rw [← hR] at hq1 hq2 hpl
      rw [show [D].flatten = D by simp, ← hR] at hof
      have HOF := Lib.hid hof
      have HPL := Lib.hid hpl
      have HRD := Lib.hid hrd
      clear hof hpl hrd hR hD hDl HBk HB2 hfr HF2
      go_wp2_with fail
      refine HOF.out.mono ?_
      rintro e w3 ⟨rfl, hf3⟩
      have HR3 := Lib.hid (HRD.out.fr (((Fr.refl (fun _ => False) wr).alloc _).trans hf3 (fun _ _ h => h)) (fun _ _ h => h))
      have HF3 := Lib.hid ((HFr.out.alloc _).trans hf3 (fun _ _ h => h))
      clear hf3
      go_wp2_with fail
      refine (HPL.out _ HR3.out).mono ?_
      rintro e w4 ⟨rfl, hf4⟩
      have HF4 := Lib.hid (HF3.out.trans hf4 (fun _ _ h => h))
      clear hf4
      go_wp2
      go_ret
      exact ⟨rfl, HF4.out⟩
end Go.Proofs.YtjjeahijcibafaaDoor
