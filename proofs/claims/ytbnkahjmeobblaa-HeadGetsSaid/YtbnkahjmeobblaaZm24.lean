/-
  Layer 17, the program: Compare, rightKey, rightPreds.
  Layer 17, the program: texts that are copied (strings.Clone), likeId.
-/
import Derived.Test.YtbnkahjmeobblaaZm23
import Derived.Test.YtbnkahjmeobblaaZm14
import Derived.Lib.BufferWrite
import Derived.Lib.UnsafeStr
namespace Go.Proofs.Ytbnkahjmeobblaa
open Go.RowKit Mem Go.Lib LebM UtfM VaM OpM
attribute [local go_sem ↓] Go.wp_at_zero Go.wp_at_succ
set_option linter.unusedVariables false

theorem i64_lt (a b : Int) : decide (a < b) = true ∨ decide (a < b) = false := by cases decide (a < b) <;> simp
end Go.Proofs.Ytbnkahjmeobblaa
namespace Go.Proofs.Ytbnkahjmeobblaa
open Go.RowKit Mem Go.Lib LebM UtfM VaM OpM
attribute [local go_sem ↓] Go.wp_at_zero Go.wp_at_succ
set_option linter.unusedVariables false

theorem txt_data' (B : List UInt8) : (txt B).data.toList = B := rfl
set_option maxRecDepth 100000 in
set_option maxHeartbeats 1600000 in
theorem sclone_any (B : List UInt8) (w : World) (hl : B.length ≤ 1000000) : Calls Try.prog 81 #[.string (txt B)] w fun e w' => e = .returned (.string (txt B)) ∧ Fr (fun _ => False) w w' := by
  have hsz := txt_sz B
  by_cases h0 : B = []
  · subst h0
    have hz : (txt []).size = 0 := rfl
    clear hsz
    go_enter Try.func81, Try.ntmps81
    go_wp2_with fail
    go_ret
    exact ⟨rfl, Fr.refl _ _⟩
  · obtain ⟨n, hn⟩ : ∃ n, n = B.length := ⟨_, rfl⟩
    have hpos : 0 < n := by rw [hn]; exact List.length_pos_iff.2 h0
    obtain ⟨g, hg⟩ : ∃ g, w.heap.size = g := ⟨_, rfl⟩
    obtain ⟨w1, hw1⟩ : ∃ w1, w.alloc (.cells (Array.replicate n (.int .u8 0)) 5) = w1 := ⟨_, rfl⟩
    have hmk := mk_u8 n (by omega) w
    rw [hg, hw1] at hmk
    have hb1 : w1.heap[g]? = some (.cells (Array.replicate n (.int .u8 0)) 5 (0, 0)) := by rw [← hw1, ← hg]; exact heap_alloc_new w _
    have hf1 : Below w.heap.size w w1 := by rw [← hw1]; exact (Below.refl _ w).alloc (Nat.le_refl _) _
    rw [← hn] at hsz
    have hcp := Lib.run_copy_row_string (P := Try.prog) w1 29 9 3 5 g 0 n n (txt B) _ 5 Try.underlying29 (by kernel_rfl) hb1 (by rw [hsz]; exact Nat.le_refl _) (by rw [hsz]; simp)
    have hY : (((Array.replicate n (Value.int .u8 0)).toList.take 0 ++ Lib.byteCells (txt B).data.toList ++ (Array.replicate n (Value.int .u8 0)).toList.drop (0 + (txt B).size)).toArray) = (Lib.byteCells B).toArray := by
      rw [hsz, List.take_zero, List.nil_append, List.drop_of_length_le (by simp), List.append_nil]
      rfl
    rw [hY] at hcp
    obtain ⟨w2, hw2⟩ : ∃ w2, w1.setRow g (Lib.byteCells B).toArray = w2 := ⟨_, rfl⟩
    rw [hw2] at hcp
    have hb2 : w2.heap[g]? = some (.cells (Lib.byteCells B).toArray 5 (0, 0)) := by rw [← hw2]; exact setRow_heap w1 g _ _ _ (0, 0) hb1
    have hf2 : Below w.heap.size w1 w2 := by rw [← hw2]; exact ⟨rfl, rfl, rfl, by simp, fun k hk => setRow_other _ _ _ _ (by omega)⟩
    have hus := Lib.run_unsafeString_row (P := Try.prog) w2 129 3 9 5 Try.underlying129 (by kernel_rfl) g n (by unfold World.shape?; rw [hb2]; simp [Lib.byteCells_length, hn]) B h0 (by omega) (by omega)
      (fun j x hx => by rw [show (⟨g, 0, none⟩ : Addr).add j = ⟨g, j, none⟩ from by unfold Addr.add; split <;> simp_all, cell_of hb2]; simp [Lib.byteCells, hx])
    rw [← hn] at hus
    have hfin : Fr (fun _ => False) w (w2.freeze ⟨g, 0, none⟩ n) := (Fr.of_below (Lib.below_freeze (hf1.trans hf2) (p := ⟨g, 0, none⟩) (by show w.heap.size ≤ g; omega) n)).mono (fun b hb h => by omega)
    have HFIN := Lib.hid hfin
    have tz : ((n : Int) == 0) = false := by simp; omega
    have e : txt B = ⟨B.toArray⟩ := rfl
    clear hb1 hf1 hb2 hf2 hfin hY h0 hn hw2 e
    go_enter Try.func81, Try.ntmps81
    go_wp2_with fail
    go_ret
    exact ⟨rfl, HFIN.out⟩
set_option maxRecDepth 100000 in
theorem clone_any (B : List UInt8) (w : World) (hl : B.length ≤ 1000000) : Calls Try.prog 70 #[.string (txt B)] w fun e w' => e = .returned (.string (txt B)) ∧ Fr (fun _ => False) w w' := by
  have H := Lib.hid (fun w => sclone_any B w hl)
  go_enter Try.func70, Try.ntmps70
  go_wp2_with fail
  refine (H.out _).mono ?_
  rintro e w2 ⟨rfl, hf⟩
  have HF := Lib.hid hf
  clear hf
  go_wp2_with fail
  go_ret
  exact ⟨rfl, HF.out⟩
/-- what lies there may be written once more -/
theorem set_same {w : World} {g i : Nat} {t : TypeId} {L : List Value} {u : Value} (h : Row w g t L) (hi : L[i]? = some u) : w.setCell ⟨g, i, none⟩ u = w := by
  have h' : w.heap[g]? = some (.cells L.toArray t (0, 0)) := h
  have hs := Row.set h i u
  have e : L.set i u = L := by
    apply List.ext_getElem?
    intro j
    rw [List.getElem?_set]
    split
    · rename_i hij
      subst hij
      rw [if_pos (List.getElem?_eq_some_iff.1 hi).1, hi]
    · rfl
  rw [e] at hs
  have hs' : (w.setCell ⟨g, i, none⟩ u).heap[g]? = some (.cells L.toArray t (0, 0)) := hs
  have hh : (w.setCell ⟨g, i, none⟩ u).heap = w.heap := by
    apply Array.ext_getElem?
    intro k
    by_cases hk : k = g
    · subst hk; rw [hs', h']
    · exact ((Fr.set1 w g i u).block k)
        |> fun hb => by
          rcases Nat.lt_or_ge k w.heap.size with hl | hl
          · exact hb hl hk
          · rw [Array.getElem?_eq_none hl, Array.getElem?_eq_none (by have : (w.setCell ⟨g, i, none⟩ u).heap.size = w.heap.size := by simp [World.setCell]
                                                                      omega)]
  have hd : w.setCell ⟨g, i, none⟩ u = { w with heap := (w.setCell ⟨g, i, none⟩ u).heap } := rfl
  rw [hd, hh]
set_option maxRecDepth 100000 in
set_option maxHeartbeats 1600000 in
theorem like_any (x : Nm) (w : World) (hl : x.a.length ≤ 1000000) : Calls Try.prog 69 #[nmc x] w fun e w' => e = .returned (nmc x) ∧ Fr (fun _ => False) w w' := by
  obtain ⟨g, hg⟩ : ∃ g, w.heap.size = g := ⟨_, rfl⟩
  obtain ⟨w1, hw1⟩ : ∃ w1, w.alloc (.cells #[.int .i64 x.c, .string (txt x.a)] 44) = w1 := ⟨_, rfl⟩
  have hf1 : Fr (fun _ => False) w w1 := by rw [← hw1]; exact (Fr.refl _ _).alloc _
  have hr1 : RowN w1 g x := by rw [← hw1, ← hg]; exact RowN.new w x
  obtain ⟨g2, hg2⟩ : ∃ g, w1.heap.size = g := ⟨_, rfl⟩
  obtain ⟨w2, hw2⟩ : ∃ w2, w1.alloc (.cells #[.int .i64 0, .string ⟨#[]⟩] 44) = w2 := ⟨_, rfl⟩
  have hf2 : Fr (fun _ => False) w1 w2 := by rw [← hw2]; exact (Fr.refl _ _).alloc _
  have hr2 : RowN w2 g2 zeroN := by rw [← hw2, ← hg2]; exact RowN.new w1 zeroN
  have HX := Lib.hid (hr1.fr hf2 (fun h => h))
  have HZ := Lib.hid hr2
  have HF := Lib.hid (hf1.trans hf2 (fun _ _ h => h))
  have HG : Hid (w.heap.size ≤ g2) := Lib.hid (by have := hf1.size; omega)
  have HC := Lib.hid (fun w => clone_any x.a w hl)
  obtain ⟨c0, c1⟩ := HX.out.cells
  unfold nmc
  clear hf1 hr1 hf2 hr2
  go_enter Try.func69, Try.ntmps69
  go_wp2_with fail
  clear hw1 hw2 hg hg2 c0 c1
  refine (HC.out _).mono ?_
  rintro e w3 ⟨rfl, hf⟩
  have HX3 := Lib.hid (HX.out.fr hf (fun h => h))
  have HZ3 := Lib.hid (HZ.out.fr hf (fun h => h))
  have HF3 := Lib.hid (HF.out.trans hf (fun _ _ h => h))
  obtain ⟨c0, c1⟩ := HX3.out.cells
  have fz : w3.frozen? ⟨g, 1, none⟩ = false := Row.free HX3.out 1
  have hsm : w3.setCell ⟨g, 1, none⟩ (.string (txt x.a)) = w3 := set_same HX3.out rfl
  clear hf
  go_wp2_with (refine store_st nSz rfl (.tmp 2) (.tmp 7) rfl g2 (by rfl) (nls x) (by rfl) _ _ HZ3.out rfl rfl (n_one _) ?_)
  intro w4 hr4 hf4
  have hv4 : RowN w4 g2 x := hr4
  obtain ⟨d0, d1⟩ := hv4.cells
  have HF4 := Lib.hid (HF3.out.trans hf4 (fun b hb h => by have := HG.out; omega))
  clear hr4 hf4 hv4 c0 c1 fz hsm
  go_wp2_with fail
  refine bodyPost_ret (v := nmc x) (by simp [results, nmc, d0, d1, Try.results69, go_sem]) rfl ⟨rfl, HF4.out⟩
end Go.Proofs.Ytbnkahjmeobblaa
