/-
  Contract of layer 4's program: the eight words of a state.
-/
import Derived.Test.YtjjeahijcibafaaDoorShqC
namespace Go.Proofs.YtjjeahijcibafaaDoor
open Go.RowKit ShaM Mem Go.Lib
attribute [local go_sem ↓] Go.wp_at_zero Go.wp_at_succ

/-- the tables lie in their variables -/
def Gl (w : World) : Prop := (∀ i x : Nat, first[i]? = some x → w.cell? ⟨0, i, none⟩ = some (.int .u32 (x : Int))) ∧ (∀ i x : Nat, keys[i]? = some x → w.cell? ⟨1, i, none⟩ = some (.int .u32 (x : Int)))
theorem Gl.fr {S : Nat → Prop} {w w' : World} (h : Gl w) (hf : Fr S w w') (h0 : ¬ S 0) (h1 : ¬ S 1) : Gl w' := ⟨fun i x hx => hf.cell (h.1 i x hx) h0, fun i x hx => hf.cell (h.2 i x hx) h1⟩
theorem Gl.fr0 {w w' : World} (h : Gl w) (hf : Fr (fun _ => False) w w') : Gl w' := h.fr hf (fun h => h) (fun h => h)
theorem Gl.size {w : World} (h : Gl w) : 2 ≤ w.heap.size := by
  have : (⟨1, 0, none⟩ : Addr).block < w.heap.size := World.block_lt_of_cell? w ⟨1, 0, none⟩ (h.2 0 _ rfl)
  simp at this
  omega
theorem eightT : RowTy Tryd.prog 35 8 := ⟨⟨_, _, Tryd.underlying35⟩, by kernel_rfl⟩
theorem bufT : RowTy Tryd.prog 36 64 := ⟨⟨_, _, Tryd.underlying36⟩, by kernel_rfl⟩
/-- a piece of a block, by value -/
theorem load_piece {ty : TypeId} {n : Nat} (hT : RowTy Tryd.prog ty n) {ops : Array Oper} {rest : List Oper} {op : Oper} {a : Act} {w : World} {Q : Exit → Act → World → Prop} (hgd : op.guard = none) (x : Operand) (ho : op.op = .load ty x)
    (g o : Nat) (hx : a.eval x = .pointer (some ⟨g, o, none⟩)) (M : List Value) (hM : M.length = n) (hc : w.rangeAt g o M)
    (h : wpList Tryd.prog ops Q rest (a.put op.dst (.agg M.toArray)) w) : wpList Tryd.prog ops Q (op :: rest) a w := by
  obtain ⟨m, e, hu⟩ := hT.und
  exact wpList_load_mid hgd ty x ho g o hx M (.array m e) hc hu rfl (by rw [hT.size, hM]) h

/-- the first k words are sums -/
def lw (ad : List Nat) (k : Nat) : List Value := ((sumW ad).take k ++ ad.drop k).map num32
theorem lw_len (ad : List Nat) (k : Nat) (hl : ad.length = 8) (hk : k ≤ 8) : (lw ad k).length = 8 := by simp [lw, sumW_len hl, hl]; omega
theorem lw_at (ad : List Nat) (k : Nat) (hl : ad.length = 8) (hk : k < 8) : ∃ x f, ad[k]? = some x ∧ first[k]? = some f ∧ (lw ad k)[k]? = some (num32 x) ∧ (lw ad k).set k (num32 (a32 x f)) = lw ad (k + 1) := by
  have hf : first.length = 8 := rfl
  have hsl := sumW_len hl
  have hs : (sumW ad)[k]? = some (a32 (ad[k]'(by omega)) (first[k]'(by omega))) := by
    rw [List.getElem?_eq_getElem (by omega)]
    congr 1
    exact List.getElem_zipWith ..
  refine ⟨ad[k], first[k], List.getElem?_eq_getElem _, List.getElem?_eq_getElem _, ?_, ?_⟩
  · unfold lw
    rw [List.getElem?_map, List.getElem?_append_right (by simp; omega), List.getElem?_drop]
    simp [hsl]
    rw [show k + (k - min k 8) = k from by omega, List.getElem?_eq_getElem (by omega)]
    exact ⟨_, rfl, rfl⟩
  · unfold lw
    rw [← List.map_set]
    congr 1
    rw [List.set_append_right _ _ (by simp; omega), List.length_take, hsl, Nat.min_eq_left (by omega), Nat.sub_self, List.drop_eq_getElem_cons (by omega), List.set_cons_zero, List.take_add_one, hs]
    simp
    rfl

set_option maxRecDepth 100000 in
set_option maxHeartbeats 800000 in
theorem words_any (g : Nat) (ad : List Nat) (w : World) (hl : ad.length = 8) (hG : Gl w) (hc : w.rangeAt g 0 (ad.map num32)) :
    Calls Tryd.prog 21 #[.pointer (some ⟨g, 0, none⟩)] w fun e w' => e = .returned (.agg ((sumW ad).map num32).toArray) ∧ Fr (fun _ => False) w w' := by
  have HGL := Lib.hid hG
  have HL := Lib.hid hl
  have HC := Lib.hid hc
  clear hG hl hc
  go_enter Tryd.func21, Tryd.ntmps21
  obtain ⟨C, hC⟩ : ∃ C, C = (ad.map num32) := ⟨_, rfl⟩
  have hCl : C.length = 8 := by rw [hC, List.length_map, HL.out]
  have hC1 : C.toArray.all (·.oneCell') = true := by rw [hC, List.all_toArray, List.all_eq_true]; exact num32_one _
  have hC0 : C = lw ad 0 := by rw [hC]; rfl
  rw [← hC] at HC
  have HCL := Lib.hid hCl
  have HC1 := Lib.hid hC1
  have HC0 := Lib.hid hC0
  clear hC hCl hC1 hC0
  go_upto_region 1 with fail
  obtain ⟨w0, hw0⟩ : ∃ w0, w.alloc (.cells (List.replicate 8 (Value.int .u32 0)).toArray 35) = w0 := ⟨_, rfl⟩
  change Code.wp _ _ _ _ (w.alloc (.cells (List.replicate 8 (Value.int .u32 0)).toArray 35))
  rw [hw0]
  obtain ⟨g2, hg2⟩ : ∃ g2, g2 = w.heap.size := ⟨_, rfl⟩
  have hr2 : Row w0 g2 35 (List.replicate 8 (Value.int .u32 0)) := by rw [← hw0, hg2]; exact Row.new _ _ _
  have hf0 : Fr (fun _ => False) w w0 := by rw [← hw0]; exact (Fr.refl _ _).alloc _
  have hc0 : w0.rangeAt g 0 C := fun j v h => hf0.cell (HC.out j v h) (fun h => h)
  rw [← hg2]
  have HR2 := Lib.hid hr2
  have HF0 := Lib.hid hf0
  have HG2 := Lib.hid hg2
  have HCC := Lib.hid hc0
  clear hw0 hg2 hr2 hf0 hc0
  go_wp2_with (first | (refine load_piece eightT rfl (.tmp 7) rfl g 0 rfl C HCL.out HCC.out ?_) | (refine wpList_store_blk eightT rfl (.tmp 3) (.tmp 8) rfl w0.heap.size rfl C.toArray rfl _ _ (heap_alloc_new w0 _) (by simpa using HCL.out) (by rfl) HC1.out ?_))
  intro w1 hg1 hf1
  have hr3 : Row w1 w0.heap.size 35 (lw ad 0) := by rw [← HC0.out]; exact hg1
  have hf01 : Fr (fun _ => False) w0 w1 := ((Fr.refl (fun _ => False) w0).alloc _).trans hf1 (fun b hb h => by omega)
  obtain ⟨g3, hg3⟩ : ∃ g3, g3 = w0.heap.size := ⟨_, rfl⟩
  have hlt := HR2.out.lt
  have hg2l := hf01.blk HR2.out (fun h => h)
  rw [← hg3] at hr3 hlt ⊢
  have HR3 := Lib.hid hr3
  have HF1 := Lib.hid (HF0.out.trans hf01 (fun _ _ h => h))
  have HR21 : Hid (Row w1 g2 35 (List.replicate 8 (Value.int .u32 0))) := Lib.hid hg2l
  have HGL1 := Lib.hid (HGL.out.fr0 HF1.out)
  have hg32 : 2 ≤ g3 := by have := HGL.out.size; have := HG2.out; omega
  have HG3 := Lib.hid (show w.heap.size ≤ g3 by have := HG2.out; omega)
  have hne : g2 ≠ g3 := by omega
  clear hg1 hf1 hr3 hf01 hg3 hlt hg2l HR2 HF0 HCC HC
  go_wp2_with fail
  go_loopw [9] (fun i wr => ∃ k : Nat, k ≤ 8 ∧ i = .int .i64 (k : Int) ∧ Hid (Row wr g3 35 (lw ad k)) ∧ Fr (fun b => b = g3) w1 wr)
    (fun i _ => 8 - (intOf i).toNat)
  case atStart => exact ⟨0, by omega, rfl, HR3, Fr.refl _ _⟩
  case round =>
    obtain ⟨k, hk, rfl, HW, hfr⟩ := hrel
    by_cases hlt : k < 8
    · obtain ⟨x, f, hx, hf, hcur, hset⟩ := lw_at ad k HL.out hlt
      have hc3 := HW.out.cell hcur
      have hc0 := (HGL1.out.fr hfr (by omega) (by omega)).1 k f hf
      have hfree := HW.out.free k
      have e1 := add_w x f
      have hs := HW.out.set k (num32 (a32 x f))
      rw [hset] at hs
      unfold num32 at hs hc3
      obtain ⟨z, hz⟩ : ∃ z, z = a32 x f := ⟨_, rfl⟩
      rw [← hz] at e1 hs
      have b8 : (k : Int) < 8 := by omega
      have HS := Lib.hid hs
      have HFR := Lib.hid hfr
      clear hx hf hcur hset hs hz hfr HW
      go_wp2_with fail
      go_still_tail 8, (by kernel_rfl)
      change wpList _ _ _ _ _ wr.drew
      go_wp2_with fail
      exact ⟨⟨k + 1, by omega, by go_num, HS, HFR.out.drew.trans (Fr.set1 wr.drew g3 k _) (fun _ _ h => h)⟩, by simp [intOf]; omega⟩
    · obtain rfl : k = 8 := by omega
      have HF2 := Lib.hid hfr
      have HR22 := Lib.hid (HR21.out.fr hfr hne)
      rename World => w2
      clear hfr
      go_upto_region 7 with fail
      refine wp_region_lit ?_
      have hll := lw_len ad 8 HL.out (by omega)
      refine wpList_load_blk eightT rfl (.tmp 3) rfl g3 rfl _ _ HW.out (by simpa using hll) ?_
      refine wpList_store_blk eightT rfl (.tmp 2) (.tmp 21) rfl g2 rfl (lw ad 8).toArray rfl _ 35 HR22.out (by simpa using hll) (by rfl) (by unfold lw; rw [List.all_toArray, List.all_eq_true]; exact num32_one _) ?_
      intro w3 hg hf
      have HG := Lib.hid hg
      have HF := Lib.hid ((HF1.out.trans HF2.out (fun b hb h => by have := HG3.out; omega)).trans hf (fun b hb h => by have := HG2.out; omega))
      have HLL := Lib.hid hll
      clear hg hf hll
      go_wp2_with fail
      have e8 : lw ad 8 = (sumW ad).map num32 := by
        unfold lw
        rw [List.take_of_length_le (by rw [sumW_len HL.out]; omega), List.drop_of_length_le (by rw [HL.out]; omega), List.append_nil]
      exact bodyPost_ret (v := .agg (lw ad 8).toArray) (results_blk eightT rfl g2 rfl _ _ HG.out (by simpa using HLL.out)) rfl ⟨by rw [e8], HF.out⟩
end Go.Proofs.YtjjeahijcibafaaDoor
