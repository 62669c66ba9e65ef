/-
  Layer 14, the program: the closures of numbers (written by gen_clos.py).
-/
import Derived.Test.YtedmnkcoflbciaaGreatVaB
import Derived.Test.YtedmnkcoflbciaaGreatLebD
import Derived.StillTailTactics
namespace Go.Proofs.YtedmnkcoflbciaaGreat
open Go.RowKit Mem Go.Lib VaM LebM UtfM
attribute [local go_sem ↓] Go.wp_at_zero Go.wp_at_succ
set_option linter.unusedVariables false

theorem sw14 {f : FuncId} {args : Array Value} {w : World} {v : Value} (h : Calls Tryz.prog f args w fun e w' => e = .returned v ∧ w = w') : Calls Tryz.prog f args w fun e w' => e = .returned v ∧ w' = w := h.mono fun _ _ h => ⟨h.1, h.2.symm⟩

set_option maxRecDepth 100000 in
set_option maxHeartbeats 1600000 in
theorem vputU_any (a f : Nat) (v : V) (w : World) (hv : v.ok) (ha : w.cell? ⟨a, 0, none⟩ = some (fnc 122)) (hf : w.cell? ⟨f, 0, none⟩ = some (fnc 147)) :
    Calls Tryz.prog 171 #[valc v, .pointer (some ⟨a, 0, none⟩), .pointer (some ⟨f, 0, none⟩)] w (TellsN w (u v.u)) := by
  unfold fnc at ha hf
  obtain ⟨g, hg⟩ : ∃ g, w.heap.size = g := ⟨_, rfl⟩
  obtain ⟨w1, hw1⟩ : ∃ w1, w.alloc (.cells #[.int .i64 v.k, .int .u64 (v.u : Int), .int .i64 v.n, .string (txt v.s)] 52) = w1 := ⟨_, rfl⟩
  have hf1 : Fr (fun _ => False) w w1 := by rw [← hw1]; exact (Fr.refl _ _).alloc _
  have hr1 : RowV w1 g v := by rw [← hw1, ← hg]; exact RowV.new w v
  have ha1 := hf1.cell ha (fun h => h)
  have hc1 := hf1.cell hf (fun h => h)
  have d1 := hr1.c1
  have hu := U_any v.u w1.drew hv.2.1
  have hfl := fieldU_any g w1.drew
  have HU := Lib.hid hu
  have HFL := Lib.hid hfl
  have HF1 := Lib.hid hf1
  unfold valc
  clear ha hf hf1 hr1 hu hfl
  go_enter Tryz.func171, Tryz.ntmps171
  go_upto_region 1 with fail
  clear hw1 hg
  refine wp_region_still_tail 5 (by kernel_rfl) (by kernel_rfl) ?_
  simp only [List.take_succ_cons, List.take_zero, List.drop_succ_cons, List.drop_zero]
  repeat still_step
  still_call (sw14 HFL.out)
  repeat still_step
  refine wpStill_nil ?_
  change wpList _ _ _ _ _ w1.drew
  go_wp2_with fail
  refine HU.out.mono ?_
  intro e w2 h2
  obtain ⟨A, c, rfl, ho, hf2⟩ := h2
  have HO := Lib.hid ho
  have HF2 := Lib.hid (HF1.out.drew.trans hf2 (fun _ _ h => h))
  clear ho hf2
  go_wp2_with fail
  go_ret
  exact ⟨A, c, rfl, HO.out.cap.1, HO.out.rd, HF2.out, fun ad e => Nat.le_trans HF1.out.drew.size (HO.out.lt ad.block (by rw [e]; rfl)).1⟩

set_option maxRecDepth 100000 in
set_option maxHeartbeats 1600000 in
theorem vputS_any (a f : Nat) (v : V) (w : World) (hv : v.ok) (ha : w.cell? ⟨a, 0, none⟩ = some (fnc 121)) (hf : w.cell? ⟨f, 0, none⟩ = some (fnc 150)) :
    Calls Tryz.prog 173 #[valc v, .pointer (some ⟨a, 0, none⟩), .pointer (some ⟨f, 0, none⟩)] w (TellsN w (s v.n)) := by
  unfold fnc at ha hf
  obtain ⟨g, hg⟩ : ∃ g, w.heap.size = g := ⟨_, rfl⟩
  obtain ⟨w1, hw1⟩ : ∃ w1, w.alloc (.cells #[.int .i64 v.k, .int .u64 (v.u : Int), .int .i64 v.n, .string (txt v.s)] 52) = w1 := ⟨_, rfl⟩
  have hf1 : Fr (fun _ => False) w w1 := by rw [← hw1]; exact (Fr.refl _ _).alloc _
  have hr1 : RowV w1 g v := by rw [← hw1, ← hg]; exact RowV.new w v
  have ha1 := hf1.cell ha (fun h => h)
  have hc1 := hf1.cell hf (fun h => h)
  have d1 := hr1.c2
  have hu := S_any v.n w1.drew hv.2.2.1 hv.2.2.2
  have hfl := fieldN_any g w1.drew
  have HU := Lib.hid hu
  have HFL := Lib.hid hfl
  have HF1 := Lib.hid hf1
  unfold valc
  clear ha hf hf1 hr1 hu hfl
  go_enter Tryz.func173, Tryz.ntmps173
  go_upto_region 1 with fail
  clear hw1 hg
  refine wp_region_still_tail 5 (by kernel_rfl) (by kernel_rfl) ?_
  simp only [List.take_succ_cons, List.take_zero, List.drop_succ_cons, List.drop_zero]
  repeat still_step
  still_call (sw14 HFL.out)
  repeat still_step
  refine wpStill_nil ?_
  change wpList _ _ _ _ _ w1.drew
  go_wp2_with fail
  refine HU.out.mono ?_
  intro e w2 h2
  obtain ⟨A, c, rfl, ho, hf2⟩ := h2
  have HO := Lib.hid ho
  have HF2 := Lib.hid (HF1.out.drew.trans hf2 (fun _ _ h => h))
  clear ho hf2
  go_wp2_with fail
  go_ret
  exact ⟨A, c, rfl, HO.out.cap.1, HO.out.rd, HF2.out, fun ad e => Nat.le_trans HF1.out.drew.size (HO.out.lt ad.block (by rw [e]; rfl)).1⟩

end Go.Proofs.YtedmnkcoflbciaaGreat
