/-
  Layer 8's program: repeat.
-/
import Derived.Test.YtjghcacepneipaaDoorCpA
namespace Go.Proofs.YtjghcacepneipaaDoor
open Go.RowKit CoM Mem Go.Lib
attribute [local go_sem ↓] Go.wp_at_zero Go.wp_at_succ
set_option linter.unusedVariables false

theorem itmSz : (Tryd.prog.info? 32).map (·.size) = some 3 := by kernel_rfl
theorem itm_one (a b c : Nat) : [Value.int .i64 (a : Int), .int .i64 (b : Int), .int .u64 (c : Int)].toArray.all (·.oneCell') = true := by simp [Value.oneCell']
def itv (t : It) : Value := .agg #[.int .i64 (t.s : Int), .int .i64 (t.b : Int), .int .u64 (t.x : Int)]
theorem spn_le {k a b c : Nat} (h : spn[k]? = some (a, b, c)) : a ≤ b ∧ b ≤ 138 ∧ c ≤ 7 ∧ 3 ≤ a ∧ b < a + 2 ^ c := by
  match k, h with
  | 0, h => simp [spn] at h; obtain ⟨rfl, rfl, rfl⟩ := h; decide
  | 1, h => simp [spn] at h; obtain ⟨rfl, rfl, rfl⟩ := h; decide
  | 2, h => simp [spn] at h; obtain ⟨rfl, rfl, rfl⟩ := h; decide
  | k + 3, h => simp [spn] at h
set_option maxRecDepth 100000 in
set_option maxHeartbeats 1600000 in
theorem repeat_any (s k a b c n m : Nat) (hk : s = 16 + k) (h : spn[k]? = some (a, b, c)) (hn : a ≤ n) (hn2 : n ≤ 1000000) (hm : m = min n b) (w : World) (hG : GlS w) :
    Calls Tryd.prog 47 #[.int .i64 (s : Int), .int .i64 (n : Int)] w fun e w' => e = .returned (.tuple #[itv ⟨s, c, m - a⟩, .int .i64 (m : Int)]) ∧ Fr (fun _ => False) w w' := by
  obtain ⟨b1, b2, b3, b4, b5⟩ := spn_le h
  obtain ⟨x, hx⟩ : ∃ x, x = m - a := ⟨_, rfl⟩
  have hxi : (m : Int) - (a : Int) = (x : Int) := by omega
  have hxw : IntKind.i64.wrap ((m : Int) - (a : Int)) = (x : Int) := by rw [IntKind.wrap_i64]; omega
  have hxu : IntKind.u64.wrap ((m : Int) - (a : Int)) = (x : Int) := by unfold IntKind.wrap; simp [IntKind.bits, IntKind.signed]; omega
  have q1 := run_min8 (n : Int) (b : Int) (m : Int) (by omega)
  have q2 := conv_u64 x (by omega)
  have hsp : ∀ w, GlS w → Calls Tryd.prog 46 #[.int .i64 (s : Int)] w fun e w' => e = .returned (.agg #[.int .i64 (a : Int), .int .i64 (b : Int), .int .i64 (c : Int)]) ∧ Fr (fun _ => False) w w' := fun w hG => spanOf_any s k a b c hk h w hG
  have HSP := Lib.hid hsp
  have hmb : m ≤ 138 := by omega
  have HG := Lib.hid hG
  unfold itv
  simp only
  rw [← hx]
  clear hsp hG h hk hm hx b1 b2 b3 b4 b5 hn
  go_enter Tryd.func47, Tryd.ntmps47
  go_upto_region 1 with fail
  obtain ⟨w1, hw1⟩ : ∃ w1, w1 = w.alloc (.cells #[Value.int .i64 0, .int .i64 0, .int .u64 0] 32) := ⟨_, rfl⟩
  have hr1 : Row w1 w.heap.size 32 [Value.int .i64 0, .int .i64 0, .int .u64 0] := by rw [hw1]; exact Row.new w _ _
  have hf1 : Fr (fun _ => False) w w1 := by rw [hw1]; exact (Fr.refl _ w).alloc _
  obtain ⟨r, hr⟩ : ∃ r, r = w.heap.size := ⟨_, rfl⟩
  rw [← hw1]
  rw [← hr] at hr1 ⊢
  have HF1 := Lib.hid hf1
  have HR1 := Lib.hid hr1
  have HRW : Hid (w.heap.size ≤ r) := Lib.hid (by omega)
  have HG1 := Lib.hid (HG.out.fr0 hf1)
  clear hw1 hf1 hr1 hr
  go_wp2_with (first
    | (refine (HSP.out w1 HG1.out).mono ?_
       rintro e w2 ⟨rfl, hf2⟩
       have HF2 := Lib.hid (HF1.out.trans hf2 (fun _ _ h => h))
       have HR2 := Lib.hid (HR1.out.fr hf2 (fun h => h))
       clear hf2)
    | (refine store_st itmSz rfl (.tmp 4) (.tmp 21) rfl r (by rfl) [.int .i64 (s : Int), .int .i64 (c : Int), .int .u64 (x : Int)] (by rfl) _ _ (HR2.out.alloc _) rfl rfl (itm_one s c x) ?_
       intro w4 hr4 hf4
       have HR4 := Lib.hid hr4
       have HF4 := Lib.hid ((HF2.out.alloc _).trans hf4 (fun b hb h => by have := HRW.out; omega))
       clear hr4 hf4))
  have d0 : w4.cell? ⟨r, 0, none⟩ = some (.int .i64 (s : Int)) := HR4.out.cell rfl
  have d1 : w4.cell? ⟨r, 1, none⟩ = some (.int .i64 (c : Int)) := HR4.out.cell rfl
  have d2 : w4.cell? ⟨r, 2, none⟩ = some (.int .u64 (x : Int)) := HR4.out.cell rfl
  go_wp2_with fail
  exact bodyPost_ret (v := .tuple #[.agg #[.int .i64 (s : Int), .int .i64 (c : Int), .int .u64 (x : Int)], .int .i64 (m : Int)]) (by simp [results, Tryd.results47, go_sem, d0, d1, d2]) rfl ⟨rfl, HF4.out⟩
end Go.Proofs.YtjghcacepneipaaDoor
