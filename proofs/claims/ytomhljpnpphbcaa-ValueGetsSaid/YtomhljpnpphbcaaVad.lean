/-
  Layer 14's laws: awake; Right of one, two, three values; all over what the program keeps.
-/
import Derived.Test.YtomhljpnpphbcaaVaJ
namespace Go.Proofs.Ytomhljpnpphbcaa
open Go.RowKit Mem Go.Lib VaM LebM UtfM
attribute [local go_sem ↓] Go.wp_at_zero Go.wp_at_succ
set_option linter.unusedVariables false

theorem vright0 (K : VaC) (w : World) : Calls Try.prog 10 #[.slice none 0 0] w fun e w' => e = .returned (.bool true) ∧ Fr (fun _ => False) w w' :=
  K.right none 0 0 [] w (Vls.nil _ _) (by omega) (by simp)
theorem vright1 (K : VaC) (v : V) (w : World) {k : Nat} (hk : k = w.heap.size) (hv : v.ok) (hl : v.s.length ≤ 1000000) :
    Calls Try.prog 10 #[.slice (some ⟨k, 0, none⟩) 1 1] (w.alloc (.cells #[.int .i64 v.k, .int .u64 (v.u : Int), .int .i64 v.n, .string (txt v.s)] 24)) fun e w' => e = .returned (.bool (rightV v)) ∧ Fr (fun _ => False) w w' := by
  refine (K.right (some ⟨k, 0, none⟩) 1 1 [v] _ (Vls.row (new_row hk _ ([v].flatMap vls))) (by omega) (by simp [hv, hl])).mono ?_
  rintro e w' ⟨rfl, hf⟩
  exact ⟨by simp, ((Fr.refl _ _).alloc _).trans hf (fun _ _ h => h)⟩
theorem vright2 (K : VaC) (v y : V) (w : World) {k : Nat} (hk : k = w.heap.size) (hv : v.ok) (hy : y.ok) (hl : v.s.length ≤ 1000000) (hl2 : y.s.length ≤ 1000000) :
    Calls Try.prog 10 #[.slice (some ⟨k, 0, none⟩) 2 2] (w.alloc (.cells #[.int .i64 v.k, .int .u64 (v.u : Int), .int .i64 v.n, .string (txt v.s), .int .i64 y.k, .int .u64 (y.u : Int), .int .i64 y.n, .string (txt y.s)] 24)) fun e w' => e = .returned (.bool (rightV v && rightV y)) ∧ Fr (fun _ => False) w w' := by
  refine (K.right (some ⟨k, 0, none⟩) 2 2 [v, y] _ (Vls.row (new_row hk _ ([v, y].flatMap vls))) (by omega) (by simp [hv, hl, hy, hl2])).mono ?_
  rintro e w' ⟨rfl, hf⟩
  exact ⟨by simp, ((Fr.refl _ _).alloc _).trans hf (fun _ _ h => h)⟩
theorem vright3 (K : VaC) (v y z : V) (w : World) {k : Nat} (hk : k = w.heap.size) (hv : v.ok) (hy : y.ok) (hz : z.ok) (hl : v.s.length ≤ 1000000) (hl2 : y.s.length ≤ 1000000) (hl3 : z.s.length ≤ 1000000) :
    Calls Try.prog 10 #[.slice (some ⟨k, 0, none⟩) 3 3] (w.alloc (.cells #[.int .i64 v.k, .int .u64 (v.u : Int), .int .i64 v.n, .string (txt v.s), .int .i64 y.k, .int .u64 (y.u : Int), .int .i64 y.n, .string (txt y.s), .int .i64 z.k, .int .u64 (z.u : Int), .int .i64 z.n, .string (txt z.s)] 24)) fun e w' => e = .returned (.bool (rightV v && (rightV y && rightV z))) ∧ Fr (fun _ => False) w w' := by
  refine (K.right (some ⟨k, 0, none⟩) 3 3 [v, y, z] _ (Vls.row (new_row hk _ ([v, y, z].flatMap vls))) (by omega) (by simp [hv, hl, hy, hl2, hz, hl3])).mono ?_
  rintro e w' ⟨rfl, hf⟩
  exact ⟨by simp, ((Fr.refl _ _).alloc _).trans hf (fun _ _ h => h)⟩

theorem put_m1 : putV ⟨4, 0, -1, []⟩ = [127] := by
  show s (-1) = [127]
  rw [s_small (by omega)]
  rfl
set_option maxRecDepth 100000 in
set_option maxHeartbeats 1600000 in
theorem awake14_any (K : VaC) (w : World) : Calls Try.prog 8 #[] w fun e w' => e = .returned (.bool true) ∧ Fr (fun _ => False) w w' := by
  have hp := K.put ⟨4, 0, -1, []⟩ w ⟨by show (-9223372036854775808 : Int) ≤ 4 ∧ (4 : Int) < _; omega, by show (0 : Nat) < _; omega, by show (-9223372036854775808 : Int) ≤ -1 ∧ (-1 : Int) < _; omega⟩
  have hr0 := fun w => vright0 K w
  have hr1 := fun (w : World) => vright1 K ⟨9, 0, 0, []⟩ w rfl ⟨by show (-9223372036854775808 : Int) ≤ 9 ∧ (9 : Int) < _; omega, by show (0 : Nat) < _; omega, by show (-9223372036854775808 : Int) ≤ 0 ∧ (0 : Int) < _; omega⟩ (by simp)
  rw [put_m1] at hp
  rw [show rightV ⟨9, 0, 0, []⟩ = false from rfl] at hr1
  have HP := Lib.hid hp
  have HR0 := Lib.hid hr0
  have HR1 := Lib.hid hr1
  clear hp hr0 hr1
  go_enter Try.func8, Try.ntmps8
  go_wp2_with fail
  refine HP.out.mono ?_
  intro e w1 h1
  obtain ⟨A1, c1, rfl, hc1, hr1, hf1⟩ := h1
  have hs1 : (convert 28 9 (.slice A1 1 c1)).run Try.prog w1 = .ok (.string (txt [127])) w1 := str_rd hr1 c1
  have hq1 : (txt [127]).toList = [127] := ByteArray.toList_mk _
  have HF1 := Lib.hid hf1
  clear hr1 hc1 hf1
  go_wp2_with fail
  refine (HR0.out _).mono ?_
  rintro e w2 ⟨rfl, hf2⟩
  have HF2 := Lib.hid (HF1.out.trans hf2 (fun _ _ h => h))
  clear hf2
  go_wp2_with fail
  refine (HR1.out _).mono ?_
  rintro e w3 ⟨rfl, hf3⟩
  have HF3 := Lib.hid (HF2.out.trans hf3 (fun _ _ h => h))
  clear hf3
  go_wp2_with fail
  go_ret
  exact ⟨rfl, HF3.out⟩
end Go.Proofs.Ytomhljpnpphbcaa
