/-
  Layer 14's laws: awake; Right of one, two, three values; all over what the program keeps.
-/
import Derived.Test.YtmiofhoojahpjaaVaJ
namespace Go.Proofs.Ytmiofhoojahpjaa
open Go.RowKit Mem Go.Lib VaM LebM UtfM
attribute [local go_sem ↓] Go.wp_at_zero Go.wp_at_succ
set_option linter.unusedVariables false

theorem vright0 (K : VaC) (w : World) : Calls Try.prog 34 #[.slice none 0 0] w fun e w' => e = .returned (.bool true) ∧ Fr (fun _ => False) w w' :=
  K.right none 0 0 [] w (Vls.nil _ _) (by omega) (by simp)
theorem vright1 (K : VaC) (v : V) (w : World) {k : Nat} (hk : k = w.heap.size) (hv : v.ok) (hl : v.s.length ≤ 1000000) :
    Calls Try.prog 34 #[.slice (some ⟨k, 0, none⟩) 1 1] (w.alloc (.cells #[.int .i64 v.k, .int .u64 (v.u : Int), .int .i64 v.n, .string (txt v.s)] 30)) fun e w' => e = .returned (.bool (rightV v)) ∧ Fr (fun _ => False) w w' := by
  refine (K.right (some ⟨k, 0, none⟩) 1 1 [v] _ (Vls.row (new_row hk _ ([v].flatMap vls))) (by omega) (by simp [hv, hl])).mono ?_
  rintro e w' ⟨rfl, hf⟩
  exact ⟨by simp, ((Fr.refl _ _).alloc _).trans hf (fun _ _ h => h)⟩
theorem vright2 (K : VaC) (v y : V) (w : World) {k : Nat} (hk : k = w.heap.size) (hv : v.ok) (hy : y.ok) (hl : v.s.length ≤ 1000000) (hl2 : y.s.length ≤ 1000000) :
    Calls Try.prog 34 #[.slice (some ⟨k, 0, none⟩) 2 2] (w.alloc (.cells #[.int .i64 v.k, .int .u64 (v.u : Int), .int .i64 v.n, .string (txt v.s), .int .i64 y.k, .int .u64 (y.u : Int), .int .i64 y.n, .string (txt y.s)] 30)) fun e w' => e = .returned (.bool (rightV v && rightV y)) ∧ Fr (fun _ => False) w w' := by
  refine (K.right (some ⟨k, 0, none⟩) 2 2 [v, y] _ (Vls.row (new_row hk _ ([v, y].flatMap vls))) (by omega) (by simp [hv, hl, hy, hl2])).mono ?_
  rintro e w' ⟨rfl, hf⟩
  exact ⟨by simp, ((Fr.refl _ _).alloc _).trans hf (fun _ _ h => h)⟩
theorem vright3 (K : VaC) (v y z : V) (w : World) {k : Nat} (hk : k = w.heap.size) (hv : v.ok) (hy : y.ok) (hz : z.ok) (hl : v.s.length ≤ 1000000) (hl2 : y.s.length ≤ 1000000) (hl3 : z.s.length ≤ 1000000) :
    Calls Try.prog 34 #[.slice (some ⟨k, 0, none⟩) 3 3] (w.alloc (.cells #[.int .i64 v.k, .int .u64 (v.u : Int), .int .i64 v.n, .string (txt v.s), .int .i64 y.k, .int .u64 (y.u : Int), .int .i64 y.n, .string (txt y.s), .int .i64 z.k, .int .u64 (z.u : Int), .int .i64 z.n, .string (txt z.s)] 30)) fun e w' => e = .returned (.bool (rightV v && (rightV y && rightV z))) ∧ Fr (fun _ => False) w w' := by
  refine (K.right (some ⟨k, 0, none⟩) 3 3 [v, y, z] _ (Vls.row (new_row hk _ ([v, y, z].flatMap vls))) (by omega) (by simp [hv, hl, hy, hl2, hz, hl3])).mono ?_
  rintro e w' ⟨rfl, hf⟩
  exact ⟨by simp, ((Fr.refl _ _).alloc _).trans hf (fun _ _ h => h)⟩

theorem put_m1 : putV ⟨4, 0, -1, []⟩ = [127] := by
  show s (-1) = [127]
  rw [s_small (by omega)]
  rfl
end Go.Proofs.Ytmiofhoojahpjaa
