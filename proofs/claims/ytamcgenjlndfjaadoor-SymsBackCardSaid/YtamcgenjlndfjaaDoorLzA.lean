/-
  Contract of layer 6's reference: Right.
-/
import Derived.Test.YtamcgenjlndfjaaDoorCom
import Derived.Test.YtamcgenjlndfjaaDoorLzM
import Derived.Test.YtamcgenjlndfjaaDoorBlk
namespace Go.Proofs.YtamcgenjlndfjaaDoor
open Go.RowKit LzM Mem Go.Lib

/-- a token's cells, a token -/
def tcells (t : Tok) : List Value := [bytec t.b, .int .i64 t.l, .int .i64 t.d]
def tokc (t : Tok) : Value := .agg #[bytec t.b, .int .i64 t.l, .int .i64 t.d]

set_option maxRecDepth 100000 in
set_option maxHeartbeats 1600000 in
theorem rRight_any (t : Tok) (n : Nat) (w : World) :
    Calls Tryd.prog 18 #[tokc t, .int .i64 (n : Int)] w fun e w' => e = .returned (.bool (rightT t n)) ∧ Fr (fun _ => False) w w' := by
  obtain ⟨b, l, d⟩ := t
  unfold tokc bytec
  go_enter Tryd.func18, Tryd.ntmps18
  go_wp2
  all_goals go_ret
  all_goals refine ⟨?_, (Fr.refl _ w).alloc _⟩
  all_goals have hbz : b = 0 ↔ b.toNat = 0 := ⟨fun h => by rw [h]; rfl, fun h => UInt8.toNat_inj.1 h⟩
  all_goals simp only [rightT, hbz]
  all_goals simp_all
  all_goals (try (have e1 : decide (3 ≤ l) = true := decide_eq_true (by omega)))
  all_goals (try (have e2 : decide (l ≤ 258) = true := decide_eq_true (by omega)))
  all_goals (try (have e3 : decide (1 ≤ d) = true := decide_eq_true (by omega)))
  all_goals (try (have e4 : decide (d ≤ 32768) = true := decide_eq_true (by omega)))
  all_goals (try (rw [e1, e2, e3, e4]; rfl))
  all_goals (try omega)
end Go.Proofs.YtamcgenjlndfjaaDoor
