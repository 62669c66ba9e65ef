/-
  Layer 14, the program: mayBe (written by gen_may.py).
-/
import Derived.Test.YtcoohjjjiakdjaaVaH
namespace Go.Proofs.Ytcoohjjjiakdjaa
open Go.RowKit Mem Go.Lib VaM LebM UtfM
attribute [local go_sem ↓] Go.wp_at_zero Go.wp_at_succ
set_option linter.unusedVariables false


theorem RowV.cells {w : World} {g : Nat} {v : V} (h : RowV w g v) : w.cell? ⟨g, 0, none⟩ = some (.int .i64 v.k) ∧ w.cell? ⟨g, 1, none⟩ = some (.int .u64 (v.u : Int)) ∧ w.cell? ⟨g, 2, none⟩ = some (.int .i64 v.n) ∧ w.cell? ⟨g, 3, none⟩ = some (.string (txt v.s)) := ⟨h.c0, h.c1, h.c2, h.c3⟩
/-- Put, Get of what was put, as the walks want them -/
theorem putget_of (v : V) (hv : v.ok) (hs : v.s.length ≤ 1000000) : ∃ (P : List UInt8) (m : Nat) (x : V) (ok : Bool) (E : Int), P = putV v ∧ m = P.length ∧ (x, ok) = getV v.k (putV v) ∧ E = (if ok = true then 0 else 3) ∧
    (∀ w', Calls Try.prog 18 #[.agg #[.int .i64 v.k, .int .u64 (v.u : Int), .int .i64 v.n, .string (txt v.s)]] w' fun e w'' => ∃ A c, e = .returned (.slice A m c) ∧ m ≤ c ∧ Rd w'' A m (P.map bytec) ∧ Fr (fun _ => False) w' w'') ∧
    (∀ w' A c, Rd w' A m (P.map bytec) → m ≤ c → Calls Try.prog 59 #[.int .i64 v.k, .slice A m c] w' fun e w'' => e = .returned (.tuple #[.agg #[.int .i64 x.k, .int .u64 (x.u : Int), .int .i64 x.n, .string (txt x.s)], .int .i64 E]) ∧ Fr (fun _ => False) w' w'') := by
  refine ⟨putV v, (putV v).length, (getV v.k (putV v)).1, (getV v.k (putV v)).2, _, rfl, rfl, rfl, rfl, fun w' => ?_, fun w' A c hr hc => ?_⟩
  · exact pvPut_any v w' hv
  · exact pvGet_any v.k A _ c (putV v) w' hr hc (put_len hv hs)

end Go.Proofs.Ytcoohjjjiakdjaa
