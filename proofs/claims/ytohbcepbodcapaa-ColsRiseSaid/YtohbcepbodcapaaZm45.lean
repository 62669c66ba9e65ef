/-
  Layer 13, the program: is there a 0 behind the first; right.
  Layer 13, the program: spread.
-/
import Derived.Test.YtohbcepbodcapaaZm39
import Derived.Laws.MakeOwn
namespace Go.Proofs.Ytohbcepbodcapaa
open Go.RowKit Mem Go.Lib BooM
attribute [local go_sem ↓] Go.wp_at_zero Go.wp_at_succ
set_option linter.unusedVariables false

end Go.Proofs.Ytohbcepbodcapaa
namespace Go.Proofs.Ytohbcepbodcapaa
open Go.RowKit Mem Go.Lib BooM
attribute [local go_sem ↓] Go.wp_at_zero Go.wp_at_succ
set_option linter.unusedVariables false

theorem mkB13 (m : Nat) (hm : m ≤ 4000000) (w : World) : ∃ cs : Array Value, cs.size = m ∧ (Instr.makeSlice 52 (.int .i64 0) (.int .i64 (m : Int))).run Try.prog w = .ok (.slice (some ⟨w.heap.size, 0, none⟩) 0 m) (w.alloc (.cells cs 4)) := by
  obtain ⟨i, hi, hz, hs, hb⟩ : ∃ i, Try.prog.info? 4 = some i ∧ i.zero = some (.bool false) ∧ i.size = 1 ∧ i.bytes = 1 := by
    have h := bT13.info
    cases hq : Try.prog.info? 4 with
    | none => rw [hq] at h; cases h
    | some i =>
      rw [hq] at h
      simp only [Option.map_some, Option.some.injEq, Prod.mk.injEq] at h
      exact ⟨i, rfl, h.1, h.2.1, h.2.2⟩
  have h := run_makeSlice (P := Try.prog) w 52 4 i _ Try.underlying52 hi hz .i64 .i64 (0 : Int) (m : Int) (by omega) (by omega) (by rw [hs]; omega) (by rw [hb]; omega) (by omega)
  exact ⟨_, by rw [hs]; simp [madeCells], h⟩
def par (k : Nat) : Bool := decide (k % 2 = 1)
theorem par_succ (k : Nat) : (!par k) = par (k + 1) := by
  unfold par
  by_cases h : k % 2 = 1
  · rw [decide_eq_true h, decide_eq_false (by omega)]; rfl
  · rw [decide_eq_false h, decide_eq_true (by omega)]; rfl

end Go.Proofs.Ytohbcepbodcapaa
