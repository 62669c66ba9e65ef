/-
  Layer 11, the program: spread (written by gen11.py out of rleF.src).
  Layer 11, the program: a reader in memory; fits, add (written by gen11.py out of rleG.src).
-/
import Derived.Test.YtohbcepbodcapaaZm29
import Derived.Test.YtohbcepbodcapaaZm28
import Derived.Test.YtohbcepbodcapaaZm07
import Derived.Test.YtohbcepbodcapaaZm09
import Derived.Deep.DeepCutAuto
import Derived.Deep.CutRange
namespace Go.Proofs.Ytohbcepbodcapaa
open Go.RowKit Mem Go.Lib RleM
attribute [local go_sem ↓] Go.wp_at_zero Go.wp_at_succ
set_option linter.unusedVariables false

end Go.Proofs.Ytohbcepbodcapaa
namespace Go.Proofs.Ytohbcepbodcapaa
open Go.RowKit Mem Go.Lib RleM
attribute [local go_sem ↓] Go.wp_at_zero Go.wp_at_succ
set_option linter.unusedVariables false

/-- a reader lies in block g, all of its own from base on *-/
structure Rdr {β : Type} (f : β → Value) (T G : TypeId) (fp fg : Value) (w : World) (base g : Nat) (most : Int) (r : Rs (Bool × β)) : Prop where
  at_ : ∃ A n c Ag cg, Row w g T [fp, fg, .slice A n c, .slice Ag r.gs.length cg, .int .i64 (r.count : Int), .int .i64 most] ∧ Rd w A n (r.left.map bytec) ∧ n ≤ c ∧ (0 < n → ∀ ad, A = some ad → ad.block < base) ∧ OwnG f G w base Ag cg r.gs
  base : base ≤ g
end Go.Proofs.Ytohbcepbodcapaa
