/-
  Taking a loop's body out of a function's code, by a region that it holds; what the program is does not matter here.
-/
import Derived.WalkKit
namespace Go.Proofs.YtjjeahijcibafaaDoor
open Go

def hasRegion (r : Nat) : Code → Bool
  | .region id _ _ => id == r
  | .seq a b => hasRegion r a || hasRegion r b
  | .cond _ a b => hasRegion r a || hasRegion r b
  | .block _ c => hasRegion r c
  | .loop c => hasRegion r c
  | .scope c => hasRegion r c
  | _ => false
/-- the body of the innermost loop that holds region r -/
def loopAt (r : Nat) : Code → Option Code
  | .seq a b => match loopAt r a with
    | some c => some c
    | none => loopAt r b
  | .cond _ a b => match loopAt r a with
    | some c => some c
    | none => loopAt r b
  | .block _ c => loopAt r c
  | .scope c => loopAt r c
  | .loop c => match loopAt r c with
    | some d => some d
    | none => bif hasRegion r c then some c else none
  | _ => none
end Go.Proofs.YtjjeahijcibafaaDoor
