/-
  Taking a loop's body out of a function's code, by a region that it holds; what the program is does not matter here.
-/
import Derived.WalkKit
namespace Go.Proofs.Ytbnkahjmeobblaa
open Go

def hasRegion (r : Nat) : Code → Bool
  | .region id _ _ => id == r
  | .seq a b => hasRegion r a || hasRegion r b
  | .cond _ a b => hasRegion r a || hasRegion r b
  | .block _ c => hasRegion r c
  | .loop c => hasRegion r c
  | .scope c => hasRegion r c
  | _ => false
/-- the body of the innermost loop that holds region r -/
def loopAt (r : Nat) : Code → Option Code
  | .seq a b => match loopAt r a with
    | some c => some c
    | none => loopAt r b
  | .cond _ a b => match loopAt r a with
    | some c => some c
    | none => loopAt r b
  | .block _ c => loopAt r c
  | .scope c => loopAt r c
  | .loop c => match loopAt r c with
    | some d => some d
    | none => bif hasRegion r c then some c else none
  | _ => none
/-- region r -/
def regionAt (r : Nat) : Code → Option Code
  | .region id ops d => bif id == r then some (.region id ops d) else none
  | .seq a b => match regionAt r a with
    | some c => some c
    | none => regionAt r b
  | .cond _ a b => match regionAt r a with
    | some c => some c
    | none => regionAt r b
  | .block _ c => regionAt r c
  | .loop c => regionAt r c
  | .scope c => regionAt r c
  | _ => none
/-- a post that is asked of one exit alone: blind at a panic (go_region's short way wants that) -/
def onExit (n : Nat) (Q1 : Act → World → Prop) : Exit → Act → World → Prop
  | .exit m, a, w => m = n ∧ Q1 a w
  | _, _, _ => False
theorem onExit_imp {n : Nat} {Q0 : Exit → Act → World → Prop} : ∀ e a w, onExit n (Q0 (.exit n)) e a w → Q0 e a w := by
  intro e a w h
  cases e with
  | exit m => obtain ⟨rfl, h⟩ := h; exact h
  | _ => exact h.elim
end Go.Proofs.Ytbnkahjmeobblaa
