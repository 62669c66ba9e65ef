/-
  What layer 9's laws want of the program: its contracts; awake out of them.
-/
import Derived.Test.YtgpkiijmembggaaGreatDoorZm06
namespace Go.Proofs.YtgpkiijmembggaaGreatDoor
open Go.RowKit BitsM Mem Go.Lib
attribute [local go_sem ↓] Go.wp_at_zero Go.wp_at_succ
set_option linter.unusedVariables false
set_option maxRecDepth 100000

/-- bytes and how many bits they are -/
def GivesN (w : World) (X : List UInt8) (n : Nat) (e : Ending) (w' : World) : Prop :=
  ∃ A c, e = .returned (.tuple #[.slice A X.length c, .int .i64 (n : Int)]) ∧ Own w' w.heap.size A c X ∧ Fr (fun _ => False) w w'
/-- the program's contracts -/
structure DeflC (Gl : World → Prop) : Prop where
  fr0 : ∀ {w w' : World}, Gl w → Fr (fun _ => False) w w' → Gl w'
  stored : ∀ (A : Option Addr) (n c : Nat) (B : List UInt8) (w : World), Gl w → Rd w A n (B.map bytec) → n ≤ c → c ≤ maxLen → n ≤ 300000 → Calls Tryz.prog 10 #[.slice A n c] w (Gives w (DeM.storedB B))
  fixed : ∀ (A : Option Addr) (n c : Nat) (B : List UInt8) (w : World), Gl w → Rd w A n (B.map bytec) → n ≤ c → c ≤ maxLen → n ≤ 10000 → Calls Tryz.prog 8 #[.slice A n c] w (GivesN w (pack (DeM.fixedBits B)) (DeM.fixedBits B).length)
  dynamic : ∀ (A : Option Addr) (n c : Nat) (B : List UInt8) (w : World), Gl w → Rd w A n (B.map bytec) → n ≤ c → c ≤ maxLen → n ≤ 10000 → Calls Tryz.prog 9 #[.slice A n c] w (GivesN w (pack (DeM.dynBits B)) (DeM.dynBits B).length)
  press : ∀ (A : Option Addr) (n c : Nat) (B : List UInt8) (w : World), Gl w → Rd w A n (B.map bytec) → n ≤ c → c ≤ maxLen → n ≤ 10000 → Calls Tryz.prog 11 #[.slice A n c] w (Gives w (DeM.pressB B))
theorem stored_nil : DeM.storedB [] = [1, 0, 0, 255, 255] := by decide +kernel
theorem press_nil9 : DeM.pressB [] = [3, 0] := by decide +kernel
end Go.Proofs.YtgpkiijmembggaaGreatDoor
