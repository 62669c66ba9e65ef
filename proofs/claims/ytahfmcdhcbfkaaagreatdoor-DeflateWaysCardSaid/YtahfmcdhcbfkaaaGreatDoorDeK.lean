/-
  What layer 9's laws want of the program: its contracts; awake out of them.
-/
import Derived.Test.YtahfmcdhcbfkaaaGreatDoorZm06
namespace Go.Proofs.YtahfmcdhcbfkaaaGreatDoor
open Go.RowKit BitsM Mem Go.Lib
attribute [local go_sem ↓] Go.wp_at_zero Go.wp_at_succ
set_option linter.unusedVariables false
set_option maxRecDepth 100000

/-- bytes and how many bits they are -/
def GivesN (w : World) (X : List UInt8) (n : Nat) (e : Ending) (w' : World) : Prop :=
  ∃ A c, e = .returned (.tuple #[.slice A X.length c, .int .i64 (n : Int)]) ∧ Own w' w.heap.size A c X ∧ Fr (fun _ => False) w w'
/-- the program's contracts -/
structure DeflC (Gl : World → Prop) : Prop where
  fr0 : ∀ {w w' : World}, Gl w → Fr (fun _ => False) w w' → Gl w'
  stored : ∀ (A : Option Addr) (n c : Nat) (B : List UInt8) (w : World), Gl w → Rd w A n (B.map bytec) → n ≤ c → c ≤ maxLen → n ≤ 300000 → Calls Tryz.prog 9 #[.slice A n c] w (Gives w (DeM.storedB B))
  fixed : ∀ (A : Option Addr) (n c : Nat) (B : List UInt8) (w : World), Gl w → Rd w A n (B.map bytec) → n ≤ c → c ≤ maxLen → n ≤ 10000 → Calls Tryz.prog 5 #[.slice A n c] w (GivesN w (pack (DeM.fixedBits B)) (DeM.fixedBits B).length)
  dynamic : ∀ (A : Option Addr) (n c : Nat) (B : List UInt8) (w : World), Gl w → Rd w A n (B.map bytec) → n ≤ c → c ≤ maxLen → n ≤ 10000 → Calls Tryz.prog 6 #[.slice A n c] w (GivesN w (pack (DeM.dynBits B)) (DeM.dynBits B).length)
  press : ∀ (A : Option Addr) (n c : Nat) (B : List UInt8) (w : World), Gl w → Rd w A n (B.map bytec) → n ≤ c → c ≤ maxLen → n ≤ 10000 → Calls Tryz.prog 12 #[.slice A n c] w (Gives w (DeM.pressB B))
theorem stored_nil : DeM.storedB [] = [1, 0, 0, 255, 255] := by decide +kernel
theorem press_nil9 : DeM.pressB [] = [3, 0] := by decide +kernel
def Awake9 (Gl : World → Prop) : Prop := ∀ w, Gl w → Calls Tryz.prog 4 #[] w fun e w' => e = .returned (.bool true) ∧ Fr (fun _ => False) w w'
set_option maxHeartbeats 1600000 in
theorem awake9_any {Gl : World → Prop} (K : DeflC Gl) : Awake9 Gl := by
  intro w hG
  have h1 := K.stored none 0 0 [] w hG (Rd.nil w none) (by omega) (by unfold maxLen; omega) (by omega)
  rw [stored_nil] at h1
  have H1 := Lib.hid h1
  have H2 : Hid (∀ w', Fr (fun _ => False) w w' → Calls Tryz.prog 12 #[.slice none 0 0] w' (Gives w' [3, 0])) := Lib.hid (fun w' hf => by
    have h := K.press none 0 0 [] w' (K.fr0 hG hf) (Rd.nil w' none) (by omega) (by unfold maxLen; omega) (by omega)
    rw [press_nil9] at h
    exact h)
  clear h1
  go_enter Tryz.func4, Tryz.ntmps4
  go_wp2_with fail
  refine H1.out.mono ?_
  rintro e w2 ⟨A2, c2, rfl, ho2, hf2⟩
  have s2 : (convert 22 9 (.slice A2 5 c2)).run Tryz.prog w2 = .ok (.string { data := #[1, 0, 0, 255, 255] }) w2 := ho2.str
  have HF2 := Lib.hid hf2
  replace ho2 : Hid (Own w2 w.heap.size A2 c2 [1, 0, 0, 255, 255]) := Lib.hid ho2
  clear hf2 H1
  rw [show ([1, 0, 0, 255, 255] : List UInt8).length = 5 from rfl]
  go_wp2_with fail
  refine (H2.out w2 HF2.out).mono ?_
  rintro e w3 ⟨A3, c3, rfl, ho3, hf3⟩
  have s3 : (convert 22 9 (.slice A3 2 c3)).run Tryz.prog w3 = .ok (.string { data := #[3, 0] }) w3 := ho3.str
  have HF3 := Lib.hid (HF2.out.trans hf3 (fun _ _ h => h))
  rw [show ([3, 0] : List UInt8).length = 2 from rfl]
  clear hf3 H2 ho3 s2
  go_wp2_with fail
  go_ret
  exact ⟨rfl, HF3.out⟩
end Go.Proofs.YtahfmcdhcbfkaaaGreatDoor
