/-
  What layer 3's laws want of the program: the contracts of Next, Where, Valid, as one word; awake out of them.
-/
import Derived.Test.YtmiofhoojahpjaaUtfB
namespace Go.Proofs.Ytmiofhoojahpjaa
open Go.RowKit UtfM Mem Go.Lib

def strc (B : List UInt8) : Value := .string (txt B)
def okAll (l : List (List UInt8)) : Bool := l.all fun B => wh B == B.length
structure UtfP : Prop where
  next : ∀ (B : List UInt8) (w : World), B.length ≤ 1000000 → Calls Try.prog 44 #[.string (txt B)] w fun e w' => e = .returned (.int .i64 (nx B : Int)) ∧ Fr (fun _ => False) w w'
  where_ : ∀ (B : List UInt8) (w : World), B.length ≤ 1000000 → Calls Try.prog 41 #[.string (txt B)] w fun e w' => e = .returned (.int .i64 (wh B : Int)) ∧ Fr (fun _ => False) w w'
  valid : ∀ (A : Option Addr) (n c : Nat) (l : List (List UInt8)) (w : World), Rd w A n (l.map strc) → n ≤ c → n ≤ 1000 → (∀ B ∈ l, B.length ≤ 1000000) →
    Calls Try.prog 38 #[.slice A n c] w fun e w' => e = .returned (.bool (okAll l)) ∧ Fr (fun _ => False) w w'

theorem valid1 (K : UtfP) (B : List UInt8) (w : World) {k : Nat} (hk : k = w.heap.size) (hl : B.length ≤ 1000000) (v : Bool) (hv : (wh B == B.length) = v) :
    Calls Try.prog 38 #[.slice (some ⟨k, 0, none⟩) 1 1] (w.alloc (.cells #[.string (txt B)] 9)) fun e w' => e = .returned (.bool v) ∧ Fr (fun _ => False) w w' := by
  refine (K.valid (some ⟨k, 0, none⟩) 1 1 [B] _ (Rd.one' hk _ _) (Nat.le_refl _) (by omega) (by simpa using hl)).mono ?_
  rintro e w' ⟨rfl, hf⟩
  refine ⟨?_, ((Fr.refl _ _).alloc _).trans hf (fun _ _ h => h)⟩
  simp [okAll, hv]
theorem valid2 (K : UtfP) (B C : List UInt8) (w : World) {k : Nat} (hk : k = w.heap.size) (hl : B.length ≤ 1000000) (hl2 : C.length ≤ 1000000) (v u : Bool) (hv : (wh B == B.length) = v) (hu : (wh C == C.length) = u) :
    Calls Try.prog 38 #[.slice (some ⟨k, 0, none⟩) 2 2] (w.alloc (.cells #[.string (txt B), .string (txt C)] 9)) fun e w' => e = .returned (.bool (v && u)) ∧ Fr (fun _ => False) w w' := by
  refine (K.valid (some ⟨k, 0, none⟩) 2 2 [B, C] _ (Rd.cells hk [.string (txt B), .string (txt C)] _) (Nat.le_refl _) (by omega) (by simp [hl, hl2])).mono ?_
  rintro e w' ⟨rfl, hf⟩
  refine ⟨?_, ((Fr.refl _ _).alloc _).trans hf (fun _ _ h => h)⟩
  simp [okAll, hv, hu]
theorem valid0 (K : UtfP) (w : World) :
    Calls Try.prog 38 #[.slice none 0 0] w fun e w' => e = .returned (.bool true) ∧ Fr (fun _ => False) w w' := by
  refine (K.valid none 0 0 [] w (Rd.nil _ _) (Nat.le_refl _) (by omega) (by simp)).mono ?_
  rintro e w' ⟨rfl, hf⟩
  exact ⟨rfl, hf⟩

theorem wh_a : wh [97, 255] = 1 := by
  rw [wh_pos (by decide)]
  show 1 + wh [255] = 1
  rw [wh_zero (by decide)]
theorem wh_one : wh [97] = 1 := by
  rw [wh_pos (by decide)]
  show 1 + wh [] = 1
  rw [wh_nil]

end Go.Proofs.Ytmiofhoojahpjaa
