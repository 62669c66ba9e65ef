/-
  What the walks of layer 4's reference Of share: bytes as numbers, slices of one's own that hold them.
-/
import Derived.Test.YtjjeahijcibafaaDoorShaC
import Derived.Test.YtjjeahijcibafaaDoorShaS
namespace Go.Proofs.YtjjeahijcibafaaDoor
open Go.RowKit ShaM Mem Go.Lib

def byten (n : Nat) : Value := .int .u8 (n : Int)
def OwnB (w : World) (base : Nat) (A : Option Addr) (c : Nat) (D : List Nat) : Prop := w.ownsRow base 5 1 (.slice A D.length c) D.length (D.map byten)
theorem OwnB.fr {w w' : World} {base c : Nat} {A : Option Addr} {B : List Nat} (h : OwnB w base A c B) (hf : Fr (fun _ => False) w w') : OwnB w' base A c B := hf.own h (fun _ _ h => h)
theorem OwnB.snoc {w : World} {base c : Nat} {A : Option Addr} {D : List Nat} {x : Int} (h : w.ownsRow base 5 1 (.slice A (D.length + 1) c) (D.length + 1) (D.map byten ++ [.int .u8 x])) {y : Nat} (hx : x = (y : Int)) : OwnB w base A c (D ++ [y]) := by
  unfold OwnB
  rw [List.length_append, List.map_append, List.map_singleton]
  unfold byten
  rw [← hx]
  exact h
theorem lenB (A : Option Addr) (D : List Nat) (b : Nat) (c : Nat) : Value.slice A (D.length + 1) c = Value.slice A (D ++ [b]).length c := by rw [List.length_append]; rfl
theorem Fr.appB {w wr w' : World} {c : Nat} {A : Option Addr} {D : List Nat} {o : Obj} (hfr : Fr (fun _ => False) w wr) (hown : OwnB wr w.heap.size A c D)
    (hfr' : Fr (fun k => (Value.slice A D.length c).ownBlock = some k) (wr.alloc o) w') : Fr (fun _ => False) w w' :=
  (hfr.alloc _).trans hfr' (fun b hb h => by have := hown.lt _ h; omega)
theorem byten_of (B : List UInt8) : B.map bytec = (B.map UInt8.toNat).map byten := by rw [List.map_map]; rfl
theorem byten_one (l : List Nat) : ∀ u ∈ l.map byten, u.oneCell' = true := by
  intro u hu
  obtain ⟨b, _, rfl⟩ := List.mem_map.1 hu
  rfl
theorem num32_one (l : List Nat) : ∀ u ∈ l.map num32, u.oneCell' = true := by
  intro u hu
  obtain ⟨b, _, rfl⟩ := List.mem_map.1 hu
  rfl
theorem zeros_stop (n m : Nat) (h : m ≤ zeros n) : (n + 1 + m) % 64 = 56 ↔ m = zeros n := by unfold zeros at *; omega
theorem tail_step (n i : Nat) (hi : i < 8) : (tail8 n).take (8 - i) = (tail8 n).take (8 - (i + 1)) ++ [n * 8 % 18446744073709551616 / 2 ^ (8 * i) % 256] := by
  rw [show 8 - i = (8 - (i + 1)) + 1 from by omega, List.take_add_one]
  congr 1
  unfold tail8
  rw [List.getElem?_map, List.getElem?_range (by omega)]
  simp
  rw [show 7 - (7 - i) = i from by omega]
theorem tu2 (x : Nat) (w : World) (hx : x < 4294967296) : Calls Tryd.prog 23 #[.int .u32 (x : Int), .int .i64 2] w fun e w' => e = .returned (.int .u32 (tr 2 x : Int)) ∧ w = w' := by exact turn_any x 2 w hx (by omega)
theorem tu6 (x : Nat) (w : World) (hx : x < 4294967296) : Calls Tryd.prog 23 #[.int .u32 (x : Int), .int .i64 6] w fun e w' => e = .returned (.int .u32 (tr 6 x : Int)) ∧ w = w' := by exact turn_any x 6 w hx (by omega)
theorem tu7 (x : Nat) (w : World) (hx : x < 4294967296) : Calls Tryd.prog 23 #[.int .u32 (x : Int), .int .i64 7] w fun e w' => e = .returned (.int .u32 (tr 7 x : Int)) ∧ w = w' := by exact turn_any x 7 w hx (by omega)
theorem tu11 (x : Nat) (w : World) (hx : x < 4294967296) : Calls Tryd.prog 23 #[.int .u32 (x : Int), .int .i64 11] w fun e w' => e = .returned (.int .u32 (tr 11 x : Int)) ∧ w = w' := by exact turn_any x 11 w hx (by omega)
theorem tu13 (x : Nat) (w : World) (hx : x < 4294967296) : Calls Tryd.prog 23 #[.int .u32 (x : Int), .int .i64 13] w fun e w' => e = .returned (.int .u32 (tr 13 x : Int)) ∧ w = w' := by exact turn_any x 13 w hx (by omega)
theorem tu17 (x : Nat) (w : World) (hx : x < 4294967296) : Calls Tryd.prog 23 #[.int .u32 (x : Int), .int .i64 17] w fun e w' => e = .returned (.int .u32 (tr 17 x : Int)) ∧ w = w' := by exact turn_any x 17 w hx (by omega)
theorem tu18 (x : Nat) (w : World) (hx : x < 4294967296) : Calls Tryd.prog 23 #[.int .u32 (x : Int), .int .i64 18] w fun e w' => e = .returned (.int .u32 (tr 18 x : Int)) ∧ w = w' := by exact turn_any x 18 w hx (by omega)
theorem tu19 (x : Nat) (w : World) (hx : x < 4294967296) : Calls Tryd.prog 23 #[.int .u32 (x : Int), .int .i64 19] w fun e w' => e = .returned (.int .u32 (tr 19 x : Int)) ∧ w = w' := by exact turn_any x 19 w hx (by omega)
theorem tu22 (x : Nat) (w : World) (hx : x < 4294967296) : Calls Tryd.prog 23 #[.int .u32 (x : Int), .int .i64 22] w fun e w' => e = .returned (.int .u32 (tr 22 x : Int)) ∧ w = w' := by exact turn_any x 22 w hx (by omega)
theorem tu25 (x : Nat) (w : World) (hx : x < 4294967296) : Calls Tryd.prog 23 #[.int .u32 (x : Int), .int .i64 25] w fun e w' => e = .returned (.int .u32 (tr 25 x : Int)) ∧ w = w' := by exact turn_any x 25 w hx (by omega)
theorem sf3 (x : Nat) (w : World) (hx : x < 4294967296) : Calls Tryd.prog 24 #[.int .u32 (x : Int), .int .i64 3] w fun e w' => e = .returned (.int .u32 (sh 3 x : Int)) ∧ w = w' := by exact shift_any x 3 w hx (by omega)
theorem sf10 (x : Nat) (w : World) (hx : x < 4294967296) : Calls Tryd.prog 24 #[.int .u32 (x : Int), .int .i64 10] w fun e w' => e = .returned (.int .u32 (sh 10 x : Int)) ∧ w = w' := by exact shift_any x 10 w hx (by omega)
end Go.Proofs.YtjjeahijcibafaaDoor
