/-
  Slices of slices: what a slice expression answers, in letters (written by gen_cut.py).
-/
import Derived.Test.YtbnkahjmeobblaaZm01
import Derived.WalkKit
namespace Go.Proofs.Ytbnkahjmeobblaa
open Go.RowKit Mem Go.Lib

/-- what is cut out of a slice -/
def cutAt (A : Option Addr) (c f : Nat) : Option Addr := if c = f then A else A.map (·.add f)
theorem cutAt_zero (A : Option Addr) (c : Nat) : cutAt A c 0 = A := by
  unfold cutAt
  split
  · rfl
  · cases A with
    | none => rfl
    | some ad => obtain ⟨b, o, s⟩ := ad; cases s <;> simp [Addr.add]
theorem rd_cut {w : World} {A : Option Addr} {n c : Nat} {xs : List Value} (h : Rd w A n xs) {f y : Nat} (hf : f ≤ y) (hy : y ≤ n) (hn : n ≤ c) : Rd w (cutAt A c f) (y - f) ((xs.take y).drop f) := h.cut hf hy hn
theorem rd_to {w : World} {A : Option Addr} {n : Nat} {xs : List Value} (h : Rd w A n xs) {y : Nat} (hy : y ≤ n) : Rd w A y (xs.take y) := by
  have h2 := h.cut (k := 0) (m := y) (cap := n + 1) (by omega) hy (by omega)
  rw [show (if n + 1 = 0 then A else A.map (·.add 0)) = A from cutAt_zero A (n + 1)] at h2
  exact h2
theorem rd_from {w : World} {A : Option Addr} {n c : Nat} {xs : List Value} (h : Rd w A n xs) {f : Nat} (hf : f ≤ n) (hn : n ≤ c) : Rd w (cutAt A c f) (n - f) (xs.drop f) := by
  have h2 := rd_cut h hf (Nat.le_refl n) hn
  rwa [List.take_of_length_le (by rw [h.1]; exact Nat.le_refl _)] at h2
theorem cutAt_blk {A : Option Addr} {c f : Nat} {ad : Addr} (h : cutAt A c f = some ad) : ∃ a, A = some a ∧ a.block = ad.block := by
  unfold cutAt at h
  split at h
  · exact ⟨ad, h, rfl⟩
  · cases A with
    | none => cases h
    | some a =>
      injection h with h
      exact ⟨a, rfl, by rw [← h, add_block]⟩
theorem run_cutB (A : Option Addr) (n c f y : Nat) (hf : f ≤ y) (hy : y ≤ n) (hn : n ≤ c) (fi yi : Int) (ef : fi = (f : Int)) (ey : yi = (y : Int)) (w' : World) :
    (Instr.sliceAt 29 (.slice A n c) (some (.int .i64 fi)) (some (.int .i64 yi)) none).run Try.prog w' = .ok (.slice (cutAt A c f) (y - f) (c - f)) w' := by
  subst ef ey
  unfold cutAt
  cases A with
  | none =>
    go_simp
    intro h
    omega
  | some ad =>
    go_simp
    intro h
    omega
theorem run_toB (A : Option Addr) (n c y : Nat) (hy : y ≤ n) (hn : n ≤ c) (yi : Int) (ey : yi = (y : Int)) (w' : World) :
    (Instr.sliceAt 29 (.slice A n c) none (some (.int .i64 yi)) none).run Try.prog w' = .ok (.slice A y c) w' := by
  subst ey
  have h0 := cutAt_zero A c
  unfold cutAt at h0
  cases A with
  | none =>
    go_simp
    intro h
    omega
  | some ad =>
    simp only [Option.map_some] at h0
    go_simp
    try (rw [h0])
    try (intro h; omega)
    try (refine ⟨fun h => ?_, fun h => ?_⟩ <;> omega)
theorem run_fromB (A : Option Addr) (n c f : Nat) (hf : f ≤ n) (fi : Int) (ef : fi = (f : Int)) (w' : World) :
    (Instr.sliceAt 29 (.slice A n c) (some (.int .i64 fi)) none none).run Try.prog w' = .ok (.slice (cutAt A c f) (n - f) (c - f)) w' := by
  subst ef
  unfold cutAt
  cases A with
  | none =>
    go_simp
    try (intro h; omega)
  | some ad =>
    go_simp
    try (intro h; omega)
end Go.Proofs.Ytbnkahjmeobblaa
