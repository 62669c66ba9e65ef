/-
  The law RleBack (written by gen_laws11.py).
-/
import Derived.Test.YtmdobloncbljeaaRleLp
namespace Go.Proofs.Ytmdobloncbljeaa
open Go.RowKit Mem Go.Lib RleM LebM
attribute [local go_sem ↓] Go.wp_at_zero Go.wp_at_succ
set_option linter.unusedVariables false

theorem some_map {α β : Type} {f : Bool × α → Bool × β} {z : Bool × β} (h0 : ∀ c, c.1 = false → f c = z) (h1 : ∀ c, (f c).1 = c.1) (L : List (Bool × α)) (S : Bool) (hS : S = L.any (·.1)) : (S = true → ∃ c ∈ L.map f, c.1 = true) ∧ (S = false → ∀ c ∈ L.map f, c = z) := by
  constructor
  · intro h
    rw [h] at hS
    obtain ⟨c, hc, hx⟩ := List.any_eq_true.1 hS.symm
    exact ⟨f c, List.mem_map.2 ⟨c, hc, rfl⟩, by rw [h1]; exact hx⟩
  · intro h c hc
    rw [h] at hS
    obtain ⟨y, hy, rfl⟩ := List.mem_map.1 hc
    have := List.any_eq_false.1 hS.symm y hy
    exact h0 y (by simpa using this)
theorem back_cases {β : Type} [DecidableEq β] {K : Kd (Bool × β)} {p : Bool × β → Prop} (hb : Back K p) {x : List (Bool × β)} (hp : ∀ c ∈ x, p c) {S : Bool} (hs : (S = true → ∃ c ∈ x, c.1 = true) ∧ (S = false → ∀ c ∈ x, c = K.zero)) (hl : x.length < 9223372036854775808) (hz : K.zero.1 = false := by rfl) :
    ∃ y, toC (readG K (x.length : Int) (tellW K (gatherG x))) = (y, 0) ∧ (S = true → y = x) ∧ (S = false → y = []) := by
  cases S with
  | true =>
    obtain ⟨c, hc, h1⟩ := hs.1 rfl
    have h := read_back hb hp hc (fun e => by rw [e, hz] at h1; cases h1) hl (x.length : Int) (by omega)
    rw [if_pos (Int.le_refl _)] at h
    rw [h]
    exact ⟨x, by show (spreadG (gatherG x), 0) = _; rw [spread_gather], fun _ => rfl, fun h => (by cases h)⟩
  | false =>
    rw [told_none (hs.2 rfl), read_nil _ (by omega)]
    exact ⟨[], rfl, fun h => (by cases h), fun _ => rfl⟩
theorem back_short {β : Type} [DecidableEq β] {K : Kd (Bool × β)} {p : Bool × β → Prop} (hb : Back K p) {x : List (Bool × β)} (hp : ∀ c ∈ x, p c) (hs : ∃ c ∈ x, c.1 = true) (hl : x.length < 9223372036854775808) (hz : K.zero.1 = false := by rfl) :
    toC (readG K ((x.length : Int) - 1) (tellW K (gatherG x))) = ([], 4) := by
  obtain ⟨c, hc, h1⟩ := hs
  have hpos : 0 < x.length := by cases x with | nil => cases hc | cons a l => simp
  have h := read_back hb hp hc (fun e => by rw [e, hz] at h1; cases h1) hl ((x.length : Int) - 1) (by omega)
  rw [if_neg (by omega)] at h
  rw [h]
  rfl
end Go.Proofs.Ytmdobloncbljeaa
