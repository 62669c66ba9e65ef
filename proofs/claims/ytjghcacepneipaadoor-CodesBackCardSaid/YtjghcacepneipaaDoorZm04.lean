/-
  What layer 8's laws want of the program's Press: its contract; awake out of it; the lengths that a law makes of bytes.
  Layer 8's laws, plain: lengths out of bytes.
-/
import Derived.Test.YtjghcacepneipaaDoorZm03
import Derived.Laws.StructEq
namespace Go.Proofs.YtjghcacepneipaaDoor
open Go.RowKit CoM Mem Go.Lib
attribute [local go_sem ↓] Go.wp_at_zero Go.wp_at_succ
set_option linter.unusedVariables false

/-- a slice reads as these items -/
def Its (w : World) (A : Option Addr) (n : Nat) (T : List It) : Prop := T.length = n ∧ ∀ k t, T[k]? = some t → ∃ g o, A = some ⟨g, o, none⟩ ∧ g < w.heap.size ∧
  w.cell? ⟨g, o + k * 3, none⟩ = some (.int .i64 (t.s : Int)) ∧ w.cell? ⟨g, o + k * 3 + 1, none⟩ = some (.int .i64 (t.b : Int)) ∧ w.cell? ⟨g, o + k * 3 + 2, none⟩ = some (.int .u64 (t.x : Int))
theorem Its.fr {S : Nat → Prop} {w w' : World} {A : Option Addr} {n : Nat} {T : List It} (h : Its w A n T) (hf : Fr S w w') (hS : ∀ g, g < w.heap.size → ¬ S g) : Its w' A n T :=
  ⟨h.1, fun k t hk => by
    obtain ⟨g, o, e, hg, h1, h2, h3⟩ := h.2 k t hk
    exact ⟨g, o, e, Nat.lt_of_lt_of_le hg hf.size, hf.cell h1 (hS g hg), hf.cell h2 (hS g hg), hf.cell h3 (hS g hg)⟩⟩
theorem flat_at8 : ∀ (T : List It) (k : Nat) (t : It), T[k]? = some t → ∀ j, j < 3 → (T.flatMap itc)[k * 3 + j]? = (itc t)[j]?
  | [], k, t, h, j, hj => by simp at h
  | s :: T, 0, t, h, j, hj => by
    simp at h
    subst h
    rw [List.flatMap_cons, List.getElem?_append_left (by simp [itc]; omega), Nat.zero_mul, Nat.zero_add]
  | s :: T, k + 1, t, h, j, hj => by
    rw [List.flatMap_cons, List.getElem?_append_right (by simp [itc]; omega)]
    have e : (k + 1) * 3 + j - (itc s).length = k * 3 + j := by simp [itc]; omega
    rw [e]
    exact flat_at8 T k t (by simpa using h) j hj
theorem OwnIt.its {w : World} {base c : Nat} {e : TypeId} {A : Option Addr} {T : List It} (h : OwnIt w base e A c T) : Its w A T.length T := by
  refine ⟨rfl, fun k t ht => ?_⟩
  have hk := (List.getElem?_eq_some_iff.1 ht).1
  rcases h.2 with ⟨hv, h0⟩ | ⟨g, cap, cur, hv, _⟩
  · injection hv with _ h1 h2
    omega
  · have hA : A = some ⟨g, 0, none⟩ := by injection hv
    subst hA
    have hc := h.cells (g := g) rfl
    have hadd : ∀ j, (⟨g, 0, none⟩ : Addr).add j = ⟨g, j, none⟩ := fun j => by unfold Addr.add; split <;> simp_all
    refine ⟨g, 0, rfl, (h.lt g rfl).2, ?_, ?_, ?_⟩
    · rw [← hadd]; exact hc _ _ (by have := flat_at8 T k t ht 0 (by omega); simpa [itc] using this)
    · rw [Nat.add_assoc, Nat.zero_add, ← hadd]; exact hc _ _ (by have := flat_at8 T k t ht 1 (by omega); simpa [itc] using this)
    · rw [Nat.add_assoc, Nat.zero_add, ← hadd]; exact hc _ _ (by have := flat_at8 T k t ht 2 (by omega); simpa [itc] using this)

/-- the program's Press answers the items, in the worlds that follow one -/
def PressC (w0 : World) : Prop := ∀ (A : Option Addr) (n c : Nat) (L : List Nat) (w : World), Fr (fun _ => False) w0 w → Rd w A n (L.map natc) → n ≤ c → c ≤ maxLen → n ≤ 1000 → (∀ x ∈ L, x ≤ 15) →
  Calls Tryd.prog 10 #[.slice A n c] w fun e w' => ∃ A' c', e = .returned (.slice A' (items L).length c') ∧ Its w' A' (items L).length (items L) ∧ Fr (fun _ => False) w w'

theorem int8T : ElemTy Tryd.prog 26 3 (.int .i64 0) 8 := ⟨Tryd.underlying26, by kernel_rfl, rfl⟩
end Go.Proofs.YtjghcacepneipaaDoor
namespace Go.Proofs.YtjghcacepneipaaDoor
open Go.RowKit CoM Mem Go.Lib

/-- lengths out of bytes -/
def modL (B : List UInt8) : List Nat := B.map fun b => b.toNat % 16
theorem modL_len (B : List UInt8) : (modL B).length = B.length := by simp [modL]
theorem modL_le (B : List UInt8) : ∀ x ∈ modL B, x ≤ 15 := by
  intro x hx
  obtain ⟨b, _, rfl⟩ := List.mem_map.1 hx
  omega
theorem modL_take (B : List UInt8) {k : Nat} {b : UInt8} (h : B[k]? = some b) : (modL (B.take (k + 1))) = modL (B.take k) ++ [b.toNat % 16] := by
  have hk := (List.getElem?_eq_some_iff.1 h).1
  have he := (List.getElem?_eq_some_iff.1 h).2
  rw [List.take_succ_eq_append_getElem hk, he]
  simp [modL]
end Go.Proofs.YtjghcacepneipaaDoor
