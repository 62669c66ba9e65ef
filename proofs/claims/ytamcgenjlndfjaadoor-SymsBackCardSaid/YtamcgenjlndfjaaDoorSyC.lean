/-
  Contract of layer 7's reference: Of.
-/
import Derived.Test.YtamcgenjlndfjaaDoorSyB
import Derived.Deep.DrawnRows
import Derived.Deep.QuietTactic
import Derived.BigQuiet
namespace Go.Proofs.YtamcgenjlndfjaaDoor
open Go.RowKit SyM Mem Go.Lib
attribute [local go_sem ↓] Go.wp_at_zero Go.wp_at_succ
set_option linter.unusedVariables false

/-- a slice reads as these rows -/
def Rws (w : World) (A : Option Addr) (n : Nat) (R : List (Nat × Nat)) : Prop := R.length = n ∧ ∀ k r, R[k]? = some r → ∃ g o, A = some ⟨g, o, none⟩ ∧ g < w.heap.size ∧
  w.cell? ⟨g, o + k * 2, none⟩ = some (.int .i64 (r.1 : Int)) ∧ w.cell? ⟨g, o + k * 2 + 1, none⟩ = some (.int .i64 (r.2 : Int))
theorem Rws.fr {S : Nat → Prop} {w w' : World} {A : Option Addr} {n : Nat} {R : List (Nat × Nat)} (h : Rws w A n R) (hf : Fr S w w') (hS : ∀ g, g < w.heap.size → ¬ S g) : Rws w' A n R :=
  ⟨h.1, fun k t hk => by
    obtain ⟨g, o, e, hg, h1, h2⟩ := h.2 k t hk
    exact ⟨g, o, e, Nat.lt_of_lt_of_le hg hf.size, hf.cell h1 (hS g hg), hf.cell h2 (hS g hg)⟩⟩
theorem flatR_at : ∀ (R : List (Nat × Nat)) (k : Nat) (r : Nat × Nat), R[k]? = some r → ∀ j, j < 2 → (R.flatMap rowc)[k * 2 + j]? = (rowc r)[j]?
  | [], k, r, h, j, hj => by simp at h
  | s :: R, 0, r, h, j, hj => by
    simp at h
    subst h
    rw [List.flatMap_cons, List.getElem?_append_left (by simp [rowc]; omega), Nat.zero_mul, Nat.zero_add]
  | s :: R, k + 1, r, h, j, hj => by
    rw [List.flatMap_cons, List.getElem?_append_right (by simp [rowc]; omega)]
    have e : (k + 1) * 2 + j - (rowc s).length = k * 2 + j := by simp [rowc]; omega
    rw [e]
    exact flatR_at R k r (by simpa using h) j hj
theorem rws_of {w : World} {base n c : Nat} {A : Option Addr} {R : List (Nat × Nat)} (hn : R.length = n) (h : w.ownsRow base 33 2 (.slice A n c) n (R.flatMap rowc)) : Rws w A n R := by
  subst hn
  refine ⟨rfl, fun k r hr => ?_⟩
  have hk := (List.getElem?_eq_some_iff.1 hr).1
  rcases h.2 with ⟨hv, h0⟩ | ⟨g, cap, cur, hv, _⟩
  · injection hv with _ h1 h2
    omega
  · have hA : A = some ⟨g, 0, none⟩ := by injection hv
    subst hA
    have hc := h.cells (g := g) rfl
    have hadd : ∀ j, (⟨g, 0, none⟩ : Addr).add j = ⟨g, j, none⟩ := fun j => by unfold Addr.add; split <;> simp_all
    refine ⟨g, 0, rfl, (h.lt g rfl).2, ?_, ?_⟩
    · rw [← hadd]; exact hc _ _ (by have := flatR_at R k r hr 0 (by omega); simpa [rowc] using this)
    · rw [Nat.add_assoc, Nat.zero_add, ← hadd]; exact hc _ _ (by have := flatR_at R k r hr 1 (by omega); simpa [rowc] using this)
theorem Rws.at_ {w : World} {A : Option Addr} {n : Nat} {R : List (Nat × Nat)} (h : Rws w A n R) {k : Nat} (hk : k < n) : ∃ g o, A = some ⟨g, o, none⟩ ∧ g < w.heap.size ∧
    w.cell? ⟨g, o + k * 2, none⟩ = some (.int .i64 (least R k : Int)) ∧ w.cell? ⟨g, o + k * 2 + 1, none⟩ = some (.int .i64 (wid R k : Int)) := by
  have hl : k < R.length := by rw [h.1]; exact hk
  have := h.2 k R[k] (List.getElem?_eq_getElem hl)
  unfold least wid
  rw [getElem!_pos R k hl]
  exact this

set_option maxRecDepth 100000 in
set_option maxHeartbeats 1600000 in
theorem rOf_any (n : Int) (A : Option Addr) (m c : Nat) (R : List (Nat × Nat)) (w : World) (hR : Rws w A m R) (hm : 0 < m) (hm2 : m ≤ 100) (hn0 : 0 ≤ n) (hn : n ≤ 100000) (hl : ∀ k, k < m → least R k ≤ 100000) :
    Calls Tryd.prog 10 #[.int .i64 n, .slice A m c] w fun e w' => e = .returned (.tuple #[.int .i64 (sym n R : Int), .int .i64 (n - (least R (sym n R) : Int))]) ∧ Fr (fun _ => False) w w' := by
  have HRW := Lib.hid hR
  have hln := hR.1
  have HLN := Lib.hid hln
  have HL := Lib.hid hl
  obtain ⟨s, hs⟩ : ∃ s, s = sym n R := ⟨_, rfl⟩
  rw [← hs]
  obtain ⟨x, hx⟩ : ∃ x, x = least R s := ⟨_, rfl⟩
  rw [← hx]
  obtain ⟨d, hd⟩ : ∃ d, d = n - (x : Int) := ⟨_, rfl⟩
  rw [← hd]
  have HSD := Lib.hid (And.intro hs (And.intro hx hd))
  clear hR hln hl hs hx hd
  go_enter Tryd.func10, Tryd.ntmps10
  go_wp2_with fail
  go_loopw [6, 7] (fun a i wr => ∃ k : Nat, k ≤ m ∧ i = .int .i64 (k : Int) ∧ a = .int .i64 (lastLe n R k : Int) ∧ w = wr) (fun _ i _ => m - (intOf i).toNat)
  case atStart => exact ⟨0, Nat.zero_le _, rfl, rfl, rfl⟩
  case round =>
    obtain ⟨k, hk, rfl, rfl, rfl⟩ := hrel
    by_cases hlt : k < m
    · obtain ⟨g, o, rfl, hg, h1, -⟩ := HRW.out.at_ hlt
      obtain ⟨x1, hx⟩ : ∃ x, x = least R k := ⟨_, rfl⟩
      rw [← hx] at h1
      have hstep : lastLe n R (k + 1) = if (x1 : Int) ≤ n then k else lastLe n R k := by rw [hx]; rfl
      obtain ⟨y, hy⟩ : ∃ y, y = lastLe n R k := ⟨_, rfl⟩
      obtain ⟨z, hz⟩ : ∃ z, z = lastLe n R (k + 1) := ⟨_, rfl⟩
      rw [← hy, ← hz] at hstep
      rw [← hy]
      have HZ := Lib.hid hz
      by_cases hc : (x1 : Int) ≤ n
      · rw [if_pos hc] at hstep
        have HST := Lib.hid hstep
        clear hx hy hz hg hstep
        go_wp2_with fail
        exact ⟨⟨k + 1, by omega, by go_num, by rw [← HZ.out, HST.out], trivial⟩, by simp [intOf]; omega⟩
      · rw [if_neg hc] at hstep
        have HST := Lib.hid hstep
        have hc2 : n < (x1 : Int) := by omega
        clear hx hy hz hg hstep hc
        go_wp2_with fail
        exact ⟨⟨k + 1, by omega, by go_num, by rw [← HZ.out, HST.out], trivial⟩, by simp [intOf]; omega⟩
    · obtain rfl : k = m := by omega
      have hs : lastLe n R k = s := by rw [HSD.out.1]; unfold sym; rw [HLN.out]
      rw [hs]
      have hlt2 := sym_lt n R (by rw [HLN.out]; exact hm)
      rw [HLN.out, ← HSD.out.1] at hlt2
      obtain ⟨g, o, rfl, hg, h1, -⟩ := HRW.out.at_ hlt2
      have hb := HL.out s hlt2
      rw [← HSD.out.2.1] at h1 hb
      have hw : IntKind.i64.wrap (n - (x : Int)) = d := by rw [IntKind.wrap_i64, HSD.out.2.2]; omega
      clear hs hg hlt
      go_wp2_with fail
      go_quiet (fail)
      have HF5 := Lib.hid ((Fr.refl (fun _ => False) w).drewN nq)
      go_wp2_with fail
      exact bodyPost_ret (v := .tuple #[.int .i64 (s : Int), .int .i64 d]) (by simp [results, Tryd.results10, go_sem]) rfl ⟨rfl, HF5.out⟩
end Go.Proofs.YtamcgenjlndfjaaDoor
