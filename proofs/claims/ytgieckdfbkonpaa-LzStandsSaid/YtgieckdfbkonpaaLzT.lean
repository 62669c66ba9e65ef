/-
  Layer 6's laws: tokens of a row of one's own, compared; awake.
-/
import Derived.Test.YtgieckdfbkonpaaLzP
import Derived.Test.YtgieckdfbkonpaaLzS
import Derived.Laws.StructEq
import Derived.Lib.SlBytesConst
namespace Go.Proofs.Ytgieckdfbkonpaa
open Go.RowKit LzM LzN Mem Go.Lib
attribute [local go_sem ↓] Go.wp_at_zero Go.wp_at_succ
set_option linter.unusedVariables false

theorem flat_at : ∀ (T : List Tok) (k : Nat) (t : Tok), T[k]? = some t → ∀ j, j < 3 → (T.flatMap tcells)[k * 3 + j]? = (tcells t)[j]?
  | [], k, t, h, j, hj => by simp at h
  | s :: T, 0, t, h, j, hj => by
    simp at h
    subst h
    rw [List.flatMap_cons, List.getElem?_append_left (by simp [tcells]; omega), Nat.zero_mul, Nat.zero_add]
  | s :: T, k + 1, t, h, j, hj => by
    rw [List.flatMap_cons, List.getElem?_append_right (by simp [tcells]; omega)]
    have e : (k + 1) * 3 + j - (tcells s).length = k * 3 + j := by simp [tcells]; omega
    rw [e]
    exact flat_at T k t (by simpa using h) j hj
theorem OwnT.toks {w : World} {base c : Nat} {A : Option Addr} {T : List Tok} (h : OwnT w base A c T) : Toks w A T.length T := by
  refine ⟨rfl, fun k t ht => ?_⟩
  have hk := (List.getElem?_eq_some_iff.1 ht).1
  rcases h.2 with ⟨hv, h0⟩ | ⟨g, cap, cur, hv, _⟩
  · injection hv with _ h1 h2
    omega
  · have hA : A = some ⟨g, 0, none⟩ := by injection hv
    subst hA
    have hc := h.cells (g := g) rfl
    have hadd : ∀ j, (⟨g, 0, none⟩ : Addr).add j = ⟨g, j, none⟩ := fun j => by unfold Addr.add; split <;> simp_all
    refine ⟨g, 0, rfl, (h.lt g rfl).2, ?_, ?_, ?_⟩
    · rw [← hadd]; exact hc _ _ (by have := flat_at T k t ht 0 (by omega); simpa [tcells] using this)
    · rw [Nat.add_assoc, Nat.zero_add, ← hadd]; exact hc _ _ (by have := flat_at T k t ht 1 (by omega); simpa [tcells] using this)
    · rw [Nat.add_assoc, Nat.zero_add, ← hadd]; exact hc _ _ (by have := flat_at T k t ht 2 (by omega); simpa [tcells] using this)
theorem tok_same (s t : Tok) : (((s.b.toNat : Int) == (t.b.toNat : Int)) && (s.l == t.l) && (s.d == t.d)) = decide (s = t) := by
  obtain ⟨a, b, c⟩ := s
  obtain ⟨x, y, z⟩ := t
  simp only [Tok.mk.injEq]
  by_cases h1 : a = x
  · subst h1
    by_cases h2 : b = y
    · by_cases h3 : c = z
      · simp [h2, h3]
      · simp [h3]
    · simp [h2]
  · have : a.toNat ≠ x.toNat := fun h => h1 (UInt8.toNat_inj.1 h)
    have h2 : ((a.toNat : Int) == (x.toNat : Int)) = false := by simp; omega
    simp [h2, h1]
theorem tok_equal (s t : Tok) (w : World) : (Op.equalIn 10000 27 (tokc s) (tokc t)).run Try.prog w = .ok (decide (s = t)) w := by
  rw [← tok_same]
  unfold tokc bytec
  have h := run_equalIn_agg (P := Try.prog) w 9999 27 #[.int .u8 (s.b.toNat : Int), .int .i64 s.l, .int .i64 s.d] #[.int .u8 (t.b.toNat : Int), .int .i64 t.l, .int .i64 t.d] (by unfold Program.fieldsOf; rw [Try.underlying27]) (by kernel_rfl)
  rw [h]
  clear h
  unfold Program.fieldsOf
  rw [Try.underlying27]
  go_simp
  by_cases h1 : (s.b.toNat : Int) = (t.b.toNat : Int)
  · by_cases h2 : s.l = t.l
    · by_cases h3 : s.d = t.d
      · simp [h1, h2, h3]
      · simp [h1, h2, h3]
    · simp [h1, h2]
  · have h4 : ((s.b.toNat : Int) == (t.b.toNat : Int)) = false := by rw [beq_eq_false_iff_ne]; exact h1
    rw [h4, if_neg h1]
    rfl
theorem tok_eql (s t : Tok) : (∀ (x y : Operand) (w : World), (eqGuard .eql 27 x y (tokc s) (tokc t)).run Try.prog w = .ok () w) ∧ (∀ w : World, (binOp .eql 27 (tokc s) (tokc t)).run Try.prog w = .ok (.bool (decide (s = t))) w) := by
  refine ⟨fun x y w => run_eqGuard_agg w .eql _ x y _ _ (by kernel_rfl), fun w => ?_⟩
  have h := tok_equal s t w
  unfold tokc at h ⊢
  rw [run_eql_struct, h]
  rfl
theorem tok_neq (s t : Tok) : (∀ (x y : Operand) (w : World), (eqGuard .neq 27 x y (tokc s) (tokc t)).run Try.prog w = .ok () w) ∧ (∀ w : World, (binOp .neq 27 (tokc s) (tokc t)).run Try.prog w = .ok (.bool (!decide (s = t))) w) := by
  refine ⟨fun x y w => run_eqGuard_agg w .neq _ x y _ _ (by kernel_rfl), fun w => ?_⟩
  have h := tok_equal s t w
  unfold tokc at h ⊢
  rw [run_neq_struct, h]
  rfl
theorem press_aaaa : press [97, 97, 97, 97] = [lit 97, mat 3 1] := by decide +kernel

set_option maxRecDepth 100000 in
set_option maxHeartbeats 1600000 in
theorem awake_any (w : World) : Calls Try.prog 9 #[] w fun e w' => e = .returned (.bool true) ∧ Fr (fun _ => False) w w' := by
  have hcv := Lib.run_convert_bytes_const (P := Try.prog) w 22 5 #[.int .u8 97, .int .u8 97, .int .u8 97, .int .u8 97] 4 4 Try.underlying22 Try.underlying5
  go_enter Try.func9, Try.ntmps9
  go_wp2_with fail
  obtain ⟨w1, hw1⟩ : ∃ w1, w.alloc (.cells #[.int .u8 97, .int .u8 97, .int .u8 97, .int .u8 97] 5 (4, 5)) = w1 := ⟨_, rfl⟩
  rw [hw1]
  have hf1 : Fr (fun _ => False) w w1 := by rw [← hw1]; exact (Fr.refl _ _).alloc _
  have hr1 : Rd w1 (some ⟨w.heap.size, 0, none⟩) 4 (([97, 97, 97, 97] : List UInt8).map bytec) := by
    refine ⟨rfl, fun _ => ⟨_, rfl, fun j u hu => ?_⟩⟩
    have hadd : (⟨w.heap.size, 0, none⟩ : Addr).add j = ⟨w.heap.size, j, none⟩ := by unfold Addr.add; split <;> simp_all
    rw [hadd, ← hw1, World.cell?_alloc_mark w _ _ _ j]
    have hu2 : [bytec 97, bytec 97, bytec 97, bytec 97][j]? = some u := hu
    simpa [show ∀ b, bytec b = .int .u8 (b.toNat : Int) from fun _ => rfl] using hu2
  refine (pPress_any _ 4 4 [97, 97, 97, 97] w1 hr1 (by omega) (by omega) (by unfold maxLen; omega)).mono ?_
  rintro e w2 ⟨A2, c2, rfl, hO, hf2⟩
  rw [press_aaaa] at hO ⊢
  have HF := Lib.hid (hf1.trans hf2 (fun _ _ h => h))
  obtain ⟨g, o, rfl, hg, h1, h2, h3⟩ := hO.toks.2 0 _ rfl
  obtain ⟨g', o', e, hg', k1, k2, k3⟩ := hO.toks.2 1 _ rfl
  obtain ⟨rfl, rfl⟩ : g = g' ∧ o = o' := by injection e with e; injection e with e1 e2; exact ⟨e1, e2⟩
  clear hw1 hf1 hr1 hO hf2 hg hg' e
  have a1 : w2.cell? ⟨g, o, none⟩ = some (.int .u8 97) := h1
  have a2 : w2.cell? ⟨g, o + 1, none⟩ = some (.int .i64 0) := h2
  have a3 : w2.cell? ⟨g, o + 2, none⟩ = some (.int .i64 0) := h3
  have b1 : w2.cell? ⟨g, o + 3, none⟩ = some (.int .u8 0) := k1
  have b2 : w2.cell? ⟨g, o + 3 + 1, none⟩ = some (.int .i64 3) := k2
  have b3 : w2.cell? ⟨g, o + 3 + 2, none⟩ = some (.int .i64 1) := k3
  have q1 : ∀ (x y : Operand) (w : World), (eqGuard .eql 27 x y (.agg #[.int .u8 97, .int .i64 0, .int .i64 0]) (.agg #[.int .u8 97, .int .i64 0, .int .i64 0])).run Try.prog w = .ok () w := (tok_eql (lit 97) (lit 97)).1
  have q2 : ∀ w : World, (binOp .eql 27 (.agg #[.int .u8 97, .int .i64 0, .int .i64 0]) (.agg #[.int .u8 97, .int .i64 0, .int .i64 0])).run Try.prog w = .ok (.bool true) w := (tok_eql (lit 97) (lit 97)).2
  have q3 : ∀ (x y : Operand) (w : World), (eqGuard .eql 27 x y (.agg #[.int .u8 0, .int .i64 3, .int .i64 1]) (.agg #[.int .u8 0, .int .i64 3, .int .i64 1])).run Try.prog w = .ok () w := (tok_eql (mat 3 1) (mat 3 1)).1
  have q4 : ∀ w : World, (binOp .eql 27 (.agg #[.int .u8 0, .int .i64 3, .int .i64 1]) (.agg #[.int .u8 0, .int .i64 3, .int .i64 1])).run Try.prog w = .ok (.bool true) w := (tok_eql (mat 3 1) (mat 3 1)).2
  clear h1 h2 h3 k1 k2 k3
  go_wp2_with fail
  go_ret
  exact ⟨rfl, HF.out⟩
end Go.Proofs.Ytgieckdfbkonpaa
