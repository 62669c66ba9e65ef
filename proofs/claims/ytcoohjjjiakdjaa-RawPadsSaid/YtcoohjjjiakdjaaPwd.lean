/-
  RawPads: a column of no cells is filled up with nothing; any other one must have as many. No condition.
-/
import Derived.Test.YtcoohjjjiakdjaaRaO
import Derived.Test.YtcoohjjjiakdjaaRleAr
import Derived.Test.YtcoohjjjiakdjaaZm00
import Derived.Test.YtcoohjjjiakdjaaRaE
namespace Go.Proofs.Ytcoohjjjiakdjaa.rawPadsRow
open Go.ChangeShapes Go.WideShapes Go.ChangeAt Go.RowKit VaM Mem

theorem params : ∀ t ∈ Try.f5.params.toList, Try.prog.readableRec t = true ∧ t < Try.prog.types.size := by
  rw [Try.params5]
  have h : ([37, 3]).all (fun t => Try.prog.readableRec t && decide (t < Try.prog.types.size)) = true := by kernel_rfl
  intro t ht
  have := List.all_eq_true.1 h t (by simpa using ht)
  simpa using this

set_option maxRecDepth 100000 in
theorem lifted (os : Os) (started : os.Started) (H : Type) (enc : TypeId × Value → H) :
    ReturnsInHanded {} Try.checked os 5 .any (Rows.rawPadsSpec.pre6 enc Try.prog Try.f5 Rows.rawPadsRow.domain false) (Rows.rawPadsSpec.post enc Try.prog Try.f5 false true false false) := by
  refine returnsInHanded_of_change (C := Try.checked) own_knob started (by kernel_rfl) Try.func5
    (ChangeSpec.witness6 (enc := enc) (C := Try.checked) false ⟨#[], #[.slice none 0 0, .int .i64 0], []⟩ 8 (by kernel_rfl) (by kernel_rfl) (by kernel_rfl) (by kernel_rfl)) ?_
  intro W base args ds gs before hval0 hW _ _
  have hval : ∀ (j : Nat) t v, Try.f5.params[j]? = some t → args[j]? = some v → Value.okWide Try.prog W .any base t v := hval0
  have hW' := hW
  obtain ⟨p, q, hA0, hV, rfl, hfz, hnd⟩ := hW
  have hA : DataW.TrodAll enc Try.prog W 0 (fun _ => true) true Try.f5.params.toList args.toList ds p := hA0
  rw [Try.params5] at hA hval
  obtain ⟨rfl, rfl⟩ := trodVars_none hV
  clear hA0 hval0
  obtain ⟨v0, v1, d0, d1, p0, p1, rfl, rfl, rfl, h0, h1⟩ := trodAll_two hA
  obtain ⟨A, n, c, L, rfl, hnc, hcm, hL, hrng⟩ := cells_arg (hval 0 37 v0 rfl rfl) h0
  obtain ⟨a1, rfl, rfl, rfl, w1⟩ := open_int Try.underlying3 (hval 1 3 v1 rfl rfl) h1
  have b1 := bounds_i64 w1
  have hc := (rawpads_law rawC A n c L a1 W hL (Nat.le_trans hnc hcm) ⟨b1.1, by have := b1.2; omega⟩).mono fun e W' ⟨he, hf⟩ => And.intro he (Fr.below (B := W.heap.size) hf (fun _ h => h.elim) (Nat.le_refl _))
  refine hc.mono fun e W' ⟨he, hb⟩ => ?_
  subst he
  exact ⟨_, rfl, law_post laid_out params rfl hW' hb (by kernel_rfl) Try.underlying4 rfl⟩

theorem over : Rows.rawPadsRow.holds Try.pinned (OpenSpec.ofChange Rows.rawPadsSpec) :=
  OpenClaim.holds_of_wide 5 Try.f5 rfl rfl rfl rfl rfl rfl rfl ⟨rfl, rfl, rfl, rfl, rfl⟩ rfl rfl rfl rfl rfl (by kernel_rfl) Try.func5 (by kernel_rfl)
    (of_decide_eq_true (by kernel_rfl)) (by unfold Func.isWrapper; first | (rw [if_pos (by decide +kernel)]; kernel_rfl) | (rw [if_neg (by decide +kernel)]; exact ⟨rfl, rfl⟩))
    (fun os started H enc _ => lifted os started H enc)

/-- the statement -/
theorem proved : Rows.RawPadsSaid :=
  over
#print axioms proved
end Go.Proofs.Ytcoohjjjiakdjaa.rawPadsRow
