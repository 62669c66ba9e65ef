
import Derived.Test.YtbabgnadgdidmaaGreatZm54
import Derived.Test.YtbabgnadgdidmaaGreatZm00
namespace Go.Proofs.YtbabgnadgdidmaaGreat.colsBackRow
open Go.ChangeShapes Go.WideShapes Go.ChangeAt Go.RowKit OpM Mem
theorem params : ∀ t ∈ Tryz.f5.params.toList, Tryz.prog.readableRec t = true ∧ t < Tryz.prog.types.size := by
 rw [Tryz.params5];have h : ([9, 22, 5]).all (fun t => Tryz.prog.readableRec t && decide (t < Tryz.prog.types.size)) = true := by kernel_rfl
 intro t ht;have := List.all_eq_true.1 h t (by simpa using ht)
 simpa using this
set_option maxRecDepth 100000 in
theorem lifted (os : Os) (started : os.Started) (H : Type) (enc : TypeId × Value → H) :
    ReturnsInHanded {} Tryz.checked os 5 .any (Rows.colsBackSpec.pre6 enc Tryz.prog Tryz.f5 Rows.colsBackRow.domain false) (Rows.colsBackSpec.post enc Tryz.prog Tryz.f5 false true false false) := by
 refine returnsInHanded_of_change (C := Tryz.checked) own_knob started (by kernel_rfl) Tryz.func5
  (ChangeSpec.witness6 (enc := enc) (C := Tryz.checked) false ⟨#[], #[.string ⟨#[]⟩, .slice none 0 0, .int .u8 0], []⟩ 8 (by kernel_rfl) (by kernel_rfl) (by kernel_rfl) (by kernel_rfl)) ?_
 intro W base args ds gs before hval0 hW _ _;have hval : ∀ (j : Nat) t v, Tryz.f5.params[j]? = some t → args[j]? = some v → Value.okWide Tryz.prog W .any base t v := hval0;have hW' := hW;obtain ⟨p, q, hA0, hV, rfl, hfz, hnd⟩ := hW;have hA : DataW.TrodAll enc Tryz.prog W 0 (fun _ => true) true Tryz.f5.params.toList args.toList ds p := hA0;rw [Tryz.params5] at hA hval;obtain ⟨rfl, rfl⟩ := trodVars_none hV;clear hA0 hval0;obtain ⟨v0, v1, v2, d0, d1, d2, p0, p1, p2, rfl, rfl, rfl, h0, h1, h2⟩ := trodAll_three hA;obtain ⟨a, rfl, l0⟩ := str_arg (hval 0 9 v0 rfl rfl) h0;obtain ⟨A, n, c, L, rfl, hn, hL, hl, hv⟩ := ops_arg (hval 1 22 v1 rfl rfl) h1;obtain ⟨a2, rfl, rfl, rfl, w2⟩ := open_int Tryz.underlying5 (hval 2 5 v2 rfl rfl) h2;have b2 := bounds_u8 w2;obtain ⟨N, rfl⟩ := Int.eq_ofNat_of_zero_le b2.1;have hc := (colsback_law a A n c L N (by omega) W hL hn hl hv l0).mono fun e W' ⟨he, hf⟩ => And.intro he (Fr.below (B := W.heap.size) hf (fun _ h => h.elim) (Nat.le_refl _));refine hc.mono fun e W' ⟨he, hb⟩ => ?_;subst he;exact ⟨_, rfl, law_post laid_out params rfl hW' hb (by kernel_rfl) Tryz.underlying4 rfl⟩
theorem over : Rows.colsBackRow.holds Tryz.pinned (OpenSpec.ofChange Rows.colsBackSpec) :=
 OpenClaim.holds_of_wide 5 Tryz.f5 rfl rfl rfl rfl rfl rfl rfl ⟨rfl, rfl, rfl, rfl, rfl⟩ rfl rfl rfl rfl rfl (by kernel_rfl) Tryz.func5 (by kernel_rfl)
  (of_decide_eq_true (by kernel_rfl)) (by unfold Func.isWrapper; first | (rw [if_pos (by decide +kernel)]; kernel_rfl) | (rw [if_neg (by decide +kernel)]; exact ⟨rfl, rfl⟩))
  (fun os started H enc _ => lifted os started H enc)
theorem proved : Rows.ColsBackSaid :=
 over
#print axioms proved
end Go.Proofs.YtbabgnadgdidmaaGreat.colsBackRow
