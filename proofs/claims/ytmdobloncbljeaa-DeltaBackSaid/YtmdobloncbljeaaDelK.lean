/-
  Layer 12: what the program's Put and Get must keep; awake.
-/
import Derived.Test.YtmdobloncbljeaaRleU
import Derived.Test.YtmdobloncbljeaaDelM
namespace Go.Proofs.Ytmdobloncbljeaa
open Go.RowKit Mem Go.Lib RleM LebM
attribute [local go_sem ↓] Go.wp_at_zero Go.wp_at_succ
set_option linter.unusedVariables false

structure DelC : Prop where
  put : ∀ (A : Option Addr) (n c : Nat) (L : List (Bool × Int)) (w : World), Cls nv w A n L → n ≤ 100000 → (∀ x ∈ L, mayS x) →
    Calls Try.prog 9 #[.slice A n c] w (Gives w (tellW kS (gatherG (stepsF 0 L))))
  get : ∀ (A : Option Addr) (n c : Nat) (B : List UInt8) (most : Int) (w : World), Rd w A n (B.map bytec) → n ≤ c → n ≤ 1000000 → -9223372036854775808 ≤ most → most ≤ 100000 →
    Calls Try.prog 11 #[.slice A n c, .int .i64 most] w fun e w' =>
      ∃ A' c', e = .returned (.tuple #[.slice A' (sumsF 0 (toC (readG kS most B)).1).length c', .int .i64 ((toC (readG kS most B)).2 : Nat)]) ∧ OwnC nv 30 w' w.heap.size A' c' (sumsF 0 (toC (readG kS most B)).1) ∧ Fr (fun _ => False) w w'

theorem example12 : tellW kS (gatherG (stepsF 0 [(true, 5), (true, 6), (true, 7)])) = [127, 5, 2, 1] := by
  have hs : stepsF 0 [((true, 5) : Bool × Int), (true, 6), (true, 7)] = [(true, 5), (true, 1), (true, 1)] := by decide
  have hg : gatherG [((true, 5) : Bool × Int), (true, 1), (true, 1)] = [((true, 5), 1), ((true, 1), 2)] := by decide
  rw [hs, hg]
  show tellG kS [((true, 5), 1), ((true, 1), 2)] = _
  have ho : othersG kS.zero [(((true, 5) : Bool × Int), 1), ((true, 1), 2)] = 1 := by decide
  rw [tell_other (by decide) (by decide), ho]
  show s (-1) ++ (s 5 ++ [] ++ tellG kS [((true, 1), 2)]) = _
  rw [tell_same (by decide) (by decide)]
  show s (-1) ++ (s 5 ++ [] ++ (s 2 ++ (s 1 ++ []))) = _
  rw [s_small (by omega), s_small (by omega), s_small (by omega), s_small (by omega)]
  rfl
set_option maxRecDepth 100000 in
set_option maxHeartbeats 1600000 in
theorem awake12_any (K : DelC) (w : World) : Calls Try.prog 7 #[] w fun e w' => e = .returned (.bool true) ∧ Fr (fun _ => False) w w' := by
  obtain ⟨w1, hw1⟩ : ∃ w1, w.alloc (.cells #[.bool true, .int .i64 5, .bool true, .int .i64 6, .bool true, .int .i64 7] 30) = w1 := ⟨_, rfl⟩
  obtain ⟨q, hq⟩ : ∃ q, w.heap.size = q := ⟨_, rfl⟩
  have hf1 : Fr (fun _ => False) w w1 := by rw [← hw1]; exact (Fr.refl _ _).alloc _
  have hqb : Row w1 q 30 [.bool true, .int .i64 5, .bool true, .int .i64 6, .bool true, .int .i64 7] := by rw [← hw1, ← hq]; exact Row.new w _ _
  have hcl : Cls nv w1 (some ⟨q, 0, none⟩) 3 [(true, 5), (true, 6), (true, 7)] := by
    refine ⟨rfl, fun k t hk => ⟨q, 0, rfl, hqb.lt, ?_⟩⟩
    match k, hk with
    | 0, hk => simp at hk; subst hk; exact ⟨hqb.cell rfl, hqb.cell rfl⟩
    | 1, hk => simp at hk; subst hk; exact ⟨hqb.cell rfl, hqb.cell rfl⟩
    | 2, hk => simp at hk; subst hk; exact ⟨hqb.cell rfl, hqb.cell rfl⟩
  have hp := K.put (some ⟨q, 0, none⟩) 3 3 _ w1 hcl (by omega) (by intro x hx; simp at hx; rcases hx with rfl | rfl | rfl <;> exact ⟨by decide, by decide, by decide⟩)
  rw [example12] at hp
  have HP := Lib.hid hp
  have HF1 := Lib.hid hf1
  clear hp hf1 hqb hcl
  go_enter Try.func7, Try.ntmps7
  go_wp2_with fail
  refine HP.out.mono ?_
  rintro e w2 ⟨A2, c2, rfl, hO2, hf2⟩
  have hst : (convert 25 9 (.slice A2 4 c2)).run Try.prog w2 = .ok (.string ⟨#[127, 5, 2, 1]⟩) w2 := hO2.str
  have HF2 := Lib.hid (HF1.out.trans hf2 (fun _ _ h => h))
  clear hO2 hf2 HP hw1 hq
  go_wp2_with fail
  go_ret
  exact ⟨rfl, HF2.out⟩
end Go.Proofs.Ytmdobloncbljeaa
