/-
  Contracts of layer 7's reference: Lengths (written by gen_rows.py).
  Contracts of layer 7's reference: Distances (written by gen_rows.py).
-/
import Derived.Test.YtahfmcdhcbfkaaaGreatDoorZm02
import Derived.Test.YtahfmcdhcbfkaaaGreatDoorZm01
namespace Go.Proofs.YtahfmcdhcbfkaaaGreatDoor
open Go.RowKit SyM Mem Go.Lib
set_option linter.unusedVariables false

def rowc (r : Nat × Nat) : List Value := [.int .i64 (r.1 : Int), .int .i64 (r.2 : Int)]
theorem rowT : ElemTyS Tryz.prog 67 72 (.agg #[.int .i64 0, .int .i64 0]) 2 16 := ⟨Tryz.underlying67, by kernel_rfl, rfl, by decide⟩
/-- a slice of one's own holds these rows -/
def OwnR (w : World) (base : Nat) (A : Option Addr) (c : Nat) (R : List (Nat × Nat)) : Prop := w.ownsRow base 72 2 (.slice A R.length c) R.length (R.flatMap rowc)
theorem rows_one (a b : Int) : ∀ v ∈ [Value.int .i64 a, .int .i64 b], v.oneCell' = true := by
  intro v hv
  simp at hv
  rcases hv with rfl | rfl <;> rfl
theorem flatR (R : List (Nat × Nat)) (r : Nat × Nat) : (R ++ [r]).flatMap rowc = R.flatMap rowc ++ rowc r := by rw [List.flatMap_append]; simp
theorem cells_new {w : World} {k : Nat} (hk : k = w.heap.size) (xs : List Value) (t : TypeId) : ∀ j x, xs[j]? = some x → (w.alloc (.cells xs.toArray t)).cell? ((⟨k, 0, none⟩ : Addr).add j) = some x := by
  subst hk
  intro j x hx
  have hl : 0 < xs.length := by have := (List.getElem?_eq_some_iff.1 hx).1; omega
  obtain ⟨ad, e, h⟩ := (Rd.cells rfl xs t).2 hl
  injection e with e
  subst e
  exact h j x hx

/-- the least number of the k-th symbol, as it is reckoned -/
def nl : Nat → Nat
  | 0 => 3
  | k + 1 => nl k + 2 ^ (k / 4 - 1)
theorem nl_is (k : Nat) (hk : k < 28) : nl k ≤ 300 ∧ lens.take (k + 1) = lens.take k ++ [(nl k, k / 4 - 1)] := by
  have h : ∀ k : Fin 28, nl (k : Nat) ≤ 300 ∧ lens.take ((k : Nat) + 1) = lens.take (k : Nat) ++ [(nl (k : Nat), (k : Nat) / 4 - 1)] := by decide +kernel
  exact h ⟨k, hk⟩

set_option maxRecDepth 100000 in
set_option maxHeartbeats 1600000 in
theorem rLens7_any (w : World) : Calls Tryz.prog 39 #[] w fun e w' => ∃ A c, e = .returned (.slice A 29 c) ∧ w'.ownsRow w.heap.size 72 2 (.slice A 29 c) 29 (lens.flatMap rowc) ∧ Fr (fun _ => False) w w' := by
  obtain ⟨base, hbase⟩ : ∃ base, base = w.heap.size := ⟨_, rfl⟩
  have HB := Lib.hid hbase
  rw [← hbase]
  clear hbase
  go_enter Tryz.func39, Tryz.ntmps39
  go_wp2_with fail
  go_loopw [1, 2, 3] (fun s l i wr => ∃ (k : Nat) (A1 : Option Addr) (c1 : Nat), k ≤ 28 ∧ i = .int .i64 (k : Int) ∧ l = .int .i64 (nl k : Int) ∧ s = .slice A1 k c1 ∧ Hid (wr.ownsRow base 72 2 (.slice A1 k c1) k ((lens.take k).flatMap rowc)) ∧ Hid (Fr (fun _ => False) w wr)) (fun _ _ i _ => 28 - (intOf i).toNat)
  case atStart => exact ⟨0, none, 0, by omega, rfl, rfl, rfl, World.ownsRow_nil _ _ _ _, Fr.refl _ _⟩
  case round =>
    obtain ⟨k, A1, c1, hk, rfl, rfl, rfl, HO, HF⟩ := hrel
    rename World => wr
    by_cases hlt : k < 28
    · obtain ⟨h2, h3⟩ := nl_is k hlt
      have hs : nl (k + 1) = nl k + 2 ^ (k / 4 - 1) := rfl
      obtain ⟨x, hx⟩ : ∃ x, x = nl k := ⟨_, rfl⟩
      obtain ⟨y, hy⟩ : ∃ y, y = nl (k + 1) := ⟨_, rfl⟩
      rw [← hx] at h2 h3 hs ⊢
      rw [← hy] at hs
      have HY := Lib.hid hy
      have hbs : base ≤ wr.heap.size := by have := HB.out; have := HF.out.size; omega
      obtain ⟨q, hq⟩ : ∃ q, q = k / 4 := ⟨_, rfl⟩
      have hquo : (k : Int).tdiv 4 = (q : Int) := by rw [Int.tdiv_eq_ediv_of_nonneg (by omega)]; omega
      rw [← hq] at h3 hs
      have hq7 : q ≤ 6 := by omega
      have HQ := Lib.hid hq
      clear hx hy hq
      by_cases hq1 : q = 0
      · subst hq1
        have HTK := Lib.hid h3
        have hy1 : y = x + 1 := hs
        clear h3 hs
        go_wp2_with (at_builtin; refine wpList_appS rowT _ rfl _ _ rfl base _ k ((lens.take k).flatMap rowc) rfl (HO.out.alloc _) ⟨wr.heap.size, 0, none⟩ 1 [.int .i64 (x : Int), .int .i64 0] rfl rfl (cells_new rfl _ _) (rows_one _ _) (k + 1) rfl (by unfold maxLen; omega) (by omega) (by simp; omega) ?_)
        all_goals
          intro A' c' w' hown' hcc hfr'
          have HO4 : Hid (w'.ownsRow base 72 2 (.slice A' (k + 1) c') (k + 1) ((lens.take (k + 1)).flatMap rowc)) := Lib.hid (by
            rw [HTK.out, flatR]
            exact hown')
          have HF4 : Hid (Fr (fun _ => False) w w') := (HF.out.alloc _).trans hfr' (fun b hb h => by have := HO.out.lt _ h; have := HB.out; omega)
          clear hown' hfr'
          go_wp2_with fail
          exact ⟨⟨k + 1, A', c', by omega, by go_num, by rw [← HY.out, hy1]; rfl, rfl, HO4.out, HF4.out⟩, by simp [intOf]; omega⟩
      · obtain ⟨b, hb⟩ : ∃ b, b = q - 1 := ⟨_, rfl⟩
        rw [← hb] at h3 hs
        have hb2 : (q : Int) - 1 = (b : Int) := by omega
        have hb7 : b ≤ 6 := by omega
        obtain ⟨p, hp⟩ : ∃ p, p = 2 ^ b := ⟨_, rfl⟩
        have hpl : p ≤ 2 ^ 6 := by rw [hp]; exact Nat.pow_le_pow_right (by omega) hb7
        have hp2 : (2 : Int) ^ b = (p : Int) := by rw [hp]; simp
        rw [← hp] at hs
        have HTK := Lib.hid h3
        clear h3 hb hp hq1
        go_wp2_with (at_builtin; refine wpList_appS rowT _ rfl _ _ rfl base _ k ((lens.take k).flatMap rowc) rfl (HO.out.alloc _) ⟨wr.heap.size, 0, none⟩ 1 [.int .i64 (x : Int), .int .i64 (b : Int)] rfl rfl (cells_new rfl _ _) (rows_one _ _) (k + 1) rfl (by unfold maxLen; omega) (by omega) (by simp; omega) ?_)
        all_goals
          intro A' c' w' hown' hcc hfr'
          have HO4 : Hid (w'.ownsRow base 72 2 (.slice A' (k + 1) c') (k + 1) ((lens.take (k + 1)).flatMap rowc)) := Lib.hid (by
            rw [HTK.out, flatR]
            exact hown')
          have HF4 : Hid (Fr (fun _ => False) w w') := (HF.out.alloc _).trans hfr' (fun b hb h => by have := HO.out.lt _ h; have := HB.out; omega)
          clear hown' hfr'
          go_wp2_with fail
          exact ⟨⟨k + 1, A', c', by omega, by go_num, by rw [← HY.out, hs]; rfl, rfl, HO4.out, HF4.out⟩, by simp [intOf]; omega⟩
    · obtain rfl : k = 28 := by omega
      have HB2 : base ≤ wr.heap.size := by have := HB.out; have := HF.out.size; omega
      go_wp2_with (at_builtin; refine wpList_appS rowT _ rfl _ _ rfl base _ 28 ((lens.take 28).flatMap rowc) rfl (HO.out.alloc _) ⟨wr.heap.size, 0, none⟩ 1 [.int .i64 258, .int .i64 0] rfl rfl (cells_new rfl _ _) (rows_one _ _) 29 rfl (by unfold maxLen; omega) (by omega) (by simp; omega) ?_)
      all_goals
        intro A' c' w' hown' hcc hfr'
        have HO4 : Hid (w'.ownsRow base 72 2 (.slice A' 29 c') 29 (lens.flatMap rowc)) := Lib.hid (by
          rw [show lens = lens.take 28 ++ [(258, 0)] from rfl, flatR]
          exact hown')
        have HF4 : Hid (Fr (fun _ => False) w w') := (HF.out.alloc _).trans hfr' (fun b hb h => by have := HO.out.lt _ h; have := HB.out; omega)
        clear hown' hfr'
        go_wp2_with fail
        go_ret
        exact ⟨A', c', rfl, HO4.out, HF4.out⟩
end Go.Proofs.YtahfmcdhcbfkaaaGreatDoor
namespace Go.Proofs.YtahfmcdhcbfkaaaGreatDoor
open Go.RowKit SyM Mem Go.Lib
set_option linter.unusedVariables false

/-- the least number of the k-th symbol, as it is reckoned -/
def ml : Nat → Nat
  | 0 => 1
  | k + 1 => ml k + 2 ^ (k / 2 - 1)
theorem ml_is (k : Nat) (hk : k < 30) : ml k ≤ 30000 ∧ dists.take (k + 1) = dists.take k ++ [(ml k, k / 2 - 1)] := by
  have h : ∀ k : Fin 30, ml (k : Nat) ≤ 30000 ∧ dists.take ((k : Nat) + 1) = dists.take (k : Nat) ++ [(ml (k : Nat), (k : Nat) / 2 - 1)] := by decide +kernel
  exact h ⟨k, hk⟩

set_option maxRecDepth 100000 in
set_option maxHeartbeats 1600000 in
theorem rDistances_any (w : World) : Calls Tryz.prog 40 #[] w fun e w' => ∃ A c, e = .returned (.slice A 30 c) ∧ w'.ownsRow w.heap.size 72 2 (.slice A 30 c) 30 (dists.flatMap rowc) ∧ Fr (fun _ => False) w w' := by
  obtain ⟨base, hbase⟩ : ∃ base, base = w.heap.size := ⟨_, rfl⟩
  have HB := Lib.hid hbase
  rw [← hbase]
  clear hbase
  go_enter Tryz.func40, Tryz.ntmps40
  go_wp2_with fail
  go_loopw [1, 2, 3] (fun s l i wr => ∃ (k : Nat) (A1 : Option Addr) (c1 : Nat), k ≤ 30 ∧ i = .int .i64 (k : Int) ∧ l = .int .i64 (ml k : Int) ∧ s = .slice A1 k c1 ∧ Hid (wr.ownsRow base 72 2 (.slice A1 k c1) k ((dists.take k).flatMap rowc)) ∧ Hid (Fr (fun _ => False) w wr)) (fun _ _ i _ => 30 - (intOf i).toNat)
  case atStart => exact ⟨0, none, 0, by omega, rfl, rfl, rfl, World.ownsRow_nil _ _ _ _, Fr.refl _ _⟩
  case round =>
    obtain ⟨k, A1, c1, hk, rfl, rfl, rfl, HO, HF⟩ := hrel
    rename World => wr
    by_cases hlt : k < 30
    · obtain ⟨h2, h3⟩ := ml_is k hlt
      have hs : ml (k + 1) = ml k + 2 ^ (k / 2 - 1) := rfl
      obtain ⟨x, hx⟩ : ∃ x, x = ml k := ⟨_, rfl⟩
      obtain ⟨y, hy⟩ : ∃ y, y = ml (k + 1) := ⟨_, rfl⟩
      rw [← hx] at h2 h3 hs ⊢
      rw [← hy] at hs
      have HY := Lib.hid hy
      have hbs : base ≤ wr.heap.size := by have := HB.out; have := HF.out.size; omega
      obtain ⟨q, hq⟩ : ∃ q, q = k / 2 := ⟨_, rfl⟩
      have hquo : (k : Int).tdiv 2 = (q : Int) := by rw [Int.tdiv_eq_ediv_of_nonneg (by omega)]; omega
      rw [← hq] at h3 hs
      have hq7 : q ≤ 14 := by omega
      have HQ := Lib.hid hq
      clear hx hy hq
      by_cases hq1 : q = 0
      · subst hq1
        have HTK := Lib.hid h3
        have hy1 : y = x + 1 := hs
        clear h3 hs
        go_wp2_with (at_builtin; refine wpList_appS rowT _ rfl _ _ rfl base _ k ((dists.take k).flatMap rowc) rfl (HO.out.alloc _) ⟨wr.heap.size, 0, none⟩ 1 [.int .i64 (x : Int), .int .i64 0] rfl rfl (cells_new rfl _ _) (rows_one _ _) (k + 1) rfl (by unfold maxLen; omega) (by omega) (by simp; omega) ?_)
        all_goals
          intro A' c' w' hown' hcc hfr'
          have HO4 : Hid (w'.ownsRow base 72 2 (.slice A' (k + 1) c') (k + 1) ((dists.take (k + 1)).flatMap rowc)) := Lib.hid (by
            rw [HTK.out, flatR]
            exact hown')
          have HF4 : Hid (Fr (fun _ => False) w w') := (HF.out.alloc _).trans hfr' (fun b hb h => by have := HO.out.lt _ h; have := HB.out; omega)
          clear hown' hfr'
          go_wp2_with fail
          exact ⟨⟨k + 1, A', c', by omega, by go_num, by rw [← HY.out, hy1]; rfl, rfl, HO4.out, HF4.out⟩, by simp [intOf]; omega⟩
      · obtain ⟨b, hb⟩ : ∃ b, b = q - 1 := ⟨_, rfl⟩
        rw [← hb] at h3 hs
        have hb2 : (q : Int) - 1 = (b : Int) := by omega
        have hb7 : b ≤ 14 := by omega
        obtain ⟨p, hp⟩ : ∃ p, p = 2 ^ b := ⟨_, rfl⟩
        have hpl : p ≤ 2 ^ 14 := by rw [hp]; exact Nat.pow_le_pow_right (by omega) hb7
        have hp2 : (2 : Int) ^ b = (p : Int) := by rw [hp]; simp
        rw [← hp] at hs
        have HTK := Lib.hid h3
        clear h3 hb hp hq1
        go_wp2_with (at_builtin; refine wpList_appS rowT _ rfl _ _ rfl base _ k ((dists.take k).flatMap rowc) rfl (HO.out.alloc _) ⟨wr.heap.size, 0, none⟩ 1 [.int .i64 (x : Int), .int .i64 (b : Int)] rfl rfl (cells_new rfl _ _) (rows_one _ _) (k + 1) rfl (by unfold maxLen; omega) (by omega) (by simp; omega) ?_)
        all_goals
          intro A' c' w' hown' hcc hfr'
          have HO4 : Hid (w'.ownsRow base 72 2 (.slice A' (k + 1) c') (k + 1) ((dists.take (k + 1)).flatMap rowc)) := Lib.hid (by
            rw [HTK.out, flatR]
            exact hown')
          have HF4 : Hid (Fr (fun _ => False) w w') := (HF.out.alloc _).trans hfr' (fun b hb h => by have := HO.out.lt _ h; have := HB.out; omega)
          clear hown' hfr'
          go_wp2_with fail
          exact ⟨⟨k + 1, A', c', by omega, by go_num, by rw [← HY.out, hs]; rfl, rfl, HO4.out, HF4.out⟩, by simp [intOf]; omega⟩
    · obtain rfl : k = 30 := by omega
      have HB2 : base ≤ wr.heap.size := by have := HB.out; have := HF.out.size; omega
      go_wp2_with fail
      go_ret
      exact ⟨A1, c1, rfl, HO.out, HF.out⟩
end Go.Proofs.YtahfmcdhcbfkaaaGreatDoor
