/-
  Contracts of layer 4's program: Len, Sum.
-/
import Derived.Test.YtjjeahijcibafaaDoorShqG
import Derived.Test.YtjjeahijcibafaaDoorShaI
namespace Go.Proofs.YtjjeahijcibafaaDoor
open Go.RowKit ShaM Mem Go.Lib
attribute [local go_sem ↓] Go.wp_at_zero Go.wp_at_succ

theorem len_any (g : Nat) (t : TypeId) (D : List Nat) (w : World) (hH : Ha w g t D) :
    Calls Tryd.prog 14 #[.pointer (some ⟨g, 0, none⟩)] w fun e w' => e = .returned (.int .u64 (D.length : Int)) ∧ w = w' := by
  have hc := hH.count
  generalize D.length = n at hc ⊢
  clear hH
  go_enter Tryd.func14, Tryd.ntmps14
  go_wp2_with fail
  go_ret
  exact ⟨rfl, rfl⟩

/-- a struct by value, out of and into a block of its own size -/
theorem load_whole {P : Program} {ty : TypeId} {fs : Array Field} {n : Nat} (hu : P.underlying ty = some (.struct fs)) (hs : (P.info? ty).map (·.size) = some n) {ops : Array Oper} {rest : List Oper} {op : Oper} {a : Act} {w : World} {Q : Exit → Act → World → Prop} (hgd : op.guard = none) (x : Operand) (ho : op.op = .load ty x)
    (g : Nat) (hx : a.eval x = .pointer (some ⟨g, 0, none⟩)) (L : List Value) (t : TypeId) (hr : Row w g t L) (hn : L.length = n)
    (h : wpList P ops Q rest (a.put op.dst (.agg L.toArray)) w) : wpList P ops Q (op :: rest) a w :=
  wpList_load_row hgd ty x ho g hx t L.toArray (0, 0) (.struct fs) hr hu rfl (by rw [hs]; simp [hn]) h
theorem store_whole {P : Program} {ty : TypeId} {n : Nat} (hs : (P.info? ty).map (·.size) = some n) {ops : Array Oper} {rest : List Oper} {op : Oper} {a : Act} {w : World} {Q : Exit → Act → World → Prop} (hgd : op.guard = none) (x y : Operand) (ho : op.op = .store ty x y)
    (g : Nat) (hx : a.eval x = .pointer (some ⟨g, 0, none⟩)) (L : List Value) (hy : a.eval y = .agg L.toArray) (old : Array Value) (t : TypeId) (hb : w.heap[g]? = some (.cells old t (0, 0))) (hn : L.length = n) (ho2 : old.size = n) (h1 : ∀ v ∈ L, v.oneCell' = true)
    (h : ∀ w', Row w' g t L → Fr (fun b => b = g) w w' → wpList P ops Q rest (a.put op.dst undef) w') : wpList P ops Q (op :: rest) a w := by
  refine wpList_plain hgd fun K hK => ?_
  unfold Oper.wp execOp
  simp only [ho, hx, hy, Instr.storeAt, Instr.sureAddr, Sem.run_bind, Sem.run_pure, Result.andThen_ok, run_storeVar_row w g t ty old L.toArray hb (by rw [hs]; simp [hn]) (by rw [ho2]; simp [hn]) (by rw [List.all_toArray, List.all_eq_true]; exact h1)]
  exact hK _ _ (h _ (setRow_heap w g old L.toArray t (0, 0) hb) ⟨rfl, rfl, rfl, by simp [World.setRow], fun b _ hs => setRow_other w g b _ hs⟩)
theorem sc_one (ad buf : List Nat) (n : Nat) : ∀ v ∈ sc ad buf n, v.oneCell' = true := by
  intro v hv
  unfold sc at hv
  rcases List.mem_append.1 hv with hv | hv
  · exact num32_one _ v hv
  · rcases List.mem_append.1 hv with hv | hv
    · exact byten_one _ v hv
    · simp at hv; subst hv; rfl
theorem stateSize : (Tryd.prog.info? 39).map (·.size) = some 73 := by kernel_rfl

/-- the zero state -/
def zst : List Value := sc (List.replicate 8 0) (List.replicate 64 0) 0
theorem zst_len : zst.length = 73 := rfl
set_option maxRecDepth 100000 in
theorem zero_state (w : World) : (zeroValue 39).run Tryd.prog w = .ok (.agg zst.toArray) w := by kernel_rfl
set_option maxRecDepth 100000 in
theorem zero_hasher (w : World) : (zeroValue 41).run Tryd.prog w = .ok (.agg zst.toArray) w := by kernel_rfl
theorem zst_ha {w : World} {g : Nat} {t : TypeId} (h : Row w g t zst) : Ha w g t [] := ⟨_, _, Hs.zero, h⟩

/-- the bytes of the first k words, zeros behind -/
def ob (S : List Nat) (k : Nat) : List Nat := (S.take k).flatMap (bk · 4) ++ List.replicate (32 - 4 * k) 0
theorem flat_len (l : List Nat) : (l.flatMap (bk · 4)).length = 4 * l.length := by
  induction l with
  | nil => rfl
  | cons a l ih => rw [List.flatMap_cons, List.length_append, ih, bk_len, List.length_cons]; omega
theorem ob_len (S : List Nat) (k : Nat) (hS : S.length = 8) (hk : k ≤ 8) : (ob S k).length = 32 := by
  unfold ob
  rw [List.length_append, flat_len, List.length_take, hS, List.length_replicate]
  omega
theorem ob_step (S : List Nat) (k x : Nat) (hS : S.length = 8) (hk : k < 8) (hx : S[k]? = some x) : splice ((ob S k).map byten) (4 * k) ((bk x 4).map byten) = (ob S (k + 1)).map byten := by
  have h1 : ((S.take k).flatMap (bk · 4)).length = 4 * k := by rw [flat_len, List.length_take, hS]; omega
  unfold splice ob
  rw [← List.map_take, ← List.map_drop, ← List.map_append, ← List.map_append]
  congr 1
  rw [List.take_append_of_le_length (by omega), List.take_of_length_le (by omega), List.length_map, bk_len, List.drop_append, List.drop_of_length_le (by omega), h1, List.nil_append, List.drop_replicate, List.take_add_one, hx]
  rw [show 32 - 4 * k - (4 * k + 4 - 4 * k) = 32 - 4 * (k + 1) from by omega]
  simp [List.append_assoc]
theorem ob_full (S : List Nat) (hS : S.length = 8) : ob S 8 = outs S := by
  obtain ⟨a, b, c, d, e, f, g, i, rfl⟩ := eight_cases hS
  simp [ob, outs, bk, List.range_succ]

end Go.Proofs.YtjjeahijcibafaaDoor
