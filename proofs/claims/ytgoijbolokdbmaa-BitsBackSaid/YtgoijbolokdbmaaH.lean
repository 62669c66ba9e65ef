/-
  Plain mathematics of BitsBack: what was put, act by act, and where it is read again.
-/
import Derived.Test.YtgoijbolokdbmaaG
namespace Go.Proofs.Ytgoijbolokdbmaa
open Go.RowKit BitsM Mem
set_option linter.unusedVariables false

/-- how many bits of an act's number are put -/
def kk (x : ActD) : Nat := ((x.N.tmod 65 + 64) % 65).toNat
theorem kk_le (x : ActD) : kk x ≤ 64 := by unfold kk; omega
def step (bs : List Bool) (x : ActD) : List Bool := if x.d % 4 = 3 then full (bs ++ low x.X (kk x)) ++ bitsOf x.B else bs ++ low x.X (kk x)
def lay (l : List ActD) : List Bool := l.foldl step []
theorem lay_take {l : List ActD} {k : Nat} {x : ActD} (h : l[k]? = some x) : lay (l.take (k + 1)) = step (lay (l.take k)) x := by
  rw [List.take_add_one, h]
  simp [lay]
theorem step_pre (bs : List Bool) (x : ActD) : bs ++ low x.X (kk x) <+: step bs x := by
  unfold step
  split
  · exact ⟨List.replicate (lack (bs ++ low x.X (kk x)).length) false ++ bitsOf x.B, by simp [full]⟩
  · exact List.prefix_refl _
theorem fold_pre (l : List ActD) (bs : List Bool) : bs <+: l.foldl step bs := by
  induction l generalizing bs with
  | nil => exact List.prefix_refl _
  | cons x l ih => exact ((List.prefix_append bs (low x.X (kk x))).trans (step_pre bs x)).trans (ih (step bs x))
theorem lay_pre (l : List ActD) (k : Nat) : lay (l.take k) <+: lay l := by
  have h : lay l = (l.drop k).foldl step (lay (l.take k)) := by
    unfold lay
    rw [← List.foldl_append, List.take_append_drop]
  rw [h]
  exact fold_pre _ _
theorem bitsOf_pack (L : List Bool) : bitsOf (pack L) = full L := by
  have h1 : pack (full L) = pack L := pack_full L
  have h2 := full_mod L
  have key : ∀ (n : Nat) (M : List Bool), M.length = 8 * n → bitsOf (pack M) = M := by
    intro n
    induction n with
    | zero => intro M hM; obtain rfl : M = [] := List.eq_nil_of_length_eq_zero (by omega); rfl
    | succ n ih =>
      intro M hM
      rw [← List.take_append_drop 8 M]
      have ht : (M.take 8).length = 8 := by simp; omega
      rw [pack_append (by rw [ht]), bitsOf_append, ih (M.drop 8) (by simp; omega)]
      congr 1
      have hp : pack (M.take 8) = [UInt8.ofNat (num (M.take 8))] := by
        simp only [pack, ht]
        simp [List.range_succ, List.take_take]
      rw [hp, bitsOf_cons, bitsOf_nil, List.append_nil]
      have hlt := num_take8_lt M
      rw [UInt8.toNat_ofNat_of_lt' (by simp only [UInt8.size]; omega)]
      have := low_num (M.take 8)
      rwa [ht] at this
  rw [← h1]
  exact key ((full L).length / 8) _ (by omega)
/-- bits within what was put are read as they were -/
theorem cut_lay {M L : List Bool} {s : List Bool} (h : M ++ s <+: L) : cut (pack L) M.length s.length = s := by
  obtain ⟨t, rfl⟩ := h
  unfold cut
  rw [bitsOf_pack]
  unfold full
  simp [List.append_assoc]
theorem raw_lay {M L : List Bool} {B : List UInt8} (hM : M.length % 8 = 0) (h : M ++ bitsOf B <+: L) : ((pack L).drop (M.length / 8)).take B.length = B := by
  obtain ⟨t, rfl⟩ := h
  rw [List.append_assoc, pack_append hM, pack_append (by rw [bitsOf_length]; omega), pack_bitsOf]
  have hl : (pack M).length = M.length / 8 := by rw [pack_length]; omega
  rw [← hl]
  simp
theorem bits_bytes (l : List Bool) : l.map bitc = (l.map fun b => UInt8.ofNat b.toNat).map bytec := by
  rw [List.map_map]
  apply List.map_congr_left
  intro b _
  cases b <;> rfl
theorem low_mod (x n : Nat) : low (x % 2 ^ n) n = low x n := by
  have h := low_num (low x n)
  rwa [num_low, low_length] at h
end Go.Proofs.Ytgoijbolokdbmaa
