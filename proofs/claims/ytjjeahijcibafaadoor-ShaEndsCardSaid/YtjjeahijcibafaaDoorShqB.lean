/-
  Contracts of layer 4's program: a word out of bytes; a number's bytes into a slice.
-/
import Derived.Test.YtjjeahijcibafaaDoorShqA
import Derived.Test.YtjjeahijcibafaaDoorRow
namespace Go.Proofs.YtjjeahijcibafaaDoor
open Go.RowKit ShaM Mem Go.Lib
attribute [local go_sem ↓] Go.wp_at_zero Go.wp_at_succ

theorem word_facts (a b c d : Nat) (ha : a < 256) (hb : b < 256) (hc : c < 256) (hd : d < 256) : ∃ p q r s t : Nat, IntKind.u32.wrap ((a : Int) * 16777216) = (p : Int) ∧ IntKind.u32.wrap ((b : Int) * 65536) = (q : Int) ∧ bits .or .u32 (p : Int) (q : Int) = (r : Int) ∧
    IntKind.u32.wrap ((c : Int) * 256) = (s : Int) ∧ bits .or .u32 (r : Int) (s : Int) = (t : Int) ∧ bits .or .u32 (t : Int) (d : Int) = (be4 [a, b, c, d] : Int) := by
  refine ⟨a * 16777216, b * 65536, _, c * 256, _, ?_, ?_, u32_or_nat _ _ (by omega) (by omega), ?_, u32_or_nat _ _ (or_lt (by omega) (by omega)) (by omega), ?_⟩
  · rw [IntKind.wrap_u32]; omega
  · rw [IntKind.wrap_u32]; omega
  · rw [IntKind.wrap_u32]; omega
  · rw [u32_or_nat _ _ (or_lt (or_lt (by omega) (by omega)) (by omega)) (by omega), be4_or _ _ _ _ hb hc hd]
set_option maxHeartbeats 800000 in
theorem word_any (g o m k : Nat) (a b c d : Nat) (w : World) (ha : a < 256) (hb : b < 256) (hc : c < 256) (hd : d < 256) (hm : 4 ≤ m)
    (h0 : w.cell? ⟨g, o, none⟩ = some (.int .u8 (a : Int))) (h1 : w.cell? ⟨g, o + 1, none⟩ = some (.int .u8 (b : Int))) (h2 : w.cell? ⟨g, o + 2, none⟩ = some (.int .u8 (c : Int))) (h3 : w.cell? ⟨g, o + 3, none⟩ = some (.int .u8 (d : Int))) :
    Calls Tryd.prog 32 #[.slice (some ⟨g, o, none⟩) m k] w fun e w' => e = .returned (.int .u32 (be4 [a, b, c, d] : Int)) ∧ Fr (fun _ => False) w w' := by
  obtain ⟨p, q, r, s, t, e1, e2, e3, e4, e5, e6⟩ := word_facts a b c d ha hb hc hd
  obtain ⟨R, hR⟩ : ∃ R, R = be4 [a, b, c, d] := ⟨_, rfl⟩
  rw [← hR] at e6 ⊢
  have b0 : 0 < m := by omega
  have b1 : (1 : Int) < (m : Int) := by omega
  have b2 : (2 : Int) < (m : Int) := by omega
  have b3 : (3 : Int) < (m : Int) := by omega
  have wa : IntKind.u32.wrap (a : Int) = (a : Int) := by rw [IntKind.wrap_u32]; omega
  have wb : IntKind.u32.wrap (b : Int) = (b : Int) := by rw [IntKind.wrap_u32]; omega
  have wc : IntKind.u32.wrap (c : Int) = (c : Int) := by rw [IntKind.wrap_u32]; omega
  have wd : IntKind.u32.wrap (d : Int) = (d : Int) := by rw [IntKind.wrap_u32]; omega
  clear hR hm
  go_enter Tryd.func32, Tryd.ntmps32
  go_wp2_with fail
  go_still (by kernel_rfl)
  go_wp2_with fail
  go_ret
  exact ⟨rfl, (Fr.refl _ _).drew⟩
/-- the k lowest bytes, the highest of them first -/
def bk (x : Nat) : Nat → List Nat
  | 0 => []
  | k + 1 => x / 256 ^ k % 256 :: bk x k
theorem bk_len (x k : Nat) : (bk x k).length = k := by
  induction k with
  | zero => rfl
  | succ k ih => rw [bk, List.length_cons, ih]
theorem bk_lt (x k : Nat) : ∀ b ∈ bk x k, b < 256 := by
  induction k with
  | zero => intro b hb; cases hb
  | succ k ih =>
    intro b hb
    rw [bk] at hb
    rcases List.mem_cons.1 hb with rfl | hb
    · exact Nat.mod_lt _ (by omega)
    · exact ih b hb
set_option maxHeartbeats 800000 in
theorem put_any (g o m c x : Nat) (t : TypeId) (L : List Value) (w : World) (hx : x < 18446744073709551616) (hm : m ≤ 64) (hL : o + m ≤ L.length) (hr : Row w g t L) :
    Calls Tryd.prog 22 #[.slice (some ⟨g, o, none⟩) m c, .int .u64 (x : Int)] w fun e w' => e = .returned (.tuple #[]) ∧ Row w' g t (splice L o ((bk x m).map byten)) ∧ Fr (fun b => b = g) w w' := by
  have HR := Lib.hid hr
  clear hr
  go_enter Tryd.func22, Tryd.ntmps22
  go_wp2_with fail
  go_loopw [1, 7] (fun y i wr => ∃ k X : Nat, k ≤ m ∧ i = .int .i64 (k : Int) ∧ y = .int .u64 (X : Int) ∧ X < 18446744073709551616 ∧ Hid (X = x / 256 ^ k) ∧ Hid (Row wr g t (splice L (o + m - k) ((bk x k).map byten))) ∧ Fr (fun b => b = g) w wr)
    (fun _ i _ => m - (intOf i).toNat)
  case atStart => exact ⟨0, x, by omega, rfl, rfl, hx, Lib.hid (by simp), Lib.hid (by rw [bk, List.map_nil, splice_nil]; exact HR.out), Fr.refl _ _⟩
  case round =>
    obtain ⟨k, X, hk, rfl, rfl, hX, HX, HW, hfr⟩ := hrel
    by_cases hlt : k < m
    · obtain ⟨j, hj⟩ : ∃ j, j = m - 1 - k := ⟨_, rfl⟩
      have ej : (m : Int) - 1 - (k : Int) = (j : Int) := by omega
      have hj0 : (0 : Int) ≤ (j : Int) := by omega
      have hjm : (j : Int) < (m : Int) := by omega
      have ew : IntKind.u8.wrap (X : Int) = ((X % 256 : Nat) : Int) := by rw [IntKind.wrap_u8]; omega
      have hlen : (splice L (o + m - k) ((bk x k).map byten)).length = L.length := length_splice _ _ _ (by rw [List.length_map, bk_len]; omega)
      obtain ⟨u, hu⟩ : ∃ u, (splice L (o + m - k) ((bk x k).map byten))[o + j]? = some u := ⟨_, List.getElem?_eq_getElem (by rw [hlen]; omega)⟩
      have hc := HW.out.cell hu
      have hf := HW.out.free (o + j)
      have hs : Row (wr.setCell ⟨g, o + j, none⟩ (.int .u8 ((X % 256 : Nat) : Int))) g t (splice L (o + m - (k + 1)) ((bk x (k + 1)).map byten)) := by
        have h1 := HW.out.set (o + j) (.int .u8 ((X % 256 : Nat) : Int))
        have e1 : o + m - k = o + j + 1 := by omega
        have e2 : o + m - (k + 1) = o + j := by omega
        rw [e1, splice_head _ _ _ _ (by omega)] at h1
        rw [e2, bk, List.map_cons, ← HX.out]
        exact h1
      have hx2 : X / 256 = x / 256 ^ (k + 1) := by rw [HX.out, Nat.div_div_eq_div_mul, Nat.pow_succ]
      have HS := Lib.hid hs
      have HX2 := Lib.hid hx2
      have HFR := Lib.hid hfr
      obtain ⟨z, hz⟩ : ∃ z, z = X % 256 := ⟨_, rfl⟩
      rw [← hz] at ew HS
      have HJ := Lib.hid hj
      clear hj hlen hu hs hx2 hfr HW HX hz
      go_wp2_with fail
      exact ⟨⟨k + 1, X / 256, by omega, by go_num, by simp, by omega, HX2, HS, HFR.out.trans (Fr.set1 _ _ _ _) (fun _ _ h => h)⟩, by simp [intOf]; omega⟩
    · obtain rfl : k = m := by omega
      rw [show o + k - k = o from by omega] at HW
      go_wp2_with fail
      go_end0
      exact ⟨rfl, HW.out, hfr⟩
end Go.Proofs.YtjjeahijcibafaaDoor
