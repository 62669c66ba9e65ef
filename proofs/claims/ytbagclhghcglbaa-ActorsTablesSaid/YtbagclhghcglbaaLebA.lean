/-
  Contracts of layer 2: the reference's U, S, Span; the program's U, S, All.
-/
import Derived.Test.YtbagclhghcglbaaZm01
import Derived.Test.YtbagclhghcglbaaLebM
import Derived.Lib.Varint
import Derived.BigRegion
import Derived.BigQuiet
import Derived.Deep.QuietTactic
import Derived.Deep.RegionWith
import Derived.StillTailTactics
namespace Go.Proofs.Ytbagclhghcglbaa
open Go.RowKit LebM Mem Go.Lib

theorem or_byte (z : Int) : bits .or .u8 (z % 256) 128 = ((128 + (z % 128).toNat : Nat) : Int) := by
  rw [u8_or128_any _ (by omega) (by omega)]
  omega
theorem not_byte (z : Int) : bits .andNot .u8 (z % 256) 128 = z % 128 := by
  rw [u8_andNot _ _ (by omega) (by omega) (by omega) (by omega)]
  show (((z % 256).toNat &&& 127 : Nat) : Int) = _
  rw [nat_mask7]
  omega

theorem Own.snoc {w : World} {base c : Nat} {A : Option Addr} {D : List UInt8} {x : Int} (h : w.ownsRow base 5 1 (.slice A (D.length + 1) c) (D.length + 1) (D.map bytec ++ [.int .u8 x])) {y : Nat} (hy : y < 256) (hx : x = (y : Int)) :
    Own w base A c (D ++ [UInt8.ofNat y]) := by
  unfold Own
  rw [List.length_append, List.map_append, List.map_singleton, bytec_ofNat hy, ← hx]
  exact h
theorem len_snoc (A : Option Addr) (D : List UInt8) (b : UInt8) (c : Nat) : Value.slice A (D.length + 1) c = Value.slice A (D ++ [b]).length c := by rw [List.length_append]; rfl
theorem Fr.app {w wr w' : World} {c : Nat} {A : Option Addr} {D : List UInt8} {o : Obj} (hfr : Fr (fun _ => False) w wr) (hown : Own wr w.heap.size A c D)
    (hfr' : Fr (fun k => (Value.slice A D.length c).ownBlock = some k) (wr.alloc o) w') : Fr (fun _ => False) w w' :=
  (hfr.alloc _).trans hfr' (fun b hb h => by have := hown.lt _ h; omega)

set_option maxRecDepth 100000 in
set_option maxHeartbeats 400000 in
theorem U_any (n : Nat) (w : World) (hn : n < 18446744073709551616) :
    Calls Try.prog 27 #[.int .u64 (n : Int)] w (Gives w (u n)) := by
  have H10 := u_len10 hn
  go_enter Try.func27, Try.ntmps27
  go_wp2
  go_loopw [0, 3] (fun m v wr => ∃ (D : List UInt8) (z : Nat) (A : Option Addr) (c : Nat), z < 18446744073709551616 ∧ Hid (u n = D ++ u z) ∧ m = .int .u64 (z : Int) ∧ v = .slice A D.length c ∧ Own wr w.heap.size A c D ∧ Fr (fun _ => False) w wr)
    (fun m _ _ => (intOf m).toNat)
  case atStart => exact ⟨[], n, none, 0, hn, rfl, rfl, rfl, Own.nil _ _, Fr.refl _ _⟩
  case round =>
    obtain ⟨D, z, A, c, hz, Hz, rfl, rfl, hown, hfr⟩ := hrel
    have hsz := hfr.size
    have hD : D.length ≤ 9 := by have h1 := congrArg List.length Hz.out; have h2 := u_pos z; rw [List.length_append] at h1; omega
    by_cases h128 : z < 128
    · go_wp2_with (at_builtin; refine wpList_app u8T _ rfl _ _ rfl w.heap.size _ _ _ rfl (hown.alloc _) _ _ _ _ rfl (Rd.one _ _ _) (one_one _ _) (by unfold maxLen; omega) (by omega) (by simp; omega) ?_)
      intro A' c' w' _ _ hown' hfr' _
      go_wp2
      go_ret
      have hu := Hz.out
      rw [u_small h128] at hu
      have ho := Own.snoc hown' (y := z) (by omega) (by omega)
      rw [← hu] at ho
      refine ⟨A', c', ?_, ho, Fr.app hfr hown hfr'⟩
      rw [hu, ← len_snoc]
      rfl
    · go_wp2_with (at_builtin; refine wpList_app u8T _ rfl _ _ rfl w.heap.size _ _ _ rfl (hown.alloc _) _ _ _ _ rfl (Rd.one _ _ _) (one_one _ _) (by unfold maxLen; omega) (by omega) (by simp; omega) ?_)
      intro A' c' w' _ _ hown' hfr' _
      go_wp2
      go_roundw
      case rel =>
        refine ⟨D ++ [UInt8.ofNat (128 + z % 128)], z / 128, A', c', by omega, ?_, by congr 1, len_snoc _ _ _ _, Own.snoc hown' (by omega) (by rw [or_byte]; omega), Fr.app hfr hown hfr'⟩
        show _ = _
        rw [Hz.out, u_big h128, List.append_assoc]
        rfl
      case measure => simp [intOf] <;> omega

/-- 'append([]byte{b}, bs...)' -/
theorem own_one {w : World} (b : UInt8) (base : Nat) (hb : base ≤ w.heap.size) {k : Nat} (hk : k = w.heap.size) : Own (w.alloc (.cells #[bytec b] 5)) base (some ⟨k, 0, none⟩) 1 [b] := by
  subst hk
  exact World.ownsRow_lit (size := 1) w #[bytec b] 1 hb (by decide) rfl

end Go.Proofs.Ytbagclhghcglbaa
