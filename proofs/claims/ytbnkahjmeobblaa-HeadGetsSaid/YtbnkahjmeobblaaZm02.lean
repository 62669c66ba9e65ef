/-
  Contracts of layer 2: the reference's U, S, Span; the program's U, S, All.
  Contracts of layer 2: how many bytes a number has; what bytes tell.
-/
import Derived.Test.YtbnkahjmeobblaaZm01
import Derived.Lib.Varint
import Derived.BigRegion
import Derived.BigQuiet
import Derived.Deep.QuietTactic
import Derived.Deep.RegionWith
import Derived.StillTailTactics
namespace Go.Proofs.Ytbnkahjmeobblaa
open Go.RowKit LebM Mem Go.Lib

theorem or_byte (z : Int) : bits .or .u8 (z % 256) 128 = ((128 + (z % 128).toNat : Nat) : Int) := by
  rw [u8_or128_any _ (by omega) (by omega)]
  omega
theorem not_byte (z : Int) : bits .andNot .u8 (z % 256) 128 = z % 128 := by
  rw [u8_andNot _ _ (by omega) (by omega) (by omega) (by omega)]
  show (((z % 256).toNat &&& 127 : Nat) : Int) = _
  rw [nat_mask7]
  omega

theorem Own.snoc {w : World} {base c : Nat} {A : Option Addr} {D : List UInt8} {x : Int} (h : w.ownsRow base 5 1 (.slice A (D.length + 1) c) (D.length + 1) (D.map bytec ++ [.int .u8 x])) {y : Nat} (hy : y < 256) (hx : x = (y : Int)) :
    Own w base A c (D ++ [UInt8.ofNat y]) := by
  unfold Own
  rw [List.length_append, List.map_append, List.map_singleton, bytec_ofNat hy, ← hx]
  exact h
theorem len_snoc (A : Option Addr) (D : List UInt8) (b : UInt8) (c : Nat) : Value.slice A (D.length + 1) c = Value.slice A (D ++ [b]).length c := by rw [List.length_append]; rfl
theorem Fr.app {w wr w' : World} {c : Nat} {A : Option Addr} {D : List UInt8} {o : Obj} (hfr : Fr (fun _ => False) w wr) (hown : Own wr w.heap.size A c D)
    (hfr' : Fr (fun k => (Value.slice A D.length c).ownBlock = some k) (wr.alloc o) w') : Fr (fun _ => False) w w' :=
  (hfr.alloc _).trans hfr' (fun b hb h => by have := hown.lt _ h; omega)

set_option maxRecDepth 100000 in
set_option maxHeartbeats 400000 in
theorem U_any (n : Nat) (w : World) (hn : n < 18446744073709551616) :
    Calls Try.prog 51 #[.int .u64 (n : Int)] w (Gives w (u n)) := by
  have H10 := u_len10 hn
  go_enter Try.func51, Try.ntmps51
  go_wp2
  go_loopw [0, 3] (fun m v wr => ∃ (D : List UInt8) (z : Nat) (A : Option Addr) (c : Nat), z < 18446744073709551616 ∧ Hid (u n = D ++ u z) ∧ m = .int .u64 (z : Int) ∧ v = .slice A D.length c ∧ Own wr w.heap.size A c D ∧ Fr (fun _ => False) w wr)
    (fun m _ _ => (intOf m).toNat)
  case atStart => exact ⟨[], n, none, 0, hn, rfl, rfl, rfl, Own.nil _ _, Fr.refl _ _⟩
  case round =>
    obtain ⟨D, z, A, c, hz, Hz, rfl, rfl, hown, hfr⟩ := hrel
    have hsz := hfr.size
    have hD : D.length ≤ 9 := by have h1 := congrArg List.length Hz.out; have h2 := u_pos z; rw [List.length_append] at h1; omega
    by_cases h128 : z < 128
    · go_wp2_with (at_builtin; refine wpList_app u8T _ rfl _ _ rfl w.heap.size _ _ _ rfl (hown.alloc _) _ _ _ _ rfl (Rd.one _ _ _) (one_one _ _) (by unfold maxLen; omega) (by omega) (by simp; omega) ?_)
      intro A' c' w' _ _ hown' hfr' _
      go_wp2
      go_ret
      have hu := Hz.out
      rw [u_small h128] at hu
      have ho := Own.snoc hown' (y := z) (by omega) (by omega)
      rw [← hu] at ho
      refine ⟨A', c', ?_, ho, Fr.app hfr hown hfr'⟩
      rw [hu, ← len_snoc]
      rfl
    · go_wp2_with (at_builtin; refine wpList_app u8T _ rfl _ _ rfl w.heap.size _ _ _ rfl (hown.alloc _) _ _ _ _ rfl (Rd.one _ _ _) (one_one _ _) (by unfold maxLen; omega) (by omega) (by simp; omega) ?_)
      intro A' c' w' _ _ hown' hfr' _
      go_wp2
      go_roundw
      case rel =>
        refine ⟨D ++ [UInt8.ofNat (128 + z % 128)], z / 128, A', c', by omega, ?_, by congr 1, len_snoc _ _ _ _, Own.snoc hown' (by omega) (by rw [or_byte]; omega), Fr.app hfr hown hfr'⟩
        show _ = _
        rw [Hz.out, u_big h128, List.append_assoc]
        rfl
      case measure => simp [intOf] <;> omega

set_option maxRecDepth 100000 in
set_option maxHeartbeats 400000 in
theorem S_any (n : Int) (w : World) (h0 : -9223372036854775808 ≤ n) (h1 : n < 9223372036854775808) :
    Calls Try.prog 33 #[.int .i64 n] w (Gives w (s n)) := by
  have H10 := s_len10 h0 h1
  go_enter Try.func33, Try.ntmps33
  go_wp2
  go_loopw [0, 3] (fun m v wr => ∃ (D : List UInt8) (z : Int) (A : Option Addr) (c : Nat), -9223372036854775808 ≤ z ∧ z < 9223372036854775808 ∧ Hid (s n = D ++ s z) ∧ m = .int .i64 z ∧ v = .slice A D.length c ∧ Own wr w.heap.size A c D ∧ Fr (fun _ => False) w wr)
    (fun m _ _ => (intOf m).natAbs)
  case atStart => exact ⟨[], n, none, 0, h0, h1, rfl, rfl, rfl, Own.nil _ _, Fr.refl _ _⟩
  case round =>
    obtain ⟨D, z, A, c, hz0, hz1, Hz, rfl, rfl, hown, hfr⟩ := hrel
    have hsz := hfr.size
    have hD : D.length ≤ 9 := by have h1 := congrArg List.length Hz.out; have h2 := s_pos z; rw [List.length_append] at h1; omega
    by_cases h64 : -64 ≤ z ∧ z ≤ 63
    · obtain ⟨ha, hb⟩ := h64
      have t1 : decide (z < -64) = false := by simp; omega
      have t2 : decide (64 ≤ z) = false := by simp; omega
      go_wp2_with (at_builtin; refine wpList_app u8T _ rfl _ _ rfl w.heap.size _ _ _ rfl (hown.alloc _) _ _ _ _ rfl (Rd.one _ _ _) (one_one _ _) (by unfold maxLen; omega) (by omega) (by simp; omega) ?_)
      intro A' c' w' _ _ hown' hfr' _
      go_wp2
      go_ret
      have hu := Hz.out
      rw [s_small ⟨ha, hb⟩] at hu
      have ho := Own.snoc hown' (y := (z % 128).toNat) (by omega) (by rw [not_byte]; omega)
      rw [← hu] at ho
      refine ⟨A', c', ?_, ho, Fr.app hfr hown hfr'⟩
      rw [hu, ← len_snoc]
      rfl
    · rcases (show z < -64 ∨ 64 ≤ z by omega) with hc | hc
      all_goals
        go_wp2_with (at_builtin; refine wpList_app u8T _ rfl _ _ rfl w.heap.size _ _ _ rfl (hown.alloc _) _ _ _ _ rfl (Rd.one _ _ _) (one_one _ _) (by unfold maxLen; omega) (by omega) (by simp; omega) ?_)
        intro A' c' w' _ _ hown' hfr' _
        go_wp2
        go_roundw
        case rel =>
          refine ⟨D ++ [UInt8.ofNat (128 + (z % 128).toNat)], z / 128, A', c', by omega, by omega, ?_, by congr 1, len_snoc _ _ _ _, Own.snoc hown' (by omega) (or_byte _), Fr.app hfr hown hfr'⟩
          show _ = _
          rw [Hz.out, s_big h64, List.append_assoc]
          rfl
        case measure => simp [intOf] <;> omega

/-- 'append([]byte{b}, bs...)' -/
theorem own_one {w : World} (b : UInt8) (base : Nat) (hb : base ≤ w.heap.size) {k : Nat} (hk : k = w.heap.size) : Own (w.alloc (.cells #[bytec b] 5)) base (some ⟨k, 0, none⟩) 1 [b] := by
  subst hk
  exact World.ownsRow_lit (size := 1) w #[bytec b] 1 hb (by decide) rfl

end Go.Proofs.Ytbnkahjmeobblaa
namespace Go.Proofs.Ytbnkahjmeobblaa
open Go.RowKit LebM Mem Go.Lib

/-- the first byte below 128 -/
def fst (B : List UInt8) : Nat := B.findIdx fun b => decide (b.toNat < 128)
def spanK (B : List UInt8) : Nat := if fst B < min B.length 10 then fst B + 1 else 0
def spanE (B : List UInt8) : Nat := if fst B < min B.length 10 then 0 else if B.length < 10 then 2 else 3
theorem fst_step {B : List UInt8} {k : Nat} {b : UInt8} (hk : k ≤ fst B) (hb : B[k]? = some b) : if b.toNat < 128 then fst B = k else k + 1 ≤ fst B := by
  obtain ⟨hl, rfl⟩ := List.getElem?_eq_some_iff.1 hb
  have h1 : ∀ j (h : j < fst B), ¬ (B[j]'(Nat.lt_of_lt_of_le h List.findIdx_le_length)).toNat < 128 := fun j h => by have h3 := List.not_of_lt_findIdx (p := fun b : UInt8 => decide (b.toNat < 128)) (xs := B) h; simpa using h3
  by_cases hlt : fst B < B.length
  · have h2 : (B[fst B]).toNat < 128 := of_decide_eq_true (List.findIdx_getElem (p := fun b : UInt8 => decide (b.toNat < 128)) (xs := B) (w := hlt))
    split
    · rename_i h
      by_cases he : k = fst B
      · exact he.symm
      · exact absurd h (h1 k (by omega))
    · rename_i h
      by_cases he : k = fst B
      · subst he; exact absurd h2 h
      · omega
  · have : fst B ≤ B.length := List.findIdx_le_length
    split
    · rename_i h
      exact absurd h (h1 k (by omega))
    · omega
theorem fst_lt {B : List UInt8} {b : UInt8} {k : Nat} (hk : k ≤ fst B) (hb : B[k]? = some b) (h : b.toNat < 128) : fst B = k := by
  have := fst_step hk hb; rwa [if_pos h] at this
theorem fst_ge {B : List UInt8} {b : UInt8} {k : Nat} (hk : k ≤ fst B) (hb : B[k]? = some b) (h : ¬ b.toNat < 128) : k + 1 ≤ fst B := by
  have := fst_step hk hb; rwa [if_neg h] at this

set_option maxRecDepth 100000 in
set_option maxHeartbeats 400000 in
theorem span_any (A : Option Addr) (n c : Nat) (B : List UInt8) (w : World) (hr : Rd w A n (B.map bytec)) (hc : n ≤ c) :
    Calls Try.prog 85 #[.slice A n c] w fun e w' => e = .returned (.tuple #[.int .i64 (spanK B : Int), .int .i64 (spanE B : Int)]) ∧ w = w' := by
  have hBn : B.length = n := by simpa using hr.1
  have HB := Lib.hid hBn
  have HR := Lib.hid hr
  clear hBn hr
  go_enter Try.func85, Try.ntmps85
  go_wp2
  all_goals
    go_loop [12] (fun i => ∃ k : Nat, k ≤ n ∧ k ≤ 10 ∧ k ≤ fst B ∧ i = .int .i64 k) (fun i => n - (intOf i).toNat)
    case atStart => exact ⟨0, by omega, by omega, by omega, rfl⟩
    case round =>
      obtain ⟨k, hk, hk10, hkf, rfl⟩ := hrel
      by_cases hlt : k < n ∧ k < 10
      · obtain ⟨hlt, hlt10⟩ := hlt
        obtain ⟨ad, v, rfl, hv, hcell⟩ := HR.out.at_ hlt
        obtain ⟨b, hb⟩ : ∃ b, B[k]? = some b := ⟨B[k]'(by have := HB.out; omega), List.getElem?_eq_getElem _⟩
        obtain rfl : bytec b = v := by simpa [hb] using hv
        unfold bytec at hcell
        have hb256 := b.toNat_lt
        have Hb := Lib.hid hb
        clear hv hb
        by_cases h128 : b.toNat < 128
        · have hf := fst_lt hkf Hb.out h128
          have HF := Lib.hid hf
          clear hf
          go_wp2
          go_ret2
          have hn := HB.out
          have hf := HF.out
          refine ⟨?_, rfl⟩
          have e1 : spanK B = k + 1 := by unfold spanK; rw [if_pos (by omega)]; omega
          have e2 : spanE B = 0 := by unfold spanE; rw [if_pos (by omega)]
          rw [e1, e2]
          rfl
        · have hf := fst_ge hkf Hb.out h128
          go_wp2
          go_round
          case rel => exact ⟨k + 1, by omega, by omega, hf, by go_num⟩
          case measure => simp [intOf] <;> omega
      · go_wp2
        all_goals
          go_ret2
          have hn := HB.out
          refine ⟨?_, rfl⟩
          have e1 : spanK B = 0 := by unfold spanK; rw [if_neg (by omega)]
          have e2 : spanE B = if n < 10 then 2 else 3 := by unfold spanE; rw [if_neg (by omega), hn]
          rw [e1, e2]
          first
            | (rw [if_pos (by omega)]; rfl)
            | (rw [if_neg (by omega)]; rfl)

set_option maxRecDepth 100000 in
set_option maxHeartbeats 400000 in
theorem rspan_any (A : Option Addr) (n c : Nat) (B : List UInt8) (w : World) (hr : Rd w A n (B.map bytec)) :
    Calls Try.prog 43 #[.slice A n c] w fun e w' => e = .returned (.tuple #[.int .i64 (spanK B : Int), .int .i64 (spanE B : Int)]) ∧ w = w' := by
  have hBn : B.length = n := by simpa using hr.1
  have HB := Lib.hid hBn
  have HR := Lib.hid hr
  clear hBn hr
  go_enter Try.func43, Try.ntmps43
  go_wp2
  go_loop [4] (fun i => ∃ k : Nat, k ≤ n ∧ k ≤ 9 ∧ k ≤ fst B ∧ i = .int .i64 k) (fun i => n - (intOf i).toNat)
  case atStart => exact ⟨0, by omega, by omega, by omega, rfl⟩
  case round =>
    obtain ⟨k, hk, hk9, hkf, rfl⟩ := hrel
    by_cases hlt : k < n
    · obtain ⟨ad, v, rfl, hv, hcell⟩ := HR.out.at_ hlt
      obtain ⟨b, hb⟩ : ∃ b, B[k]? = some b := ⟨B[k]'(by have := HB.out; omega), List.getElem?_eq_getElem _⟩
      obtain rfl : bytec b = v := by simpa [hb] using hv
      unfold bytec at hcell
      have hb256 := b.toNat_lt
      have Hb := Lib.hid hb
      clear hv hb
      by_cases h128 : b.toNat < 128
      · have HF := Lib.hid (fst_lt hkf Hb.out h128)
        go_wp2
        go_ret2
        have hn := HB.out
        have hf := HF.out
        refine ⟨?_, rfl⟩
        have e1 : spanK B = k + 1 := by unfold spanK; rw [if_pos (by omega)]; omega
        have e2 : spanE B = 0 := by unfold spanE; rw [if_pos (by omega)]
        rw [e1, e2]
        rfl
      · have hf := fst_ge hkf Hb.out h128
        by_cases h9 : k = 9
        · have t : ((k : Int) == 9) = true := by simp; omega
          have H9 := Lib.hid h9
          clear h9
          go_wp2
          go_ret2
          have hn := HB.out
          have h9 := H9.out
          refine ⟨?_, rfl⟩
          have e1 : spanK B = 0 := by unfold spanK; rw [if_neg (by omega)]
          have e2 : spanE B = 3 := by unfold spanE; rw [if_neg (by omega), if_neg (by omega)]
          rw [e1, e2]
          rfl
        · have t : decide ((k : Int) = 9) = false := by simp; omega
          go_wp2
          go_round
          case rel => exact ⟨k + 1, by omega, by omega, hf, by go_num⟩
          case measure => simp [intOf] <;> omega
    · go_wp2
      go_ret2
      have hn := HB.out
      refine ⟨?_, rfl⟩
      have e1 : spanK B = 0 := by unfold spanK; rw [if_neg (by omega)]
      have e2 : spanE B = 2 := by unfold spanE; rw [if_neg (by omega), if_pos (by omega)]
      rw [e1, e2]
      rfl

theorem val_snoc (l : List UInt8) (b : UInt8) : val (l ++ [b]) = val l + 128 ^ l.length * (b.toNat % 128) := by
  induction l with
  | nil => simp [val]
  | cons a l ih => rw [List.cons_append, val_cons, ih, val_cons, List.length_cons, Nat.pow_succ, Nat.mul_add, Nat.mul_comm (128 ^ l.length) 128, Nat.mul_assoc]; omega
theorem val_lt (l : List UInt8) : val l < 128 ^ l.length := by
  induction l with
  | nil => simp [val]
  | cons a l ih => rw [val_cons, List.length_cons, Nat.pow_succ]; omega
theorem join_facts (z k y : Nat) (hz : z < 128 ^ k) (hk : k ≤ 9) :
    ∃ s z' : Nat, IntKind.u64.wrap ((y : Int) * 2 ^ (7 * k)) = (s : Int) ∧ bits .or .u64 (z : Int) (s : Int) = (z' : Int) ∧ z' = (z + 128 ^ k * y) % 18446744073709551616 ∧ s < 18446744073709551616 ∧ z' < 18446744073709551616 := by
  have hp : (128 : Nat) ^ k = 2 ^ (7 * k) := by rw [Nat.pow_mul]
  have h64 : 18446744073709551616 = 2 ^ (7 * k) * 2 ^ (64 - 7 * k) := by rw [← Nat.pow_add, show 7 * k + (64 - 7 * k) = 64 from by omega]
  rw [hp] at hz ⊢
  have hpos := Nat.pow_pos (n := 64 - 7 * k) (show 0 < 2 by omega)
  have hs : 2 ^ (7 * k) * y % 18446744073709551616 = 2 ^ (7 * k) * (y % 2 ^ (64 - 7 * k)) := by rw [h64, Nat.mul_mod_mul_left]
  have hlt : y % 2 ^ (64 - 7 * k) < 2 ^ (64 - 7 * k) := Nat.mod_lt _ hpos
  have hle : 2 ^ (7 * k) * (y % 2 ^ (64 - 7 * k)) + 2 ^ (7 * k) ≤ 18446744073709551616 := by
    rw [h64]
    calc 2 ^ (7 * k) * (y % 2 ^ (64 - 7 * k)) + 2 ^ (7 * k) = 2 ^ (7 * k) * (y % 2 ^ (64 - 7 * k) + 1) := by rw [Nat.mul_add, Nat.mul_one]
      _ ≤ _ := Nat.mul_le_mul_left _ hlt
  refine ⟨2 ^ (7 * k) * (y % 2 ^ (64 - 7 * k)), z + 2 ^ (7 * k) * (y % 2 ^ (64 - 7 * k)), ?_, ?_, ?_, by omega, by omega⟩
  · have e : (y : Int) * 2 ^ (7 * k) = ((2 ^ (7 * k) * y : Nat) : Int) := by rw [Int.natCast_mul, Int.natCast_pow, Int.mul_comm]; rfl
    rw [e, IntKind.wrap_u64, ← hs]
    omega
  · rw [u64_or_nat _ _ (by omega) (by omega), Nat.or_comm, ← Nat.two_pow_add_eq_or_of_lt hz, Nat.add_comm]
  · rw [Nat.add_mod, hs, Nat.mod_eq_of_lt (show z < 18446744073709551616 by omega), Nat.mod_eq_of_lt (show z + 2 ^ (7 * k) * (y % 2 ^ (64 - 7 * k)) < 18446744073709551616 by omega)]
theorem and_byte (b : UInt8) : bits .andNot .u8 (b.toNat : Int) 128 = ((b.toNat % 128 : Nat) : Int) := by
  have h := not_byte (b.toNat : Int)
  have hb := b.toNat_lt
  rw [Int.emod_eq_of_lt (by omega) (by omega)] at h
  rw [h]
  omega

set_option maxRecDepth 100000 in
set_option maxHeartbeats 400000 in
theorem join_any (A : Option Addr) (n c : Nat) (B : List UInt8) (w : World) (hr : Rd w A n (B.map bytec)) (hc : n ≤ 10) :
    Calls Try.prog 87 #[.slice A n c] w fun e w' => e = .returned (.int .u64 ((val B % 18446744073709551616 : Nat) : Int)) ∧ w = w' := by
  have hBn : B.length = n := by simpa using hr.1
  have HB := Lib.hid hBn
  have HR := Lib.hid hr
  clear hBn hr
  go_enter Try.func87, Try.ntmps87
  go_wp2
  go_loop [3, 8] (fun x i => ∃ k z : Nat, k ≤ n ∧ i = .int .i64 k ∧ x = .int .u64 (z : Int) ∧ Hid (z = val (B.take k) % 18446744073709551616)) (fun _ i => n - (intOf i).toNat)
  case atStart => exact ⟨0, 0, by omega, rfl, rfl, rfl⟩
  case round =>
    obtain ⟨k, z, hk, rfl, rfl, Hz⟩ := hrel
    by_cases hlt : k < n
    · obtain ⟨ad, v, rfl, hv, hcell⟩ := HR.out.at_ hlt
      obtain ⟨b, hb⟩ : ∃ b, B[k]? = some b := ⟨B[k]'(by have := HB.out; omega), List.getElem?_eq_getElem _⟩
      obtain rfl : bytec b = v := by simpa [hb] using hv
      unfold bytec at hcell
      have hb256 := b.toNat_lt
      have Hb := Lib.hid hb
      clear hv hb
      have hlen : (B.take k).length = k := by rw [List.length_take]; have := HB.out; omega
      have hvl := val_lt (B.take k)
      rw [hlen] at hvl
      have hp9 : 128 ^ k ≤ 128 ^ 9 := Nat.pow_le_pow_right (by omega) (by omega)
      have hz := Hz.out
      rw [Nat.mod_eq_of_lt (by omega)] at hz
      have hy := and_byte b
      obtain ⟨s, z', hs1, hs2, hz', hs3, hz3⟩ := join_facts z k (b.toNat % 128) (by omega) (by omega)
      have hstep : z' = val (B.take (k + 1)) % 18446744073709551616 := by
        obtain ⟨hl, e⟩ := List.getElem?_eq_some_iff.1 Hb.out
        rw [hz', List.take_succ_eq_append_getElem hl, val_snoc, hlen, ← hz, e]
      obtain ⟨y, hyy⟩ : ∃ y, y = b.toNat % 128 := ⟨_, rfl⟩
      have hy128 : y < 128 := by omega
      rw [← hyy] at hy hs1
      have HST := Lib.hid hstep
      clear hstep hz' hyy hp9 hvl hlen hz hb256
      go_wp2
      go_round
      case rel => exact ⟨k + 1, z', by omega, by go_num, rfl, HST.out⟩
      case measure => simp [intOf] <;> omega
    · go_wp2
      go_ret
      obtain rfl : k = n := by omega
      refine ⟨?_, rfl⟩
      have h := Hz.out
      rw [List.take_of_length_le (by have := HB.out; omega)] at h
      rw [show ((val B : Int) % 18446744073709551616) = (z : Int) from by omega]
      rfl

/-- the number with a sign of k bytes, of which n is told -/
def sgn (n k : Nat) : Int := wrap64 ((n * 2 ^ (64 - 7 * k) % 18446744073709551616 : Nat) : Int) / 2 ^ (64 - 7 * k)
set_option maxRecDepth 100000 in
set_option maxHeartbeats 400000 in
theorem signed_any (n k : Nat) (c : Int) (w : World) (hn : n < 18446744073709551616) (hk : k ≤ 10) (hc : c = 7 * (k : Int)) :
    Calls Try.prog 86 #[.int .u64 (n : Int), .int .i64 c] w fun e w' => e = .returned (.int .i64 (sgn n k)) ∧ w = w' := by
  by_cases h10 : k = 10
  · have e : sgn n k = wrap64 (n : Int) := by
      subst h10
      unfold sgn
      simp
      congr 1
      omega
    obtain rfl : c = 70 := by omega
    rw [e]
    clear e h10 hc hk
    go_enter Try.func86, Try.ntmps86
    go_wp2
    go_ret
    exact ⟨rfl, rfl⟩
  · have e : wrap64 (IntKind.u64.wrap ((n : Int) * 2 ^ (64 - 7 * k))) / 2 ^ (64 - 7 * k) = sgn n k := by
      unfold sgn
      rw [IntKind.wrap_u64]
      congr 2
    have E := Lib.hid e
    clear e
    subst hc
    go_enter Try.func86, Try.ntmps86
    go_wp2
    go_ret
    exact ⟨by rw [← E.out]; rfl, rfl⟩
theorem beq_txt (B B' : List UInt8) : ((txt B).toList == (txt B').toList) = decide (B = B') := by
  rw [show (txt B).toList = B from ByteArray.toList_mk B, show (txt B').toList = B' from ByteArray.toList_mk B']
  exact Bool.beq_eq_decide_eq _ _
theorem equal_any (A A' : Option Addr) (n c n' c' : Nat) (B B' : List UInt8) (w : World) (h : Rd w A n (B.map bytec)) (h' : Rd w A' n' (B'.map bytec)) :
    Calls Try.prog 88 #[.slice A n c, .slice A' n' c'] w fun e w' => e = .returned (.bool (decide (B = B'))) ∧ w = w' := by
  have h1 := str_rd h c
  have h2 := str_rd h' c'
  clear h h'
  go_enter Try.func88, Try.ntmps88
  go_wp2
  go_ret
  exact ⟨by rw [← beq_txt]; rfl, rfl⟩

set_option maxRecDepth 100000 in
set_option maxHeartbeats 400000 in
theorem All_any (A : Option Addr) (n c : Nat) (l : List Nat) (w : World) (hr : Rd w A n (l.map numc)) (hl : ∀ x ∈ l, x < 18446744073709551616) (hn : n ≤ 1000000) :
    Calls Try.prog 32 #[.slice A n c] w (Gives w (l.flatMap u)) := by
  have hBn : l.length = n := by simpa using hr.1
  have HB := Lib.hid hBn
  have HR := Lib.hid hr
  have HL := Lib.hid hl
  clear hBn hr hl
  go_enter Try.func32, Try.ntmps32
  go_wp2
  go_loopw [3, 8] (fun v i wr => ∃ (k : Nat) (D : List UInt8) (A : Option Addr) (c : Nat), k ≤ n ∧ i = .int .i64 k ∧ Hid (D = (l.take k).flatMap u) ∧ D.length ≤ 10 * k ∧ v = .slice A D.length c ∧ Own wr w.heap.size A c D ∧ Fr (fun _ => False) w wr)
    (fun _ i _ => n - (intOf i).toNat)
  case atStart => exact ⟨0, [], none, 0, by omega, rfl, rfl, by simp, rfl, Own.nil _ _, Fr.refl _ _⟩
  case round =>
    obtain ⟨k, D, A1, c1, hk, rfl, HD, hDl, rfl, hown, hfr⟩ := hrel
    have hsz := hfr.size
    by_cases hlt : k < n
    · obtain ⟨ad, v, rfl, hv, hcell⟩ := (HR.out.fr hfr (fun _ _ h => h)).at_ hlt
      obtain ⟨x, hx⟩ : ∃ x, l[k]? = some x := ⟨l[k]'(by have := HB.out; omega), List.getElem?_eq_getElem _⟩
      obtain rfl : numc x = v := by simpa [hx] using hv
      unfold numc at hcell
      have hx64 := HL.out x (List.mem_of_getElem? hx)
      have HX := Lib.hid hx
      have HO := Lib.hid hown
      clear hv hx hown
      have hu10 := u_len10 hx64
      go_wp2_with fail
      refine (U_any x _ hx64).mono ?_
      rintro e w1 ⟨A2, c2, rfl, hown2, hfr2⟩
      have hown1 := HO.out.fr hfr2
      have hsz2 := hfr2.size
      have hr2 := hown2.rd
      have H2 := Lib.hid hown2
      clear hown2
      go_wp2_with (at_builtin; refine wpList_app u8T _ rfl _ _ rfl w.heap.size _ _ _ rfl hown1 _ _ _ _ rfl hr2 (bytec_one _) (by unfold maxLen; omega) (by omega) (by omega) ?_)
      intro A' c' w' _ _ hown' hfr' _
      go_wp2
      go_roundw
      case rel =>
        refine ⟨k + 1, D ++ u x, A', c', by omega, by go_num, ?_, by rw [List.length_append]; omega, by rw [List.length_append], ?_, ?_⟩
        · show _ = _
          rw [HD.out, List.take_add_one, HX.out]
          simp
        · unfold Own
          rw [List.length_append, List.map_append]
          exact hown'
        · exact (hfr.trans hfr2 (fun _ _ h => h)).trans hfr' (fun b hb h => by have := HO.out.lt _ h; omega)
      case measure => simp [intOf] <;> omega
    · go_wp2
      go_ret
      obtain rfl : k = n := by omega
      have hD := HD.out
      rw [List.take_of_length_le (by have := HB.out; omega)] at hD
      rw [← hD]
      exact ⟨A1, c1, rfl, hown, hfr⟩
end Go.Proofs.Ytbnkahjmeobblaa
