/-
  Contracts of layer 2: how many bytes a number has; what bytes tell.
-/
import Derived.Test.YtbagclhghcglbaaLebA
namespace Go.Proofs.Ytbagclhghcglbaa
open Go.RowKit LebM Mem Go.Lib

/-- the first byte below 128 -/
def fst (B : List UInt8) : Nat := B.findIdx fun b => decide (b.toNat < 128)
def spanK (B : List UInt8) : Nat := if fst B < min B.length 10 then fst B + 1 else 0
def spanE (B : List UInt8) : Nat := if fst B < min B.length 10 then 0 else if B.length < 10 then 2 else 3
theorem fst_step {B : List UInt8} {k : Nat} {b : UInt8} (hk : k ≤ fst B) (hb : B[k]? = some b) : if b.toNat < 128 then fst B = k else k + 1 ≤ fst B := by
  obtain ⟨hl, rfl⟩ := List.getElem?_eq_some_iff.1 hb
  have h1 : ∀ j (h : j < fst B), ¬ (B[j]'(Nat.lt_of_lt_of_le h List.findIdx_le_length)).toNat < 128 := fun j h => by have h3 := List.not_of_lt_findIdx (p := fun b : UInt8 => decide (b.toNat < 128)) (xs := B) h; simpa using h3
  by_cases hlt : fst B < B.length
  · have h2 : (B[fst B]).toNat < 128 := of_decide_eq_true (List.findIdx_getElem (p := fun b : UInt8 => decide (b.toNat < 128)) (xs := B) (w := hlt))
    split
    · rename_i h
      by_cases he : k = fst B
      · exact he.symm
      · exact absurd h (h1 k (by omega))
    · rename_i h
      by_cases he : k = fst B
      · subst he; exact absurd h2 h
      · omega
  · have : fst B ≤ B.length := List.findIdx_le_length
    split
    · rename_i h
      exact absurd h (h1 k (by omega))
    · omega
theorem fst_lt {B : List UInt8} {b : UInt8} {k : Nat} (hk : k ≤ fst B) (hb : B[k]? = some b) (h : b.toNat < 128) : fst B = k := by
  have := fst_step hk hb; rwa [if_pos h] at this
theorem fst_ge {B : List UInt8} {b : UInt8} {k : Nat} (hk : k ≤ fst B) (hb : B[k]? = some b) (h : ¬ b.toNat < 128) : k + 1 ≤ fst B := by
  have := fst_step hk hb; rwa [if_neg h] at this

set_option maxRecDepth 100000 in
set_option maxHeartbeats 400000 in
theorem span_any (A : Option Addr) (n c : Nat) (B : List UInt8) (w : World) (hr : Rd w A n (B.map bytec)) (hc : n ≤ c) :
    Calls Try.prog 39 #[.slice A n c] w fun e w' => e = .returned (.tuple #[.int .i64 (spanK B : Int), .int .i64 (spanE B : Int)]) ∧ w = w' := by
  have hBn : B.length = n := by simpa using hr.1
  have HB := Lib.hid hBn
  have HR := Lib.hid hr
  clear hBn hr
  go_enter Try.func39, Try.ntmps39
  go_wp2
  all_goals
    go_loop [12] (fun i => ∃ k : Nat, k ≤ n ∧ k ≤ 10 ∧ k ≤ fst B ∧ i = .int .i64 k) (fun i => n - (intOf i).toNat)
    case atStart => exact ⟨0, by omega, by omega, by omega, rfl⟩
    case round =>
      obtain ⟨k, hk, hk10, hkf, rfl⟩ := hrel
      by_cases hlt : k < n ∧ k < 10
      · obtain ⟨hlt, hlt10⟩ := hlt
        obtain ⟨ad, v, rfl, hv, hcell⟩ := HR.out.at_ hlt
        obtain ⟨b, hb⟩ : ∃ b, B[k]? = some b := ⟨B[k]'(by have := HB.out; omega), List.getElem?_eq_getElem _⟩
        obtain rfl : bytec b = v := by simpa [hb] using hv
        unfold bytec at hcell
        have hb256 := b.toNat_lt
        have Hb := Lib.hid hb
        clear hv hb
        by_cases h128 : b.toNat < 128
        · have hf := fst_lt hkf Hb.out h128
          have HF := Lib.hid hf
          clear hf
          go_wp2
          go_ret2
          have hn := HB.out
          have hf := HF.out
          refine ⟨?_, rfl⟩
          have e1 : spanK B = k + 1 := by unfold spanK; rw [if_pos (by omega)]; omega
          have e2 : spanE B = 0 := by unfold spanE; rw [if_pos (by omega)]
          rw [e1, e2]
          rfl
        · have hf := fst_ge hkf Hb.out h128
          go_wp2
          go_round
          case rel => exact ⟨k + 1, by omega, by omega, hf, by go_num⟩
          case measure => simp [intOf] <;> omega
      · go_wp2
        all_goals
          go_ret2
          have hn := HB.out
          refine ⟨?_, rfl⟩
          have e1 : spanK B = 0 := by unfold spanK; rw [if_neg (by omega)]
          have e2 : spanE B = if n < 10 then 2 else 3 := by unfold spanE; rw [if_neg (by omega), hn]
          rw [e1, e2]
          first
            | (rw [if_pos (by omega)]; rfl)
            | (rw [if_neg (by omega)]; rfl)

set_option maxRecDepth 100000 in
set_option maxHeartbeats 400000 in
theorem rspan_any (A : Option Addr) (n c : Nat) (B : List UInt8) (w : World) (hr : Rd w A n (B.map bytec)) :
    Calls Try.prog 42 #[.slice A n c] w fun e w' => e = .returned (.tuple #[.int .i64 (spanK B : Int), .int .i64 (spanE B : Int)]) ∧ w = w' := by
  have hBn : B.length = n := by simpa using hr.1
  have HB := Lib.hid hBn
  have HR := Lib.hid hr
  clear hBn hr
  go_enter Try.func42, Try.ntmps42
  go_wp2
  go_loop [4] (fun i => ∃ k : Nat, k ≤ n ∧ k ≤ 9 ∧ k ≤ fst B ∧ i = .int .i64 k) (fun i => n - (intOf i).toNat)
  case atStart => exact ⟨0, by omega, by omega, by omega, rfl⟩
  case round =>
    obtain ⟨k, hk, hk9, hkf, rfl⟩ := hrel
    by_cases hlt : k < n
    · obtain ⟨ad, v, rfl, hv, hcell⟩ := HR.out.at_ hlt
      obtain ⟨b, hb⟩ : ∃ b, B[k]? = some b := ⟨B[k]'(by have := HB.out; omega), List.getElem?_eq_getElem _⟩
      obtain rfl : bytec b = v := by simpa [hb] using hv
      unfold bytec at hcell
      have hb256 := b.toNat_lt
      have Hb := Lib.hid hb
      clear hv hb
      by_cases h128 : b.toNat < 128
      · have HF := Lib.hid (fst_lt hkf Hb.out h128)
        go_wp2
        go_ret2
        have hn := HB.out
        have hf := HF.out
        refine ⟨?_, rfl⟩
        have e1 : spanK B = k + 1 := by unfold spanK; rw [if_pos (by omega)]; omega
        have e2 : spanE B = 0 := by unfold spanE; rw [if_pos (by omega)]
        rw [e1, e2]
        rfl
      · have hf := fst_ge hkf Hb.out h128
        by_cases h9 : k = 9
        · have t : ((k : Int) == 9) = true := by simp; omega
          have H9 := Lib.hid h9
          clear h9
          go_wp2
          go_ret2
          have hn := HB.out
          have h9 := H9.out
          refine ⟨?_, rfl⟩
          have e1 : spanK B = 0 := by unfold spanK; rw [if_neg (by omega)]
          have e2 : spanE B = 3 := by unfold spanE; rw [if_neg (by omega), if_neg (by omega)]
          rw [e1, e2]
          rfl
        · have t : decide ((k : Int) = 9) = false := by simp; omega
          go_wp2
          go_round
          case rel => exact ⟨k + 1, by omega, by omega, hf, by go_num⟩
          case measure => simp [intOf] <;> omega
    · go_wp2
      go_ret2
      have hn := HB.out
      refine ⟨?_, rfl⟩
      have e1 : spanK B = 0 := by unfold spanK; rw [if_neg (by omega)]
      have e2 : spanE B = 2 := by unfold spanE; rw [if_neg (by omega), if_pos (by omega)]
      rw [e1, e2]
      rfl

theorem val_snoc (l : List UInt8) (b : UInt8) : val (l ++ [b]) = val l + 128 ^ l.length * (b.toNat % 128) := by
  induction l with
  | nil => simp [val]
  | cons a l ih => rw [List.cons_append, val_cons, ih, val_cons, List.length_cons, Nat.pow_succ, Nat.mul_add, Nat.mul_comm (128 ^ l.length) 128, Nat.mul_assoc]; omega
theorem val_lt (l : List UInt8) : val l < 128 ^ l.length := by
  induction l with
  | nil => simp [val]
  | cons a l ih => rw [val_cons, List.length_cons, Nat.pow_succ]; omega
theorem join_facts (z k y : Nat) (hz : z < 128 ^ k) (hk : k ≤ 9) :
    ∃ s z' : Nat, IntKind.u64.wrap ((y : Int) * 2 ^ (7 * k)) = (s : Int) ∧ bits .or .u64 (z : Int) (s : Int) = (z' : Int) ∧ z' = (z + 128 ^ k * y) % 18446744073709551616 ∧ s < 18446744073709551616 ∧ z' < 18446744073709551616 := by
  have hp : (128 : Nat) ^ k = 2 ^ (7 * k) := by rw [Nat.pow_mul]
  have h64 : 18446744073709551616 = 2 ^ (7 * k) * 2 ^ (64 - 7 * k) := by rw [← Nat.pow_add, show 7 * k + (64 - 7 * k) = 64 from by omega]
  rw [hp] at hz ⊢
  have hpos := Nat.pow_pos (n := 64 - 7 * k) (show 0 < 2 by omega)
  have hs : 2 ^ (7 * k) * y % 18446744073709551616 = 2 ^ (7 * k) * (y % 2 ^ (64 - 7 * k)) := by rw [h64, Nat.mul_mod_mul_left]
  have hlt : y % 2 ^ (64 - 7 * k) < 2 ^ (64 - 7 * k) := Nat.mod_lt _ hpos
  have hle : 2 ^ (7 * k) * (y % 2 ^ (64 - 7 * k)) + 2 ^ (7 * k) ≤ 18446744073709551616 := by
    rw [h64]
    calc 2 ^ (7 * k) * (y % 2 ^ (64 - 7 * k)) + 2 ^ (7 * k) = 2 ^ (7 * k) * (y % 2 ^ (64 - 7 * k) + 1) := by rw [Nat.mul_add, Nat.mul_one]
      _ ≤ _ := Nat.mul_le_mul_left _ hlt
  refine ⟨2 ^ (7 * k) * (y % 2 ^ (64 - 7 * k)), z + 2 ^ (7 * k) * (y % 2 ^ (64 - 7 * k)), ?_, ?_, ?_, by omega, by omega⟩
  · have e : (y : Int) * 2 ^ (7 * k) = ((2 ^ (7 * k) * y : Nat) : Int) := by rw [Int.natCast_mul, Int.natCast_pow, Int.mul_comm]; rfl
    rw [e, IntKind.wrap_u64, ← hs]
    omega
  · rw [u64_or_nat _ _ (by omega) (by omega), Nat.or_comm, ← Nat.two_pow_add_eq_or_of_lt hz, Nat.add_comm]
  · rw [Nat.add_mod, hs, Nat.mod_eq_of_lt (show z < 18446744073709551616 by omega), Nat.mod_eq_of_lt (show z + 2 ^ (7 * k) * (y % 2 ^ (64 - 7 * k)) < 18446744073709551616 by omega)]
theorem and_byte (b : UInt8) : bits .andNot .u8 (b.toNat : Int) 128 = ((b.toNat % 128 : Nat) : Int) := by
  have h := not_byte (b.toNat : Int)
  have hb := b.toNat_lt
  rw [Int.emod_eq_of_lt (by omega) (by omega)] at h
  rw [h]
  omega

set_option maxRecDepth 100000 in
set_option maxHeartbeats 400000 in
theorem join_any (A : Option Addr) (n c : Nat) (B : List UInt8) (w : World) (hr : Rd w A n (B.map bytec)) (hc : n ≤ 10) :
    Calls Try.prog 40 #[.slice A n c] w fun e w' => e = .returned (.int .u64 ((val B % 18446744073709551616 : Nat) : Int)) ∧ w = w' := by
  have hBn : B.length = n := by simpa using hr.1
  have HB := Lib.hid hBn
  have HR := Lib.hid hr
  clear hBn hr
  go_enter Try.func40, Try.ntmps40
  go_wp2
  go_loop [3, 8] (fun x i => ∃ k z : Nat, k ≤ n ∧ i = .int .i64 k ∧ x = .int .u64 (z : Int) ∧ Hid (z = val (B.take k) % 18446744073709551616)) (fun _ i => n - (intOf i).toNat)
  case atStart => exact ⟨0, 0, by omega, rfl, rfl, rfl⟩
  case round =>
    obtain ⟨k, z, hk, rfl, rfl, Hz⟩ := hrel
    by_cases hlt : k < n
    · obtain ⟨ad, v, rfl, hv, hcell⟩ := HR.out.at_ hlt
      obtain ⟨b, hb⟩ : ∃ b, B[k]? = some b := ⟨B[k]'(by have := HB.out; omega), List.getElem?_eq_getElem _⟩
      obtain rfl : bytec b = v := by simpa [hb] using hv
      unfold bytec at hcell
      have hb256 := b.toNat_lt
      have Hb := Lib.hid hb
      clear hv hb
      have hlen : (B.take k).length = k := by rw [List.length_take]; have := HB.out; omega
      have hvl := val_lt (B.take k)
      rw [hlen] at hvl
      have hp9 : 128 ^ k ≤ 128 ^ 9 := Nat.pow_le_pow_right (by omega) (by omega)
      have hz := Hz.out
      rw [Nat.mod_eq_of_lt (by omega)] at hz
      have hy := and_byte b
      obtain ⟨s, z', hs1, hs2, hz', hs3, hz3⟩ := join_facts z k (b.toNat % 128) (by omega) (by omega)
      have hstep : z' = val (B.take (k + 1)) % 18446744073709551616 := by
        obtain ⟨hl, e⟩ := List.getElem?_eq_some_iff.1 Hb.out
        rw [hz', List.take_succ_eq_append_getElem hl, val_snoc, hlen, ← hz, e]
      obtain ⟨y, hyy⟩ : ∃ y, y = b.toNat % 128 := ⟨_, rfl⟩
      have hy128 : y < 128 := by omega
      rw [← hyy] at hy hs1
      have HST := Lib.hid hstep
      clear hstep hz' hyy hp9 hvl hlen hz hb256
      go_wp2
      go_round
      case rel => exact ⟨k + 1, z', by omega, by go_num, rfl, HST.out⟩
      case measure => simp [intOf] <;> omega
    · go_wp2
      go_ret
      obtain rfl : k = n := by omega
      refine ⟨?_, rfl⟩
      have h := Hz.out
      rw [List.take_of_length_le (by have := HB.out; omega)] at h
      rw [show ((val B : Int) % 18446744073709551616) = (z : Int) from by omega]
      rfl

/-- the number with a sign of k bytes, of which n is told -/
def sgn (n k : Nat) : Int := wrap64 ((n * 2 ^ (64 - 7 * k) % 18446744073709551616 : Nat) : Int) / 2 ^ (64 - 7 * k)
theorem beq_txt (B B' : List UInt8) : ((txt B).toList == (txt B').toList) = decide (B = B') := by
  rw [show (txt B).toList = B from ByteArray.toList_mk B, show (txt B').toList = B' from ByteArray.toList_mk B']
  exact Bool.beq_eq_decide_eq _ _
theorem equal_any (A A' : Option Addr) (n c n' c' : Nat) (B B' : List UInt8) (w : World) (h : Rd w A n (B.map bytec)) (h' : Rd w A' n' (B'.map bytec)) :
    Calls Try.prog 41 #[.slice A n c, .slice A' n' c'] w fun e w' => e = .returned (.bool (decide (B = B'))) ∧ w = w' := by
  have h1 := str_rd h c
  have h2 := str_rd h' c'
  clear h h'
  go_enter Try.func41, Try.ntmps41
  go_wp2
  go_ret
  exact ⟨by rw [← beq_txt]; rfl, rfl⟩

end Go.Proofs.Ytbagclhghcglbaa
