/-
  Plain mathematics of layer 5's codes: where each symbol's code lies, and what a coder reads by counting alone. Nothing of any program here.
  Layer 1's Reader, and the reference's Of, for higher layers (picked out of layer 1's texts by tools/pick.py: mkrdr.sh).
-/
import Derived.Test.YtjghcacepneipaaDoorZm17
import Derived.Test.YtjghcacepneipaaDoorZm01
import Derived.Test.YtjghcacepneipaaDoorZm08
import Derived.BigRegion
import Derived.BigQuiet
import Derived.Deep.QuietTactic
import Derived.Deep.RegionWith
import Derived.StillTailTactics
namespace Go.Proofs.YtjghcacepneipaaDoor.HuffM

/-- the first number of k bits behind all codes of k bits -/
def fe (L : List Int) : Nat → Nat
  | 0 => 0
  | k + 1 => 2 * fe L k + (blk L (k + 1) L.length).length
theorem cod_len_succ (L : List Int) (k : Nat) : (cod L (k + 1)).length = (cod L k).length + (blk L (k + 1) L.length).length := by rw [cod, List.length_append]
theorem fe_le (L : List Int) (k : Nat) : fe L k ≤ (cod L k).length * 2 ^ k := by
  induction k with
  | zero => simp [fe]
  | succ k ih =>
    rw [fe, cod_len_succ, Nat.pow_succ, Nat.add_mul]
    have h1 : (cod L k).length * (2 ^ k * 2) = 2 * ((cod L k).length * 2 ^ k) := by rw [← Nat.mul_assoc, Nat.mul_comm]
    have h2 : (blk L (k + 1) L.length).length * 1 ≤ (blk L (k + 1) L.length).length * (2 ^ k * 2) := Nat.mul_le_mul_left _ (by have := Nat.one_le_two_pow (n := k); omega)
    omega
theorem cod_pre (L : List Int) (k d : Nat) : ∃ R, cod L (k + d) = cod L k ++ R := by
  induction d with
  | zero => exact ⟨[], by simp⟩
  | succ d ih =>
    obtain ⟨R, h⟩ := ih
    exact ⟨R ++ blk L (k + d + 1) L.length, by rw [← Nat.add_assoc, cod, h, List.append_assoc]⟩
theorem cod_len_le (L : List Int) {k : Nat} (hk : k ≤ 15) : (cod L k).length ≤ (codedL L).length := by
  obtain ⟨R, h⟩ := cod_pre L k (15 - k)
  rw [show k + (15 - k) = 15 by omega] at h
  unfold codedL
  rw [h, List.length_append]
  omega
theorem coded_at {L : List Int} {k a x : Nat} (hk : k < 15) (h : (blk L (k + 1) L.length)[a]? = some x) : (codedL L)[(cod L k).length + a]? = some x := by
  obtain ⟨R, e⟩ := cod_pre L (k + 1) (15 - (k + 1))
  rw [show k + 1 + (15 - (k + 1)) = 15 by omega] at e
  unfold codedL
  rw [e, cod, List.append_assoc, List.getElem?_append_right (by omega), Nat.add_sub_cancel_left, List.getElem?_append_left (List.getElem?_eq_some_iff.1 h).1]
  exact h
theorem blk_cnt (L : List Int) (j k n : Nat) : (blk L k n).countP (fun s => decide (kl L s = j)) = if j = k then (blk L k n).length else 0 := by
  have hk : ∀ s ∈ blk L k n, kl L s = k := by
    intro s hs
    unfold kl
    rw [(blk_mem.1 hs).2]
    rfl
  by_cases e : j = k
  · rw [if_pos e, List.countP_eq_length]
    intro s hs
    simp [hk s hs, e]
  · rw [if_neg e, List.countP_eq_zero]
    intro s hs
    simp [hk s hs]
    omega
theorem cod_cnt (L : List Int) (j k : Nat) (hj : 0 < j) : (cod L k).countP (fun s => decide (kl L s = j)) = if j ≤ k then (blk L j L.length).length else 0 := by
  induction k with
  | zero => rw [if_neg (by omega)]; rfl
  | succ k ih =>
    rw [cod, List.countP_append, ih, blk_cnt]
    by_cases h1 : j ≤ k
    · rw [if_pos h1, if_neg (by omega), if_pos (by omega), Nat.add_zero]
    · rw [if_neg h1]
      by_cases h2 : j = k + 1
      · subst h2; rw [if_pos rfl, if_pos (Nat.le_refl _), Nat.zero_add]
      · rw [if_neg h2, if_neg (by omega)]

structure Ok (L : List Int) (k : Nat) (c : CS) : Prop where
  zero : c.last = 0 → fe L k = 0 ∧ c.code = 0
  pos : 0 < c.last → c.last ≤ k ∧ (c.code + 1) * 2 ^ (k - c.last) = fe L k
  len : c.out.length = L.length
  outs : ∀ j, j < k → ∀ a x, (blk L (j + 1) L.length)[a]? = some x → c.out[x]? = some (2 * fe L j + a)
structure Mid (L : List Int) (k i : Nat) (c0 c : CS) : Prop where
  zero : i = 0 → c = c0
  pos : 0 < i → c.last = k + 1 ∧ c.code + 1 = 2 * fe L k + i
  len : c.out.length = L.length
  outs : ∀ j, j < k → ∀ a x, (blk L (j + 1) L.length)[a]? = some x → c.out[x]? = some (2 * fe L j + a)
  news : ∀ a x, a < i → (blk L (k + 1) L.length)[a]? = some x → c.out[x]? = some (2 * fe L k + a)
theorem blk_inj {L : List Int} {k n a b x : Nat} (h1 : (blk L k n)[a]? = some x) (h2 : (blk L k n)[b]? = some x) : a = b := by
  have hp : (blk L k n).Pairwise (· < ·) := (List.pairwise_lt_range (n := n)).filter _
  obtain ⟨ha, ea⟩ := List.getElem?_eq_some_iff.1 h1
  obtain ⟨hb, eb⟩ := List.getElem?_eq_some_iff.1 h2
  have hp' := List.pairwise_iff_getElem.1 hp
  rcases Nat.lt_trichotomy a b with h | h | h
  · have := hp' a b ha hb h; omega
  · exact h
  · have := hp' b a hb ha h; omega
theorem mid_all {L : List Int} {k : Nat} {c0 : CS} (h0 : Ok L k c0) (hb : fe L (k + 1) < 9223372036854775808) (i : Nat) (hi : i ≤ (blk L (k + 1) L.length).length) : Mid L k i c0 (((blk L (k + 1) L.length).take i).foldl (cst L) c0) := by
  induction i with
  | zero => exact ⟨fun _ => rfl, fun h => by omega, h0.len, h0.outs, fun a x h => by omega⟩
  | succ i ih =>
    have M := ih (by omega)
    obtain ⟨s, hs⟩ : ∃ s, (blk L (k + 1) L.length)[i]? = some s := ⟨_, List.getElem?_eq_getElem (by omega)⟩
    have hm := blk_mem.1 (List.mem_of_getElem? hs)
    have hkl : kl L s = k + 1 := by unfold kl; rw [hm.2]; rfl
    rw [take_snoc hs, List.foldl_append]
    obtain ⟨c, hc⟩ : ∃ c, c = ((blk L (k + 1) L.length).take i).foldl (cst L) c0 := ⟨_, rfl⟩
    rw [← hc] at M ⊢
    have hfe : fe L (k + 1) = 2 * fe L k + (blk L (k + 1) L.length).length := rfl
    have hnext : nextCode (k + 1) c = 2 * fe L k + i := by
      unfold nextCode
      rcases Nat.eq_zero_or_pos i with e | e
      · have hc0 := M.zero e
        rw [hc0]
        by_cases hl : 0 < c0.last
        · rw [if_pos hl]
          obtain ⟨h1, h2⟩ := h0.pos hl
          have hx : c0.code + 1 ≤ fe L k := by
            rw [← h2]
            exact Nat.le_mul_of_pos_right _ (Nat.two_pow_pos _)
          have m1 : (c0.code + 1) % 18446744073709551616 = c0.code + 1 := Nat.mod_eq_of_lt (by omega)
          rw [m1, show k + 1 - c0.last = (k - c0.last) + 1 by omega, Nat.pow_succ, ← Nat.mul_assoc, h2, Nat.mod_eq_of_lt (by omega)]
          omega
        · rw [if_neg hl]
          obtain ⟨h1, h2⟩ := h0.zero (by omega)
          omega
      · obtain ⟨h1, h2⟩ := M.pos e
        rw [h1, if_pos (by omega), h2, Nat.sub_self, Nat.pow_zero, Nat.mul_one, Nat.mod_eq_of_lt (by omega), Nat.mod_eq_of_lt (by omega)]
    show Mid L k (i + 1) c0 (cst L c s)
    unfold cst
    rw [hkl, hnext]
    refine ⟨fun h => by omega, fun _ => ⟨rfl, by show 2 * fe L k + i + 1 = _; omega⟩, by show (List.set _ _ _).length = _; rw [List.length_set]; exact M.len, ?_, ?_⟩
    · intro j hj a x hx
      have hne : s ≠ x := by
        rintro rfl
        have := (blk_mem.1 (List.mem_of_getElem? hx)).2
        omega
      show (List.set _ _ _)[x]? = _
      rw [List.getElem?_set_ne hne]
      exact M.outs j hj a x hx
    · intro a x ha hx
      show (List.set _ _ _)[x]? = _
      by_cases hax : a = i
      · subst hax
        rw [hs] at hx
        injection hx with hx
        subst hx
        rw [List.getElem?_set_self (by rw [M.len]; exact hm.1)]
      · have hne : s ≠ x := by
          rintro rfl
          exact hax (blk_inj hx hs)
        rw [List.getElem?_set_ne hne]
        exact M.news a x (by omega) hx
theorem ok_call {L : List Int} (hl : (codedL L).length ≤ 1000) (k : Nat) (hk : k ≤ 15) : Ok L k (call L k) := by
  induction k with
  | zero => exact ⟨fun _ => ⟨rfl, rfl⟩, fun h => by have : (0 : Nat) < 0 := h; omega, by show (List.replicate _ _).length = _; simp, fun j hj => by omega⟩
  | succ k ih =>
    have h0 := ih (by omega)
    have hb : fe L (k + 1) < 9223372036854775808 := by
      have h1 := fe_le L (k + 1)
      have h2 := cod_len_le L hk
      have h3 := Nat.pow_le_pow_right (show 0 < 2 by omega) hk
      have h4 : (cod L (k + 1)).length * 2 ^ (k + 1) ≤ 1000 * 2 ^ 15 := Nat.mul_le_mul (by omega) h3
      omega
    have M := mid_all h0 hb (blk L (k + 1) L.length).length (Nat.le_refl _)
    rw [List.take_length, ← crow_blk] at M
    show Ok L (k + 1) (crow L (k + 1) (call L k) L.length)
    have hfe : fe L (k + 1) = 2 * fe L k + (blk L (k + 1) L.length).length := rfl
    rcases Nat.eq_zero_or_pos (blk L (k + 1) L.length).length with e | e
    · have hc := M.zero e
      rw [hc] at M ⊢
      refine ⟨fun h => ?_, fun h => ?_, h0.len, fun j hj a x hx => ?_⟩
      · have := h0.zero h
        exact ⟨by omega, this.2⟩
      · obtain ⟨h1, h2⟩ := h0.pos h
        refine ⟨by omega, ?_⟩
        rw [show k + 1 - (call L k).last = (k - (call L k).last) + 1 by omega, Nat.pow_succ, ← Nat.mul_assoc, h2]
        omega
      · by_cases hjk : j < k
        · exact h0.outs j hjk a x hx
        · obtain rfl : j = k := by omega
          rw [List.eq_nil_of_length_eq_zero e] at hx
          simp at hx
    · obtain ⟨h1, h2⟩ := M.pos e
      refine ⟨fun h => by omega, fun _ => ⟨by omega, ?_⟩, M.len, fun j hj a x hx => ?_⟩
      · rw [h1, Nat.sub_self, Nat.pow_zero, Nat.mul_one]
        omega
      · by_cases hjk : j < k
        · exact M.outs j hjk a x hx
        · obtain rfl : j = k := by omega
          exact M.news a x (List.getElem?_eq_some_iff.1 hx).1 hx
theorem code_at {L : List Int} (hl : (codedL L).length ≤ 1000) {j a x : Nat} (hj : j < 15) (h : (blk L (j + 1) L.length)[a]? = some x) : (codesL L).getD x 0 = 2 * fe L j + a := by
  have := (ok_call hl 15 (Nat.le_refl _)).outs j hj a x h
  unfold codesL
  rw [List.getD_eq_getElem?_getD, this]
  rfl
theorem hit_at {L : List Int} {B : List UInt8} {s : Nat} (hl : (codedL L).length ≤ 1000) (hL : ∀ x ∈ L, inR x = true) (hs : s < L.length) (h : hits L B s = true) :
    ∃ j a, j < 15 ∧ (blk L (j + 1) L.length)[a]? = some s ∧ j + 1 ≤ B.length ∧ bcode B (j + 1) = 2 * fe L j + a ∧ L.getD s 0 = ((j + 1 : Nat) : Int) := by
  have hin := hL _ (List.getElem_mem hs)
  have h0 : 0 ≤ L[s] ∧ L[s] ≤ 15 := by simpa [inR] using hin
  have e : L.getD s 0 = L[s] := by rw [List.getD_eq_getElem?_getD, List.getElem?_eq_getElem hs]; rfl
  unfold hits at h
  simp only [Bool.and_eq_true, bne_iff_ne, decide_eq_true_eq, beq_iff_eq] at h
  obtain ⟨⟨h1, h2⟩, h3⟩ := h
  obtain ⟨j, hj⟩ : ∃ j : Nat, L.getD s 0 = ((j + 1 : Nat) : Int) := ⟨(L.getD s 0).toNat - 1, by rw [e] at h1 ⊢; omega⟩
  have hb : s ∈ blk L (j + 1) L.length := blk_mem.2 ⟨hs, hj⟩
  obtain ⟨a, ha, ea⟩ := List.getElem_of_mem hb
  have hx : (blk L (j + 1) L.length)[a]? = some s := by rw [List.getElem?_eq_getElem ha, ea]
  have hj15 : j < 15 := by rw [e] at hj; omega
  refine ⟨j, a, hj15, hx, by rw [hj] at h2; omega, ?_, hj⟩
  rw [hj, code_at hl hj15 hx] at h3
  exact h3
theorem hit_of {L : List Int} {B : List UInt8} {s j a : Nat} (hl : (codedL L).length ≤ 1000) (hj : j < 15) (hx : (blk L (j + 1) L.length)[a]? = some s) (hb : j + 1 ≤ B.length) (hv : bcode B (j + 1) = 2 * fe L j + a) : hits L B s = true := by
  have hm := blk_mem.1 (List.mem_of_getElem? hx)
  unfold hits
  simp only [Bool.and_eq_true, bne_iff_ne, decide_eq_true_eq, beq_iff_eq]
  rw [hm.2, code_at hl hj hx]
  exact ⟨⟨by omega, by omega⟩, hv⟩
/-- codes of at most k bits are behind -/
theorem hit_far {L : List Int} {B : List UInt8} {j a k : Nat} (hk : ∀ i, i ≤ k → fe L i ≤ bcode B i) (ha : a < (blk L (j + 1) L.length).length) (hv : bcode B (j + 1) = 2 * fe L j + a) : k < j + 1 := by
  rcases Nat.lt_or_ge k (j + 1) with h | h
  · exact h
  · have h1 := hk (j + 1) h
    have h2 : fe L (j + 1) = 2 * fe L j + (blk L (j + 1) L.length).length := rfl
    omega
theorem below {L : List Int} {B : List UInt8} (hB : ∀ b ∈ B, b.toNat ≤ 1) {k : Nat} (h : bcode B k < fe L k) (d : Nat) (hd : k + d ≤ B.length) : bcode B (k + d) < fe L (k + d) := by
  induction d with
  | zero => exact h
  | succ d ih =>
    have h1 := ih (by omega)
    have hb : B[k + d]? = some B[k + d] := List.getElem?_eq_getElem (by omega)
    have h2 := hB _ (List.mem_of_getElem? hb)
    have h3 : fe L (k + d + 1) = 2 * fe L (k + d) + (blk L (k + d + 1) L.length).length := rfl
    rw [← Nat.add_assoc, bcode_succ hb, h3]
    omega
theorem found {L : List Int} {B : List UInt8} {K a s : Nat} (hl : (codedL L).length ≤ 1000) (hL : ∀ x ∈ L, inR x = true) (hB : ∀ b ∈ B, b.toNat ≤ 1) (hk : ∀ i, i ≤ K → fe L i ≤ bcode B i) (hK : K < 15) (hKB : K + 1 ≤ B.length)
    (hv : bcode B (K + 1) = 2 * fe L K + a) (hx : (blk L (K + 1) L.length)[a]? = some s) : nextS L B = ((s : Int), ((K + 1 : Nat) : Int)) := by
  have hit := hit_of hl hK hx hKB hv
  have hm := blk_mem.1 (List.mem_of_getElem? hx)
  have ha := (List.getElem?_eq_some_iff.1 hx).1
  have hlt : bcode B (K + 1) < fe L (K + 1) := by
    have : fe L (K + 1) = 2 * fe L K + (blk L (K + 1) L.length).length := rfl
    omega
  have huniq : ∀ s', s' < L.length → hits L B s' = true → s' = s := by
    intro s' hs' h'
    obtain ⟨j, a', hj, hx', hjb, hv', _⟩ := hit_at hl hL hs' h'
    have ha' := (List.getElem?_eq_some_iff.1 hx').1
    have h1 := hit_far hk ha' hv'
    by_cases e : j = K
    · subst e
      obtain rfl : a' = a := by omega
      rw [hx] at hx'
      injection hx' with hx'
      exact hx'.symm
    · exfalso
      have hb := below hB hlt (j - (K + 1)) (by omega)
      rw [show K + 1 + (j - (K + 1)) = j by omega] at hb
      have hbb : B[j]? = some B[j] := List.getElem?_eq_getElem (by omega)
      have h2 := hB _ (List.mem_of_getElem? hbb)
      rw [bcode_succ hbb] at hv'
      omega
  have hf : firstHit L B L.length = some s := by
    unfold firstHit
    cases hc : (List.range L.length).find? (hits L B) with
    | none =>
      have := List.find?_eq_none.1 hc s (List.mem_range.2 hm.1)
      exact absurd hit this
    | some s' =>
      rw [huniq s' (List.mem_range.1 (List.mem_of_find?_eq_some hc)) (List.find?_some hc)]
  unfold nextS
  rw [hf]
  simp only [hm.2]
theorem lost {L : List Int} {B : List UInt8} {K : Nat} (hl : (codedL L).length ≤ 1000) (hL : ∀ x ∈ L, inR x = true) (hk : ∀ i, i ≤ K → fe L i ≤ bcode B i) (hK : K = 15 ∨ B.length ≤ K) : nextS L B = (-1, 0) := by
  have hf : firstHit L B L.length = none := by
    unfold firstHit
    rw [List.find?_eq_none]
    intro s hs h
    obtain ⟨j, a, hj, hx, hjb, hv, _⟩ := hit_at hl hL (List.mem_range.1 hs) h
    have := hit_far hk (List.getElem?_eq_some_iff.1 hx).1 hv
    omega
  unfold nextS
  rw [hf]
end Go.Proofs.YtjghcacepneipaaDoor.HuffM
namespace Go.Proofs.YtjghcacepneipaaDoor
open Go.RowKit BitsM Mem
set_option maxRecDepth 100000

def bitc (b : Bool) : Value := .int .u8 (b.toNat : Int)
theorem bitc_one (l : List Bool) : ∀ u ∈ l.map bitc, u.oneCell' = true := by
  intro u hu
  obtain ⟨b, _, rfl⟩ := List.mem_map.1 hu
  rfl
theorem bitc_low {x k z : Nat} (h : z = x / 2 ^ k) : Value.int .u8 ((z : Int) % 2) = bitc (x.testBit k) := by
  subst h
  unfold bitc
  rw [Nat.testBit_eq_decide_div_mod_eq]
  have e : ((x / 2 ^ k : Nat) : Int) % 2 = ((x / 2 ^ k % 2 : Nat) : Int) := by omega
  rw [e]
  rcases Nat.mod_two_eq_zero_or_one (x / 2 ^ k) with h | h <;> simp [h]
set_option maxHeartbeats 400000 in
theorem low_any (x : Nat) (n : Int) (w : World) (hx1 : x < 18446744073709551616) (hn0 : -9223372036854775808 ≤ n) (hn1 : n ≤ 9223372036854775807) :
    Calls Tryd.prog 37 #[.int .u64 (x : Int), .int .i64 n] w fun e w' => ∃ A c, e = .returned (.slice A (min n.toNat 64) c) ∧ w'.ownsRow w.heap.size 5 1 (.slice A (min n.toNat 64) c) (min n.toNat 64) ((low x (min n.toNat 64)).map bitc) ∧ Fr (fun _ => False) w w' := by
  go_enter Tryd.func37, Tryd.ntmps37
  go_wp2
  go_loopw [0, 5, 6] (fun y v i wr => ∃ (k z : Nat) (A : Option Addr) (c : Nat), k ≤ min n.toNat 64 ∧ i = .int .i64 k ∧ y = .int .u64 (z : Int) ∧ z < 18446744073709551616 ∧ Hid (z = x / 2 ^ k) ∧ v = .slice A k c ∧ wr.ownsRow w.heap.size 5 1 (.slice A k c) k ((low x k).map bitc) ∧ Fr (fun _ => False) w wr)
    (fun _ _ i _ => 64 - (intOf i).toNat)
  case atStart => exact ⟨0, x, none, 0, Nat.zero_le _, rfl, rfl, hx1, by simp [Hid], rfl, World.ownsRow_nil _ _ _ _, Fr.refl _ _⟩
  case round =>
    obtain ⟨k, z, A, c, hk, rfl, rfl, hz, Hz, rfl, hown, hfr⟩ := hrel
    have hsz := hfr.size
    by_cases hlt : (k : Int) < n
    · by_cases h64 : (k : Int) < 64
      · go_wp2_with (at_builtin; refine wpList_app u8T _ rfl _ _ rfl w.heap.size _ _ _ rfl (hown.alloc _) _ _ _ _ rfl (Rd.one _ _ _) (one_one _ _) (by unfold maxLen; omega) (by omega) (by simp; omega) ?_)
        intro A' c' w' _ _ hown' hfr' _
        go_wp2
        go_roundw
        case rel =>
          refine ⟨k + 1, z / 2, A', c', by omega, by go_num, by congr 1, by omega, ?_, rfl, ?_, ?_⟩
          · have := Hz.out; subst this; show _ = _; rw [Nat.pow_succ, Nat.div_div_eq_div_mul]
          · rw [low_succ, List.map_append]
            rw [bitc_low Hz.out] at hown'
            exact hown'
          · exact (hfr.alloc _).trans hfr' (fun b hb h => by have := hown.lt _ h; omega)
        case measure => simp [intOf] <;> omega
      · go_wp2
        go_ret
        obtain rfl : k = 64 := by omega
        rw [show min n.toNat 64 = 64 from by omega]
        exact ⟨_, _, rfl, hown, hfr⟩
    · go_wp2
      go_ret
      have hkk : min n.toNat 64 = k := by omega
      rw [hkk]
      exact ⟨_, _, rfl, hown, hfr⟩
theorem low8_take (B : List UInt8) (k : Nat) (b : UInt8) (hb : B[k]? = some b) : bitsOf (B.take (k + 1)) = bitsOf (B.take k) ++ low b.toNat 8 := by
  rw [List.take_add_one, hb, bitsOf_append]
  simp [bitsOf]
set_option maxHeartbeats 400000 in
theorem of_any (A : Option Addr) (n c : Nat) (B : List UInt8) (w : World) (hl : Rd w A n (B.map bytec)) (hn : n ≤ 1099511627776) :
    Calls Tryd.prog 22 #[.slice A n c] w fun e w' => ∃ A c, e = .returned (.slice A (8 * n) c) ∧ w'.ownsRow w.heap.size 5 1 (.slice A (8 * n) c) (8 * n) ((bitsOf B).map bitc) ∧ Fr (fun _ => False) w w' := by
  have hlen : B.length = n := by simpa using hl.1
  have Hlen := Lib.hid hlen
  clear hlen
  go_enter Tryd.func22, Tryd.ntmps22
  have HL := Lib.hid hl
  clear hl
  go_wp2
  go_loopw [3, 4] (fun v i wr => ∃ (k : Nat) (A : Option Addr) (c : Nat), k ≤ n ∧ i = .int .i64 k ∧ v = .slice A (8 * k) c ∧ wr.ownsRow w.heap.size 5 1 (.slice A (8 * k) c) (8 * k) ((bitsOf (B.take k)).map bitc) ∧ Fr (fun _ => False) w wr)
    (fun _ i _ => n - (intOf i).toNat)
  case atStart => exact ⟨0, none, 0, by omega, rfl, rfl, World.ownsRow_nil _ _ _ _, Fr.refl _ _⟩
  case round =>
    obtain ⟨k, A0, c0, hk, rfl, rfl, hown, hfr⟩ := hrel
    have hsz := hfr.size
    by_cases hlt : k < n
    · obtain ⟨ad, u, hA, hu, hc⟩ := (HL.out.fr hfr (fun _ _ h => h)).at_ hlt
      obtain ⟨b, hb⟩ : ∃ b, B[k]? = some b := ⟨B[k]'(by have := Hlen.out; omega), List.getElem?_eq_getElem _⟩
      obtain rfl : bytec b = u := by simpa [hb] using hu
      subst hA
      unfold bytec at hc
      have hbb : b.toNat < 256 := b.toNat_lt
      have HB := Lib.hid hb
      clear hu hb
      go_wp2_with fail
      refine (low_any b.toNat 8 _ (by omega) (by omega) (by omega)).mono ?_
      rintro e w2 ⟨A1, c1, rfl, hown1, hfr1⟩
      have hsz1 := hfr1.size
      go_wp2_with (at_builtin; refine wpList_app u8T _ rfl _ _ rfl w.heap.size _ _ _ rfl (hfr1.own hown (fun _ _ h => h)) _ _ _ _ rfl (Rd.of_own hown1) (bitc_one _) (by unfold maxLen; omega) (by omega) (by omega) ?_)
      intro A' c' w' _ _ hown' hfr' _
      go_wp2
      go_roundw
      case rel =>
        refine ⟨k + 1, A', c', by omega, by go_num, ?_, ?_, (hfr.trans hfr1 (fun _ _ h => h)).trans hfr' (fun b hb h => by have := hown.lt _ h; omega)⟩
        · congr 1
        · rw [low8_take B k b HB.out, List.map_append]
          exact own_list hown' (by simp)
      case measure => simp [intOf] <;> omega
    · go_wp2
      go_ret
      obtain rfl : k = n := by omega
      have hlen := Hlen.out
      rw [List.take_of_length_le (by omega)] at hown
      exact ⟨_, _, rfl, hown, hfr⟩
/-- the block in which a slice lies -/
def bl (A : Option Addr) : Option Nat := A.map (·.block)
theorem bl_own (A : Option Addr) (n c : Nat) : (Value.slice A n c).ownBlock = bl A := by cases A <;> rfl
theorem set_of {w : World} {g : Nat} {cs : Array Value} {t : TypeId} (h : w.heap[g]? = some (.cells cs t (0, 0))) (i : Nat) (u : Value) : (w.setCell ⟨g, i, none⟩ u).heap[g]? = some (.cells (cs.setIfInBounds i u) t (0, 0)) := by
  simp [World.setCell, Array.getElem?_modify, h]
/-- the Reader in block r, its bytes B at A, has read or passed p bits -/
def Re (w : World) (r : Nat) (A : Option Addr) (c : Nat) (B : List UInt8) (p : Nat) : Prop :=
  w.heap[r]? = some (.cells #[.slice A B.length c, .int .i64 (p : Int)] 71 (0, 0)) ∧
    w.ownsRow 0 5 1 (.slice A B.length c) B.length (B.map bytec) ∧ p ≤ 8 * B.length
theorem re_set {w : World} {r c p : Nat} {A : Option Addr} {B : List UInt8} (h : Re w r A c B p) (p' : Nat) (hp : p' ≤ 8 * B.length) (u : Int) (hu : u = (p' : Int)) :
    Re (w.setCell ⟨r, 1, none⟩ (.int .i64 u)) r A c B p' ∧ Fr (fun k => k = r) w (w.setCell ⟨r, 1, none⟩ (.int .i64 u)) := by
  obtain ⟨hg, hown, _⟩ := h
  have hf : Fr (fun k => k = r) w (w.setCell ⟨r, 1, none⟩ (.int .i64 u)) := Fr.setCell (S := fun k => k = r) (Fr.refl _ w) (p := ⟨r, 1, none⟩) (fun _ => rfl) _
  refine ⟨⟨?_, ?_, hp⟩, hf⟩
  · rw [set_of hg, hu]
    simp
  · exact hf.own hown (fun k hk h => own_ne hown hg (by decide) (by rw [hk, h]))
theorem Re.drew {w : World} {r c p : Nat} {A : Option Addr} {B : List UInt8} (h : Re w r A c B p) : Re w.drew r A c B p := h
theorem Re.drewN {w : World} {r c p : Nat} {A : Option Addr} {B : List UInt8} (h : Re w r A c B p) (n : Nat) : Re (w.drewN n) r A c B p := h
theorem Re.fr {S : Nat → Prop} {w w' : World} {r c p : Nat} {A : Option Addr} {B : List UInt8} (h : Re w r A c B p) (hf : Fr S w w') (h1 : ¬ S r) (h2 : ∀ k, bl A = some k → ¬ S k) : Re w' r A c B p :=
  ⟨hf.blk h.1 h1, hf.own h.2.1 (by rw [bl_own]; exact h2), h.2.2⟩
set_option maxHeartbeats 400000 in
theorem new_any (A : Option Addr) (n c : Nat) (B : List UInt8) (w : World) (hr : Rd w A n (B.map bytec)) (hn : n ≤ 1099511627776) :
    Calls Tryd.prog 19 #[.slice A n c] w fun e w' => ∃ r A' c', e = .returned (.pointer (some ⟨r, 0, none⟩)) ∧ Re w' r A' c' B 0 ∧ w.heap.size ≤ r ∧ (∀ k, bl A' = some k → w.heap.size ≤ k) ∧ Fr (fun _ => False) w w' := by
  have hBn : B.length = n := by simpa using hr.1
  subst hBn
  go_enter Tryd.func19, Tryd.ntmps19
  go_wp2_with (at_builtin; refine wpList_appN u8T _ rfl _ _ rfl w.heap.size _ _ _ rfl (World.ownsRow_nil _ _ _ _) _ _ _ _ rfl hr (bytec_one _) B.length (by omega) (by unfold maxLen; omega) (by omega) (Nat.le_refl _) ?_)
  intro A' c' w1 _ _ hown' hfr' _
  have hfr1 : Fr (fun _ => False) w w1 := hfr'.mono (fun b _ h => by simp [Value.ownBlock] at h)
  have hlt := hown'.lt
  rw [bl_own] at hlt
  go_wp2
  go_ret
  refine ⟨_, A', c', rfl, ⟨?_, ?_, by omega⟩, hfr1.size, fun k hk => (hlt k hk).1, hfr1.alloc _⟩
  · exact heap_alloc_new _ _
  · exact own_base (own_list (hown'.alloc _) (by simp)) (Nat.zero_le _)
set_option maxHeartbeats 400000 in
theorem left_any (r c p : Nat) (A : Option Addr) (B : List UInt8) (w : World) (h : Re w r A c B p) (hB : B.length ≤ 1099511627776) :
    Calls Tryd.prog 24 #[.pointer (some ⟨r, 0, none⟩)] w fun e w' => e = .returned (.int .i64 ((8 * B.length - p : Nat) : Int)) ∧ w' = w.drew := by
  obtain ⟨L, hL⟩ : ∃ L, L = B.length := ⟨_, rfl⟩
  obtain ⟨h1, _, h3⟩ := h
  rw [← hL] at h1 h3 hB ⊢
  have hc0 : w.cell? ⟨r, 0, none⟩ = some (.slice A L c) := cell_of h1 0
  have hc1 : w.cell? ⟨r, 1, none⟩ = some (.int .i64 (p : Int)) := cell_of h1 1
  have hs1 : IntKind.i64.wrap (8 * (L : Int)) = 8 * (L : Int) := IntWalk.i64_in _ (by omega)
  have hs2 : IntKind.i64.wrap (8 * (L : Int) - (p : Int)) = ((8 * L - p : Nat) : Int) := by rw [IntWalk.i64_in _ (by omega)]; omega
  obtain ⟨D, hD⟩ : ∃ D, D = 8 * L - p := ⟨_, rfl⟩
  rw [← hD] at hs2 ⊢
  clear h1 hL hD
  go_enter Tryd.func24, Tryd.ntmps24
  go_wp2_with fail
  go_still (by kernel_rfl)
  go_wp2
  go_ret
  exact ⟨rfl, rfl⟩
/-- the numbers of the step that reads a bit, in the walk's spelling -/
theorem bit_facts (p : Nat) (o : UInt8) (hp : p ≤ 8796093022208) :
    ∃ q r y : Nat, IntKind.i64.wrap ((p : Int) / 8) = (q : Int) ∧ ((p : Int).tmod 8) = (r : Int) ∧ bits .and .u8 ((o.toNat : Int) / 2 ^ r) 1 = (y : Int) ∧ r < 8 ∧ y < 2 ∧ q = p / 8 ∧ y = (o.toNat.testBit (p % 8)).toNat := by
  refine ⟨p / 8, p % 8, o.toNat / 2 ^ (p % 8) % 2, ?_, ?_, ?_, by omega, by omega, rfl, ?_⟩
  · rw [IntWalk.i64_in _ (by omega)]; omega
  · rw [Int.tmod_eq_emod_of_nonneg (by omega)]; omega
  · have h := u8_and_nat (o.toNat / 2 ^ (p % 8)) 1 (Nat.lt_of_le_of_lt (Nat.div_le_self _ _) o.toNat_lt) (by omega)
    rw [nat_mask1] at h
    rw [show ((o.toNat : Int) / 2 ^ (p % 8)) = ((o.toNat / 2 ^ (p % 8) : Nat) : Int) from by simp]
    exact h
  · rw [Nat.testBit_eq_decide_div_mod_eq]
    rcases Nat.mod_two_eq_zero_or_one (o.toNat / 2 ^ (p % 8)) with h | h <;> simp [h]
set_option maxHeartbeats 800000 in
theorem rbit_any (r c p : Nat) (A : Option Addr) (B : List UInt8) (w : World) (h : Re w r A c B p) (hB : B.length ≤ 1099511627776) (hp : p < 8 * B.length) :
    Calls Tryd.prog 75 #[.pointer (some ⟨r, 0, none⟩)] w fun e w' => e = .returned (.int .u64 ((((bitsOf B).getD p false).toNat : Nat) : Int)) ∧ Re w' r A c B (p + 1) ∧ Fr (fun k => k = r) w w' := by
  obtain ⟨o, ho⟩ : ∃ o, B[p / 8]? = some o := ⟨B[p / 8]'(by omega), List.getElem?_eq_getElem _⟩
  obtain ⟨E1, E2⟩ := re_set h (p + 1) (by omega) ((p : Int) + 1) (by omega)
  have hbit := bitsOf_get B p o ho
  obtain ⟨q, s, y, hq1, hs1, hy1, hs8, hy2, hq, hy⟩ := bit_facts p o (by omega)
  obtain ⟨h1, h2, _⟩ := h
  obtain ⟨g2, rfl, hb, _⟩ := own_at h2 (i := p / 8) (u := bytec o) (by simp [ho])
  rw [← hq] at hb
  have hres : ((bitsOf B).getD p false).toNat = y := by rw [List.getD_eq_getElem?_getD, hbit, hy]; rfl
  rw [hres]
  obtain ⟨L, hL⟩ : ∃ L, L = B.length := ⟨_, rfl⟩
  rw [← hL] at h1 hB hp
  have hc0 : w.cell? ⟨r, 0, none⟩ = some (.slice (some ⟨g2, 0, none⟩) L c) := cell_of h1 0
  have hc1 : w.cell? ⟨r, 1, none⟩ = some (.int .i64 (p : Int)) := cell_of h1 1
  have hf1 : w.frozen? ⟨r, 1, none⟩ = false := free_of h1 1
  have hqL : q < L := by omega
  have ho256 := o.toNat_lt
  unfold bytec at hb
  have H1 := Lib.hid E1
  have H2 := Lib.hid E2
  clear h1 h2 hL hres ho hbit hq hy E1 E2
  go_enter Tryd.func75, Tryd.ntmps75
  go_wp2_with fail
  go_still (by kernel_rfl)
  go_wp2
  go_ret
  exact ⟨rfl, H1.out.drew, H2.out.drew⟩
theorem or64_facts (z m b : Nat) (hz : z < 2 ^ m) (hm : m < 64) (hb : b ≤ 1) :
    ∃ s z' : Nat, IntKind.u64.wrap ((b : Int) * 2 ^ m) = (s : Int) ∧ bits .or .u64 (z : Int) (s : Int) = (z' : Int) ∧ z' = z + 2 ^ m * b ∧ z' < 2 ^ (m + 1) ∧ s < 18446744073709551616 ∧ z' < 18446744073709551616 := by
  have h1 : z + 2 ^ m * b < 2 ^ (m + 1) := by
    rw [Nat.pow_succ]
    have : b = 0 ∨ b = 1 := by omega
    rcases this with rfl | rfl <;> omega
  have h64 : 2 ^ (m + 1) ≤ 18446744073709551616 := Nat.pow_le_pow_right (show 0 < 2 by omega) (show m + 1 ≤ 64 by omega)
  refine ⟨2 ^ m * b, z + 2 ^ m * b, ?_, ?_, rfl, h1, by omega, by omega⟩
  · have e : (b : Int) * 2 ^ m = ((2 ^ m * b : Nat) : Int) := by rw [Nat.mul_comm]; simp
    rw [e, IntKind.wrap_u64]
    omega
  · rw [u64_or_nat _ _ (by omega) (by omega), Nat.or_comm, ← Nat.two_pow_add_eq_or_of_lt hz, Nat.add_comm]
/-- n bits of B from bit p on -/
def cut (B : List UInt8) (p n : Nat) : List Bool := ((bitsOf B).drop p).take n
theorem cut_length (B : List UInt8) (p n : Nat) (h : p + n ≤ 8 * B.length) : (cut B p n).length = n := by simp [cut, bitsOf_length]; omega
theorem cut_succ (B : List UInt8) (p n : Nat) (h : p + n < 8 * B.length) : cut B p (n + 1) = cut B p n ++ [(bitsOf B).getD (p + n) false] := by
  unfold cut
  have h2 : p + n < (bitsOf B).length := by rw [bitsOf_length]; exact h
  rw [List.take_add_one, List.getElem?_drop, List.getElem?_eq_getElem h2, List.getD_eq_getElem?_getD, List.getElem?_eq_getElem h2]
  rfl
set_option maxHeartbeats 800000 in
theorem bits_ok (r c p : Nat) (A : Option Addr) (B : List UInt8) (n : Nat) (w : World) (h : Re w r A c B p) (hB : B.length ≤ 1099511627776) (hn : n ≤ 64) (hp : p + n ≤ 8 * B.length) :
    Calls Tryd.prog 67 #[.pointer (some ⟨r, 0, none⟩), .int .i64 (n : Int)] w fun e w' => e = .returned (.tuple #[.int .u64 ((num (cut B p n) : Nat) : Int), .bool true]) ∧ Re w' r A c B (p + n) ∧ Fr (fun k => k = r) w w' := by
  have hle : n ≤ 8 * B.length - p := by omega
  have hl := left_any r c p A B w h hB
  obtain ⟨D, hD⟩ : ∃ D, D = 8 * B.length - p := ⟨_, rfl⟩
  rw [← hD] at hl hle
  have H := Lib.hid h
  have HL := Lib.hid hl
  have t1 : decide ((n : Int) < 0) = false := by simp
  have t2 : decide (64 < (n : Int)) = false := by simp; omega
  have t3 : decide (D < n) = false := by simp; omega
  clear h hl hD
  go_enter Tryd.func67, Tryd.ntmps67
  go_wp2_with fail
  refine HL.out.mono ?_
  rintro e w1 ⟨rfl, rfl⟩
  go_wp2
  go_loopw [6, 21] (fun x i wr => ∃ m z : Nat, m ≤ n ∧ i = .int .i64 m ∧ x = .int .u64 (z : Int) ∧ Hid (z = num (cut B p m)) ∧ Re wr r A c B (p + m) ∧ Fr (fun k => k = r) w wr)
    (fun _ i _ => n - (intOf i).toNat)
  case atStart => exact ⟨0, 0, by omega, rfl, rfl, rfl, H.out.drew, (Fr.refl _ _).drew⟩
  case round =>
    obtain ⟨m, z, hm, rfl, rfl, Hz, hre, hfr⟩ := hrel
    have HRE := Lib.hid hre
    clear hre
    by_cases hlt : m < n
    · go_wp2_with fail
      refine (rbit_any r c (p + m) A B _ HRE.out hB (by omega)).mono ?_
      rintro e w2 ⟨rfl, hre2, hfr2⟩
      obtain ⟨b, hb⟩ : ∃ b, b = (bitsOf B).getD (p + m) false := ⟨_, rfl⟩
      rw [← hb]
      have HB := Lib.hid hb
      have HRE2 := Lib.hid hre2
      clear hb hre2
      obtain ⟨s, z', hs1, hs2, hz', _, _, _⟩ := or64_facts z m b.toNat (by have h1 := num_lt (cut B p m); rw [cut_length _ _ _ (by omega), ← Hz.out] at h1; exact h1) (by omega) (by cases b <;> simp)
      have HZ := Lib.hid hz'
      clear hz'
      go_wp2
      go_roundw
      case rel =>
        refine ⟨m + 1, z', by omega, by go_num, rfl, ?_, HRE2.out, hfr.trans hfr2 (fun _ _ h => h)⟩
        show _ = _
        rw [cut_succ _ _ _ (by omega), num_snoc, cut_length _ _ _ (by omega), ← Hz.out, HZ.out, HB.out]
      case measure => simp [intOf] <;> omega
    · go_wp2
      obtain rfl : m = n := by omega
      go_ret2
      rw [← Hz.out]
      exact ⟨rfl, HRE.out, hfr⟩
set_option maxHeartbeats 800000 in
theorem bits_no (r c p : Nat) (A : Option Addr) (B : List UInt8) (n : Int) (w : World) (h : Re w r A c B p) (hB : B.length ≤ 1099511627776) (hn : n < 0 ∨ 64 < n ∨ ((8 * B.length - p : Nat) : Int) < n) :
    Calls Tryd.prog 67 #[.pointer (some ⟨r, 0, none⟩), .int .i64 n] w fun e w' => e = .returned (.tuple #[.int .u64 0, .bool false]) ∧ Re w' r A c B p ∧ Fr (fun _ => False) w w' := by
  have hl := left_any r c p A B w h hB
  obtain ⟨D, hD⟩ : ∃ D, D = 8 * B.length - p := ⟨_, rfl⟩
  rw [← hD] at hl hn
  have H := Lib.hid h
  have HL := Lib.hid hl
  clear h hl hD
  by_cases h1 : n < 0
  · go_enter Tryd.func67, Tryd.ntmps67
    go_wp2_with fail
    go_ret2
    exact ⟨rfl, H.out, Fr.refl _ _⟩
  · by_cases h2 : 64 < n
    · go_enter Tryd.func67, Tryd.ntmps67
      go_wp2_with fail
      go_ret2
      exact ⟨rfl, H.out, Fr.refl _ _⟩
    · have h3 : (D : Int) < n := by omega
      go_enter Tryd.func67, Tryd.ntmps67
      go_wp2_with fail
      refine HL.out.mono ?_
      rintro e w1 ⟨rfl, rfl⟩
      go_wp2
      go_ret2
      exact ⟨rfl, H.out.drew, (Fr.refl _ _).drew⟩
end Go.Proofs.YtjghcacepneipaaDoor
