/-
  Layer 1's Writer, and the reference's Num, High, Full, Bytes, for higher layers (picked out of layer 1's texts by tools/pick.py: mkwr.sh).
  A Writer in other worlds: what is new is not its own; one number is put.
  Layer 9's program: how a block begins.
  Layer 8's program: repeat.
-/
import Derived.Test.YtahfmcdhcbfkaaaDoorZm10
import Derived.Test.YtahfmcdhcbfkaaaDoorZm04
import Derived.Test.YtahfmcdhcbfkaaaDoorZm09
import Derived.Test.YtahfmcdhcbfkaaaDoorZm06
import Derived.StillTailTactics
import Derived.Deep.DeepCutAuto
import Derived.Deep.QuietTactic
import Derived.BigQuiet
namespace Go.Proofs.YtahfmcdhcbfkaaaDoor
open Go.RowKit BitsM Mem
set_option maxRecDepth 100000

theorem num_drop_lt (l : List Bool) (j : Nat) (hl : l.length ≤ 64) (hj : 0 < j) : num (l.drop j) < 9223372036854775808 := by
  have h := num_lt (l.drop j)
  have h2 : (l.drop j).length ≤ 63 := by simp; omega
  have := Nat.pow_le_pow_right (show 0 < 2 by omega) h2
  omega
set_option maxHeartbeats 400000 in
theorem num_any (A : Option Addr) (n c : Nat) (l : List Bool) (w : World) (hl : Rd w A n (l.map bitc)) (hn : n ≤ 64) :
    Calls Tryd.prog 41 #[.slice A n c] w fun e w' => e = .returned (.int .u64 ((num l : Nat) : Int)) ∧ w = w' := by
  have hlen : l.length = n := by simpa using hl.1
  go_enter Tryd.func41, Tryd.ntmps41
  go_wp2
  go_loop [3, 4] (fun x i => ∃ j z : Nat, j ≤ n ∧ i = .int .i64 ((j : Int) - 1) ∧ x = .int .u64 (z : Int) ∧ Hid (z = num (l.drop j)))
    (fun _ i => (intOf i + 1).toNat)
  case atStart => exact ⟨n, 0, Nat.le_refl _, rfl, rfl, by rw [List.drop_of_length_le (by omega)]; rfl⟩
  case round =>
    obtain ⟨j, z, hj, rfl, rfl, Hz⟩ := hrel
    cases j with
    | zero =>
      go_wp2
      go_ret
      exact ⟨by rw [Hz.out]; rfl, rfl⟩
    | succ m =>
      obtain ⟨ad, u, hA, hu, hc⟩ := hl.at_ (show m < n by omega)
      obtain ⟨b, hb⟩ : ∃ b, l[m]? = some b := ⟨l[m], List.getElem?_eq_getElem (by omega)⟩
      obtain rfl : bitc b = u := by simpa [hb] using hu
      have hz : z < 9223372036854775808 := by have := num_drop_lt l (m + 1) (by omega) (by omega); have h2 := Hz.out; omega
      rw [show (((m + 1 : Nat) : Int) - 1) = (m : Int) from by omega]
      subst hA
      unfold bitc at hc
      have hbb : b.toNat ≤ 1 := by cases b <;> simp
      clear hu hl
      go_wp2
      go_round
      case rel =>
        refine ⟨m, 2 * z + b.toNat, by omega, rfl, by congr 1, ?_⟩
        have h1 := Hz.out
        subst h1
        show _ = _
        obtain ⟨hm, rfl⟩ := List.getElem?_eq_some_iff.1 hb
        rw [List.drop_eq_getElem_cons hm, num]
        omega
      case measure => simp [intOf] <;> omega
set_option maxHeartbeats 400000 in
theorem high_any (x : Nat) (n : Int) (w : World) (hx1 : x < 18446744073709551616) (hn0 : -9223372036854775808 ≤ n) (hn1 : n ≤ 9223372036854775807) :
    Calls Tryd.prog 65 #[.int .u64 (x : Int), .int .i64 n] w fun e w' => ∃ A c, e = .returned (.slice A (min n.toNat 64) c) ∧ w'.ownsRow w.heap.size 5 1 (.slice A (min n.toNat 64) c) (min n.toNat 64) ((low x (min n.toNat 64)).reverse.map bitc) ∧ Fr (fun _ => False) w w' := by
  go_enter Tryd.func65, Tryd.ntmps65
  go_wp2_with fail
  refine (low_any x n w hx1 hn0 hn1).mono ?_
  rintro e w1 ⟨A0, c0, rfl, hown0, hfr0⟩
  obtain ⟨M, hM⟩ : ∃ M, min n.toNat 64 = M := ⟨_, rfl⟩
  rw [hM] at hown0 ⊢
  have hM64 : M ≤ 64 := by omega
  have HM := Lib.hid hM
  clear hM
  obtain ⟨L, hL⟩ : ∃ L, L = low x M := ⟨_, rfl⟩
  have hLl : L.length = M := by rw [hL, low_length]
  rw [← hL] at hown0
  have HL := Lib.hid hL
  clear hL
  go_wp2
  go_loopw [6, 7] (fun v i wr => ∃ (j : Nat) (A : Option Addr) (c : Nat), j ≤ M ∧ i = .int .i64 ((j : Int) - 1) ∧ v = .slice A (M - j) c ∧ wr.ownsRow w1.heap.size 5 1 (.slice A (M - j) c) (M - j) ((L.drop j).reverse.map bitc) ∧ Fr (fun _ => False) w1 wr)
    (fun _ i _ => (intOf i + 1).toNat)
  case atStart =>
    exact ⟨M, none, 0, Nat.le_refl _, rfl, by rw [Nat.sub_self], by rw [Nat.sub_self, List.drop_of_length_le (by omega)]; exact World.ownsRow_nil _ _ _ _, Fr.refl _ _⟩
  case round =>
    obtain ⟨j, A, c, hj, rfl, rfl, hown, hfr⟩ := hrel
    have hsz := hfr.size
    have hsz0 := hfr0.size
    cases j with
    | zero =>
      go_wp2
      go_ret
      rw [HM.out, ← HL.out]
      exact ⟨_, _, rfl, own_base hown hsz0, hfr0.trans hfr (fun _ _ h => h)⟩
    | succ m =>
      obtain ⟨ad, u, hA, hu, hc⟩ := (Rd.of_own (hfr.own hown0 (fun _ _ h => h))).at_ (show m < M by omega)
      obtain ⟨b, hb⟩ : ∃ b, L[m]? = some b := ⟨L[m], List.getElem?_eq_getElem (by omega)⟩
      obtain rfl : bitc b = u := by simpa [hb] using hu
      rw [show (((m + 1 : Nat) : Int) - 1) = (m : Int) from by omega]
      subst hA
      unfold bitc at hc
      have hbb : b.toNat ≤ 1 := by cases b <;> simp
      clear hu
      go_wp2_with (at_builtin; refine wpList_app u8T _ rfl _ _ rfl w1.heap.size _ _ _ rfl (hown.alloc _) _ _ _ _ rfl (Rd.one _ _ _) (one_one _ _) (by unfold maxLen; omega) (by omega) (by simp; omega) ?_)
      intro A' c' w' _ _ hown' hfr' _
      go_wp2
      go_roundw
      case rel =>
        rw [show M - (m + 1) + 1 = M - m from by omega] at hown' ⊢
        refine ⟨m, A', c', by omega, rfl, rfl, ?_, ?_⟩
        · obtain ⟨hm, rfl⟩ := List.getElem?_eq_some_iff.1 hb
          rw [List.drop_eq_getElem_cons hm, List.reverse_cons, List.map_append, List.map_reverse, List.map_drop]
          exact hown'
        · exact (hfr.alloc _).trans hfr' (fun b hb h => by have := hown.lt _ h; omega)
      case measure => simp [intOf] <;> omega
theorem fullOf (L : List Bool) (m : Nat) (h1 : L.length ≤ m) (h2 : m ≤ L.length + lack L.length) (h : m % 8 = 0) : L ++ List.replicate (m - L.length) false = full L ∧ (full L).length = m := by
  have : m = L.length + lack L.length := by unfold lack at *; omega
  rw [full_length]
  exact ⟨by rw [this, Nat.add_sub_cancel_left]; rfl, this.symm⟩
set_option maxHeartbeats 400000 in
theorem full_any (A : Option Addr) (n c : Nat) (L : List Bool) (w : World) (hl : Rd w A n (L.map bitc)) (hn : n ≤ 1099511627776) :
    Calls Tryd.prog 40 #[.slice A n c] w fun e w' => ∃ A c, e = .returned (.slice A (full L).length c) ∧ w'.ownsRow w.heap.size 5 1 (.slice A (full L).length c) (full L).length ((full L).map bitc) ∧ Fr (fun _ => False) w w' := by
  have hlen : L.length = n := by simpa using hl.1
  have h0 := World.ownsRow_made (e := 5) (size := 1) w #[] 0 (Nat.le_refl _) (Nat.zero_le _) rfl
  have h1 := hl.fr ((Fr.refl (fun _ => False) w).alloc (.cells #[] 5)) (fun _ _ h => h)
  clear hl
  have Hlen := Lib.hid hlen
  clear hlen
  go_enter Tryd.func40, Tryd.ntmps40
  go_wp2_with (at_builtin; refine wpList_app u8T _ rfl _ _ rfl w.heap.size _ _ _ rfl h0 _ _ _ _ rfl h1 (bitc_one _) (by unfold maxLen; omega) (by omega) (by simp) ?_)
  intro A' c' w1 _ _ hown' hfr' _
  have hfr1 : Fr (fun _ => False) w w1 := ((Fr.refl _ w).alloc _).trans hfr' (fun b hb h => by simp [Value.ownBlock] at h; omega)
  clear hfr' h0 h1
  try simp only [Nat.zero_add, List.nil_append] at hown'
  go_wp2
  go_loopw [3] (fun v wr => ∃ (m : Nat) (A : Option Addr) (c : Nat), n ≤ m ∧ m ≤ n + lack n ∧ m ≤ c ∧ c ≤ maxLen ∧ v = .slice A m c ∧ wr.ownsRow w.heap.size 5 1 (.slice A m c) m ((L ++ List.replicate (m - n) false).map bitc) ∧ Fr (fun _ => False) w wr)
    (fun v _ => match v with | .slice _ m _ => n + 8 - m | _ => 0)
  case atStart => exact ⟨n, A', c', Nat.le_refl _, by omega, by assumption, by assumption, rfl, by simpa using hown', hfr1⟩
  case round =>
    obtain ⟨m, A, c, hm1, hm2, _, _, rfl, hown, hfr⟩ := hrel
    have hsz := hfr.size
    have hk := lack_lt n
    clear hown' hfr1
    by_cases hm : m % 8 = 0
    · go_wp2
      go_ret
      have hlen := Hlen.out
      subst hlen
      obtain ⟨e1, e2⟩ := fullOf L m hm1 hm2 hm
      rw [e2, ← e1]
      exact ⟨_, _, rfl, hown, hfr⟩
    · have hlt : m < n + lack n := by
        rcases Nat.lt_or_ge m (n + lack n) with h | h
        · exact h
        · exact absurd (by rw [show m = n + lack n from by omega]; exact lack_add n) hm
      go_wp2_with (at_builtin; refine wpList_app u8T _ rfl _ _ rfl w.heap.size _ _ _ rfl (hown.alloc _) _ _ _ _ rfl (Rd.one _ _ _) (one_one _ _) (by unfold maxLen; omega) (by omega) (by simp; omega) ?_)
      intro A' c' w' _ _ hown' hfr' _
      go_wp2
      go_roundw
      case rel =>
        refine ⟨m + 1, A', c', by omega, by omega, by assumption, by assumption, rfl, ?_, (hfr.alloc _).trans hfr' (fun b hb h => by have := hown.lt _ h; omega)⟩
        exact own_list hown' (by rw [show m + 1 - n = (m - n) + 1 from by omega, List.replicate_succ']; simp [bitc])
      case measure => simp; omega
theorem byte_at (F : List Bool) (k : Nat) (hk : 8 * k < F.length) : ∃ b, (pack F)[k]? = some b ∧ bytec b = .int .u8 (((num ((F.take (8 * k + 8)).drop (8 * k)) : Nat) : Int) % 256) := by
  have h := pack_get F k (by omega)
  refine ⟨_, h, ?_⟩
  unfold bytec
  have e : (F.take (8 * k + 8)).drop (8 * k) = (F.drop (8 * k)).take 8 := by rw [List.drop_take, show 8 * k + 8 - 8 * k = 8 from by omega]
  have := num_take8_lt (F.drop (8 * k))
  rw [e]
  congr 1
set_option maxHeartbeats 400000 in
theorem bytes_any (A : Option Addr) (n c : Nat) (L : List Bool) (w : World) (hl : Rd w A n (L.map bitc)) (hn : n ≤ 1099511627776) :
    Calls Tryd.prog 21 #[.slice A n c] w fun e w' => ∃ A c, e = .returned (.slice A (pack L).length c) ∧ w'.ownsRow w.heap.size 5 1 (.slice A (pack L).length c) (pack L).length ((pack L).map bytec) ∧ Fr (fun _ => False) w w' := by
  have hlen : L.length = n := by simpa using hl.1
  go_enter Tryd.func21, Tryd.ntmps21
  go_wp2_with fail
  refine (full_any A n c L w hl hn).mono ?_
  rintro e w1 ⟨A0, c0, rfl, hown0, hfr0⟩
  have hpk := pack_full L
  have hpl := pack_length (full L)
  have hmod := full_mod L
  have hfl : (full L).length ≤ 1099511627784 := by rw [full_length]; have := lack_lt L.length; omega
  obtain ⟨F, hF⟩ : ∃ F, F = full L := ⟨_, rfl⟩
  rw [← hF] at hown0 hpk hpl hmod hfl ⊢
  clear hl
  have HF := Lib.hid hF
  clear hF
  obtain ⟨m, hm⟩ : ∃ m, F.length = m := ⟨_, rfl⟩
  rw [hm] at hown0 hpl hmod hfl ⊢
  have HM := Lib.hid hm
  have HP := Lib.hid hpk
  have HPL := Lib.hid hpl
  clear hm hpk hpl
  obtain ⟨_, hc1, hc2⟩ := own_cap hown0
  go_wp2
  go_loopw [4, 5] (fun v i wr => ∃ (k : Nat) (A : Option Addr) (c : Nat), 8 * k ≤ m ∧ i = .int .i64 ((8 * k : Nat) : Int) ∧ v = .slice A k c ∧ wr.ownsRow w1.heap.size 5 1 (.slice A k c) k (((pack F).take k).map bytec) ∧ Fr (fun _ => False) w1 wr)
    (fun _ i _ => m - (intOf i).toNat)
  case atStart => exact ⟨0, none, 0, by omega, rfl, rfl, World.ownsRow_nil _ _ _ _, Fr.refl _ _⟩
  case round =>
    obtain ⟨k, A, c, hk, rfl, rfl, hown, hfr⟩ := hrel
    have hsz := hfr.size
    have hsz0 := hfr0.size
    by_cases hlt : 8 * k < m
    · have hr := (Rd.of_own (hfr.own hown0 (fun _ _ h => h))).cut' (k := 8 * k) (m := 8 * k + 8) (by omega) (by omega)
      rw [← List.map_take, ← List.map_drop, show 8 * k + 8 - 8 * k = 8 from by omega] at hr
      have HR := Lib.hid hr
      clear hr
      obtain ⟨b, hb1, hb2⟩ := byte_at F k (by have := HM.out; omega)
      have HB := Lib.hid hb2
      clear hb2
      go_wp2_with fail
      refine (num_any _ _ _ ((F.take (8 * k + 8)).drop (8 * k)) _ HR.out (by omega)).mono ?_
      rintro e w2 ⟨rfl, rfl⟩
      go_wp2_with (at_builtin; refine wpList_app u8T _ rfl _ _ rfl w1.heap.size _ _ _ rfl (hown.alloc _) _ _ _ _ rfl (Rd.one _ _ _) (one_one _ _) (by unfold maxLen; omega) (by omega) (by simp; omega) ?_)
      intro A' c' w' _ _ hown' hfr' _
      go_wp2
      go_roundw
      case rel =>
        refine ⟨k + 1, A', c', by omega, by go_num, rfl, ?_, (hfr.alloc _).trans hfr' (fun b hb h => by have := hown.lt _ h; omega)⟩
        have e : (pack F).take (k + 1) = (pack F).take k ++ [b] := by rw [List.take_add_one, hb1]; rfl
        rw [e, List.map_append, List.map_singleton, HB.out]
        exact own_list hown' (by simp)
      case measure => simp [intOf] <;> omega
    · go_wp2
      go_ret
      have hpl := HPL.out
      have hp := HP.out
      have hm := HM.out
      have hkl : k = (pack F).length := by omega
      rw [← hp]
      rw [← hkl]
      rw [List.take_of_length_le (by omega)] at hown
      exact ⟨_, _, rfl, own_base hown hsz0, hfr0.trans hfr (fun _ _ h => h)⟩
/-- as it lay, or in a new block -/
def Nx (w : World) (A A' : Option Addr) : Prop := bl A' = bl A ∨ ∃ k, bl A' = some k ∧ w.heap.size ≤ k
theorem Nx.refl (w : World) (A : Option Addr) : Nx w A A := .inl rfl
theorem Nx.trans {w w' : World} {A A' A'' : Option Addr} (h : Nx w A A') (k : Nx w' A' A'') (hs : w.heap.size ≤ w'.heap.size) : Nx w A A'' := by
  rcases k with k | ⟨b, k, hb⟩
  · rcases h with h | ⟨b, h, hb⟩
    · exact .inl (k.trans h)
    · exact .inr ⟨b, k.trans h, hb⟩
  · exact .inr ⟨b, k, Nat.le_trans hs hb⟩
/-- what a Writer's blocks are -/
def Ft (g : Nat) (A : Option Addr) : Nat → Prop := fun k => k = g ∨ bl A = some k
theorem Fr.next {w w' w'' : World} {g : Nat} {A A' : Option Addr} (h : Fr (Ft g A) w w') (hn : Nx w A A') (k : Fr (Ft g A') w' w'') : Fr (Ft g A) w w'' :=
  h.trans k (fun b hb hf => by
    rcases hf with hf | hf
    · exact .inl hf
    · rcases hn with hn | ⟨c, hn, hc⟩
      · exact .inr (hn ▸ hf)
      · rw [hn] at hf
        injection hf with hf
        omega)
/-- the Writer in block g, its bytes at A, has put bs -/
def Wr (w : World) (g : Nat) (A : Option Addr) (c : Nat) (bs : List Bool) : Prop :=
  w.heap[g]? = some (.cells #[.slice A ((bs.length + 7) / 8) c, .int .i64 (bs.length : Int)] 42 (0, 0)) ∧
    w.ownsRow 0 5 1 (.slice A ((bs.length + 7) / 8) c) ((bs.length + 7) / 8) ((pack bs).map bytec)
theorem own_last {w : World} {base : Nat} {e : TypeId} {A : Option Addr} {N n c : Nat} {xs : List Value} {u : Value} (h : w.ownsRow base e 1 (.slice A N c) N (xs ++ [u])) (hN : N = n + 1) :
    ∃ g, A = some ⟨g, 0, none⟩ ∧ w.cell? ⟨g, n, none⟩ = some u ∧ w.frozen? ⟨g, n, none⟩ = false := by
  have hl : xs.length = n := by have := h.1; simp at this; omega
  exact own_at h (by rw [List.getElem?_append_right (by omega), hl, Nat.sub_self]; rfl)
theorem own_set {w : World} {base : Nat} {e : TypeId} {g n c : Nat} {xs : List Value} (h : w.ownsRow base e 1 (.slice (some ⟨g, 0, none⟩) n c) n xs) (i : Nat) (hi : i < n) (u : Value) :
    (w.setCell ⟨g, i, none⟩ u).ownsRow base e 1 (.slice (some ⟨g, 0, none⟩) n c) n (xs.set i u) := by
  refine ⟨by simpa using h.1, ?_⟩
  rcases h.2 with ⟨hv, rfl⟩ | ⟨g', cap, cur, hv, hb, hg, hnc, hm, hcs, ht⟩
  · omega
  · injection hv with hA h1 h2
    injection hA with hA
    injection hA with hA
    subst hA h2
    refine .inr ⟨g, c, cur.setIfInBounds i u, rfl, hb, set_of hg i u, hnc, hm, by simpa using hcs, ?_⟩
    simp only [Nat.mul_one] at ht ⊢
    rw [Array.toList_setIfInBounds, List.take_set, ht]
set_option maxHeartbeats 400000 in
theorem lacking_any (n : Nat) (w : World) (h1 : n ≤ 9223372036854775807) :
    Calls Tryd.prog 74 #[.int .i64 (n : Int)] w fun e w' => e = .returned (.int .i64 ((lack n : Nat) : Int)) ∧ w = w' := by
  go_enter Tryd.func74, Tryd.ntmps74
  go_wp2
  go_ret
  refine ⟨?_, rfl⟩
  unfold lack
  simp
  omega
set_option maxHeartbeats 400000 in
theorem within_any (n : Int) (w : World) :
    Calls Tryd.prog 72 #[.int .i64 n] w fun e w' => e = .returned (.int .i64 ((min n.toNat 64 : Nat) : Int)) ∧ w = w' := by
  go_enter Tryd.func72, Tryd.ntmps72
  go_wp2
  all_goals
    go_ret
    refine ⟨?_, rfl⟩
    simp
    omega
/-- the numbers of the step that lays a bit into a byte, in the walk's spelling -/
theorem or_facts (x n : Nat) (o : UInt8) (hx : x < 18446744073709551616) (hn : n ≤ 1099511627776) (h2r : o.toNat < 2 ^ (n % 8)) :
    ∃ q r y s z : Nat, IntKind.i64.wrap ((n : Int) / 8) = (q : Int) ∧ ((n : Int).tmod 8) = (r : Int) ∧ bits .and .u64 (x : Int) 1 = (y : Int) ∧ IntKind.u8.wrap (y : Int) = (y : Int) ∧
      IntKind.u8.wrap ((y : Int) * 2 ^ r) = (s : Int) ∧ bits .or .u8 (o.toNat : Int) (s : Int) = (z : Int) ∧ r < 8 ∧ y < 2 ∧ z < 256 ∧ q = n / 8 ∧
      bytec (UInt8.ofNat (o.toNat + 2 ^ (n % 8) * (x.testBit 0).toNat)) = .int .u8 (z : Int) := by
  have hyr : 2 ^ (n % 8) * (x % 2) + o.toNat < 2 ^ (n % 8 + 1) := by
    rw [Nat.pow_succ]
    rcases Nat.mod_two_eq_zero_or_one x with h | h <;> rw [h] <;> omega
  have hr256 : 2 ^ (n % 8 + 1) ≤ 256 := Nat.pow_le_pow_right (show 0 < 2 by omega) (show n % 8 + 1 ≤ 8 by omega)
  refine ⟨n / 8, n % 8, x % 2, 2 ^ (n % 8) * (x % 2), 2 ^ (n % 8) * (x % 2) + o.toNat, ?_, ?_, ?_, ?_, ?_, ?_, by omega, by omega, by omega, rfl, ?_⟩
  · rw [IntWalk.i64_in _ (by omega)]; omega
  · rw [Int.tmod_eq_emod_of_nonneg (by omega)]; omega
  · have h := u64_and_nat x 1 hx (by omega)
    rw [nat_mask1] at h
    exact h
  · exact IntWalk.u8_in _ (by omega)
  · have e : ((x % 2 : Nat) : Int) * 2 ^ (n % 8) = ((2 ^ (n % 8) * (x % 2) : Nat) : Int) := by rw [Nat.mul_comm]; simp
    rw [e, IntWalk.u8_in _ (by omega)]
  · rw [u8_or_nat _ _ o.toNat_lt (by omega), Nat.two_pow_add_eq_or_of_lt h2r, Nat.or_comm]
  · have e : (x.testBit 0).toNat = x % 2 := by rw [Nat.testBit_zero]; rcases Nat.mod_two_eq_zero_or_one x with h | h <;> simp [h]
    rw [e, Nat.add_comm]
    unfold bytec
    rw [UInt8.toNat_ofNat_of_lt' (by simp only [UInt8.size]; omega)]
/-- the last part of a Writer's step: the byte is written, the count goes on -/
theorem bit_end {w : World} {g g2 q m c n : Nat} {z : Int} {xs : List Value} (hg : w.heap[g]? = some (.cells #[.slice (some ⟨g2, 0, none⟩) m c, .int .i64 (n : Int)] 42 (0, 0)))
    (hown : w.ownsRow 0 5 1 (.slice (some ⟨g2, 0, none⟩) m c) m xs) (hne : g2 ≠ g) (hq : q < m) :
    (((w.setCell ⟨g2, q, none⟩ (.int .u8 z)).setCell ⟨g, 1, none⟩ (.int .i64 ((n : Int) + 1))).drew.heap[g]? = some (.cells #[.slice (some ⟨g2, 0, none⟩) m c, .int .i64 ((n + 1 : Nat) : Int)] 42 (0, 0))) ∧
    ((w.setCell ⟨g2, q, none⟩ (.int .u8 z)).setCell ⟨g, 1, none⟩ (.int .i64 ((n : Int) + 1))).drew.ownsRow 0 5 1 (.slice (some ⟨g2, 0, none⟩) m c) m (xs.set q (.int .u8 z)) ∧
    Fr (Ft g (some ⟨g2, 0, none⟩)) w ((w.setCell ⟨g2, q, none⟩ (.int .u8 z)).setCell ⟨g, 1, none⟩ (.int .i64 ((n : Int) + 1))).drew ∧
    (w.setCell ⟨g2, q, none⟩ (.int .u8 z)).cell? ⟨g, 1, none⟩ = some (.int .i64 (n : Int)) ∧ (w.setCell ⟨g2, q, none⟩ (.int .u8 z)).frozen? ⟨g, 1, none⟩ = false := by
  refine ⟨?_, ?_, ?_, ?_, ?_⟩
  · have h1 := set_of (w := w.setCell ⟨g2, q, none⟩ (.int .u8 z)) (by rw [Below.heap_setCell _ _ _ _ (Ne.symm hne)]; exact hg) 1 (.int .i64 ((n : Int) + 1))
    refine h1.trans ?_
    simp
  · have h1 := own_set hown q hq (.int .u8 z)
    have h2 := (Fr.refl (Ft g none) _).setCell (w := w.setCell ⟨g2, q, none⟩ (.int .u8 z)) (p := ⟨g, 1, none⟩) (fun _ => .inl rfl) (.int .i64 ((n : Int) + 1))
    refine (h2.drew).own h1 (fun k hk => ?_)
    rintro (h | h)
    · simp [Value.ownBlock] at hk; omega
    · simp [bl] at h
  · exact (((Fr.refl _ w).setCell (p := ⟨g2, q, none⟩) (fun _ => .inr rfl) _).setCell (p := ⟨g, 1, none⟩) (fun _ => .inl rfl) _).drew
  · rw [World.cell?_setCell_other w _ _ _ (by intro e; injection e with e; exact hne e)]; exact cell_of hg 1
  · rw [World.frozen?_setCell]; exact free_of hg 1
set_option maxHeartbeats 400000 in
theorem wbit_old (g c : Nat) (A : Option Addr) (bs : List Bool) (x : Nat) (w : World) (hw : Wr w g A c bs) (hn : bs.length ≤ 1099511627776) (hx : x < 18446744073709551616) (hm : bs.length % 8 ≠ 0) :
    Calls Tryd.prog 73 #[.pointer (some ⟨g, 0, none⟩), .int .u64 (x : Int)] w fun e w' => e = .returned (.tuple #[]) ∧ ∃ A' c', Wr w' g A' c' (bs ++ [x.testBit 0]) ∧ Fr (Ft g A) w w' ∧ Nx w A A' := by
  obtain ⟨hg, hown⟩ := hw
  obtain ⟨o, ho⟩ : ∃ o, (pack bs)[bs.length / 8]? = some o := ⟨(pack bs)[bs.length / 8]'(by rw [pack_length]; omega), List.getElem?_eq_getElem _⟩
  obtain ⟨g2, rfl, hb, hbf⟩ := own_at hown (i := bs.length / 8) (u := bytec o) (by simp [ho])
  obtain ⟨hp, hol⟩ := pack_snoc_old hm (x.testBit 0) o ho
  obtain ⟨n, hnn⟩ : ∃ n, n = bs.length := ⟨_, rfl⟩
  obtain ⟨m, hmm⟩ : ∃ m, m = (n + 7) / 8 := ⟨_, rfl⟩
  have hlk : lack n ≠ 0 := by unfold lack; omega
  rw [← hnn] at hg hown hm hn hb hbf hol hp
  rw [← hmm] at hg hown
  obtain ⟨q, r, y, s, z, hq1, hr1, hy1, hy2, hs1, hs2, hr8, hy3, hz, hq, hbz⟩ := or_facts x n o hx hn hol
  rw [← hq] at hb hbf hp
  have hqn : q < m := by omega
  have hne : g2 ≠ g := fun e => own_ne hown hg (by decide) (by rw [bl_own]; simp [bl, e])
  obtain ⟨E1, E2, E3, hc1', hf1'⟩ := bit_end (z := (z : Int)) hg hown hne hqn
  have hc0 : w.cell? ⟨g, 0, none⟩ = some (.slice (some ⟨g2, 0, none⟩) m c) := cell_of hg 0
  have hc1 : w.cell? ⟨g, 1, none⟩ = some (.int .i64 (n : Int)) := cell_of hg 1
  have hf1 := free_of hg 1
  unfold bytec at hb
  have ho256 : o.toNat < 256 := o.toNat_lt
  have H1 := Lib.hid hp
  have H2 := Lib.hid hnn
  have H3 := Lib.hid hmm
  have H4 := Lib.hid hbz
  have H5 := Lib.hid E1
  have H6 := Lib.hid E2
  clear ho hp hnn hmm hq hbz E1 E2 hg hown hol
  go_enter Tryd.func73, Tryd.ntmps73
  go_wp2_with fail
  refine (lacking_any n _ (by omega)).mono ?_
  rintro e w2 ⟨rfl, rfl⟩
  go_wp2_with fail
  go_still_tail 22, (by kernel_rfl)
  change wpList _ _ _ _ _ w.drew
  go_wp2_with fail
  go_end0
  have e0 := H2.out
  have e1 : ((bs ++ [x.testBit 0]).length + 7) / 8 = m := by have := H3.out; simp; omega
  have e2 : (bs ++ [x.testBit 0]).length = n + 1 := by simp [e0]
  refine ⟨rfl, some ⟨g2, 0, none⟩, c, ⟨?_, ?_⟩, E3, Nx.refl _ _⟩
  · rw [e1, e2]
    exact H5.out
  · rw [e1, H1.out]
    exact own_list H6.out (by rw [List.map_set, H4.out])
set_option maxHeartbeats 400000 in
theorem wbit_new (g c : Nat) (A : Option Addr) (bs : List Bool) (x : Nat) (w : World) (hw : Wr w g A c bs) (hn : bs.length ≤ 1099511627776) (hx : x < 18446744073709551616) (hm : bs.length % 8 = 0) :
    Calls Tryd.prog 73 #[.pointer (some ⟨g, 0, none⟩), .int .u64 (x : Int)] w fun e w' => e = .returned (.tuple #[]) ∧ ∃ A' c', Wr w' g A' c' (bs ++ [x.testBit 0]) ∧ Fr (Ft g A) w w' ∧ Nx w A A' := by
  obtain ⟨hg, hown⟩ := hw
  have hp := pack_snoc_new hm (x.testBit 0)
  obtain ⟨n, hnn⟩ : ∃ n, n = bs.length := ⟨_, rfl⟩
  obtain ⟨m, hmm⟩ : ∃ m, m = (n + 7) / 8 := ⟨_, rfl⟩
  have hlk : lack n = 0 := by unfold lack; omega
  rw [← hnn] at hg hown hm hn
  rw [← hmm] at hg hown
  obtain ⟨q, r, y, s, z, hq1, hr1, hy1, hy2, hs1, hs2, hr8, hy3, hz, hq, hbz⟩ := or_facts x n 0 hx hn (by rw [hm]; decide)
  obtain rfl : q = m := by omega
  rw [hm] at hbz
  have hs2 : bits .or .u8 0 (s : Int) = (z : Int) := hs2
  have hq40 : q ≤ 1099511627776 := by omega
  have hc0 : w.cell? ⟨g, 0, none⟩ = some (.slice A q c) := cell_of hg 0
  have hc1 : w.cell? ⟨g, 1, none⟩ = some (.int .i64 (n : Int)) := cell_of hg 1
  have hf1 := free_of hg 1
  have hneA := own_ne hown hg (by decide)
  rw [bl_own] at hneA
  have H1 := Lib.hid hp
  have H2 := Lib.hid hnn
  have H3 := Lib.hid hmm
  have H4 := Lib.hid hbz
  have H7 := Lib.hid hg
  have H8 := Lib.hid hneA
  have H9 := Lib.hid hq1
  have H10 := Lib.hid hr1
  clear hp hnn hmm hq hbz hg hneA
  go_enter Tryd.func73, Tryd.ntmps73
  go_wp2_with fail
  refine (lacking_any n _ (by omega)).mono ?_
  rintro e w2 ⟨rfl, rfl⟩
  have hg := lt_of_heap H7.out
  have hc0a : (w.alloc (.cells #[.int .u8 0] 5)).cell? ⟨g, 0, none⟩ = some (.slice A q c) := by rw [World.cell?_alloc_lt _ _ _ hg]; exact hc0
  obtain ⟨m, hmq⟩ : ∃ m, m = q + 1 := ⟨_, rfl⟩
  have hqm : q < m := by omega
  have hm40 : m ≤ 1099511627777 := by omega
  have H12 := Lib.hid hmq
  clear hmq
  go_wp2_with (at_builtin; refine wpList_appN u8T _ rfl _ _ rfl 0 _ _ _ rfl (hown.alloc _) _ _ _ _ rfl (Rd.one _ _ _) (one_one _ _) m H12.out (by unfold maxLen; omega) (by omega) (by simp) ?_)
  intro A' c' w1 _ _ hown' hfr' hnx
  rw [bl_own, bl_own] at hnx
  rw [bl_own] at hfr'
  have hfr1 : Fr (fun k => bl A = some k) w w1 := ((Fr.refl _ w).alloc _).trans hfr' (fun _ _ h => h)
  have hg1 := hfr1.blk H7.out H8.out
  obtain ⟨g2, rfl, _, _⟩ := own_last hown' H12.out
  have hne : g2 ≠ g := fun e => own_ne hown' hg1 (by decide) (by rw [bl_own]; simp [bl, e])
  have hgs := set_of hg1 0 (.slice (some ⟨g2, 0, none⟩) m c')
  have hfrs : Fr (Ft g none) w1 (w1.setCell ⟨g, 0, none⟩ (.slice (some ⟨g2, 0, none⟩) m c')) := (Fr.refl _ _).setCell (fun _ => .inl rfl) _
  have howns := hfrs.own hown' (fun k hk => by
    rintro (h | h)
    · simp [Value.ownBlock] at hk; omega
    · simp [bl] at h)
  have hca : w1.cell? ⟨g, 0, none⟩ = some (.slice A q c) := cell_of hg1 0
  have hfa : w1.frozen? ⟨g, 0, none⟩ = false := free_of hg1 0
  have hcb : (w1.setCell ⟨g, 0, none⟩ (.slice (some ⟨g2, 0, none⟩) m c')).cell? ⟨g, 0, none⟩ = some (.slice (some ⟨g2, 0, none⟩) m c') := cell_of hgs 0
  have hcc : (w1.setCell ⟨g, 0, none⟩ (.slice (some ⟨g2, 0, none⟩) m c')).cell? ⟨g, 1, none⟩ = some (.int .i64 (n : Int)) := cell_of hgs 1
  obtain ⟨g3, hA3, hcd, hfd⟩ := own_last howns H12.out
  injection hA3 with hA3
  injection hA3 with hA3
  subst hA3
  obtain ⟨W, hW⟩ : ∃ W, W = w1.setCell ⟨g, 0, none⟩ (.slice (some ⟨g2, 0, none⟩) m c') := ⟨_, rfl⟩
  rw [← hW] at hgs howns hcb hcc hcd hfd hfrs
  obtain ⟨E1, E2, E3, hce, hfe⟩ := bit_end (z := (z : Int)) hgs howns hne hqm
  have hff : W.frozen? ⟨g, 1, none⟩ = false := free_of hgs 1
  have H5 := Lib.hid E1
  have H6 := Lib.hid E2
  have H11 := Lib.hid hW
  clear E1 E2 hgs howns hW hown' hg1
  have hq1 := H9.out
  have hr1 := H10.out
  go_wp2_with fail
  rw [← H11.out]
  go_still_tail 22, (by kernel_rfl)
  change wpList _ _ _ _ _ W.drew
  go_wp2_with fail
  go_end0
  have e0 := H2.out
  have e3 := H3.out
  have e1 : ((bs ++ [x.testBit 0]).length + 7) / 8 = m := by have := H12.out; simp; omega
  have e2 : (bs ++ [x.testBit 0]).length = n + 1 := by simp [e0]
  refine ⟨rfl, some ⟨g2, 0, none⟩, c', ⟨?_, ?_⟩, ?_, ?_⟩
  · rw [e1, e2]
    exact H5.out
  · rw [e1, H1.out]
    refine own_list H6.out ?_
    have hl : (List.map bytec (pack bs)).length = q := by simp [pack_length]; omega
    have h4 := H4.out
    simp at h4
    rw [List.set_append_right _ _ (by omega), hl, Nat.sub_self, List.map_append]
    simp [h4]
  · refine Fr.next (A' := some ⟨g2, 0, none⟩) (w' := W) ?_ ?_ E3
    · rw [H11.out]
      exact (hfr1.mono (fun b _ h => .inr h)).setCell (fun _ => .inl rfl) _
    · rcases hnx with h | h
      · exact .inl h
      · exact .inr ⟨_, h, by omega⟩
  · rcases hnx with h | h
    · exact .inl h
    · exact .inr ⟨_, h, by omega⟩
theorem wbit_any (g c : Nat) (A : Option Addr) (bs : List Bool) (x : Nat) (w : World) (hw : Wr w g A c bs) (hn : bs.length ≤ 1099511627776) (hx : x < 18446744073709551616) :
    Calls Tryd.prog 73 #[.pointer (some ⟨g, 0, none⟩), .int .u64 (x : Int)] w fun e w' => e = .returned (.tuple #[]) ∧ ∃ A' c', Wr w' g A' c' (bs ++ [x.testBit 0]) ∧ Fr (Ft g A) w w' ∧ Nx w A A' := by
  by_cases hm : bs.length % 8 = 0
  · exact wbit_new g c A bs x w hw hn hx hm
  · exact wbit_old g c A bs x w hw hn hx hm
def u64c (n : Nat) : Value := .int .u64 (n : Int)
theorem u64c_one (l : List Nat) : ∀ u ∈ l.map u64c, u.oneCell' = true := by
  intro u hu
  obtain ⟨b, _, rfl⟩ := List.mem_map.1 hu
  rfl
theorem flat_low_length (l : List Nat) (N : Nat) : (l.flatMap (low · N)).length = l.length * N := by
  induction l with
  | nil => simp
  | cons x l ih => simp [ih, low_length, Nat.add_mul]; omega
theorem flat_low_take {l : List Nat} {j x : Nat} (h : l[j]? = some x) (N : Nat) : (l.take (j + 1)).flatMap (low · N) = (l.take j).flatMap (low · N) ++ low x N := by
  rw [List.take_add_one, h]
  simp
set_option maxHeartbeats 800000 in
theorem put_any (g c : Nat) (A A2 : Option Addr) (k c2 : Nat) (n : Int) (bs : List Bool) (l : List Nat) (w : World) (hw : Wr w g A c bs) (hb : bs.length + 64 * k ≤ 1099511627776)
    (hr : Rd w A2 k (l.map u64c)) (hx : ∀ x ∈ l, x < 18446744073709551616) (hk : k ≤ 1099511627776) (hA : ∀ ad, A2 = some ad → ¬ Ft g A ad.block) :
    Calls Tryd.prog 42 #[.pointer (some ⟨g, 0, none⟩), .int .i64 n, .slice A2 k c2] w fun e w' => e = .returned (.tuple #[]) ∧ ∃ A' c', Wr w' g A' c' (bs ++ l.flatMap (low · (min n.toNat 64))) ∧ Fr (Ft g A) w w' ∧ Nx w A A' := by
  have hlen : l.length = k := by simpa using hr.1
  go_enter Tryd.func42, Tryd.ntmps42
  have HR := Lib.hid hr
  have HX := Lib.hid hx
  have HA := Lib.hid hA
  have HW := Lib.hid hw
  have HL := Lib.hid hlen
  clear hr hx hA hw hlen
  go_wp2_with fail
  refine (within_any n _).mono ?_
  rintro e w2 ⟨rfl, rfl⟩
  obtain ⟨N, hN⟩ : ∃ N, N = min n.toNat 64 := ⟨_, rfl⟩
  rw [← hN]
  have hN64 : N ≤ 64 := by omega
  have HN := Lib.hid hN
  clear hN
  go_wp2
  go_loopw [13] (fun i wr => ∃ (j : Nat) (A' : Option Addr) (c' : Nat), j ≤ k ∧ i = .int .i64 j ∧ Wr wr g A' c' (bs ++ (l.take j).flatMap (low · N)) ∧ Fr (Ft g A) w wr ∧ Nx w A A')
    (fun i _ => k - (intOf i).toNat)
  case atStart => exact ⟨0, A, c, by omega, rfl, by simpa using HW.out, Fr.refl _ _, Nx.refl _ _⟩
  case round =>
    obtain ⟨j, A', c', hj, rfl, hw, hfr, hnx⟩ := hrel
    have hsz := hfr.size
    by_cases hlt : j < k
    · obtain ⟨ad, u, hA2, hu, hc⟩ := (HR.out.fr hfr HA.out).at_ hlt
      obtain ⟨x, hx⟩ : ∃ x, l[j]? = some x := ⟨l[j]'(by have := HL.out; omega), List.getElem?_eq_getElem _⟩
      obtain rfl : u64c x = u := by simpa [hx] using hu
      have hx64 := HX.out x (List.mem_of_getElem? hx)
      have Hx := Lib.hid hx
      subst hA2
      unfold u64c at hc
      have HW1 := Lib.hid hw
      clear hu hx hw
      obtain ⟨wo, rfl⟩ : ∃ wo : World, wo = wr := ⟨_, rfl⟩
      go_wp2
      go_loopw [8, 18] (fun i0 i wr => ∃ (m : Nat) (A'' : Option Addr) (c'' : Nat), m ≤ N ∧ i = .int .i64 m ∧ Wr wr g A'' c'' (bs ++ (l.take j).flatMap (low · N) ++ low x m) ∧ Fr (Ft g A') wo wr ∧ Nx wo A' A'')
        (fun _ i _ => N - (intOf i).toNat)
      case atStart => exact ⟨0, A', c', by omega, rfl, by simpa [low] using HW1.out, Fr.refl _ _, Nx.refl _ _⟩
      case round =>
        obtain ⟨m, A'', c'', hm, rfl, hw, hfr2, hnx2⟩ := hrel
        have HW2 := Lib.hid hw
        clear hw
        by_cases hlt2 : m < N
        · go_wp2_with fail
          rw [show ((x : Int) / 2 ^ m) = ((x / 2 ^ m : Nat) : Int) from by simp]
          refine (wbit_any g c'' A'' _ (x / 2 ^ m) _ HW2.out ?_ (Nat.lt_of_le_of_lt (Nat.div_le_self _ _) hx64)).mono ?_
          · have h1 : ((l.take j).flatMap (low · N)).length ≤ j * 64 := by
              rw [flat_low_length, List.length_take]
              exact Nat.le_trans (Nat.mul_le_mul_right N (Nat.min_le_left _ _)) (Nat.mul_le_mul_left j hN64)
            have h2 : j + 1 ≤ k := hlt
            rw [List.length_append, List.length_append, low_length]
            omega
          rintro e w3 ⟨rfl, A3, c3, hw3, hfr3, hnx3⟩
          have HW3 := Lib.hid hw3
          clear hw3
          go_wp2
          go_roundw
          case rel =>
            refine ⟨m + 1, A3, c3, by omega, by go_num, ?_, Fr.next hfr2 hnx2 hfr3, hnx2.trans hnx3 hfr2.size⟩
            have h := HW3.out
            rw [Nat.testBit_div_two_pow, Nat.zero_add] at h
            rw [low_succ, ← List.append_assoc]
            exact h
          case measure => simp [intOf] <;> omega
        · go_wp2
          go_roundw
          case rel =>
            obtain rfl : m = N := by omega
            refine ⟨j + 1, A'', c'', by omega, by go_num, ?_, Fr.next hfr hnx hfr2, hnx.trans hnx2 hsz⟩
            rw [flat_low_take Hx.out, ← List.append_assoc]
            exact HW2.out
          case measure => simp [intOf] <;> omega
    · have HW1 := Lib.hid hw
      clear hw
      go_wp2
      go_end0
      obtain rfl : j = k := by omega
      have hl := HL.out
      have hw := HW1.out
      rw [List.take_of_length_le (by omega)] at hw
      rw [← HN.out]
      exact ⟨rfl, A', c', hw, hfr, hnx⟩
theorem low_get (x n i : Nat) (h : i < n) : (low x n)[i]? = some (x.testBit i) := by simp [low, h]
theorem rev_take (x N m : Nat) (h : m < N) : ((low x N).reverse).take (m + 1) = ((low x N).reverse).take m ++ [x.testBit (N - 1 - m)] := by
  rw [List.take_add_one, List.getElem?_reverse (by rw [low_length]; exact h), low_length, low_get _ _ _ (by omega)]
  rfl
set_option maxHeartbeats 800000 in
theorem code_any (g c : Nat) (A : Option Addr) (n : Int) (x : Nat) (bs : List Bool) (w : World) (hw : Wr w g A c bs) (hb : bs.length + 64 ≤ 1099511627776) (hx64 : x < 18446744073709551616) :
    Calls Tryd.prog 75 #[.pointer (some ⟨g, 0, none⟩), .int .i64 n, .int .u64 (x : Int)] w fun e w' => e = .returned (.tuple #[]) ∧ ∃ A' c', Wr w' g A' c' (bs ++ (low x (min n.toNat 64)).reverse) ∧ Fr (Ft g A) w w' ∧ Nx w A A' := by
  go_enter Tryd.func75, Tryd.ntmps75
  have HW := Lib.hid hw
  clear hw
  go_wp2_with fail
  refine (within_any n _).mono ?_
  rintro e w2 ⟨rfl, rfl⟩
  obtain ⟨N, hN⟩ : ∃ N, N = min n.toNat 64 := ⟨_, rfl⟩
  rw [← hN]
  have hN64 : N ≤ 64 := by omega
  have HN := Lib.hid hN
  clear hN
  go_wp2
  go_loopw [10] (fun i wr => ∃ (m : Nat) (A' : Option Addr) (c' : Nat), m ≤ N ∧ i = .int .i64 m ∧ Wr wr g A' c' (bs ++ ((low x N).reverse).take m) ∧ Fr (Ft g A) w wr ∧ Nx w A A')
    (fun i _ => N - (intOf i).toNat)
  case atStart => exact ⟨0, A, c, by omega, rfl, by simpa using HW.out, Fr.refl _ _, Nx.refl _ _⟩
  case round =>
    obtain ⟨m, A', c', hm, rfl, hw, hfr, hnx⟩ := hrel
    have HW2 := Lib.hid hw
    clear hw
    by_cases hlt : m < N
    · go_wp2_with fail
      rw [show ((x : Int) / 2 ^ (N - 1 - m)) = ((x / 2 ^ (N - 1 - m) : Nat) : Int) from by simp]
      refine (wbit_any g c' A' _ (x / 2 ^ (N - 1 - m)) _ HW2.out (by simp [low_length]; omega) (Nat.lt_of_le_of_lt (Nat.div_le_self _ _) hx64)).mono ?_
      rintro e w3 ⟨rfl, A3, c3, hw3, hfr3, hnx3⟩
      have HW3 := Lib.hid hw3
      clear hw3
      go_wp2
      go_roundw
      case rel =>
        refine ⟨m + 1, A3, c3, by omega, by go_num, ?_, Fr.next hfr hnx hfr3, hnx.trans hnx3 hfr.size⟩
        have h := HW3.out
        rw [Nat.testBit_div_two_pow, Nat.zero_add] at h
        rw [rev_take x N m hlt, ← List.append_assoc]
        exact h
      case measure => simp [intOf] <;> omega
    · go_wp2
      go_end0
      obtain rfl : m = N := by omega
      have hw := HW2.out
      rw [List.take_of_length_le (by rw [List.length_reverse, low_length]; omega)] at hw
      rw [← HN.out]
      exact ⟨rfl, A', c', hw, hfr, hnx⟩
theorem Wr.drew {w : World} {g c : Nat} {A : Option Addr} {bs : List Bool} (h : Wr w g A c bs) : Wr w.drew g A c bs := h
theorem Wr.drewN {w : World} {g c : Nat} {A : Option Addr} {bs : List Bool} (h : Wr w g A c bs) (n : Nat) : Wr (w.drewN n) g A c bs := h
set_option maxHeartbeats 400000 in
theorem len_any (g c : Nat) (A : Option Addr) (bs : List Bool) (w : World) (hw : Wr w g A c bs) :
    Calls Tryd.prog 17 #[.pointer (some ⟨g, 0, none⟩)] w fun e w' => e = .returned (.int .i64 (bs.length : Int)) ∧ w = w' := by
  have hc1 : w.cell? ⟨g, 1, none⟩ = some (.int .i64 (bs.length : Int)) := cell_of hw.1 1
  clear hw
  go_enter Tryd.func17, Tryd.ntmps17
  go_wp2
  go_ret
  exact ⟨rfl, rfl⟩
/-- a copy of a row of bytes: 'append([]byte(nil), b...)' -/
theorem Rd.of_row {w : World} {base : Nat} {e : TypeId} {A : Option Addr} {n c : Nat} {xs : List Value} (h : w.ownsRow base e 1 (.slice A n c) n xs) : Rd w A n xs := Rd.of_own h
set_option maxHeartbeats 400000 in
theorem wbytes_any (g c : Nat) (A : Option Addr) (bs : List Bool) (w : World) (hw : Wr w g A c bs) (hb : bs.length ≤ 1099511627776) :
    Calls Tryd.prog 18 #[.pointer (some ⟨g, 0, none⟩)] w fun e w' => ∃ A' c', e = .returned (.slice A' (pack bs).length c') ∧ w'.ownsRow w.heap.size 5 1 (.slice A' (pack bs).length c') (pack bs).length ((pack bs).map bytec) ∧ Fr (fun _ => False) w w' := by
  obtain ⟨hg, hown⟩ := hw
  have hr := Rd.of_own hown
  have hpl := pack_length bs
  rw [← hpl] at hg hr
  have hc0 : w.cell? ⟨g, 0, none⟩ = some (.slice A (pack bs).length c) := cell_of hg 0
  have hb' : (pack bs).length ≤ 1099511627776 := by omega
  clear hg hown hpl
  go_enter Tryd.func18, Tryd.ntmps18
  go_wp2_with (at_builtin; refine wpList_appN u8T _ rfl _ _ rfl w.heap.size _ _ _ rfl (World.ownsRow_nil _ _ _ _) _ _ _ _ rfl hr (bytec_one _) (pack bs).length (by omega) (by unfold maxLen; omega) (by omega) (Nat.le_refl _) ?_)
  intro A' c' w' _ _ hown' hfr' _
  go_wp2
  go_ret
  exact ⟨_, _, rfl, own_list hown' (by simp), hfr'.mono (fun b _ h => by simp [Value.ownBlock] at h)⟩
/-- Low of a number of bits that is small -/
theorem low_nat (x n : Nat) (hn : n ≤ 64) (hx : x < 18446744073709551616) (w : World) : Calls Tryd.prog 67 #[.int .u64 (x : Int), .int .i64 (n : Int)] w fun e w' => ∃ A c, e = .returned (.slice A n c) ∧ w'.ownsRow w.heap.size 5 1 (.slice A n c) n ((low x n).map bitc) ∧ Fr (fun _ => False) w w' := by
  have h := low_any x (n : Int) w hx (by omega) (by omega)
  rw [Int.toNat_natCast, Nat.min_eq_left hn] at h
  exact h
theorem low_5 (x : Nat) (hx : x < 18446744073709551616) (w : World) : Calls Tryd.prog 67 #[.int .u64 (x : Int), .int .i64 5] w fun e w' => ∃ A c, e = .returned (.slice A 5 c) ∧ w'.ownsRow w.heap.size 5 1 (.slice A 5 c) 5 ((low x 5).map bitc) ∧ Fr (fun _ => False) w w' := low_nat x 5 (by omega) hx w
theorem low_4 (x : Nat) (hx : x < 18446744073709551616) (w : World) : Calls Tryd.prog 67 #[.int .u64 (x : Int), .int .i64 4] w fun e w' => ∃ A c, e = .returned (.slice A 4 c) ∧ w'.ownsRow w.heap.size 5 1 (.slice A 4 c) 4 ((low x 4).map bitc) ∧ Fr (fun _ => False) w w' := low_nat x 4 (by omega) hx w
theorem low_3 (x : Nat) (hx : x < 18446744073709551616) (w : World) : Calls Tryd.prog 67 #[.int .u64 (x : Int), .int .i64 3] w fun e w' => ∃ A c, e = .returned (.slice A 3 c) ∧ w'.ownsRow w.heap.size 5 1 (.slice A 3 c) 3 ((low x 3).map bitc) ∧ Fr (fun _ => False) w w' := low_nat x 3 (by omega) hx w
theorem high_nat (x n : Nat) (hn : n ≤ 64) (hx : x < 18446744073709551616) (w : World) : Calls Tryd.prog 65 #[.int .u64 (x : Int), .int .i64 (n : Int)] w fun e w' => ∃ A c, e = .returned (.slice A n c) ∧ w'.ownsRow w.heap.size 5 1 (.slice A n c) n ((low x n).reverse.map bitc) ∧ Fr (fun _ => False) w w' := by
  have h := high_any x (n : Int) w hx (by omega) (by omega)
  rw [Int.toNat_natCast, Nat.min_eq_left hn] at h
  exact h
end Go.Proofs.YtahfmcdhcbfkaaaDoor
namespace Go.Proofs.YtahfmcdhcbfkaaaDoor
open Go.RowKit BitsM Mem Go.Lib
set_option linter.unusedVariables false
set_option maxRecDepth 100000

theorem Wr.frA {S : Nat → Prop} {w w' : World} {g c : Nat} {A : Option Addr} {bs : List Bool} (h : Wr w g A c bs) (hf : Fr S w w') (hg : ¬ S g) (hA : ∀ k, bl A = some k → ¬ S k) : Wr w' g A c bs :=
  ⟨hf.blk h.1 hg, hf.own h.2 (fun k hk => hA k (by rw [bl_own] at hk; exact hk))⟩
theorem Wr.lt {w : World} {g c : Nat} {A : Option Addr} {bs : List Bool} (h : Wr w g A c bs) : g < w.heap.size ∧ ∀ k, bl A = some k → k < w.heap.size :=
  ⟨lt_of_heap h.1, fun k hk => (h.2.lt k (by rw [bl_own]; exact hk)).2⟩
/-- a new block is not the Writer's -/
theorem Wr.new {w : World} {g c k : Nat} {A : Option Addr} {bs : List Bool} (h : Wr w g A c bs) (hk : w.heap.size ≤ k) : ¬ Ft g A k := by
  intro hf
  rcases hf with hf | hf
  · have := h.lt.1; omega
  · have := h.lt.2 k hf; omega
/-- what was not the Writer's, and is older, is not now -/
theorem Nx.old {w : World} {g k : Nat} {A A' : Option Addr} (h : Nx w A A') (hk : k < w.heap.size) (hn : ¬ Ft g A k) : ¬ Ft g A' k := by
  intro hf
  rcases hf with hf | hf
  · exact hn (.inl hf)
  · rcases h with h | ⟨b, h, hb⟩
    · exact hn (.inr (h ▸ hf))
    · rw [h] at hf
      injection hf with hf
      omega
/-- one number is put -/
theorem put1_any (g c : Nat) (A : Option Addr) (n x : Nat) (bs : List Bool) (w3 : World) (hw : Wr w3 g A c bs) (hb : bs.length ≤ 3000000000) (hn : n ≤ 64) (hx : x < 18446744073709551616) :
    Calls Tryd.prog 42 #[.pointer (some ⟨g, 0, none⟩), .int .i64 (n : Int), .slice (some ⟨w3.heap.size, 0, none⟩) 1 1] (w3.alloc (.cells #[.int .u64 (x : Int)] 44)) fun e w' => e = .returned (.tuple #[]) ∧ ∃ A' c', Wr w' g A' c' (bs ++ low x n) ∧ Fr (Ft g A) w3 w' ∧ Nx w3 A A' := by
  have h := put_any g c A (some ⟨w3.heap.size, 0, none⟩) 1 1 (n : Int) bs [x] _ (hw.frA ((Fr.refl (fun _ => False) w3).alloc _) (fun h => h) (fun _ _ h => h)) (by omega) (Rd.one w3 (.int .u64 (x : Int)) 44) (fun y hy => by simp at hy; omega) (by omega) (fun ad h => by injection h with h; subst h; exact hw.new (Nat.le_refl _))
  rw [Int.toNat_natCast, List.flatMap_cons, List.flatMap_nil, List.append_nil, Nat.min_eq_left hn] at h
  refine h.mono ?_
  rintro e w5 ⟨rfl, A5, c5, hw5, hf5, hn5⟩
  refine ⟨rfl, A5, c5, hw5, ((Fr.refl (fun _ => False) w3).alloc _).mono (fun _ _ h => h.elim) |>.trans hf5 (fun _ _ h => h), ?_⟩
  rcases hn5 with h | ⟨b, h, hb⟩
  · exact .inl h
  · exact .inr ⟨b, h, by simp at hb; omega⟩
/-- what a call that turned nothing leaves of a Writer -/
theorem Fr.none {S : Nat → Prop} {w w' : World} (h : Fr (fun _ => False) w w') : Fr S w w' := h.mono (fun _ _ h => h.elim)
theorem Nx.back {w w' : World} {A A' : Option Addr} (h : Nx w' A A') (hs : w.heap.size ≤ w'.heap.size) : Nx w A A' := by
  rcases h with h | ⟨b, h, hb⟩
  · exact .inl h
  · exact .inr ⟨b, h, Nat.le_trans hs hb⟩
end Go.Proofs.YtahfmcdhcbfkaaaDoor
namespace Go.Proofs.YtahfmcdhcbfkaaaDoor
open Go.RowKit BitsM Mem Go.Lib
attribute [local go_sem ↓] Go.wp_at_zero Go.wp_at_succ
set_option linter.unusedVariables false
set_option maxRecDepth 100000

theorem blockSize : (Tryd.prog.info? 36).map (·.size) = some 1 := by kernel_rfl
set_option maxHeartbeats 1600000 in
theorem begin9_any (g c : Nat) (A : Option Addr) (bs : List Bool) (last kind : Nat) (w : World) (hw : Wr w g A c bs) (hb : bs.length ≤ 2000000000) (hl : last < 18446744073709551616) (hk : kind < 18446744073709551616) :
    Calls Tryd.prog 22 #[.pointer (some ⟨g, 0, none⟩), .int .u64 (last : Int), .int .u64 (kind : Int)] w fun e w' => e = .returned (.agg #[.pointer (some ⟨g, 0, none⟩)]) ∧ ∃ A' c', Wr w' g A' c' (bs ++ low last 1 ++ low kind 2) ∧ Fr (Ft g A) w w' ∧ Nx w A A' := by
  have HB := Lib.hid hb
  have HLK := Lib.hid (And.intro hl hk)
  obtain ⟨w0, hw0⟩ : ∃ w0, w0 = w.alloc (.cells #[Value.pointer none] 36) := ⟨_, rfl⟩
  obtain ⟨p, hp⟩ : ∃ p, p = w.heap.size := ⟨_, rfl⟩
  obtain ⟨q, hq⟩ : ∃ q, q = p + 1 := ⟨_, rfl⟩
  have hr0 : Row w0 p 36 [Value.pointer none] := by rw [hw0, hp]; exact Row.new w _ _
  have hf0 : Fr (fun _ => False) w w0 := by rw [hw0]; exact (Fr.refl _ w).alloc _
  have hq0 : w0.heap.size = q := by rw [hw0, hq, hp]; simp
  have hW0 := hw.frA hf0 (fun h => h) (fun _ _ h => h)
  obtain ⟨w1, hw1⟩ : ∃ w1, w1 = w0.alloc (.cells #[Value.pointer (some ⟨g, 0, none⟩)] 36) := ⟨_, rfl⟩
  have hr1 : Row w1 q 36 [Value.pointer (some ⟨g, 0, none⟩)] := by rw [hw1, ← hq0]; exact Row.new w0 _ _
  have hp1 : Row w1 p 36 [Value.pointer none] := by rw [hw1]; exact hr0.alloc _
  have hf01 : Fr (fun _ => False) w0 w1 := by rw [hw1]; exact (Fr.refl _ w0).alloc _
  have hf1 : Fr (fun _ => False) w w1 := hf0.trans hf01 (fun _ _ h => h)
  have HPN := Lib.hid (hw.new (k := p) (by omega))
  have HQN := Lib.hid (hw.new (k := q) (by omega))
  have HW1 := Lib.hid (hw.frA hf1 (fun h => h) (fun _ _ h => h))
  have HF1 := Lib.hid hf1
  have HR1 := Lib.hid hr1
  have HP1 := Lib.hid hp1
  have HPL := Lib.hid (And.intro hp1.lt hr1.lt)
  have HQP : Hid (p ≠ q) := Lib.hid (by omega)
  have HPB : Hid (w.heap.size ≤ p) := Lib.hid (by omega)
  have c1 : w1.cell? ⟨q, 0, none⟩ = some (.pointer (some ⟨g, 0, none⟩)) := hr1.cell rfl
  have HPU1 : Hid (Calls Tryd.prog 42 #[.pointer (some ⟨g, 0, none⟩), .int .i64 1, .slice (some ⟨w1.heap.size, 0, none⟩) 1 1] (w1.alloc (.cells #[.int .u64 (last : Int)] 44)) fun e w' => e = .returned (.tuple #[]) ∧ ∃ A' c', Wr w' g A' c' (bs ++ low last 1) ∧ Fr (Ft g A) w1 w' ∧ Nx w1 A A') :=
      Lib.hid (put1_any g c A 1 last bs w1 HW1.out (by have := HB.out; omega) (by omega) HLK.out.1)
  clear hW0 hw hb hl hk hr0 hf0 hq0 hr1 hp1 hf01 hf1
  go_enter Tryd.func22, Tryd.ntmps22
  go_upto_region 1 with fail
  go_upto_region 2 with fail
  rw [← hw0, ← hw1, ← hp, ← hq]
  clear hw0 hw1 hp hq
  go_wp2_with fail
  refine HPU1.out.mono ?_
  rintro e w2 ⟨rfl, A2, c2, hw2, hf2, hn2⟩
  have hr2 := Row.fr HR1.out hf2 HQN.out
  have c2' : w2.cell? ⟨q, 0, none⟩ = some (.pointer (some ⟨g, 0, none⟩)) := hr2.cell rfl
  have HR2 := Lib.hid hr2
  have HP2 := Lib.hid (Row.fr HP1.out hf2 HPN.out)
  have HF2 := Lib.hid hf2
  have HN2 := Lib.hid hn2
  have HNP := Lib.hid (And.intro (hn2.old HPL.out.1 HPN.out) (hn2.old HPL.out.2 HQN.out))
  have HPU2 : Hid (Calls Tryd.prog 42 #[.pointer (some ⟨g, 0, none⟩), .int .i64 2, .slice (some ⟨w2.heap.size, 0, none⟩) 1 1] (w2.alloc (.cells #[.int .u64 (kind : Int)] 44)) fun e w' => e = .returned (.tuple #[]) ∧ ∃ A' c', Wr w' g A' c' (bs ++ low last 1 ++ low kind 2) ∧ Fr (Ft g A2) w2 w' ∧ Nx w2 A2 A') :=
      Lib.hid (put1_any g c2 A2 2 kind (bs ++ low last 1) w2 hw2 (by rw [List.length_append, low_length]; have := HB.out; omega) (by omega) HLK.out.2)
  clear HPU1 hw2 hf2 hn2 hr2 c1
  go_wp2_with fail
  refine HPU2.out.mono ?_
  rintro e w3 ⟨rfl, A3, c3, hw3, hf3, hn3⟩
  have hr3 := Row.fr HR2.out hf3 HNP.out.2
  have hp3 := Row.fr HP2.out hf3 HNP.out.1
  have c3' : w3.cell? ⟨q, 0, none⟩ = some (.pointer (some ⟨g, 0, none⟩)) := hr3.cell rfl
  have cp3 : w3.cell? ⟨p, 0, none⟩ = some (.pointer none) := hp3.cell rfl
  have fp3 := hp3.free 0
  have HP3 := Lib.hid hp3
  have HF3 := Lib.hid ((HF1.out.mono (fun _ _ h => h.elim)).trans (Fr.next HF2.out HN2.out hf3) (fun _ _ h => h))
  have HN3 := Lib.hid ((HN2.out.trans hn3 HF2.out.size).back HF1.out.size)
  have HW3 := Lib.hid hw3
  have HNP3 := Lib.hid (hn3.old (Row.lt HP2.out) HNP.out.1)
  clear HPU2 hw3 hf3 hn3 hr3 hp3 c2'
  go_wp2_with fail
  have hr4 := HP3.out.set 0 (.pointer (some ⟨g, 0, none⟩))
  have hf4 := Fr.set1 w3 p 0 (.pointer (some ⟨g, 0, none⟩))
  obtain ⟨w4, hw4⟩ : ∃ w4, w4 = w3.setCell ⟨p, 0, none⟩ (.pointer (some ⟨g, 0, none⟩)) := ⟨_, rfl⟩
  rw [← hw4] at hr4 hf4 ⊢
  have d0 : w4.cell? ⟨p, 0, none⟩ = some (.pointer (some ⟨g, 0, none⟩)) := hr4.cell rfl
  have HW4 := Lib.hid (HW3.out.frA hf4 (fun h => HNP3.out (.inl h.symm)) (fun k hk h => HNP3.out (.inr (by rw [hk, h]))))
  have HF4 := Lib.hid (HF3.out.trans hf4 (fun b hb h => by have := HPB.out; omega))
  clear hr4 hf4 c3' cp3 fp3 hw4
  exact bodyPost_ret (v := .agg #[.pointer (some ⟨g, 0, none⟩)]) (by simp [results, Tryd.results22, go_sem, d0]) rfl ⟨rfl, A3, c3, HW4.out, HF4.out, HN3.out⟩
end Go.Proofs.YtahfmcdhcbfkaaaDoor
namespace Go.Proofs.YtahfmcdhcbfkaaaDoor
open Go.RowKit CoM Mem Go.Lib
attribute [local go_sem ↓] Go.wp_at_zero Go.wp_at_succ
set_option linter.unusedVariables false

theorem itmSz : (Tryd.prog.info? 126).map (·.size) = some 3 := by kernel_rfl
theorem itm_one (a b c : Nat) : [Value.int .i64 (a : Int), .int .i64 (b : Int), .int .u64 (c : Int)].toArray.all (·.oneCell') = true := by simp [Value.oneCell']
def itv (t : It) : Value := .agg #[.int .i64 (t.s : Int), .int .i64 (t.b : Int), .int .u64 (t.x : Int)]
theorem spn_le {k a b c : Nat} (h : spn[k]? = some (a, b, c)) : a ≤ b ∧ b ≤ 138 ∧ c ≤ 7 ∧ 3 ≤ a ∧ b < a + 2 ^ c := by
  match k, h with
  | 0, h => simp [spn] at h; obtain ⟨rfl, rfl, rfl⟩ := h; decide
  | 1, h => simp [spn] at h; obtain ⟨rfl, rfl, rfl⟩ := h; decide
  | 2, h => simp [spn] at h; obtain ⟨rfl, rfl, rfl⟩ := h; decide
  | k + 3, h => simp [spn] at h
set_option maxRecDepth 100000 in
set_option maxHeartbeats 1600000 in
theorem repeat_any (s k a b c n m : Nat) (hk : s = 16 + k) (h : spn[k]? = some (a, b, c)) (hn : a ≤ n) (hn2 : n ≤ 1000000) (hm : m = min n b) (w : World) (hG : GlS w) :
    Calls Tryd.prog 97 #[.int .i64 (s : Int), .int .i64 (n : Int)] w fun e w' => e = .returned (.tuple #[itv ⟨s, c, m - a⟩, .int .i64 (m : Int)]) ∧ Fr (fun _ => False) w w' := by
  obtain ⟨b1, b2, b3, b4, b5⟩ := spn_le h
  obtain ⟨x, hx⟩ : ∃ x, x = m - a := ⟨_, rfl⟩
  have hxi : (m : Int) - (a : Int) = (x : Int) := by omega
  have hxw : IntKind.i64.wrap ((m : Int) - (a : Int)) = (x : Int) := by rw [IntKind.wrap_i64]; omega
  have hxu : IntKind.u64.wrap ((m : Int) - (a : Int)) = (x : Int) := by unfold IntKind.wrap; simp [IntKind.bits, IntKind.signed]; omega
  have q1 := run_min8 (n : Int) (b : Int) (m : Int) (by omega)
  have q2 := conv_u64 x (by omega)
  have hsp : ∀ w, GlS w → Calls Tryd.prog 96 #[.int .i64 (s : Int)] w fun e w' => e = .returned (.agg #[.int .i64 (a : Int), .int .i64 (b : Int), .int .i64 (c : Int)]) ∧ Fr (fun _ => False) w w' := fun w hG => spanOf_any s k a b c hk h w hG
  have HSP := Lib.hid hsp
  have hmb : m ≤ 138 := by omega
  have HG := Lib.hid hG
  unfold itv
  simp only
  rw [← hx]
  clear hsp hG h hk hm hx b1 b2 b3 b4 b5 hn
  go_enter Tryd.func97, Tryd.ntmps97
  go_upto_region 1 with fail
  obtain ⟨w1, hw1⟩ : ∃ w1, w1 = w.alloc (.cells #[Value.int .i64 0, .int .i64 0, .int .u64 0] 126) := ⟨_, rfl⟩
  have hr1 : Row w1 w.heap.size 126 [Value.int .i64 0, .int .i64 0, .int .u64 0] := by rw [hw1]; exact Row.new w _ _
  have hf1 : Fr (fun _ => False) w w1 := by rw [hw1]; exact (Fr.refl _ w).alloc _
  obtain ⟨r, hr⟩ : ∃ r, r = w.heap.size := ⟨_, rfl⟩
  rw [← hw1]
  rw [← hr] at hr1 ⊢
  have HF1 := Lib.hid hf1
  have HR1 := Lib.hid hr1
  have HRW : Hid (w.heap.size ≤ r) := Lib.hid (by omega)
  have HG1 := Lib.hid (HG.out.fr0 hf1)
  clear hw1 hf1 hr1 hr
  go_wp2_with (first
    | (refine (HSP.out w1 HG1.out).mono ?_
       rintro e w2 ⟨rfl, hf2⟩
       have HF2 := Lib.hid (HF1.out.trans hf2 (fun _ _ h => h))
       have HR2 := Lib.hid (HR1.out.fr hf2 (fun h => h))
       clear hf2)
    | (refine store_st itmSz rfl (.tmp 4) (.tmp 21) rfl r (by rfl) [.int .i64 (s : Int), .int .i64 (c : Int), .int .u64 (x : Int)] (by rfl) _ _ (HR2.out.alloc _) rfl rfl (itm_one s c x) ?_
       intro w4 hr4 hf4
       have HR4 := Lib.hid hr4
       have HF4 := Lib.hid ((HF2.out.alloc _).trans hf4 (fun b hb h => by have := HRW.out; omega))
       clear hr4 hf4))
  have d0 : w4.cell? ⟨r, 0, none⟩ = some (.int .i64 (s : Int)) := HR4.out.cell rfl
  have d1 : w4.cell? ⟨r, 1, none⟩ = some (.int .i64 (c : Int)) := HR4.out.cell rfl
  have d2 : w4.cell? ⟨r, 2, none⟩ = some (.int .u64 (x : Int)) := HR4.out.cell rfl
  go_wp2_with fail
  exact bodyPost_ret (v := .tuple #[.agg #[.int .i64 (s : Int), .int .i64 (c : Int), .int .u64 (x : Int)], .int .i64 (m : Int)]) (by simp [results, Tryd.results97, go_sem, d0, d1, d2]) rfl ⟨rfl, HF4.out⟩
end Go.Proofs.YtahfmcdhcbfkaaaDoor
