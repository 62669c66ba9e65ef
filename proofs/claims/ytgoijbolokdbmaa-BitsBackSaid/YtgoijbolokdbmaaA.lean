/-
  Contracts of layer 1's reference: Low, High, Num, Full, Bytes, Of (lists of bits).
-/
import Derived.Test.YtgoijbolokdbmaaRows
import Derived.Test.YtgoijbolokdbmaaBitsM
import Derived.Test.YtgoijbolokdbmaaMem
import Derived.WalkKit
import Derived.WalkSpells
import Derived.WalkLawsBesides
namespace Go.Proofs.Ytgoijbolokdbmaa
open Go.RowKit BitsM Mem

theorem u8T : ElemTy Try.prog 25 5 (.int .u8 0) 1 := ⟨Try.underlying25, by kernel_rfl, rfl⟩
def bitc (b : Bool) : Value := .int .u8 (b.toNat : Int)
def bytec (b : UInt8) : Value := .int .u8 (b.toNat : Int)
theorem bitc_one (l : List Bool) : ∀ u ∈ l.map bitc, u.oneCell' = true := by
  intro u hu
  obtain ⟨b, _, rfl⟩ := List.mem_map.1 hu
  rfl
theorem bytec_one (l : List UInt8) : ∀ u ∈ l.map bytec, u.oneCell' = true := by
  intro u hu
  obtain ⟨b, _, rfl⟩ := List.mem_map.1 hu
  rfl
theorem one_one (k : IntKind) (n : Int) : ∀ u ∈ [Value.int k n], u.oneCell' = true := by
  intro u hu
  simp at hu; subst hu; rfl
theorem bitc_low {x k z : Nat} (h : z = x / 2 ^ k) : Value.int .u8 ((z : Int) % 2) = bitc (x.testBit k) := by
  subst h
  unfold bitc
  rw [Nat.testBit_eq_decide_div_mod_eq]
  have e : ((x / 2 ^ k : Nat) : Int) % 2 = ((x / 2 ^ k % 2 : Nat) : Int) := by omega
  rw [e]
  rcases Nat.mod_two_eq_zero_or_one (x / 2 ^ k) with h | h <;> simp [h]

set_option maxHeartbeats 400000 in
theorem low_any (x : Nat) (n : Int) (w : World) (hx1 : x < 18446744073709551616) (hn0 : -9223372036854775808 ≤ n) (hn1 : n ≤ 9223372036854775807) :
    Calls Try.prog 11 #[.int .u64 (x : Int), .int .i64 n] w fun e w' => ∃ A c, e = .returned (.slice A (min n.toNat 64) c) ∧ w'.ownsRow w.heap.size 5 1 (.slice A (min n.toNat 64) c) (min n.toNat 64) ((low x (min n.toNat 64)).map bitc) ∧ Fr (fun _ => False) w w' := by
  go_enter Try.func11, Try.ntmps11
  go_wp2
  go_loopw [0, 5, 6] (fun y v i wr => ∃ (k z : Nat) (A : Option Addr) (c : Nat), k ≤ min n.toNat 64 ∧ i = .int .i64 k ∧ y = .int .u64 (z : Int) ∧ z < 18446744073709551616 ∧ Hid (z = x / 2 ^ k) ∧ v = .slice A k c ∧ wr.ownsRow w.heap.size 5 1 (.slice A k c) k ((low x k).map bitc) ∧ Fr (fun _ => False) w wr)
    (fun _ _ i _ => 64 - (intOf i).toNat)
  case atStart => exact ⟨0, x, none, 0, Nat.zero_le _, rfl, rfl, hx1, by simp [Hid], rfl, World.ownsRow_nil _ _ _ _, Fr.refl _ _⟩
  case round =>
    obtain ⟨k, z, A, c, hk, rfl, rfl, hz, Hz, rfl, hown, hfr⟩ := hrel
    have hsz := hfr.size
    by_cases hlt : (k : Int) < n
    · by_cases h64 : (k : Int) < 64
      · go_wp2_with (at_builtin; refine wpList_app u8T _ rfl _ _ rfl w.heap.size _ _ _ rfl (hown.alloc _) _ _ _ _ rfl (Rd.one _ _ _) (one_one _ _) (by unfold maxLen; omega) (by omega) (by simp; omega) ?_)
        intro A' c' w' _ _ hown' hfr' _
        go_wp2
        go_roundw
        case rel =>
          refine ⟨k + 1, z / 2, A', c', by omega, by go_num, by congr 1, by omega, ?_, rfl, ?_, ?_⟩
          · have := Hz.out; subst this; show _ = _; rw [Nat.pow_succ, Nat.div_div_eq_div_mul]
          · rw [low_succ, List.map_append]
            rw [bitc_low Hz.out] at hown'
            exact hown'
          · exact (hfr.alloc _).trans hfr' (fun b hb h => by have := hown.lt _ h; omega)
        case measure => simp [intOf] <;> omega
      · go_wp2
        go_ret
        obtain rfl : k = 64 := by omega
        rw [show min n.toNat 64 = 64 from by omega]
        exact ⟨_, _, rfl, hown, hfr⟩
    · go_wp2
      go_ret
      have hkk : min n.toNat 64 = k := by omega
      rw [hkk]
      exact ⟨_, _, rfl, hown, hfr⟩

theorem num_drop_lt (l : List Bool) (j : Nat) (hl : l.length ≤ 64) (hj : 0 < j) : num (l.drop j) < 9223372036854775808 := by
  have h := num_lt (l.drop j)
  have h2 : (l.drop j).length ≤ 63 := by simp; omega
  have := Nat.pow_le_pow_right (show 0 < 2 by omega) h2
  omega

set_option maxHeartbeats 400000 in
theorem num_any (A : Option Addr) (n c : Nat) (l : List Bool) (w : World) (hl : Rd w A n (l.map bitc)) (hn : n ≤ 64) :
    Calls Try.prog 23 #[.slice A n c] w fun e w' => e = .returned (.int .u64 ((num l : Nat) : Int)) ∧ w = w' := by
  have hlen : l.length = n := by simpa using hl.1
  go_enter Try.func23, Try.ntmps23
  go_wp2
  go_loop [3, 4] (fun x i => ∃ j z : Nat, j ≤ n ∧ i = .int .i64 ((j : Int) - 1) ∧ x = .int .u64 (z : Int) ∧ Hid (z = num (l.drop j)))
    (fun _ i => (intOf i + 1).toNat)
  case atStart => exact ⟨n, 0, Nat.le_refl _, rfl, rfl, by rw [List.drop_of_length_le (by omega)]; rfl⟩
  case round =>
    obtain ⟨j, z, hj, rfl, rfl, Hz⟩ := hrel
    cases j with
    | zero =>
      go_wp2
      go_ret
      exact ⟨by rw [Hz.out]; rfl, rfl⟩
    | succ m =>
      obtain ⟨ad, u, hA, hu, hc⟩ := hl.at_ (show m < n by omega)
      obtain ⟨b, hb⟩ : ∃ b, l[m]? = some b := ⟨l[m], List.getElem?_eq_getElem (by omega)⟩
      obtain rfl : bitc b = u := by simpa [hb] using hu
      have hz : z < 9223372036854775808 := by have := num_drop_lt l (m + 1) (by omega) (by omega); have h2 := Hz.out; omega
      rw [show (((m + 1 : Nat) : Int) - 1) = (m : Int) from by omega]
      subst hA
      unfold bitc at hc
      have hbb : b.toNat ≤ 1 := by cases b <;> simp
      clear hu hl
      go_wp2
      go_round
      case rel =>
        refine ⟨m, 2 * z + b.toNat, by omega, rfl, by congr 1, ?_⟩
        have h1 := Hz.out
        subst h1
        show _ = _
        obtain ⟨hm, rfl⟩ := List.getElem?_eq_some_iff.1 hb
        rw [List.drop_eq_getElem_cons hm, num]
        omega
      case measure => simp [intOf] <;> omega

set_option maxHeartbeats 400000 in
theorem high_any (x : Nat) (n : Int) (w : World) (hx1 : x < 18446744073709551616) (hn0 : -9223372036854775808 ≤ n) (hn1 : n ≤ 9223372036854775807) :
    Calls Try.prog 13 #[.int .u64 (x : Int), .int .i64 n] w fun e w' => ∃ A c, e = .returned (.slice A (min n.toNat 64) c) ∧ w'.ownsRow w.heap.size 5 1 (.slice A (min n.toNat 64) c) (min n.toNat 64) ((low x (min n.toNat 64)).reverse.map bitc) ∧ Fr (fun _ => False) w w' := by
  go_enter Try.func13, Try.ntmps13
  go_wp2_with fail
  refine (low_any x n w hx1 hn0 hn1).mono ?_
  rintro e w1 ⟨A0, c0, rfl, hown0, hfr0⟩
  obtain ⟨M, hM⟩ : ∃ M, min n.toNat 64 = M := ⟨_, rfl⟩
  rw [hM] at hown0 ⊢
  have hM64 : M ≤ 64 := by omega
  have HM := Lib.hid hM
  clear hM
  obtain ⟨L, hL⟩ : ∃ L, L = low x M := ⟨_, rfl⟩
  have hLl : L.length = M := by rw [hL, low_length]
  rw [← hL] at hown0
  have HL := Lib.hid hL
  clear hL
  go_wp2
  go_loopw [6, 7] (fun v i wr => ∃ (j : Nat) (A : Option Addr) (c : Nat), j ≤ M ∧ i = .int .i64 ((j : Int) - 1) ∧ v = .slice A (M - j) c ∧ wr.ownsRow w1.heap.size 5 1 (.slice A (M - j) c) (M - j) ((L.drop j).reverse.map bitc) ∧ Fr (fun _ => False) w1 wr)
    (fun _ i _ => (intOf i + 1).toNat)
  case atStart =>
    exact ⟨M, none, 0, Nat.le_refl _, rfl, by rw [Nat.sub_self], by rw [Nat.sub_self, List.drop_of_length_le (by omega)]; exact World.ownsRow_nil _ _ _ _, Fr.refl _ _⟩
  case round =>
    obtain ⟨j, A, c, hj, rfl, rfl, hown, hfr⟩ := hrel
    have hsz := hfr.size
    have hsz0 := hfr0.size
    cases j with
    | zero =>
      go_wp2
      go_ret
      rw [HM.out, ← HL.out]
      exact ⟨_, _, rfl, own_base hown hsz0, hfr0.trans hfr (fun _ _ h => h)⟩
    | succ m =>
      obtain ⟨ad, u, hA, hu, hc⟩ := (Rd.of_own (hfr.own hown0 (fun _ _ h => h))).at_ (show m < M by omega)
      obtain ⟨b, hb⟩ : ∃ b, L[m]? = some b := ⟨L[m], List.getElem?_eq_getElem (by omega)⟩
      obtain rfl : bitc b = u := by simpa [hb] using hu
      rw [show (((m + 1 : Nat) : Int) - 1) = (m : Int) from by omega]
      subst hA
      unfold bitc at hc
      have hbb : b.toNat ≤ 1 := by cases b <;> simp
      clear hu
      go_wp2_with (at_builtin; refine wpList_app u8T _ rfl _ _ rfl w1.heap.size _ _ _ rfl (hown.alloc _) _ _ _ _ rfl (Rd.one _ _ _) (one_one _ _) (by unfold maxLen; omega) (by omega) (by simp; omega) ?_)
      intro A' c' w' _ _ hown' hfr' _
      go_wp2
      go_roundw
      case rel =>
        rw [show M - (m + 1) + 1 = M - m from by omega] at hown' ⊢
        refine ⟨m, A', c', by omega, rfl, rfl, ?_, ?_⟩
        · obtain ⟨hm, rfl⟩ := List.getElem?_eq_some_iff.1 hb
          rw [List.drop_eq_getElem_cons hm, List.reverse_cons, List.map_append, List.map_reverse, List.map_drop]
          exact hown'
        · exact (hfr.alloc _).trans hfr' (fun b hb h => by have := hown.lt _ h; omega)
      case measure => simp [intOf] <;> omega

theorem fullOf (L : List Bool) (m : Nat) (h1 : L.length ≤ m) (h2 : m ≤ L.length + lack L.length) (h : m % 8 = 0) : L ++ List.replicate (m - L.length) false = full L ∧ (full L).length = m := by
  have : m = L.length + lack L.length := by unfold lack at *; omega
  rw [full_length]
  exact ⟨by rw [this, Nat.add_sub_cancel_left]; rfl, this.symm⟩

set_option maxHeartbeats 400000 in
theorem full_any (A : Option Addr) (n c : Nat) (L : List Bool) (w : World) (hl : Rd w A n (L.map bitc)) (hn : n ≤ 1099511627776) :
    Calls Try.prog 15 #[.slice A n c] w fun e w' => ∃ A c, e = .returned (.slice A (full L).length c) ∧ w'.ownsRow w.heap.size 5 1 (.slice A (full L).length c) (full L).length ((full L).map bitc) ∧ Fr (fun _ => False) w w' := by
  have hlen : L.length = n := by simpa using hl.1
  have h0 := World.ownsRow_made (e := 5) (size := 1) w #[] 0 (Nat.le_refl _) (Nat.zero_le _) rfl
  have h1 := hl.fr ((Fr.refl (fun _ => False) w).alloc (.cells #[] 5)) (fun _ _ h => h)
  clear hl
  have Hlen := Lib.hid hlen
  clear hlen
  go_enter Try.func15, Try.ntmps15
  go_wp2_with (at_builtin; refine wpList_app u8T _ rfl _ _ rfl w.heap.size _ _ _ rfl h0 _ _ _ _ rfl h1 (bitc_one _) (by unfold maxLen; omega) (by omega) (by simp) ?_)
  intro A' c' w1 _ _ hown' hfr' _
  have hfr1 : Fr (fun _ => False) w w1 := ((Fr.refl _ w).alloc _).trans hfr' (fun b hb h => by simp [Value.ownBlock] at h; omega)
  clear hfr' h0 h1
  try simp only [Nat.zero_add, List.nil_append] at hown'
  go_wp2
  go_loopw [3] (fun v wr => ∃ (m : Nat) (A : Option Addr) (c : Nat), n ≤ m ∧ m ≤ n + lack n ∧ m ≤ c ∧ c ≤ maxLen ∧ v = .slice A m c ∧ wr.ownsRow w.heap.size 5 1 (.slice A m c) m ((L ++ List.replicate (m - n) false).map bitc) ∧ Fr (fun _ => False) w wr)
    (fun v _ => match v with | .slice _ m _ => n + 8 - m | _ => 0)
  case atStart => exact ⟨n, A', c', Nat.le_refl _, by omega, by assumption, by assumption, rfl, by simpa using hown', hfr1⟩
  case round =>
    obtain ⟨m, A, c, hm1, hm2, _, _, rfl, hown, hfr⟩ := hrel
    have hsz := hfr.size
    have hk := lack_lt n
    clear hown' hfr1
    by_cases hm : m % 8 = 0
    · go_wp2
      go_ret
      have hlen := Hlen.out
      subst hlen
      obtain ⟨e1, e2⟩ := fullOf L m hm1 hm2 hm
      rw [e2, ← e1]
      exact ⟨_, _, rfl, hown, hfr⟩
    · have hlt : m < n + lack n := by
        rcases Nat.lt_or_ge m (n + lack n) with h | h
        · exact h
        · exact absurd (by rw [show m = n + lack n from by omega]; exact lack_add n) hm
      go_wp2_with (at_builtin; refine wpList_app u8T _ rfl _ _ rfl w.heap.size _ _ _ rfl (hown.alloc _) _ _ _ _ rfl (Rd.one _ _ _) (one_one _ _) (by unfold maxLen; omega) (by omega) (by simp; omega) ?_)
      intro A' c' w' _ _ hown' hfr' _
      go_wp2
      go_roundw
      case rel =>
        refine ⟨m + 1, A', c', by omega, by omega, by assumption, by assumption, rfl, ?_, (hfr.alloc _).trans hfr' (fun b hb h => by have := hown.lt _ h; omega)⟩
        exact own_list hown' (by rw [show m + 1 - n = (m - n) + 1 from by omega, List.replicate_succ']; simp [bitc])
      case measure => simp; omega

theorem byte_at (F : List Bool) (k : Nat) (hk : 8 * k < F.length) : ∃ b, (pack F)[k]? = some b ∧ bytec b = .int .u8 (((num ((F.take (8 * k + 8)).drop (8 * k)) : Nat) : Int) % 256) := by
  have h := pack_get F k (by omega)
  refine ⟨_, h, ?_⟩
  unfold bytec
  have e : (F.take (8 * k + 8)).drop (8 * k) = (F.drop (8 * k)).take 8 := by rw [List.drop_take, show 8 * k + 8 - 8 * k = 8 from by omega]
  have := num_take8_lt (F.drop (8 * k))
  rw [e]
  congr 1

set_option maxHeartbeats 400000 in
theorem bytes_any (A : Option Addr) (n c : Nat) (L : List Bool) (w : World) (hl : Rd w A n (L.map bitc)) (hn : n ≤ 1099511627776) :
    Calls Try.prog 20 #[.slice A n c] w fun e w' => ∃ A c, e = .returned (.slice A (pack L).length c) ∧ w'.ownsRow w.heap.size 5 1 (.slice A (pack L).length c) (pack L).length ((pack L).map bytec) ∧ Fr (fun _ => False) w w' := by
  have hlen : L.length = n := by simpa using hl.1
  go_enter Try.func20, Try.ntmps20
  go_wp2_with fail
  refine (full_any A n c L w hl hn).mono ?_
  rintro e w1 ⟨A0, c0, rfl, hown0, hfr0⟩
  have hpk := pack_full L
  have hpl := pack_length (full L)
  have hmod := full_mod L
  have hfl : (full L).length ≤ 1099511627784 := by rw [full_length]; have := lack_lt L.length; omega
  obtain ⟨F, hF⟩ : ∃ F, F = full L := ⟨_, rfl⟩
  rw [← hF] at hown0 hpk hpl hmod hfl ⊢
  clear hl
  have HF := Lib.hid hF
  clear hF
  obtain ⟨m, hm⟩ : ∃ m, F.length = m := ⟨_, rfl⟩
  rw [hm] at hown0 hpl hmod hfl ⊢
  have HM := Lib.hid hm
  have HP := Lib.hid hpk
  have HPL := Lib.hid hpl
  clear hm hpk hpl
  obtain ⟨_, hc1, hc2⟩ := own_cap hown0
  go_wp2
  go_loopw [4, 5] (fun v i wr => ∃ (k : Nat) (A : Option Addr) (c : Nat), 8 * k ≤ m ∧ i = .int .i64 ((8 * k : Nat) : Int) ∧ v = .slice A k c ∧ wr.ownsRow w1.heap.size 5 1 (.slice A k c) k (((pack F).take k).map bytec) ∧ Fr (fun _ => False) w1 wr)
    (fun _ i _ => m - (intOf i).toNat)
  case atStart => exact ⟨0, none, 0, by omega, rfl, rfl, World.ownsRow_nil _ _ _ _, Fr.refl _ _⟩
  case round =>
    obtain ⟨k, A, c, hk, rfl, rfl, hown, hfr⟩ := hrel
    have hsz := hfr.size
    have hsz0 := hfr0.size
    by_cases hlt : 8 * k < m
    · have hr := (Rd.of_own (hfr.own hown0 (fun _ _ h => h))).cut' (k := 8 * k) (m := 8 * k + 8) (by omega) (by omega)
      rw [← List.map_take, ← List.map_drop, show 8 * k + 8 - 8 * k = 8 from by omega] at hr
      have HR := Lib.hid hr
      clear hr
      obtain ⟨b, hb1, hb2⟩ := byte_at F k (by have := HM.out; omega)
      have HB := Lib.hid hb2
      clear hb2
      go_wp2_with fail
      refine (num_any _ _ _ ((F.take (8 * k + 8)).drop (8 * k)) _ HR.out (by omega)).mono ?_
      rintro e w2 ⟨rfl, rfl⟩
      go_wp2_with (at_builtin; refine wpList_app u8T _ rfl _ _ rfl w1.heap.size _ _ _ rfl (hown.alloc _) _ _ _ _ rfl (Rd.one _ _ _) (one_one _ _) (by unfold maxLen; omega) (by omega) (by simp; omega) ?_)
      intro A' c' w' _ _ hown' hfr' _
      go_wp2
      go_roundw
      case rel =>
        refine ⟨k + 1, A', c', by omega, by go_num, rfl, ?_, (hfr.alloc _).trans hfr' (fun b hb h => by have := hown.lt _ h; omega)⟩
        have e : (pack F).take (k + 1) = (pack F).take k ++ [b] := by rw [List.take_add_one, hb1]; rfl
        rw [e, List.map_append, List.map_singleton, HB.out]
        exact own_list hown' (by simp)
      case measure => simp [intOf] <;> omega
    · go_wp2
      go_ret
      have hpl := HPL.out
      have hp := HP.out
      have hm := HM.out
      have hkl : k = (pack F).length := by omega
      rw [← hp]
      rw [← hkl]
      rw [List.take_of_length_le (by omega)] at hown
      exact ⟨_, _, rfl, own_base hown hsz0, hfr0.trans hfr (fun _ _ h => h)⟩

theorem low8_take (B : List UInt8) (k : Nat) (b : UInt8) (hb : B[k]? = some b) : bitsOf (B.take (k + 1)) = bitsOf (B.take k) ++ low b.toNat 8 := by
  rw [List.take_add_one, hb, bitsOf_append]
  simp [bitsOf]

set_option maxHeartbeats 400000 in
theorem of_any (A : Option Addr) (n c : Nat) (B : List UInt8) (w : World) (hl : Rd w A n (B.map bytec)) (hn : n ≤ 1099511627776) :
    Calls Try.prog 17 #[.slice A n c] w fun e w' => ∃ A c, e = .returned (.slice A (8 * n) c) ∧ w'.ownsRow w.heap.size 5 1 (.slice A (8 * n) c) (8 * n) ((bitsOf B).map bitc) ∧ Fr (fun _ => False) w w' := by
  have hlen : B.length = n := by simpa using hl.1
  have Hlen := Lib.hid hlen
  clear hlen
  go_enter Try.func17, Try.ntmps17
  have HL := Lib.hid hl
  clear hl
  go_wp2
  go_loopw [3, 4] (fun v i wr => ∃ (k : Nat) (A : Option Addr) (c : Nat), k ≤ n ∧ i = .int .i64 k ∧ v = .slice A (8 * k) c ∧ wr.ownsRow w.heap.size 5 1 (.slice A (8 * k) c) (8 * k) ((bitsOf (B.take k)).map bitc) ∧ Fr (fun _ => False) w wr)
    (fun _ i _ => n - (intOf i).toNat)
  case atStart => exact ⟨0, none, 0, by omega, rfl, rfl, World.ownsRow_nil _ _ _ _, Fr.refl _ _⟩
  case round =>
    obtain ⟨k, A0, c0, hk, rfl, rfl, hown, hfr⟩ := hrel
    have hsz := hfr.size
    by_cases hlt : k < n
    · obtain ⟨ad, u, hA, hu, hc⟩ := (HL.out.fr hfr (fun _ _ h => h)).at_ hlt
      obtain ⟨b, hb⟩ : ∃ b, B[k]? = some b := ⟨B[k]'(by have := Hlen.out; omega), List.getElem?_eq_getElem _⟩
      obtain rfl : bytec b = u := by simpa [hb] using hu
      subst hA
      unfold bytec at hc
      have hbb : b.toNat < 256 := b.toNat_lt
      have HB := Lib.hid hb
      clear hu hb
      go_wp2_with fail
      refine (low_any b.toNat 8 _ (by omega) (by omega) (by omega)).mono ?_
      rintro e w2 ⟨A1, c1, rfl, hown1, hfr1⟩
      have hsz1 := hfr1.size
      go_wp2_with (at_builtin; refine wpList_app u8T _ rfl _ _ rfl w.heap.size _ _ _ rfl (hfr1.own hown (fun _ _ h => h)) _ _ _ _ rfl (Rd.of_own hown1) (bitc_one _) (by unfold maxLen; omega) (by omega) (by omega) ?_)
      intro A' c' w' _ _ hown' hfr' _
      go_wp2
      go_roundw
      case rel =>
        refine ⟨k + 1, A', c', by omega, by go_num, ?_, ?_, (hfr.trans hfr1 (fun _ _ h => h)).trans hfr' (fun b hb h => by have := hown.lt _ h; omega)⟩
        · congr 1
        · rw [low8_take B k b HB.out, List.map_append]
          exact own_list hown' (by simp)
      case measure => simp [intOf] <;> omega
    · go_wp2
      go_ret
      obtain rfl : k = n := by omega
      have hlen := Hlen.out
      rw [List.take_of_length_le (by omega)] at hown
      exact ⟨_, _, rfl, hown, hfr⟩
end Go.Proofs.Ytgoijbolokdbmaa
