/-
  Contracts of layer 1's Writer: Put, Code, Align, Raw, Len, Bytes.
-/
import Derived.Test.YtgoijbolokdbmaaB
namespace Go.Proofs.Ytgoijbolokdbmaa
open Go.RowKit BitsM Mem

def u64c (n : Nat) : Value := .int .u64 (n : Int)
theorem u64c_one (l : List Nat) : ∀ u ∈ l.map u64c, u.oneCell' = true := by
  intro u hu
  obtain ⟨b, _, rfl⟩ := List.mem_map.1 hu
  rfl
theorem flat_low_length (l : List Nat) (N : Nat) : (l.flatMap (low · N)).length = l.length * N := by
  induction l with
  | nil => simp
  | cons x l ih => simp [ih, low_length, Nat.add_mul]; omega
theorem flat_low_take {l : List Nat} {j x : Nat} (h : l[j]? = some x) (N : Nat) : (l.take (j + 1)).flatMap (low · N) = (l.take j).flatMap (low · N) ++ low x N := by
  rw [List.take_add_one, h]
  simp

set_option maxHeartbeats 800000 in
theorem put_any (g c : Nat) (A A2 : Option Addr) (k c2 : Nat) (n : Int) (bs : List Bool) (l : List Nat) (w : World) (hw : Wr w g A c bs) (hb : bs.length + 64 * k ≤ 1099511627776)
    (hr : Rd w A2 k (l.map u64c)) (hx : ∀ x ∈ l, x < 18446744073709551616) (hk : k ≤ 1099511627776) (hA : ∀ ad, A2 = some ad → ¬ Ft g A ad.block) :
    Calls Try.prog 10 #[.pointer (some ⟨g, 0, none⟩), .int .i64 n, .slice A2 k c2] w fun e w' => e = .returned (.tuple #[]) ∧ ∃ A' c', Wr w' g A' c' (bs ++ l.flatMap (low · (min n.toNat 64))) ∧ Fr (Ft g A) w w' ∧ Nx w A A' := by
  have hlen : l.length = k := by simpa using hr.1
  go_enter Try.func10, Try.ntmps10
  have HR := Lib.hid hr
  have HX := Lib.hid hx
  have HA := Lib.hid hA
  have HW := Lib.hid hw
  have HL := Lib.hid hlen
  clear hr hx hA hw hlen
  go_wp2_with fail
  refine (within_any n _).mono ?_
  rintro e w2 ⟨rfl, rfl⟩
  obtain ⟨N, hN⟩ : ∃ N, N = min n.toNat 64 := ⟨_, rfl⟩
  rw [← hN]
  have hN64 : N ≤ 64 := by omega
  have HN := Lib.hid hN
  clear hN
  go_wp2
  go_loopw [13] (fun i wr => ∃ (j : Nat) (A' : Option Addr) (c' : Nat), j ≤ k ∧ i = .int .i64 j ∧ Wr wr g A' c' (bs ++ (l.take j).flatMap (low · N)) ∧ Fr (Ft g A) w wr ∧ Nx w A A')
    (fun i _ => k - (intOf i).toNat)
  case atStart => exact ⟨0, A, c, by omega, rfl, by simpa using HW.out, Fr.refl _ _, Nx.refl _ _⟩
  case round =>
    obtain ⟨j, A', c', hj, rfl, hw, hfr, hnx⟩ := hrel
    have hsz := hfr.size
    by_cases hlt : j < k
    · obtain ⟨ad, u, hA2, hu, hc⟩ := (HR.out.fr hfr HA.out).at_ hlt
      obtain ⟨x, hx⟩ : ∃ x, l[j]? = some x := ⟨l[j]'(by have := HL.out; omega), List.getElem?_eq_getElem _⟩
      obtain rfl : u64c x = u := by simpa [hx] using hu
      have hx64 := HX.out x (List.mem_of_getElem? hx)
      have Hx := Lib.hid hx
      subst hA2
      unfold u64c at hc
      have HW1 := Lib.hid hw
      clear hu hx hw
      obtain ⟨wo, rfl⟩ : ∃ wo : World, wo = wr := ⟨_, rfl⟩
      go_wp2
      go_loopw [8, 18] (fun i0 i wr => ∃ (m : Nat) (A'' : Option Addr) (c'' : Nat), m ≤ N ∧ i = .int .i64 m ∧ Wr wr g A'' c'' (bs ++ (l.take j).flatMap (low · N) ++ low x m) ∧ Fr (Ft g A') wo wr ∧ Nx wo A' A'')
        (fun _ i _ => N - (intOf i).toNat)
      case atStart => exact ⟨0, A', c', by omega, rfl, by simpa [low] using HW1.out, Fr.refl _ _, Nx.refl _ _⟩
      case round =>
        obtain ⟨m, A'', c'', hm, rfl, hw, hfr2, hnx2⟩ := hrel
        have HW2 := Lib.hid hw
        clear hw
        by_cases hlt2 : m < N
        · go_wp2_with fail
          rw [show ((x : Int) / 2 ^ m) = ((x / 2 ^ m : Nat) : Int) from by simp]
          refine (wbit_any g c'' A'' _ (x / 2 ^ m) _ HW2.out ?_ (Nat.lt_of_le_of_lt (Nat.div_le_self _ _) hx64)).mono ?_
          · have h1 : ((l.take j).flatMap (low · N)).length ≤ j * 64 := by
              rw [flat_low_length, List.length_take]
              exact Nat.le_trans (Nat.mul_le_mul_right N (Nat.min_le_left _ _)) (Nat.mul_le_mul_left j hN64)
            have h2 : j + 1 ≤ k := hlt
            rw [List.length_append, List.length_append, low_length]
            omega
          rintro e w3 ⟨rfl, A3, c3, hw3, hfr3, hnx3⟩
          have HW3 := Lib.hid hw3
          clear hw3
          go_wp2
          go_roundw
          case rel =>
            refine ⟨m + 1, A3, c3, by omega, by go_num, ?_, Fr.next hfr2 hnx2 hfr3, hnx2.trans hnx3 hfr2.size⟩
            have h := HW3.out
            rw [Nat.testBit_div_two_pow, Nat.zero_add] at h
            rw [low_succ, ← List.append_assoc]
            exact h
          case measure => simp [intOf] <;> omega
        · go_wp2
          go_roundw
          case rel =>
            obtain rfl : m = N := by omega
            refine ⟨j + 1, A'', c'', by omega, by go_num, ?_, Fr.next hfr hnx hfr2, hnx.trans hnx2 hsz⟩
            rw [flat_low_take Hx.out, ← List.append_assoc]
            exact HW2.out
          case measure => simp [intOf] <;> omega
    · have HW1 := Lib.hid hw
      clear hw
      go_wp2
      go_end0
      obtain rfl : j = k := by omega
      have hl := HL.out
      have hw := HW1.out
      rw [List.take_of_length_le (by omega)] at hw
      rw [← HN.out]
      exact ⟨rfl, A', c', hw, hfr, hnx⟩

theorem low_get (x n i : Nat) (h : i < n) : (low x n)[i]? = some (x.testBit i) := by simp [low, h]
theorem rev_take (x N m : Nat) (h : m < N) : ((low x N).reverse).take (m + 1) = ((low x N).reverse).take m ++ [x.testBit (N - 1 - m)] := by
  rw [List.take_add_one, List.getElem?_reverse (by rw [low_length]; exact h), low_length, low_get _ _ _ (by omega)]
  rfl

set_option maxHeartbeats 800000 in
theorem code_any (g c : Nat) (A : Option Addr) (n : Int) (x : Nat) (bs : List Bool) (w : World) (hw : Wr w g A c bs) (hb : bs.length + 64 ≤ 1099511627776) (hx64 : x < 18446744073709551616) :
    Calls Try.prog 12 #[.pointer (some ⟨g, 0, none⟩), .int .i64 n, .int .u64 (x : Int)] w fun e w' => e = .returned (.tuple #[]) ∧ ∃ A' c', Wr w' g A' c' (bs ++ (low x (min n.toNat 64)).reverse) ∧ Fr (Ft g A) w w' ∧ Nx w A A' := by
  go_enter Try.func12, Try.ntmps12
  have HW := Lib.hid hw
  clear hw
  go_wp2_with fail
  refine (within_any n _).mono ?_
  rintro e w2 ⟨rfl, rfl⟩
  obtain ⟨N, hN⟩ : ∃ N, N = min n.toNat 64 := ⟨_, rfl⟩
  rw [← hN]
  have hN64 : N ≤ 64 := by omega
  have HN := Lib.hid hN
  clear hN
  go_wp2
  go_loopw [10] (fun i wr => ∃ (m : Nat) (A' : Option Addr) (c' : Nat), m ≤ N ∧ i = .int .i64 m ∧ Wr wr g A' c' (bs ++ ((low x N).reverse).take m) ∧ Fr (Ft g A) w wr ∧ Nx w A A')
    (fun i _ => N - (intOf i).toNat)
  case atStart => exact ⟨0, A, c, by omega, rfl, by simpa using HW.out, Fr.refl _ _, Nx.refl _ _⟩
  case round =>
    obtain ⟨m, A', c', hm, rfl, hw, hfr, hnx⟩ := hrel
    have HW2 := Lib.hid hw
    clear hw
    by_cases hlt : m < N
    · go_wp2_with fail
      rw [show ((x : Int) / 2 ^ (N - 1 - m)) = ((x / 2 ^ (N - 1 - m) : Nat) : Int) from by simp]
      refine (wbit_any g c' A' _ (x / 2 ^ (N - 1 - m)) _ HW2.out (by simp [low_length]; omega) (Nat.lt_of_le_of_lt (Nat.div_le_self _ _) hx64)).mono ?_
      rintro e w3 ⟨rfl, A3, c3, hw3, hfr3, hnx3⟩
      have HW3 := Lib.hid hw3
      clear hw3
      go_wp2
      go_roundw
      case rel =>
        refine ⟨m + 1, A3, c3, by omega, by go_num, ?_, Fr.next hfr hnx hfr3, hnx.trans hnx3 hfr.size⟩
        have h := HW3.out
        rw [Nat.testBit_div_two_pow, Nat.zero_add] at h
        rw [rev_take x N m hlt, ← List.append_assoc]
        exact h
      case measure => simp [intOf] <;> omega
    · go_wp2
      go_end0
      obtain rfl : m = N := by omega
      have hw := HW2.out
      rw [List.take_of_length_le (by rw [List.length_reverse, low_length]; omega)] at hw
      rw [← HN.out]
      exact ⟨rfl, A', c', hw, hfr, hnx⟩

theorem wr_align {w : World} {g c : Nat} {A : Option Addr} {bs : List Bool} (hw : Wr w g A c bs) (n : Nat) (hn : n = bs.length) :
    Wr (w.setCell ⟨g, 1, none⟩ (.int .i64 ((n : Int) + (lack n : Int)))) g A c (full bs) ∧ Fr (Ft g A) w (w.setCell ⟨g, 1, none⟩ (.int .i64 ((n : Int) + (lack n : Int)))) := by
  obtain ⟨hg, hown⟩ := hw
  have hfr : Fr (Ft g A) w (w.setCell ⟨g, 1, none⟩ (.int .i64 ((n : Int) + (lack n : Int)))) := (Fr.refl _ w).setCell (p := ⟨g, 1, none⟩) (fun _ => .inl rfl) _
  have hfr' : Fr (Ft g none) w (w.setCell ⟨g, 1, none⟩ (.int .i64 ((n : Int) + (lack n : Int)))) := (Fr.refl _ w).setCell (p := ⟨g, 1, none⟩) (fun _ => .inl rfl) _
  have e : ((full bs).length + 7) / 8 = (bs.length + 7) / 8 := by rw [full_length]; have := lack_ceil bs.length; have := lack_lt bs.length; omega
  refine ⟨⟨?_, ?_⟩, hfr⟩
  · rw [e, set_of hg, full_length, ← hn]
    simp
  · rw [e, pack_full]
    refine hfr'.own hown (fun k hk => ?_)
    rintro (h | h)
    · exact own_ne hown hg (by decide) (by rw [hk, h])
    · simp [bl] at h
theorem Wr.drew {w : World} {g c : Nat} {A : Option Addr} {bs : List Bool} (h : Wr w g A c bs) : Wr w.drew g A c bs := h
theorem Wr.drewN {w : World} {g c : Nat} {A : Option Addr} {bs : List Bool} (h : Wr w g A c bs) (n : Nat) : Wr (w.drewN n) g A c bs := h

set_option maxHeartbeats 800000 in
theorem walign_any (g c : Nat) (A : Option Addr) (bs : List Bool) (w : World) (hw : Wr w g A c bs) (hb : bs.length ≤ 1099511627776) :
    Calls Try.prog 14 #[.pointer (some ⟨g, 0, none⟩)] w fun e w' => e = .returned (.tuple #[]) ∧ Wr w' g A c (full bs) ∧ Fr (Ft g A) w w' := by
  obtain ⟨n, hn⟩ : ∃ n, n = bs.length := ⟨_, rfl⟩
  have hal := wr_align hw n hn
  have hc1 : w.cell? ⟨g, 1, none⟩ = some (.int .i64 (n : Int)) := by rw [hn]; exact cell_of hw.1 1
  have hf1 := free_of hw.1 1
  rw [← hn] at hb
  have hlk := lack_lt n
  have H1 := Lib.hid hal
  have HW := Lib.hid hw
  clear hal hn hw
  go_enter Try.func14, Try.ntmps14
  go_wp2_with fail
  have hs : IntKind.i64.wrap ((n : Int) + (lack n : Int)) = (n : Int) + (lack n : Int) := IntWalk.i64_in _ (by omega)
  go_still_tail 12, (by kernel_rfl)
  still_call ((lacking_any n _ (by omega)).mono fun _ _ ⟨h, h'⟩ => ⟨h, h'.symm⟩)
  repeat still_step
  refine wpStill_nil ?_
  change wpList _ _ _ _ _ w.drew
  go_wp2_with fail
  go_end0
  exact ⟨rfl, H1.out.1.drew, H1.out.2.drew⟩

set_option maxHeartbeats 400000 in
theorem len_any (g c : Nat) (A : Option Addr) (bs : List Bool) (w : World) (hw : Wr w g A c bs) :
    Calls Try.prog 18 #[.pointer (some ⟨g, 0, none⟩)] w fun e w' => e = .returned (.int .i64 (bs.length : Int)) ∧ w = w' := by
  have hc1 : w.cell? ⟨g, 1, none⟩ = some (.int .i64 (bs.length : Int)) := cell_of hw.1 1
  clear hw
  go_enter Try.func18, Try.ntmps18
  go_wp2
  go_ret
  exact ⟨rfl, rfl⟩

/-- a copy of a row of bytes: 'append([]byte(nil), b...)' -/
theorem Rd.of_row {w : World} {base : Nat} {e : TypeId} {A : Option Addr} {n c : Nat} {xs : List Value} (h : w.ownsRow base e 1 (.slice A n c) n xs) : Rd w A n xs := Rd.of_own h

set_option maxHeartbeats 400000 in
theorem wbytes_any (g c : Nat) (A : Option Addr) (bs : List Bool) (w : World) (hw : Wr w g A c bs) (hb : bs.length ≤ 1099511627776) :
    Calls Try.prog 19 #[.pointer (some ⟨g, 0, none⟩)] w fun e w' => ∃ A' c', e = .returned (.slice A' (pack bs).length c') ∧ w'.ownsRow w.heap.size 5 1 (.slice A' (pack bs).length c') (pack bs).length ((pack bs).map bytec) ∧ Fr (fun _ => False) w w' := by
  obtain ⟨hg, hown⟩ := hw
  have hr := Rd.of_own hown
  have hpl := pack_length bs
  rw [← hpl] at hg hr
  have hc0 : w.cell? ⟨g, 0, none⟩ = some (.slice A (pack bs).length c) := cell_of hg 0
  have hb' : (pack bs).length ≤ 1099511627776 := by omega
  clear hg hown hpl
  go_enter Try.func19, Try.ntmps19
  go_wp2_with (at_builtin; refine wpList_appN u8T _ rfl _ _ rfl w.heap.size _ _ _ rfl (World.ownsRow_nil _ _ _ _) _ _ _ _ rfl hr (bytec_one _) (pack bs).length (by omega) (by unfold maxLen; omega) (by omega) (Nat.le_refl _) ?_)
  intro A' c' w' _ _ hown' hfr' _
  go_wp2
  go_ret
  exact ⟨_, _, rfl, own_list hown' (by simp), hfr'.mono (fun b _ h => by simp [Value.ownBlock] at h)⟩

theorem wr_raw {w w1 : World} {g c c' m : Nat} {A A' : Option Addr} {bs : List Bool} {B : List UInt8} (hg : w1.heap[g]? = some (.cells #[.slice A ((bs.length + 7) / 8) c, .int .i64 (bs.length : Int)] 27 (0, 0)))
    (hm : bs.length % 8 = 0) (hM : m = (bs.length + 7) / 8 + B.length) (hown : w1.ownsRow 0 5 1 (.slice A' m c') m ((pack bs).map bytec ++ B.map bytec))
    (hfr : Fr (fun k => bl A = some k) w w1) (hnx : bl A' = bl A ∨ bl A' = some w.heap.size) :
    Wr ((w1.setCell ⟨g, 0, none⟩ (.slice A' m c')).setCell ⟨g, 1, none⟩ (.int .i64 ((bs.length : Int) + 8 * (B.length : Int)))) g A' c' (bs ++ bitsOf B) ∧
    Fr (Ft g A) w ((w1.setCell ⟨g, 0, none⟩ (.slice A' m c')).setCell ⟨g, 1, none⟩ (.int .i64 ((bs.length : Int) + 8 * (B.length : Int)))) ∧ Nx w A A' ∧
    (w1.setCell ⟨g, 0, none⟩ (.slice A' m c')).cell? ⟨g, 1, none⟩ = some (.int .i64 (bs.length : Int)) ∧ w1.cell? ⟨g, 0, none⟩ = some (.slice A ((bs.length + 7) / 8) c) ∧ w1.frozen? ⟨g, 0, none⟩ = false ∧ w1.frozen? ⟨g, 1, none⟩ = false := by
  have h1 := set_of hg 0 (.slice A' m c')
  have h2 := set_of h1 1 (.int .i64 ((bs.length : Int) + 8 * (B.length : Int)))
  have hl : (bs ++ bitsOf B).length = bs.length + 8 * B.length := by rw [List.length_append, bitsOf_length]
  have e : ((bs ++ bitsOf B).length + 7) / 8 = m := by rw [hl]; omega
  refine ⟨⟨?_, ?_⟩, ?_, ?_, ?_, cell_of hg 0, free_of hg 0, free_of hg 1⟩
  · rw [e, h2, hl]
    simp
  · rw [e, pack_append hm, pack_bitsOf, List.map_append]
    have hf : Fr (Ft g none) w1 ((w1.setCell ⟨g, 0, none⟩ (.slice A' m c')).setCell ⟨g, 1, none⟩ (.int .i64 ((bs.length : Int) + 8 * (B.length : Int)))) :=
      ((Fr.refl _ w1).setCell (p := ⟨g, 0, none⟩) (fun _ => .inl rfl) _).setCell (p := ⟨g, 1, none⟩) (fun _ => .inl rfl) _
    refine hf.own hown (fun k hk => ?_)
    rintro (h | h)
    · exact own_ne hown hg (by decide) (by rw [hk, h])
    · simp [bl] at h
  · exact ((hfr.mono (fun b _ h => .inr h)).setCell (p := ⟨g, 0, none⟩) (fun _ => .inl rfl) _).setCell (p := ⟨g, 1, none⟩) (fun _ => .inl rfl) _
  · rcases hnx with h | h
    · exact .inl h
    · exact .inr ⟨_, h, Nat.le_refl _⟩
  · exact cell_of h1 1

set_option maxHeartbeats 800000 in
theorem wraw_any (g c : Nat) (A A2 : Option Addr) (k c2 : Nat) (bs : List Bool) (B : List UInt8) (w : World) (hw : Wr w g A c bs) (hb : bs.length + 8 * k ≤ 1099511627776) (hr : Rd w A2 k (B.map bytec))
    (hA : ∀ ad, A2 = some ad → ¬ Ft g A ad.block) :
    Calls Try.prog 16 #[.pointer (some ⟨g, 0, none⟩), .slice A2 k c2] w fun e w' => e = .returned (.tuple #[]) ∧ ∃ A' c', Wr w' g A' c' (full bs ++ bitsOf B) ∧ Fr (Ft g A) w w' ∧ Nx w A A' := by
  have hBk : B.length = k := by simpa using hr.1
  subst hBk
  have hlk := lack_lt bs.length
  go_enter Try.func16, Try.ntmps16
  go_wp2_with fail
  refine (walign_any g c A bs w hw (by omega)).mono ?_
  rintro e w1 ⟨rfl, hw1, hfr1⟩
  have hr1 := hr.fr hfr1 hA
  have hfl : (full bs).length ≤ bs.length + 8 := by rw [full_length]; omega
  have hfm := full_mod bs
  obtain ⟨hg, hown⟩ := hw1
  obtain ⟨F, hF⟩ : ∃ F, F = full bs := ⟨_, rfl⟩
  rw [← hF] at hfl hfm hg hown
  have HF := Lib.hid hF
  have hsz := hfr1.size
  have hc0 : w1.cell? ⟨g, 0, none⟩ = some (.slice A ((F.length + 7) / 8) c) := cell_of hg 0
  obtain ⟨m, hm⟩ : ∃ m, m = (F.length + 7) / 8 + B.length := ⟨_, rfl⟩
  have hm40 : m ≤ 1099511627777 := by omega
  have HM := Lib.hid hm
  have HG := Lib.hid hg
  have HFM := Lib.hid hfm
  clear hF hw hr hA hm hg hfm
  go_wp2_with (at_builtin; refine wpList_appN u8T _ rfl _ _ rfl 0 _ _ _ rfl hown _ _ _ _ rfl hr1 (bytec_one _) m HM.out (by unfold maxLen; omega) (by omega) (Nat.zero_le _) ?_)
  intro A' c' w2 _ _ hown' hfr' hnx
  rw [bl_own, bl_own] at hnx
  rw [bl_own] at hfr'
  have hne := own_ne hown HG.out (by decide)
  rw [bl_own] at hne
  have hg2 := hfr'.blk HG.out hne
  obtain ⟨F1, F2, F3, F4, F5, F6, F7⟩ := wr_raw hg2 HFM.out HM.out hown' hfr' hnx
  have H1 := Lib.hid F1
  clear F1 hown' hown hc0 hg2
  go_wp2_with fail
  go_end0
  rw [← HF.out]
  exact ⟨rfl, A', c', H1.out, Fr.next hfr1 (Nx.refl _ _) F2, (Nx.refl _ _).trans F3 hsz⟩
end Go.Proofs.Ytgoijbolokdbmaa
