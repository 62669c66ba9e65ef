/-
  Layer 16, the program: slices.Grow of nil, slices.Concat of slices of bytes, slices.Clone of bytes.
-/
import Derived.Test.YtfgjneodhmfknaaDirA
import Derived.Test.YtfgjneodhmfknaaZer
import Derived.Test.YtfgjneodhmfknaaLebC
import Derived.Lib.SliceRun
namespace Go.Proofs.Ytfgjneodhmfknaa
open Go.RowKit Mem Go.Lib LebM DirM
attribute [local go_sem ↓] Go.wp_at_zero Go.wp_at_succ
set_option linter.unusedVariables false

theorem own_cut0 {w : World} {b e s n c : Nat} {A : Option Addr} {xs : List Value} (h : w.ownsRow b e s (.slice A n c) n xs) (hn : 0 < n) : w.ownsRow b e s (.slice A 0 c) 0 [] := by
  refine ⟨by simp, ?_⟩
  rcases h.2 with ⟨hv, h0⟩ | ⟨g, cap, cur, hv, hb, hr, h1, h2, h3, h4⟩
  · omega
  · injection hv with hA _ hc
    subst hA hc
    exact .inr ⟨g, c, cur, rfl, hb, hr, Nat.zero_le _, h2, h3, by simp⟩
set_option maxRecDepth 100000 in
set_option maxHeartbeats 800000 in
theorem grow_any (m : Nat) (w : World) (hm : m ≤ 1000000000000) :
    Calls Try.prog 25 #[.slice none 0 0, .int .i64 (m : Int)] w fun e w' => ∃ A c, e = .returned (.slice A 0 c) ∧ Own w' w.heap.size A c [] ∧ Fr (fun _ => False) w w' := by
  have hown0 := World.ownsRow_nil w w.heap.size 5 1
  by_cases h0 : m = 0
  · subst h0
    go_enter Try.func25, Try.ntmps25
    go_wp2
    go_ret
    exact ⟨none, 0, rfl, Own.nil _ _, Fr.refl _ _⟩
  · have t0 : decide ((m : Int) < 0) = false := by simp
    have t1 : decide ((0 : Int) < (m : Int)) = true := by simp; omega
    have t1' : decide (0 < m) = true := by simp; omega
    have HM := Lib.hid hm
    have HP : Hid (0 < m) := Lib.hid (by omega)
    have HO := Lib.hid hown0
    have e0 : IntKind.i64.wrap (m : Int) = m := by rw [IntKind.wrap_i64]; omega
    have e0' : wrap64 (m : Int) = m := by unfold wrap64; omega
    clear h0 hown0
    go_enter Try.func25, Try.ntmps25
    go_wp2_with (at_builtin; refine wpList_appZ u8T Try.underlying3 rfl rfl w rfl _ _ rfl w.heap.size _ 0 [] rfl HO.out .i64 m rfl (by have := HM.out; unfold maxLen; omega) (by have := HM.out; omega) (Nat.le_refl _) ?_)
    intro A' c' w' h1 h2 hown' hfr' _
    have hown2 : Own w' w.heap.size A' c' [] := own_cut0 hown' (by have := HP.out; omega)
    have hf : Fr (fun _ => False) w w' := hfr'.mono (fun b hb h => by simp [Value.ownBlock] at h)
    have HO2 := Lib.hid hown2
    have HF := Lib.hid hf
    clear hown' hfr' hown2 hf
    have h3 : m ≤ c' := by omega
    have h4 : c' ≤ 9223372036854775807 := by unfold maxLen at h2; omega
    clear h1 h2
    go_wp2_with fail
    go_ret
    exact ⟨A', c', rfl, HO2.out, HF.out⟩
/-- how many bytes in all -/
def sumB (L : List Cl) : Nat := (L.map (fun x => x.B.length)).sum
def catB (L : List Cl) : List UInt8 := L.flatMap (fun x => x.B)
theorem catB_len (L : List Cl) : (catB L).length = sumB L := by
  unfold catB sumB
  rw [List.length_flatMap]
theorem sumB_take {L : List Cl} {k : Nat} {x : Cl} (h : L[k]? = some x) : sumB (L.take (k + 1)) = sumB (L.take k) + x.B.length := by
  unfold sumB
  rw [List.take_add_one, h]
  simp
theorem catB_take {L : List Cl} {k : Nat} {x : Cl} (h : L[k]? = some x) : catB (L.take (k + 1)) = catB (L.take k) ++ x.B := by
  unfold catB
  rw [List.take_add_one, h]
  simp
theorem sumB_le (L : List Cl) (k : Nat) : sumB (L.take k) ≤ sumB L := by
  conv => rhs; rw [← List.take_append_drop k L]
  unfold sumB
  rw [List.map_append, List.sum_append]
  omega
set_option maxRecDepth 100000 in
set_option maxHeartbeats 1600000 in
theorem concat_any (A : Option Addr) (n c : Nat) (L : List Cl) (w : World) (hr : Rd w A n (L.map dac)) (hB : ∀ x ∈ L, Rd w x.A x.B.length (x.B.map bytec)) (hs : sumB L ≤ 1000000000000) (hn : n ≤ 1000000) :
    Calls Try.prog 17 #[.slice A n c] w (Gives w (catB L)) := by
  have hBn : L.length = n := by simpa using hr.1
  have HB := Lib.hid hBn
  have HR := Lib.hid hr
  have HBY := Lib.hid hB
  have HS := Lib.hid hs
  clear hBn hr hB hs
  go_enter Try.func17, Try.ntmps17
  go_wp2
  go_loopw [3, 11] (fun v i wr => ∃ (k s : Nat), k ≤ n ∧ i = .int .i64 k ∧ v = .int .i64 s ∧ Hid (s = sumB (L.take k)) ∧ w = wr)
    (fun _ i _ => n - (intOf i).toNat)
  case atStart => exact ⟨0, 0, by omega, rfl, rfl, rfl, rfl⟩
  case round =>
    obtain ⟨k, s, hk, rfl, rfl, HSm, rfl⟩ := hrel
    by_cases hlt : k < n
    · obtain ⟨ad, v, rfl, hv, hcell⟩ := HR.out.at_ hlt
      obtain ⟨x, hx⟩ : ∃ x, L[k]? = some x := ⟨L[k]'(by have := HB.out; omega), List.getElem?_eq_getElem _⟩
      obtain rfl : dac x = v := by simpa [hx] using hv
      unfold dac at hcell
      obtain ⟨m, hm⟩ : ∃ m, m = x.B.length := ⟨_, rfl⟩
      rw [← hm] at hcell
      have hle : s + m ≤ 1000000000000 := by
        have h1 := HSm.out
        have h2 := sumB_le L (k + 1)
        rw [sumB_take hx, ← hm] at h2
        have := HS.out
        omega
      have HM := Lib.hid hm
      have HX := Lib.hid hx
      clear hv hx hm
      have e1 : IntKind.i64.wrap ((s : Int) + (m : Int)) = ((s + m : Nat) : Int) := by rw [IntKind.wrap_i64]; omega
      have t1 : decide (((s + m : Nat) : Int) < 0) = false := decide_eq_false (by omega)
      go_wp2_with fail
      go_roundw
      case rel => exact ⟨k + 1, s + m, by omega, by go_num, by rfl, Lib.hid (by rw [sumB_take HX.out, ← HSm.out, ← HM.out]), trivial⟩
      case measure => simp [intOf] <;> omega
    · obtain rfl : k = n := by omega
      obtain ⟨hsb, hsL⟩ : s ≤ 1000000000000 ∧ Hid (s = sumB L) := by
        have h1 := HSm.out
        rw [List.take_of_length_le (by rw [HB.out]; exact Nat.le_refl _)] at h1
        exact ⟨by rw [h1]; exact HS.out, Lib.hid h1⟩
      clear HSm
      go_wp2_with fail
      refine (grow_any s w hsb).mono ?_
      rintro e w1 ⟨A1, c1, rfl, ho1, hf1⟩
      have HO1 := Lib.hid ho1
      have HF1 := Lib.hid hf1
      have hsz1 := hf1.size
      clear ho1 hf1
      go_wp2_with fail
      go_loopw [6, 27] (fun v i wr => ∃ (j : Nat) (D : List UInt8) (A' : Option Addr) (c' : Nat), j ≤ k ∧ i = .int .i64 j ∧ Hid (D = catB (L.take j)) ∧ v = .slice A' D.length c' ∧ Own wr w.heap.size A' c' D ∧ Fr (fun _ => False) w wr)
        (fun _ i _ => k - (intOf i).toNat)
      case atStart => exact ⟨0, [], A1, c1, by omega, rfl, rfl, rfl, HO1.out, HF1.out⟩
      case round =>
        obtain ⟨j, D, A2, c2, hj, rfl, HD, rfl, hown, hfr⟩ := hrel
        have hsz := hfr.size
        by_cases hlt2 : j < k
        · obtain ⟨ad, v, rfl, hv, hcell⟩ := (HR.out.fr hfr (fun _ _ h => h)).at_ hlt2
          obtain ⟨x, hx⟩ : ∃ x, L[j]? = some x := ⟨L[j]'(by have := HB.out; omega), List.getElem?_eq_getElem _⟩
          obtain rfl : dac x = v := by simpa [hx] using hv
          unfold dac at hcell
          have hrx := (HBY.out x (List.mem_of_getElem? hx)).fr hfr (fun _ _ h => h)
          have hle : D.length + x.B.length ≤ 1000000000000 := by
            have h1 := HD.out
            have h2 := sumB_le L (j + 1)
            rw [sumB_take hx, ← catB_len, ← h1] at h2
            have := HS.out
            omega
          have HX := Lib.hid hx
          have HO := Lib.hid hown
          have HF := Lib.hid hfr
          have HRX := Lib.hid hrx
          clear hv hx hown hfr hrx
          go_wp2_with (at_builtin; refine wpList_app u8T _ rfl _ _ rfl w.heap.size _ _ _ rfl HO.out _ _ _ _ rfl HRX.out (bytec_one _) (by unfold maxLen; omega) (by omega) (by omega) ?_)
          intro A' c' w' _ _ hown' hfr' _
          go_wp2
          go_roundw
          case rel =>
            refine ⟨j + 1, D ++ x.B, A', c', by omega, by go_num, ?_, by rw [List.length_append], ?_, ?_⟩
            · exact Lib.hid (by rw [catB_take HX.out, ← HD.out])
            · unfold Own
              rw [List.length_append, List.map_append]
              exact hown'
            · exact HF.out.trans hfr' (fun b hb h => by have := HO.out.lt _ h; omega)
          case measure => simp [intOf] <;> omega
        · obtain rfl : j = k := by omega
          have HD2 : Hid (D = catB L) := by
            have h1 := HD.out
            rw [List.take_of_length_le (by rw [HB.out]; exact Nat.le_refl _)] at h1
            exact Lib.hid h1
          clear HD
          have HO := Lib.hid hown
          have HF := Lib.hid hfr
          clear hown hfr
          go_wp2_with fail
          go_ret
          exact ⟨A2, c2, by rw [← HD2.out]; rfl, by rw [← HD2.out]; exact HO.out, HF.out⟩
/-- slices.Clone of bytes -/
theorem cloneB_any (A : Option Addr) (n c : Nat) (B : List UInt8) (w : World) (hr : Rd w A n (B.map bytec)) (hn : n ≤ 1000000000) :
    Calls Try.prog 20 #[.slice A n c] w (Gives w B) := by
  have hBn : B.length = n := by simpa using hr.1
  cases A with
  | none =>
    have h0 : n = 0 := by
      rcases Nat.eq_zero_or_pos n with h | h
      · exact h
      · obtain ⟨ad, e, _⟩ := hr.2 h
        cases e
    subst h0
    obtain rfl : B = [] := List.eq_nil_of_length_eq_zero hBn
    have hq : (binOp .eql 22 (.slice none 0 c) (.slice none 0 0)).run Try.prog w = .ok (.bool true) w := by rfl
    clear hr hBn
    go_enter Try.func20, Try.ntmps20
    go_wp2
    go_ret
    exact ⟨none, 0, rfl, Own.nil _ _, Fr.refl _ _⟩
  | some ad =>
    have hmade := World.ownsRow_made (base := w.heap.size) (e := 5) (size := 1) w #[] 0 (Nat.le_refl _) (Nat.zero_le _) rfl
    have hq : (binOp .eql 22 (.slice (some ad) n c) (.slice none 0 0)).run Try.prog w = .ok (.bool false) w := run_eql_slice_nil w _ _ _ n c 0 0 Try.underlying22
    have HR := Lib.hid (hr.fr ((Fr.refl (fun _ => False) w).alloc (.cells #[] 5)) (fun _ _ h => h))
    have HM := Lib.hid hmade
    have HB := Lib.hid hBn
    clear hr hmade hBn
    go_enter Try.func20, Try.ntmps20
    go_wp2_with (at_builtin; refine wpList_app u8T _ rfl _ _ rfl w.heap.size _ _ _ rfl HM.out _ _ _ _ rfl HR.out (bytec_one _) (by unfold maxLen; omega) (by omega) (by simp) ?_)
    intro A' c' w' _ _ hown' hfr' _
    have hf : Fr (fun _ => False) w w' := ((Fr.refl (fun _ => False) w).alloc _).trans hfr' (fun b hb h => by simp [Value.ownBlock] at h; omega)
    have ho : Own w' w.heap.size A' c' B := by unfold Own; rw [HB.out]; simpa using hown'
    have HF := Lib.hid hf
    have HO := Lib.hid ho
    clear hown' hfr' hf ho
    go_wp2_with fail
    go_ret
    exact ⟨A', c', by rw [HB.out]; simp, HO.out, HF.out⟩
end Go.Proofs.Ytfgjneodhmfknaa
