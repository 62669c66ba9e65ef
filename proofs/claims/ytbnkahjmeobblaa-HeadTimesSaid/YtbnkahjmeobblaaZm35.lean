/-
  Layer 16, the program: slices.Grow of nil, slices.Concat of slices of bytes, slices.Clone of bytes.
  Layer 20, the program: Put (written by gen_put.py).
-/
import Derived.Test.YtbnkahjmeobblaaZm12
import Derived.Test.YtbnkahjmeobblaaZm34
import Derived.Test.YtbnkahjmeobblaaZm02
import Derived.Lib.SliceRun
import Derived.Test.YtbnkahjmeobblaaAcB
namespace Go.Proofs.Ytbnkahjmeobblaa
open Go.RowKit Mem Go.Lib LebM DirM
attribute [local go_sem ↓] Go.wp_at_zero Go.wp_at_succ
set_option linter.unusedVariables false

theorem own_cut0 {w : World} {b e s n c : Nat} {A : Option Addr} {xs : List Value} (h : w.ownsRow b e s (.slice A n c) n xs) (hn : 0 < n) : w.ownsRow b e s (.slice A 0 c) 0 [] := by
  refine ⟨by simp, ?_⟩
  rcases h.2 with ⟨hv, h0⟩ | ⟨g, cap, cur, hv, hb, hr, h1, h2, h3, h4⟩
  · omega
  · injection hv with hA _ hc
    subst hA hc
    exact .inr ⟨g, c, cur, rfl, hb, hr, Nat.zero_le _, h2, h3, by simp⟩
set_option maxRecDepth 100000 in
set_option maxHeartbeats 800000 in
theorem grow_any (m : Nat) (w : World) (hm : m ≤ 1000000000000) :
    Calls Try.prog 50 #[.slice none 0 0, .int .i64 (m : Int)] w fun e w' => ∃ A c, e = .returned (.slice A 0 c) ∧ Own w' w.heap.size A c [] ∧ Fr (fun _ => False) w w' := by
  have hown0 := World.ownsRow_nil w w.heap.size 5 1
  by_cases h0 : m = 0
  · subst h0
    go_enter Try.func50, Try.ntmps50
    go_wp2
    go_ret
    exact ⟨none, 0, rfl, Own.nil _ _, Fr.refl _ _⟩
  · have t0 : decide ((m : Int) < 0) = false := by simp
    have t1 : decide ((0 : Int) < (m : Int)) = true := by simp; omega
    have t1' : decide (0 < m) = true := by simp; omega
    have HM := Lib.hid hm
    have HP : Hid (0 < m) := Lib.hid (by omega)
    have HO := Lib.hid hown0
    have e0 : IntKind.i64.wrap (m : Int) = m := by rw [IntKind.wrap_i64]; omega
    have e0' : wrap64 (m : Int) = m := by unfold wrap64; omega
    clear h0 hown0
    go_enter Try.func50, Try.ntmps50
    go_wp2_with (at_builtin; refine wpList_appZ u8T Try.underlying3 rfl rfl w rfl _ _ rfl w.heap.size _ 0 [] rfl HO.out .i64 m rfl (by have := HM.out; unfold maxLen; omega) (by have := HM.out; omega) (Nat.le_refl _) ?_)
    intro A' c' w' h1 h2 hown' hfr' _
    have hown2 : Own w' w.heap.size A' c' [] := own_cut0 hown' (by have := HP.out; omega)
    have hf : Fr (fun _ => False) w w' := hfr'.mono (fun b hb h => by simp [Value.ownBlock] at h)
    have HO2 := Lib.hid hown2
    have HF := Lib.hid hf
    clear hown' hfr' hown2 hf
    have h3 : m ≤ c' := by omega
    have h4 : c' ≤ 9223372036854775807 := by unfold maxLen at h2; omega
    clear h1 h2
    go_wp2_with fail
    go_ret
    exact ⟨A', c', rfl, HO2.out, HF.out⟩
/-- how many bytes in all -/
def sumB (L : List Cl) : Nat := (L.map (fun x => x.B.length)).sum
def catB (L : List Cl) : List UInt8 := L.flatMap (fun x => x.B)
theorem catB_len (L : List Cl) : (catB L).length = sumB L := by
  unfold catB sumB
  rw [List.length_flatMap]
theorem sumB_take {L : List Cl} {k : Nat} {x : Cl} (h : L[k]? = some x) : sumB (L.take (k + 1)) = sumB (L.take k) + x.B.length := by
  unfold sumB
  rw [List.take_add_one, h]
  simp
theorem catB_take {L : List Cl} {k : Nat} {x : Cl} (h : L[k]? = some x) : catB (L.take (k + 1)) = catB (L.take k) ++ x.B := by
  unfold catB
  rw [List.take_add_one, h]
  simp
theorem sumB_le (L : List Cl) (k : Nat) : sumB (L.take k) ≤ sumB L := by
  conv => rhs; rw [← List.take_append_drop k L]
  unfold sumB
  rw [List.map_append, List.sum_append]
  omega
set_option maxRecDepth 100000 in
set_option maxHeartbeats 1600000 in
theorem concat_any (A : Option Addr) (n c : Nat) (L : List Cl) (w : World) (hr : Rd w A n (L.map dac)) (hB : ∀ x ∈ L, Rd w x.A x.B.length (x.B.map bytec)) (hs : sumB L ≤ 1000000000000) (hn : n ≤ 1000000) :
    Calls Try.prog 29 #[.slice A n c] w (Gives w (catB L)) := by
  have hBn : L.length = n := by simpa using hr.1
  have HB := Lib.hid hBn
  have HR := Lib.hid hr
  have HBY := Lib.hid hB
  have HS := Lib.hid hs
  clear hBn hr hB hs
  go_enter Try.func29, Try.ntmps29
  go_wp2
  go_loopw [3, 11] (fun v i wr => ∃ (k s : Nat), k ≤ n ∧ i = .int .i64 k ∧ v = .int .i64 s ∧ Hid (s = sumB (L.take k)) ∧ w = wr)
    (fun _ i _ => n - (intOf i).toNat)
  case atStart => exact ⟨0, 0, by omega, rfl, rfl, rfl, rfl⟩
  case round =>
    obtain ⟨k, s, hk, rfl, rfl, HSm, rfl⟩ := hrel
    by_cases hlt : k < n
    · obtain ⟨ad, v, rfl, hv, hcell⟩ := HR.out.at_ hlt
      obtain ⟨x, hx⟩ : ∃ x, L[k]? = some x := ⟨L[k]'(by have := HB.out; omega), List.getElem?_eq_getElem _⟩
      obtain rfl : dac x = v := by simpa [hx] using hv
      unfold dac at hcell
      obtain ⟨m, hm⟩ : ∃ m, m = x.B.length := ⟨_, rfl⟩
      rw [← hm] at hcell
      have hle : s + m ≤ 1000000000000 := by
        have h1 := HSm.out
        have h2 := sumB_le L (k + 1)
        rw [sumB_take hx, ← hm] at h2
        have := HS.out
        omega
      have HM := Lib.hid hm
      have HX := Lib.hid hx
      clear hv hx hm
      have e1 : IntKind.i64.wrap ((s : Int) + (m : Int)) = ((s + m : Nat) : Int) := by rw [IntKind.wrap_i64]; omega
      have t1 : decide (((s + m : Nat) : Int) < 0) = false := decide_eq_false (by omega)
      go_wp2_with fail
      go_roundw
      case rel => exact ⟨k + 1, s + m, by omega, by go_num, by rfl, Lib.hid (by rw [sumB_take HX.out, ← HSm.out, ← HM.out]), trivial⟩
      case measure => simp [intOf] <;> omega
    · obtain rfl : k = n := by omega
      obtain ⟨hsb, hsL⟩ : s ≤ 1000000000000 ∧ Hid (s = sumB L) := by
        have h1 := HSm.out
        rw [List.take_of_length_le (by rw [HB.out]; exact Nat.le_refl _)] at h1
        exact ⟨by rw [h1]; exact HS.out, Lib.hid h1⟩
      clear HSm
      go_wp2_with fail
      refine (grow_any s w hsb).mono ?_
      rintro e w1 ⟨A1, c1, rfl, ho1, hf1⟩
      have HO1 := Lib.hid ho1
      have HF1 := Lib.hid hf1
      have hsz1 := hf1.size
      clear ho1 hf1
      go_wp2_with fail
      go_loopw [6, 27] (fun v i wr => ∃ (j : Nat) (D : List UInt8) (A' : Option Addr) (c' : Nat), j ≤ k ∧ i = .int .i64 j ∧ Hid (D = catB (L.take j)) ∧ v = .slice A' D.length c' ∧ Own wr w.heap.size A' c' D ∧ Fr (fun _ => False) w wr)
        (fun _ i _ => k - (intOf i).toNat)
      case atStart => exact ⟨0, [], A1, c1, by omega, rfl, rfl, rfl, HO1.out, HF1.out⟩
      case round =>
        obtain ⟨j, D, A2, c2, hj, rfl, HD, rfl, hown, hfr⟩ := hrel
        have hsz := hfr.size
        by_cases hlt2 : j < k
        · obtain ⟨ad, v, rfl, hv, hcell⟩ := (HR.out.fr hfr (fun _ _ h => h)).at_ hlt2
          obtain ⟨x, hx⟩ : ∃ x, L[j]? = some x := ⟨L[j]'(by have := HB.out; omega), List.getElem?_eq_getElem _⟩
          obtain rfl : dac x = v := by simpa [hx] using hv
          unfold dac at hcell
          have hrx := (HBY.out x (List.mem_of_getElem? hx)).fr hfr (fun _ _ h => h)
          have hle : D.length + x.B.length ≤ 1000000000000 := by
            have h1 := HD.out
            have h2 := sumB_le L (j + 1)
            rw [sumB_take hx, ← catB_len, ← h1] at h2
            have := HS.out
            omega
          have HX := Lib.hid hx
          have HO := Lib.hid hown
          have HF := Lib.hid hfr
          have HRX := Lib.hid hrx
          clear hv hx hown hfr hrx
          go_wp2_with (at_builtin; refine wpList_app u8T _ rfl _ _ rfl w.heap.size _ _ _ rfl HO.out _ _ _ _ rfl HRX.out (bytec_one _) (by unfold maxLen; omega) (by omega) (by omega) ?_)
          intro A' c' w' _ _ hown' hfr' _
          go_wp2
          go_roundw
          case rel =>
            refine ⟨j + 1, D ++ x.B, A', c', by omega, by go_num, ?_, by rw [List.length_append], ?_, ?_⟩
            · exact Lib.hid (by rw [catB_take HX.out, ← HD.out])
            · unfold Own
              rw [List.length_append, List.map_append]
              exact hown'
            · exact HF.out.trans hfr' (fun b hb h => by have := HO.out.lt _ h; omega)
          case measure => simp [intOf] <;> omega
        · obtain rfl : j = k := by omega
          have HD2 : Hid (D = catB L) := by
            have h1 := HD.out
            rw [List.take_of_length_le (by rw [HB.out]; exact Nat.le_refl _)] at h1
            exact Lib.hid h1
          clear HD
          have HO := Lib.hid hown
          have HF := Lib.hid hfr
          clear hown hfr
          go_wp2_with fail
          go_ret
          exact ⟨A2, c2, by rw [← HD2.out]; rfl, by rw [← HD2.out]; exact HO.out, HF.out⟩
end Go.Proofs.Ytbnkahjmeobblaa
namespace Go.Proofs.Ytbnkahjmeobblaa
open Go.RowKit Mem Go.Lib LebM UtfM AcM OpM HeM
attribute [local go_sem ↓] Go.wp_at_zero Go.wp_at_succ
set_option linter.unusedVariables false

/-- a slice reads as these bytes -/
def KpB (w : World) (A : Option Addr) (B : List UInt8) : Prop := Rd w A B.length (B.map bytec)
theorem KpB.of {w : World} {base c : Nat} {A : Option Addr} {B : List UInt8} (h : Own w base A c B) : KpB w A B := h.rd
theorem KpB.fr {w w' : World} {A : Option Addr} {B : List UInt8} (h : KpB w A B) (hf : Fr (fun _ => False) w w') (_ : False → False) : KpB w' A B := Rd.fr h hf (fun _ _ h => h)
set_option maxRecDepth 100000 in
set_option maxHeartbeats 12800000 in
theorem hPut_any (ch : Ch) (A : Option Addr) (k : Nat) (A6 : Option Addr) (n6 k6 : Nat) (L : List Om) (w : World) (hd : Hsh w A ch.d.length ch.d) (hr : rightH ch = true) (ht0 : -9223372036854775808 ≤ ch.t) (ht1 : ch.t < 9223372036854775808)
    (hL : Ops w A6 n6 L) (hn6 : n6 ≤ 3000) (hok : ∀ x ∈ L, x.short ∧ x.o.pr.length ≤ 1000) (hTn : (tabA ch.a (namesM L)).length ≤ 100000) (hTx : ∀ x ∈ tabA ch.a (namesM L), x.length ≤ 1000000) (hTp : (putA (tabA ch.a (namesM L))).length ≤ 100000000) :
    Calls Try.prog 13 #[chc ch A k A6 n6 k6] w fun e w' => ∃ A' c', e = .returned (.slice A' (putH ch (tabA ch.a (namesM L))).length c') ∧ Own w' w.heap.size A' c' (putH ch (tabA ch.a (namesM L))) ∧ Fr (fun _ => False) w w' := by
  obtain ⟨⟨a0, a1⟩, ⟨q0, q1⟩, ⟨s0, s1⟩, m1, mw, d1, dr⟩ := right_parts hr
  obtain ⟨a, q, s, t, m, d⟩ := ch
  simp only at *
  obtain ⟨Q, rfl⟩ := Int.eq_ofNat_of_zero_le (show 0 ≤ q by omega)
  obtain ⟨ST, rfl⟩ := Int.eq_ofNat_of_zero_le (show 0 ≤ s by omega)
  obtain ⟨T, hT⟩ : ∃ T, tabA a (namesM L) = T := ⟨_, rfl⟩
  have h24 := fun (w' : World) (hf : Fr (fun _ => False) w w') => acTable_any a A6 n6 k6 L w' (hL.fr hf) hn6 (by omega) hok
  rw [hT] at hTn hTx hTp h24 ⊢
  obtain ⟨nt, hnt⟩ : ∃ nt, T.length = nt := ⟨_, rfl⟩
  have h25 := fun (A : Option Addr) (c : Nat) (w' : World) (ho : OwT w' w'.heap.size A c T) => True
  obtain ⟨R, hR⟩ : ∃ R, putH ⟨a, (Q : Int), (ST : Int), t, m, d⟩ T = R := ⟨_, rfl⟩
  have hRE : R = (u d.length ++ d.flatten) ++ (headT a ++ ((u Q ++ u ST) ++ (LebM.s t ++ (headT m ++ putA T)))) := by rw [← hR]; unfold putH; simp
  have h2 := fun (w' : World) (hf : Fr (fun _ => False) w w') => putDeps_any A d.length k d w' (hd.fr hf) (by omega)
  have h5 := fun (w' : World) => putText_any a w' (by omega)
  have h13 := fun (A : Option Addr) (c : Nat) (w' : World) (hr : Rd w' A 2 ([Q, ST].map numc)) => All_any A 2 c [Q, ST] w' hr (by intro x hx; simp only [List.mem_cons, List.not_mem_nil, or_false] at hx; rcases hx with rfl | rfl <;> omega) (by omega)
  have h16 := fun (w' : World) => S_any t w' ht0 ht1
  have h19 := fun (w' : World) => putText_any m w' (by omega)
  have e13 : [Q, ST].flatMap u = u Q ++ u ST := by simp
  simp only [e13] at h13
  have g2 : (u d.length ++ d.flatten).length ≤ 1000 := by
    have h1 := flat_len32 d hd.2.1
    have h2 := u_len10 (show d.length < 18446744073709551616 by omega)
    rw [List.length_append]
    omega
  have g5 : (headT a).length ≤ 1000 := by
    have h2 := u_len10 (show a.length < 18446744073709551616 by omega)
    unfold headT
    rw [List.length_append]
    omega
  have g13 : (u Q ++ u ST).length ≤ 1000 := by
    have h1 := u_len10 (show Q < 18446744073709551616 by omega)
    have h2 := u_len10 (show ST < 18446744073709551616 by omega)
    rw [List.length_append]
    omega
  have g16 : (LebM.s t).length ≤ 1000 := by have := s_len10 ht0 ht1; omega
  have g19 : (headT m).length ≤ 2000 := by
    have h2 := u_len10 (show m.length < 18446744073709551616 by omega)
    unfold headT
    rw [List.length_append]
    omega
  obtain ⟨B2, hB2⟩ : ∃ B, u d.length ++ d.flatten = B := ⟨_, rfl⟩
  obtain ⟨B5, hB5⟩ : ∃ B, headT a = B := ⟨_, rfl⟩
  obtain ⟨B13, hB13⟩ : ∃ B, u Q ++ u ST = B := ⟨_, rfl⟩
  obtain ⟨B16, hB16⟩ : ∃ B, LebM.s t = B := ⟨_, rfl⟩
  obtain ⟨B19, hB19⟩ : ∃ B, headT m = B := ⟨_, rfl⟩
  obtain ⟨B25, hB25⟩ : ∃ B, putA T = B := ⟨_, rfl⟩
  rw [hB2] at h2 hRE g2
  rw [hB5] at h5 hRE g5
  simp only [hB13] at h13
  rw [hB13] at hRE g13
  rw [hB16] at h16 hRE g16
  rw [hB19] at h19 hRE g19
  rw [hB25] at hRE hTp
  have g25 := hTp
  rw [hR]
  obtain ⟨l2, hl2⟩ : ∃ l, B2.length = l := ⟨_, rfl⟩
  obtain ⟨l5, hl5⟩ : ∃ l, B5.length = l := ⟨_, rfl⟩
  obtain ⟨l13, hl13⟩ : ∃ l, B13.length = l := ⟨_, rfl⟩
  obtain ⟨l16, hl16⟩ : ∃ l, B16.length = l := ⟨_, rfl⟩
  obtain ⟨l19, hl19⟩ : ∃ l, B19.length = l := ⟨_, rfl⟩
  obtain ⟨l25, hl25⟩ : ∃ l, B25.length = l := ⟨_, rfl⟩
  obtain ⟨lR, hlR⟩ : ∃ l, R.length = l := ⟨_, rfl⟩
  obtain ⟨base, hbase⟩ : ∃ b, w.heap.size = b := ⟨_, rfl⟩
  have HC2 : Hid (∀ w', Fr (fun _ => False) w w' → Calls Try.prog 30 #[.slice A d.length k] w' (Gives w' B2)) := Lib.hid h2
  have HC5 : Hid (∀ w', Calls Try.prog 31 #[.string (txt a)] w' (Gives w' B5)) := Lib.hid h5
  have HC19 : Hid (∀ w', Calls Try.prog 31 #[.string (txt m)] w' (Gives w' B19)) := Lib.hid h19
  have HC16 : Hid (∀ w', Calls Try.prog 33 #[.int .i64 t] w' (Gives w' B16)) := Lib.hid h16
  have HC13 : Hid (∀ (q c : Nat) w', Row w' q 45 [.int .u64 (Q : Int), .int .u64 (ST : Int)] → Calls Try.prog 32 #[.slice (some ⟨q, 0, none⟩) 2 c] w' (Gives w' B13)) := Lib.hid (fun q c w' h => h13 _ c w' (by have h1 := h.rd 0 2 (by simp); simpa [numc] using h1))
  have HC24 : Hid (∀ w', Fr (fun _ => False) w w' → Calls Try.prog 35 #[.string (txt a), .slice A6 n6 k6] w' fun e w'' => ∃ A' c', e = .returned (.slice A' T.length c') ∧ OwT w'' w'.heap.size A' c' T ∧ Fr (fun _ => False) w' w'') := Lib.hid h24
  have HC25 : Hid (∀ A c w' b, OwT w' b A c T → Calls Try.prog 34 #[.slice A nt c] w' (Gives w' B25)) := Lib.hid (fun A c w' b ho => by
    have h := acPut_any A nt c T w' (by have h := ho.rd; rwa [hnt] at h) (by have h := ho.cap.1; omega) (by omega) hTx
    rw [hB25] at h
    exact h)
  have HC27 : Hid (∀ (A2 : Option Addr) c2 (A5 : Option Addr) c5 (A13 : Option Addr) c13 (A16 : Option Addr) c16 (A19 : Option Addr) c19 (A25 : Option Addr) c25 (q : Nat) w', Row w' q 29 [.slice A2 l2 c2, .slice A5 l5 c5, .slice A13 l13 c13, .slice A16 l16 c16, .slice A19 l19 c19, .slice A25 l25 c25] →
      KpB w' A2 B2 → KpB w' A5 B5 → KpB w' A13 B13 → KpB w' A16 B16 → KpB w' A19 B19 → KpB w' A25 B25 → Calls Try.prog 29 #[.slice (some ⟨q, 0, none⟩) 6 6] w' (Gives w' R)) := Lib.hid (by
    intro A2 c2 A5 c5 A13 c13 A16 c16 A19 c19 A25 c25 q w' hq k2 k5 k13 k16 k19 k25
    have h := concat_any (some ⟨q, 0, none⟩) 6 6 [⟨0, A2, c2, B2⟩, ⟨0, A5, c5, B5⟩, ⟨0, A13, c13, B13⟩, ⟨0, A16, c16, B16⟩, ⟨0, A19, c19, B19⟩, ⟨0, A25, c25, B25⟩] w' (by
      have h1 := hq.rd 0 6 (by simp)
      simpa [dac, hl2, hl5, hl13, hl16, hl19, hl25] using h1) (by
      intro x hx
      simp only [List.mem_cons, List.not_mem_nil, or_false] at hx
      rcases hx with rfl | rfl | rfl | rfl | rfl | rfl
      · exact k2
      · exact k5
      · exact k13
      · exact k16
      · exact k19
      · exact k25) (by simp [sumB]; omega) (by omega)
    have e : catB [⟨0, A2, c2, B2⟩, ⟨0, A5, c5, B5⟩, ⟨0, A13, c13, B13⟩, ⟨0, A16, c16, B16⟩, ⟨0, A19, c19, B19⟩, ⟨0, A25, c25, B25⟩] = R := by rw [hRE]; simp [catB]
    rw [e] at h
    exact h)
  obtain ⟨nd, hnd⟩ : ∃ nd, d.length = nd := ⟨_, rfl⟩
  unfold chc
  simp only
  rw [hnd] at HC2 ⊢
  obtain ⟨g, hg⟩ : ∃ g, w.heap.size = g := ⟨_, rfl⟩
  obtain ⟨w1, hw1⟩ : ∃ w1, w.alloc (.cells [.string (txt a), .int .i64 (Q : Int), .int .i64 (ST : Int), .int .i64 t, .string (txt m), .slice A nd k, .slice A6 n6 k6].toArray 25) = w1 := ⟨_, rfl⟩
  have HR1 : Hid (Row w1 g 25 [.string (txt a), .int .i64 (Q : Int), .int .i64 (ST : Int), .int .i64 t, .string (txt m), .slice A nd k, .slice A6 n6 k6]) := Lib.hid (by rw [← hw1, ← hg]; exact Row.new _ _ _)
  have HF1 : Hid (Fr (fun _ => False) w w1) := Lib.hid (by rw [← hw1]; exact (Fr.refl _ _).alloc _)
  have HC2 : Hid (∀ w', Fr (fun _ => False) w1 w' → Calls Try.prog 30 #[.slice A nd k] w' (Gives w' B2)) := Lib.hid (fun w' hf => HC2.out w' (HF1.out.trans hf (fun _ _ h => h)))
  have HC24 : Hid (∀ w', Fr (fun _ => False) w1 w' → Calls Try.prog 35 #[.string (txt a), .slice A6 n6 k6] w' fun e w'' => ∃ A' c', e = .returned (.slice A' T.length c') ∧ OwT w'' w'.heap.size A' c' T ∧ Fr (fun _ => False) w' w'') := Lib.hid (fun w' hf => HC24.out w' (HF1.out.trans hf (fun _ _ h => h)))
  have HBX : Hid (∀ w', Fr (fun _ => False) w1 w' → w'.cell? ⟨g, 0, none⟩ = some (.string (txt a)) ∧ w'.cell? ⟨g, 1, none⟩ = some (.int .i64 (Q : Int)) ∧ w'.cell? ⟨g, 2, none⟩ = some (.int .i64 (ST : Int)) ∧ w'.cell? ⟨g, 3, none⟩ = some (.int .i64 t) ∧ w'.cell? ⟨g, 4, none⟩ = some (.string (txt m)) ∧ w'.cell? ⟨g, 5, none⟩ = some (.slice A nd k) ∧ w'.cell? ⟨g, 6, none⟩ = some (.slice A6 n6 k6)) :=
    Lib.hid (fun w' hf => by
      have h := HR1.out.fr hf (fun h => h)
      exact ⟨h.cell rfl, h.cell rfl, h.cell rfl, h.cell rfl, h.cell rfl, h.cell rfl, h.cell rfl⟩)
  have eQ : IntKind.u64.wrap (Q : Int) = (Q : Int) := by rw [IntKind.wrap_u64]; omega
  have eST : IntKind.u64.wrap (ST : Int) = (ST : Int) := by rw [IntKind.wrap_u64]; omega
  have HL2 := Lib.hid hl2
  have HL5 := Lib.hid hl5
  have HL13 := Lib.hid hl13
  have HL16 := Lib.hid hl16
  have HL19 := Lib.hid hl19
  have HL25 := Lib.hid hl25
  have HLR := Lib.hid hlR
  have HTN := Lib.hid hnt
  have HB := Lib.hid hbase
  clear hd hr hL hok hTn hTx hTp h24 h25 hR hRE h2 h5 h13 h16 h19 e13 g2 g5 g13 g16 g19 g25 hB2 hB5 hB13 hB16 hB19 hB25 hl2 hl5 hl13 hl16 hl19 hl25 hlR hbase hnt hT hnd a0 a1 q0 q1 s0 s1 m1 mw d1 dr ht0 ht1 hn6
  go_enter Try.func13, Try.ntmps13
  go_upto_region 1 with fail
  clear hw1 hg
  have HGc : Hid (Fr (fun _ => False) w1 w1) := Lib.hid (Fr.refl _ _)
  refine wp_region_held_drew (S := fun w' => Fr (fun _ => False) w1 w') (by kernel_rfl) ?_ (fun hHeld => ?_)
  · exact (Fr.refl _ _).drew
  refine wpAnyH_take (i := 0) (v := ?vt1) rfl (by kernel_rfl) (by kernel_rfl) (by kernel_rfl) (fun _ _ _ h => h) (Or.inl ⟨by rfl, ?hyt1⟩) hHeld ?restt1
  case hyt1 => intro w hSw; (try dsimp only at hSw); go_simp; try (with_reducible rfl)
  (try simp only [Act.put, List.setIfInBounds_toArray, List.set_cons_zero, List.set_cons_succ, List.getElem_toArray, List.getElem_cons_zero])
  refine wpAnyH_take (i := 1) (v := ?vt2) rfl (by kernel_rfl) (by kernel_rfl) (by kernel_rfl) (fun _ _ _ h => h) (Or.inl ⟨by rfl, ?hyt2⟩) hHeld ?restt2
  case hyt2 => intro w hSw; (try dsimp only at hSw); obtain ⟨k0, k1, k2, k3, k4, k5, k6⟩ := HBX.out _ (HGc.out.trans hSw (fun _ _ h => h)); go_simp; try (with_reducible rfl)
  (try simp only [Act.put, List.setIfInBounds_toArray, List.set_cons_zero, List.set_cons_succ, List.getElem_toArray, List.getElem_cons_zero, List.getElem_cons_succ])
  refine wpAnyH_take (i := 3) (v := ?vt3) rfl (by kernel_rfl) (by kernel_rfl) (by kernel_rfl) (fun _ _ _ h => h) (Or.inl ⟨by rfl, ?hyt3⟩) hHeld ?restt3
  case hyt3 => intro w hSw; (try dsimp only at hSw); go_simp; try (with_reducible rfl)
  (try simp only [Act.put, List.setIfInBounds_toArray, List.set_cons_zero, List.set_cons_succ, List.getElem_toArray, List.getElem_cons_zero, List.getElem_cons_succ])
  refine wpAnyH_take (i := 4) (v := ?vt4) rfl (by kernel_rfl) (by kernel_rfl) (by kernel_rfl) (fun _ _ _ h => h) (Or.inl ⟨by rfl, ?hyt4⟩) hHeld ?restt4
  case hyt4 => intro w hSw; (try dsimp only at hSw); obtain ⟨k0, k1, k2, k3, k4, k5, k6⟩ := HBX.out _ (HGc.out.trans hSw (fun _ _ h => h)); go_simp; try (with_reducible rfl)
  (try simp only [Act.put, List.setIfInBounds_toArray, List.set_cons_zero, List.set_cons_succ, List.getElem_toArray, List.getElem_cons_zero, List.getElem_cons_succ])
  refine wpAnyH_take (i := 6) (v := ?vt5) rfl (by kernel_rfl) (by kernel_rfl) (by kernel_rfl) (fun _ _ _ h => h) (Or.inl ⟨by rfl, ?hyt5⟩) hHeld ?restt5
  case hyt5 => intro w hSw; (try dsimp only at hSw); go_simp; try (with_reducible rfl)
  (try simp only [Act.put, List.setIfInBounds_toArray, List.set_cons_zero, List.set_cons_succ, List.getElem_toArray, List.getElem_cons_zero, List.getElem_cons_succ])
  refine wpAnyH_take (i := 7) (v := ?vt6) rfl (by kernel_rfl) (by kernel_rfl) (by kernel_rfl) (fun _ _ _ h => h) (Or.inl ⟨by rfl, ?hyt6⟩) hHeld ?restt6
  case hyt6 => intro w hSw; (try dsimp only at hSw); obtain ⟨k0, k1, k2, k3, k4, k5, k6⟩ := HBX.out _ (HGc.out.trans hSw (fun _ _ h => h)); go_simp; try (with_reducible rfl)
  (try simp only [Act.put, List.setIfInBounds_toArray, List.set_cons_zero, List.set_cons_succ, List.getElem_toArray, List.getElem_cons_zero, List.getElem_cons_succ])
  refine wpAnyH_take (i := 8) (v := ?vt7) rfl (by kernel_rfl) (by kernel_rfl) (by kernel_rfl) (fun _ _ _ h => h) (Or.inl ⟨by rfl, ?hyt7⟩) hHeld ?restt7
  case hyt7 => intro w hSw; (try dsimp only at hSw); go_simp; try (with_reducible rfl)
  (try simp only [Act.put, List.setIfInBounds_toArray, List.set_cons_zero, List.set_cons_succ, List.getElem_toArray, List.getElem_cons_zero, List.getElem_cons_succ])
  refine wpAnyH_take (i := 9) (v := ?vt8) rfl (by kernel_rfl) (by kernel_rfl) (by kernel_rfl) (fun _ _ _ h => h) (Or.inl ⟨by rfl, ?hyt8⟩) hHeld ?restt8
  case hyt8 => intro w hSw; (try dsimp only at hSw); go_simp; try (with_reducible rfl)
  (try simp only [Act.put, List.setIfInBounds_toArray, List.set_cons_zero, List.set_cons_succ, List.getElem_toArray, List.getElem_cons_zero, List.getElem_cons_succ])
  refine wpAnyH_take (i := 10) (v := ?vt9) rfl (by kernel_rfl) (by kernel_rfl) (by kernel_rfl) (fun _ _ _ h => h) (Or.inl ⟨by rfl, ?hyt9⟩) hHeld ?restt9
  case hyt9 => intro w hSw; (try dsimp only at hSw); obtain ⟨k0, k1, k2, k3, k4, k5, k6⟩ := HBX.out _ (HGc.out.trans hSw (fun _ _ h => h)); go_simp; try (with_reducible rfl)
  (try simp only [Act.put, List.setIfInBounds_toArray, List.set_cons_zero, List.set_cons_succ, List.getElem_toArray, List.getElem_cons_zero, List.getElem_cons_succ])
  refine wpAnyH_take (i := 11) (v := ?vt10) rfl (by kernel_rfl) (by kernel_rfl) (by kernel_rfl) (fun _ _ _ h => h) (Or.inl ⟨by rfl, ?hyt10⟩) hHeld ?restt10
  case hyt10 => intro w hSw; (try dsimp only at hSw); go_simp; try (with_reducible rfl)
  (try simp only [Act.put, List.setIfInBounds_toArray, List.set_cons_zero, List.set_cons_succ, List.getElem_toArray, List.getElem_cons_zero, List.getElem_cons_succ])
  refine wpAnyH_take (i := 14) (v := ?vt11) rfl (by kernel_rfl) (by kernel_rfl) (by kernel_rfl) (fun _ _ _ h => h) (Or.inl ⟨by rfl, ?hyt11⟩) hHeld ?restt11
  case hyt11 => intro w hSw; (try dsimp only at hSw); go_simp; try (with_reducible rfl)
  (try simp only [Act.put, List.setIfInBounds_toArray, List.set_cons_zero, List.set_cons_succ, List.getElem_toArray, List.getElem_cons_zero, List.getElem_cons_succ])
  refine wpAnyH_take (i := 15) (v := ?vt12) rfl (by kernel_rfl) (by kernel_rfl) (by kernel_rfl) (fun _ _ _ h => h) (Or.inl ⟨by rfl, ?hyt12⟩) hHeld ?restt12
  case hyt12 => intro w hSw; (try dsimp only at hSw); obtain ⟨k0, k1, k2, k3, k4, k5, k6⟩ := HBX.out _ (HGc.out.trans hSw (fun _ _ h => h)); go_simp; try (with_reducible rfl)
  (try simp only [Act.put, List.setIfInBounds_toArray, List.set_cons_zero, List.set_cons_succ, List.getElem_toArray, List.getElem_cons_zero, List.getElem_cons_succ])
  refine wpAnyH_take (i := 17) (v := ?vt13) rfl (by kernel_rfl) (by kernel_rfl) (by kernel_rfl) (fun _ _ _ h => h) (Or.inl ⟨by rfl, ?hyt13⟩) hHeld ?restt13
  case hyt13 => intro w hSw; (try dsimp only at hSw); go_simp; try (with_reducible rfl)
  (try simp only [Act.put, List.setIfInBounds_toArray, List.set_cons_zero, List.set_cons_succ, List.getElem_toArray, List.getElem_cons_zero, List.getElem_cons_succ])
  refine wpAnyH_take (i := 18) (v := ?vt14) rfl (by kernel_rfl) (by kernel_rfl) (by kernel_rfl) (fun _ _ _ h => h) (Or.inl ⟨by rfl, ?hyt14⟩) hHeld ?restt14
  case hyt14 => intro w hSw; (try dsimp only at hSw); obtain ⟨k0, k1, k2, k3, k4, k5, k6⟩ := HBX.out _ (HGc.out.trans hSw (fun _ _ h => h)); go_simp; try (with_reducible rfl)
  (try simp only [Act.put, List.setIfInBounds_toArray, List.set_cons_zero, List.set_cons_succ, List.getElem_toArray, List.getElem_cons_zero, List.getElem_cons_succ])
  refine wpAnyH_take (i := 20) (v := ?vt15) rfl (by kernel_rfl) (by kernel_rfl) (by kernel_rfl) (fun _ _ _ h => h) (Or.inl ⟨by rfl, ?hyt15⟩) hHeld ?restt15
  case hyt15 => intro w hSw; (try dsimp only at hSw); go_simp; try (with_reducible rfl)
  (try simp only [Act.put, List.setIfInBounds_toArray, List.set_cons_zero, List.set_cons_succ, List.getElem_toArray, List.getElem_cons_zero, List.getElem_cons_succ])
  refine wpAnyH_take (i := 21) (v := ?vt16) rfl (by kernel_rfl) (by kernel_rfl) (by kernel_rfl) (fun _ _ _ h => h) (Or.inl ⟨by rfl, ?hyt16⟩) hHeld ?restt16
  case hyt16 => intro w hSw; (try dsimp only at hSw); obtain ⟨k0, k1, k2, k3, k4, k5, k6⟩ := HBX.out _ (HGc.out.trans hSw (fun _ _ h => h)); go_simp; try (with_reducible rfl)
  (try simp only [Act.put, List.setIfInBounds_toArray, List.set_cons_zero, List.set_cons_succ, List.getElem_toArray, List.getElem_cons_zero, List.getElem_cons_succ])
  refine wpAnyH_take (i := 22) (v := ?vt17) rfl (by kernel_rfl) (by kernel_rfl) (by kernel_rfl) (fun _ _ _ h => h) (Or.inl ⟨by rfl, ?hyt17⟩) hHeld ?restt17
  case hyt17 => intro w hSw; (try dsimp only at hSw); go_simp; try (with_reducible rfl)
  (try simp only [Act.put, List.setIfInBounds_toArray, List.set_cons_zero, List.set_cons_succ, List.getElem_toArray, List.getElem_cons_zero, List.getElem_cons_succ])
  refine wpAnyH_take (i := 23) (v := ?vt18) rfl (by kernel_rfl) (by kernel_rfl) (by kernel_rfl) (fun _ _ _ h => h) (Or.inl ⟨by rfl, ?hyt18⟩) hHeld ?restt18
  case hyt18 => intro w hSw; (try dsimp only at hSw); obtain ⟨k0, k1, k2, k3, k4, k5, k6⟩ := HBX.out _ (HGc.out.trans hSw (fun _ _ h => h)); go_simp; try (with_reducible rfl)
  (try simp only [Act.put, List.setIfInBounds_toArray, List.set_cons_zero, List.set_cons_succ, List.getElem_toArray, List.getElem_cons_zero, List.getElem_cons_succ])
  refine wpAnyH_ready (rs := [2, 12]) (by kernel_rfl) (by simp) ?_
  refine AllReadyH.cons rfl (fun Kx hKx => ?_) ?_
  · go_simp
    have hcon := HC2.out w1.drew ((Fr.refl (fun _ => False) w1).drew)
    with_reducible refine hcon.mono ?_
    clear hcon
    rintro e' v1 ⟨A2, c2, rfl, ho2, hff⟩
    have HFn : Hid (Fr (fun _ => False) w1 v1) := Lib.hid ((Fr.refl _ _).drew.trans hff (fun _ _ h => h))
    clear hff
    have HK2 := Lib.hid (KpB.of ho2)
    rw [HL2.out]
    clear ho2
    have HGc := Lib.hid (HGc.out.trans HFn.out (fun _ _ h => h))
    refine hKx.out _ _ ?_ (fun hHeld => ?_)
    · exact HFn.out
    clear hKx Kx
    (try simp only [Act.put, List.setIfInBounds_toArray, List.set_cons_zero, List.set_cons_succ, List.getElem_toArray, List.getElem_cons_zero, List.getElem_cons_succ])
    refine wpAnyH_more (fun w' => Fr (fun _ => False) v1 w') (fun _ h => HFn.out.trans h (fun _ _ h => h)) ?_ (fun hHeld => ?_)
    · exact Fr.refl _ _
    clear HFn
    refine wpAnyH_ready (rs := [5, 12]) (by kernel_rfl) (by simp) ?_
    refine AllReadyH.cons rfl (fun Kx hKx => ?_) ?_
    · go_simp
      have hcon := HC5.out v1
      with_reducible refine hcon.mono ?_
      clear hcon
      rintro e' v2 ⟨A5, c5, rfl, ho5, hff⟩
      have HFn : Hid (Fr (fun _ => False) v1 v2) := Lib.hid (hff)
      clear hff
      have HK5 := Lib.hid (KpB.of ho5)
      rw [HL5.out]
      clear ho5
      have HK2 := Lib.hid (HK2.out.fr HFn.out (fun h => h))
      have HGc := Lib.hid (HGc.out.trans HFn.out (fun _ _ h => h))
      refine hKx.out _ _ ?_ (fun hHeld => ?_)
      · exact HFn.out
      clear hKx Kx
      (try simp only [Act.put, List.setIfInBounds_toArray, List.set_cons_zero, List.set_cons_succ, List.getElem_toArray, List.getElem_cons_zero, List.getElem_cons_succ])
      refine wpAnyH_more (fun w' => Fr (fun _ => False) v2 w') (fun _ h => HFn.out.trans h (fun _ _ h => h)) ?_ (fun hHeld => ?_)
      · exact Fr.refl _ _
      clear HFn
      refine wpAnyH_ready (rs := [12]) (by kernel_rfl) (by simp) ?_
      refine AllReadyH.cons rfl (fun Kx hKx => ?_) AllReadyH.nil
      go_simp
      obtain ⟨v3, hwm⟩ : ∃ v, (v2.alloc (.cells [.int .u64 (Q : Int), .int .u64 (ST : Int)].toArray 45)) = v := ⟨_, rfl⟩
      rw [hwm]
      obtain ⟨q12, hqm⟩ : ∃ q, v2.heap.size = q := ⟨_, rfl⟩
      try rw [hqm]
      have HFn : Hid (Fr (fun _ => False) v2 v3) := Lib.hid (by rw [← hwm]; exact ((Fr.refl _ _).alloc _))
      have hbm : Row v3 q12 45 [.int .u64 (Q : Int), .int .u64 (ST : Int)] := by rw [← hwm, ← hqm]; exact Row.new v2 _ _
      have HQ12 := Lib.hid hbm
      clear hwm hqm hbm
      have HK2 := Lib.hid (HK2.out.fr HFn.out (fun h => h))
      have HK5 := Lib.hid (HK5.out.fr HFn.out (fun h => h))
      have HGc := Lib.hid (HGc.out.trans HFn.out (fun _ _ h => h))
      refine hKx.out _ _ ?_ (fun hHeld => ?_)
      · exact HFn.out
      clear hKx Kx
      (try simp only [Act.put, List.setIfInBounds_toArray, List.set_cons_zero, List.set_cons_succ, List.getElem_toArray, List.getElem_cons_zero, List.getElem_cons_succ])
      refine wpAnyH_more (fun w' => Fr (fun _ => False) v3 w') (fun _ h => HFn.out.trans h (fun _ _ h => h)) ?_ (fun hHeld => ?_)
      · exact Fr.refl _ _
      clear HFn
      refine wpAnyH_ready (rs := [13]) (by kernel_rfl) (by simp) ?_
      refine AllReadyH.cons rfl (fun Kx hKx => ?_) AllReadyH.nil
      go_simp
      have hcon := HC13.out q12 2 v3 (by have h := HQ12.out; exact h)
      with_reducible refine hcon.mono ?_
      clear hcon
      rintro e' v4 ⟨A13, c13, rfl, ho13, hff⟩
      have HFn : Hid (Fr (fun _ => False) v3 v4) := Lib.hid (hff)
      clear hff
      have HK13 := Lib.hid (KpB.of ho13)
      rw [HL13.out]
      clear ho13
      have HK2 := Lib.hid (HK2.out.fr HFn.out (fun h => h))
      have HK5 := Lib.hid (HK5.out.fr HFn.out (fun h => h))
      have HQ12 := Lib.hid (HQ12.out.fr HFn.out (fun h => h))
      have HGc := Lib.hid (HGc.out.trans HFn.out (fun _ _ h => h))
      refine hKx.out _ _ ?_ (fun hHeld => ?_)
      · exact HFn.out
      clear hKx Kx
      (try simp only [Act.put, List.setIfInBounds_toArray, List.set_cons_zero, List.set_cons_succ, List.getElem_toArray, List.getElem_cons_zero, List.getElem_cons_succ])
      refine wpAnyH_more (fun w' => Fr (fun _ => False) v4 w') (fun _ h => HFn.out.trans h (fun _ _ h => h)) ?_ (fun hHeld => ?_)
      · exact Fr.refl _ _
      clear HFn
      refine wpAnyH_ready (rs := [16]) (by kernel_rfl) (by simp) ?_
      refine AllReadyH.cons rfl (fun Kx hKx => ?_) AllReadyH.nil
      go_simp
      have hcon := HC16.out v4
      with_reducible refine hcon.mono ?_
      clear hcon
      rintro e' v5 ⟨A16, c16, rfl, ho16, hff⟩
      have HFn : Hid (Fr (fun _ => False) v4 v5) := Lib.hid (hff)
      clear hff
      have HK16 := Lib.hid (KpB.of ho16)
      rw [HL16.out]
      clear ho16
      have HK2 := Lib.hid (HK2.out.fr HFn.out (fun h => h))
      have HK5 := Lib.hid (HK5.out.fr HFn.out (fun h => h))
      have HQ12 := Lib.hid (HQ12.out.fr HFn.out (fun h => h))
      have HK13 := Lib.hid (HK13.out.fr HFn.out (fun h => h))
      have HGc := Lib.hid (HGc.out.trans HFn.out (fun _ _ h => h))
      refine hKx.out _ _ ?_ (fun hHeld => ?_)
      · exact HFn.out
      clear hKx Kx
      (try simp only [Act.put, List.setIfInBounds_toArray, List.set_cons_zero, List.set_cons_succ, List.getElem_toArray, List.getElem_cons_zero, List.getElem_cons_succ])
      refine wpAnyH_more (fun w' => Fr (fun _ => False) v5 w') (fun _ h => HFn.out.trans h (fun _ _ h => h)) ?_ (fun hHeld => ?_)
      · exact Fr.refl _ _
      clear HFn
      refine wpAnyH_ready (rs := [19]) (by kernel_rfl) (by simp) ?_
      refine AllReadyH.cons rfl (fun Kx hKx => ?_) AllReadyH.nil
      go_simp
      have hcon := HC19.out v5
      with_reducible refine hcon.mono ?_
      clear hcon
      rintro e' v6 ⟨A19, c19, rfl, ho19, hff⟩
      have HFn : Hid (Fr (fun _ => False) v5 v6) := Lib.hid (hff)
      clear hff
      have HK19 := Lib.hid (KpB.of ho19)
      rw [HL19.out]
      clear ho19
      have HK2 := Lib.hid (HK2.out.fr HFn.out (fun h => h))
      have HK5 := Lib.hid (HK5.out.fr HFn.out (fun h => h))
      have HQ12 := Lib.hid (HQ12.out.fr HFn.out (fun h => h))
      have HK13 := Lib.hid (HK13.out.fr HFn.out (fun h => h))
      have HK16 := Lib.hid (HK16.out.fr HFn.out (fun h => h))
      have HGc := Lib.hid (HGc.out.trans HFn.out (fun _ _ h => h))
      refine hKx.out _ _ ?_ (fun hHeld => ?_)
      · exact HFn.out
      clear hKx Kx
      (try simp only [Act.put, List.setIfInBounds_toArray, List.set_cons_zero, List.set_cons_succ, List.getElem_toArray, List.getElem_cons_zero, List.getElem_cons_succ])
      refine wpAnyH_more (fun w' => Fr (fun _ => False) v6 w') (fun _ h => HFn.out.trans h (fun _ _ h => h)) ?_ (fun hHeld => ?_)
      · exact Fr.refl _ _
      clear HFn
      refine wpAnyH_ready (rs := [24]) (by kernel_rfl) (by simp) ?_
      refine AllReadyH.cons rfl (fun Kx hKx => ?_) AllReadyH.nil
      go_simp
      have hcon := HC24.out v6 HGc.out
      with_reducible refine hcon.mono ?_
      clear hcon
      rintro e' v7 ⟨A24, c24, rfl, ho24, hff⟩
      have HFn : Hid (Fr (fun _ => False) v6 v7) := Lib.hid (hff)
      clear hff
      rw [HTN.out]
      have HT24 := Lib.hid ho24
      clear ho24
      have HK2 := Lib.hid (HK2.out.fr HFn.out (fun h => h))
      have HK5 := Lib.hid (HK5.out.fr HFn.out (fun h => h))
      have HQ12 := Lib.hid (HQ12.out.fr HFn.out (fun h => h))
      have HK13 := Lib.hid (HK13.out.fr HFn.out (fun h => h))
      have HK16 := Lib.hid (HK16.out.fr HFn.out (fun h => h))
      have HK19 := Lib.hid (HK19.out.fr HFn.out (fun h => h))
      have HGc := Lib.hid (HGc.out.trans HFn.out (fun _ _ h => h))
      refine hKx.out _ _ ?_ (fun hHeld => ?_)
      · exact HFn.out
      clear hKx Kx
      (try simp only [Act.put, List.setIfInBounds_toArray, List.set_cons_zero, List.set_cons_succ, List.getElem_toArray, List.getElem_cons_zero, List.getElem_cons_succ])
      refine wpAnyH_more (fun w' => Fr (fun _ => False) v7 w') (fun _ h => HFn.out.trans h (fun _ _ h => h)) ?_ (fun hHeld => ?_)
      · exact Fr.refl _ _
      clear HFn
      refine wpAnyH_ready (rs := [25]) (by kernel_rfl) (by simp) ?_
      refine AllReadyH.cons rfl (fun Kx hKx => ?_) AllReadyH.nil
      go_simp
      have hcon := HC25.out A24 c24 v7 _ HT24.out
      with_reducible refine hcon.mono ?_
      clear hcon
      rintro e' v8 ⟨A25, c25, rfl, ho25, hff⟩
      have HFn : Hid (Fr (fun _ => False) v7 v8) := Lib.hid (hff)
      clear hff
      have HK25 := Lib.hid (KpB.of ho25)
      rw [HL25.out]
      clear ho25
      have HK2 := Lib.hid (HK2.out.fr HFn.out (fun h => h))
      have HK5 := Lib.hid (HK5.out.fr HFn.out (fun h => h))
      have HQ12 := Lib.hid (HQ12.out.fr HFn.out (fun h => h))
      have HK13 := Lib.hid (HK13.out.fr HFn.out (fun h => h))
      have HK16 := Lib.hid (HK16.out.fr HFn.out (fun h => h))
      have HK19 := Lib.hid (HK19.out.fr HFn.out (fun h => h))
      have HGc := Lib.hid (HGc.out.trans HFn.out (fun _ _ h => h))
      refine hKx.out _ _ ?_ (fun hHeld => ?_)
      · exact HFn.out
      clear hKx Kx
      (try simp only [Act.put, List.setIfInBounds_toArray, List.set_cons_zero, List.set_cons_succ, List.getElem_toArray, List.getElem_cons_zero, List.getElem_cons_succ])
      refine wpAnyH_more (fun w' => Fr (fun _ => False) v8 w') (fun _ h => HFn.out.trans h (fun _ _ h => h)) ?_ (fun hHeld => ?_)
      · exact Fr.refl _ _
      clear HFn
      refine wpAnyH_ready (rs := [26]) (by kernel_rfl) (by simp) ?_
      refine AllReadyH.cons rfl (fun Kx hKx => ?_) AllReadyH.nil
      go_simp
      obtain ⟨v9, hwm⟩ : ∃ v, (v8.alloc (.cells [.slice A2 l2 c2, .slice A5 l5 c5, .slice A13 l13 c13, .slice A16 l16 c16, .slice A19 l19 c19, .slice A25 l25 c25].toArray 29)) = v := ⟨_, rfl⟩
      rw [hwm]
      obtain ⟨q26, hqm⟩ : ∃ q, v8.heap.size = q := ⟨_, rfl⟩
      try rw [hqm]
      have HFn : Hid (Fr (fun _ => False) v8 v9) := Lib.hid (by rw [← hwm]; exact ((Fr.refl _ _).alloc _))
      have hbm : Row v9 q26 29 [.slice A2 l2 c2, .slice A5 l5 c5, .slice A13 l13 c13, .slice A16 l16 c16, .slice A19 l19 c19, .slice A25 l25 c25] := by rw [← hwm, ← hqm]; exact Row.new v8 _ _
      have HQ26 := Lib.hid hbm
      clear hwm hqm hbm
      have HK2 := Lib.hid (HK2.out.fr HFn.out (fun h => h))
      have HK5 := Lib.hid (HK5.out.fr HFn.out (fun h => h))
      have HQ12 := Lib.hid (HQ12.out.fr HFn.out (fun h => h))
      have HK13 := Lib.hid (HK13.out.fr HFn.out (fun h => h))
      have HK16 := Lib.hid (HK16.out.fr HFn.out (fun h => h))
      have HK19 := Lib.hid (HK19.out.fr HFn.out (fun h => h))
      have HK25 := Lib.hid (HK25.out.fr HFn.out (fun h => h))
      have HGc := Lib.hid (HGc.out.trans HFn.out (fun _ _ h => h))
      refine hKx.out _ _ ?_ (fun hHeld => ?_)
      · exact HFn.out
      clear hKx Kx
      (try simp only [Act.put, List.setIfInBounds_toArray, List.set_cons_zero, List.set_cons_succ, List.getElem_toArray, List.getElem_cons_zero, List.getElem_cons_succ])
      refine wpAnyH_more (fun w' => Fr (fun _ => False) v9 w') (fun _ h => HFn.out.trans h (fun _ _ h => h)) ?_ (fun hHeld => ?_)
      · exact Fr.refl _ _
      clear HFn
      refine wpAnyH_ready (rs := [27]) (by kernel_rfl) (by simp) ?_
      refine AllReadyH.cons rfl (fun Kx hKx => ?_) AllReadyH.nil
      go_simp
      have hcon := HC27.out A2 c2 A5 c5 A13 c13 A16 c16 A19 c19 A25 c25 q26 v9 (by have h := HQ26.out; exact h) HK2.out HK5.out HK13.out HK16.out HK19.out HK25.out
      with_reducible refine hcon.mono ?_
      clear hcon
      rintro e' v10 ⟨A27, c27, rfl, ho27, hff⟩
      have HFn : Hid (Fr (fun _ => False) v9 v10) := Lib.hid (hff)
      clear hff
      rw [HLR.out]
      have HO27 := Lib.hid (ho27.base (show w.heap.size ≤ _ from Nat.le_trans HF1.out.size HGc.out.size))
      clear ho27
      have HK2 := Lib.hid (HK2.out.fr HFn.out (fun h => h))
      have HK5 := Lib.hid (HK5.out.fr HFn.out (fun h => h))
      have HQ12 := Lib.hid (HQ12.out.fr HFn.out (fun h => h))
      have HK13 := Lib.hid (HK13.out.fr HFn.out (fun h => h))
      have HK16 := Lib.hid (HK16.out.fr HFn.out (fun h => h))
      have HK19 := Lib.hid (HK19.out.fr HFn.out (fun h => h))
      have HK25 := Lib.hid (HK25.out.fr HFn.out (fun h => h))
      have HQ26 := Lib.hid (HQ26.out.fr HFn.out (fun h => h))
      have HGc := Lib.hid (HGc.out.trans HFn.out (fun _ _ h => h))
      refine hKx.out _ _ ?_ (fun hHeld => ?_)
      · exact HFn.out
      clear hKx Kx
      (try simp only [Act.put, List.setIfInBounds_toArray, List.set_cons_zero, List.set_cons_succ, List.getElem_toArray, List.getElem_cons_zero, List.getElem_cons_succ])
      refine wpAnyH_more (fun w' => Fr (fun _ => False) v10 w') (fun _ h => HFn.out.trans h (fun _ _ h => h)) ?_ (fun hHeld => ?_)
      · exact Fr.refl _ _
      clear HFn
      refine wpAnyH_take (i := 28) (v := ?vt19) rfl (by kernel_rfl) (by kernel_rfl) (by kernel_rfl) (fun _ _ _ h => h) (Or.inl ⟨by rfl, ?hyt19⟩) hHeld ?restt19
      case hyt19 => intro w hSw; (try dsimp only at hSw); go_simp; try (with_reducible rfl)
      (try simp only [Act.put, List.setIfInBounds_toArray, List.set_cons_zero, List.set_cons_succ, List.getElem_toArray, List.getElem_cons_zero, List.getElem_cons_succ])
      refine wpAnyH_done (by kernel_rfl) ?_ _
      go_wp2_with fail
      go_ret
      exact ⟨A27, c27, by rw [HLR.out]; rfl, HO27.out, HF1.out.trans HGc.out (fun _ _ h => h)⟩
    refine AllReadyH.cons rfl (fun Kx hKx => ?_) AllReadyH.nil
    go_simp
    obtain ⟨v2, hwm⟩ : ∃ v, (v1.alloc (.cells [.int .u64 (Q : Int), .int .u64 (ST : Int)].toArray 45)) = v := ⟨_, rfl⟩
    rw [hwm]
    obtain ⟨q12, hqm⟩ : ∃ q, v1.heap.size = q := ⟨_, rfl⟩
    try rw [hqm]
    have HFn : Hid (Fr (fun _ => False) v1 v2) := Lib.hid (by rw [← hwm]; exact ((Fr.refl _ _).alloc _))
    have hbm : Row v2 q12 45 [.int .u64 (Q : Int), .int .u64 (ST : Int)] := by rw [← hwm, ← hqm]; exact Row.new v1 _ _
    have HQ12 := Lib.hid hbm
    clear hwm hqm hbm
    have HK2 := Lib.hid (HK2.out.fr HFn.out (fun h => h))
    have HGc := Lib.hid (HGc.out.trans HFn.out (fun _ _ h => h))
    refine hKx.out _ _ ?_ (fun hHeld => ?_)
    · exact HFn.out
    clear hKx Kx
    (try simp only [Act.put, List.setIfInBounds_toArray, List.set_cons_zero, List.set_cons_succ, List.getElem_toArray, List.getElem_cons_zero, List.getElem_cons_succ])
    refine wpAnyH_more (fun w' => Fr (fun _ => False) v2 w') (fun _ h => HFn.out.trans h (fun _ _ h => h)) ?_ (fun hHeld => ?_)
    · exact Fr.refl _ _
    clear HFn
    refine wpAnyH_ready (rs := [5]) (by kernel_rfl) (by simp) ?_
    refine AllReadyH.cons rfl (fun Kx hKx => ?_) AllReadyH.nil
    go_simp
    have hcon := HC5.out v2
    with_reducible refine hcon.mono ?_
    clear hcon
    rintro e' v3 ⟨A5, c5, rfl, ho5, hff⟩
    have HFn : Hid (Fr (fun _ => False) v2 v3) := Lib.hid (hff)
    clear hff
    have HK5 := Lib.hid (KpB.of ho5)
    rw [HL5.out]
    clear ho5
    have HK2 := Lib.hid (HK2.out.fr HFn.out (fun h => h))
    have HQ12 := Lib.hid (HQ12.out.fr HFn.out (fun h => h))
    have HGc := Lib.hid (HGc.out.trans HFn.out (fun _ _ h => h))
    refine hKx.out _ _ ?_ (fun hHeld => ?_)
    · exact HFn.out
    clear hKx Kx
    (try simp only [Act.put, List.setIfInBounds_toArray, List.set_cons_zero, List.set_cons_succ, List.getElem_toArray, List.getElem_cons_zero, List.getElem_cons_succ])
    refine wpAnyH_more (fun w' => Fr (fun _ => False) v3 w') (fun _ h => HFn.out.trans h (fun _ _ h => h)) ?_ (fun hHeld => ?_)
    · exact Fr.refl _ _
    clear HFn
    refine wpAnyH_ready (rs := [13]) (by kernel_rfl) (by simp) ?_
    refine AllReadyH.cons rfl (fun Kx hKx => ?_) AllReadyH.nil
    go_simp
    have hcon := HC13.out q12 2 v3 (by have h := HQ12.out; exact h)
    with_reducible refine hcon.mono ?_
    clear hcon
    rintro e' v4 ⟨A13, c13, rfl, ho13, hff⟩
    have HFn : Hid (Fr (fun _ => False) v3 v4) := Lib.hid (hff)
    clear hff
    have HK13 := Lib.hid (KpB.of ho13)
    rw [HL13.out]
    clear ho13
    have HK2 := Lib.hid (HK2.out.fr HFn.out (fun h => h))
    have HQ12 := Lib.hid (HQ12.out.fr HFn.out (fun h => h))
    have HK5 := Lib.hid (HK5.out.fr HFn.out (fun h => h))
    have HGc := Lib.hid (HGc.out.trans HFn.out (fun _ _ h => h))
    refine hKx.out _ _ ?_ (fun hHeld => ?_)
    · exact HFn.out
    clear hKx Kx
    (try simp only [Act.put, List.setIfInBounds_toArray, List.set_cons_zero, List.set_cons_succ, List.getElem_toArray, List.getElem_cons_zero, List.getElem_cons_succ])
    refine wpAnyH_more (fun w' => Fr (fun _ => False) v4 w') (fun _ h => HFn.out.trans h (fun _ _ h => h)) ?_ (fun hHeld => ?_)
    · exact Fr.refl _ _
    clear HFn
    refine wpAnyH_ready (rs := [16]) (by kernel_rfl) (by simp) ?_
    refine AllReadyH.cons rfl (fun Kx hKx => ?_) AllReadyH.nil
    go_simp
    have hcon := HC16.out v4
    with_reducible refine hcon.mono ?_
    clear hcon
    rintro e' v5 ⟨A16, c16, rfl, ho16, hff⟩
    have HFn : Hid (Fr (fun _ => False) v4 v5) := Lib.hid (hff)
    clear hff
    have HK16 := Lib.hid (KpB.of ho16)
    rw [HL16.out]
    clear ho16
    have HK2 := Lib.hid (HK2.out.fr HFn.out (fun h => h))
    have HQ12 := Lib.hid (HQ12.out.fr HFn.out (fun h => h))
    have HK5 := Lib.hid (HK5.out.fr HFn.out (fun h => h))
    have HK13 := Lib.hid (HK13.out.fr HFn.out (fun h => h))
    have HGc := Lib.hid (HGc.out.trans HFn.out (fun _ _ h => h))
    refine hKx.out _ _ ?_ (fun hHeld => ?_)
    · exact HFn.out
    clear hKx Kx
    (try simp only [Act.put, List.setIfInBounds_toArray, List.set_cons_zero, List.set_cons_succ, List.getElem_toArray, List.getElem_cons_zero, List.getElem_cons_succ])
    refine wpAnyH_more (fun w' => Fr (fun _ => False) v5 w') (fun _ h => HFn.out.trans h (fun _ _ h => h)) ?_ (fun hHeld => ?_)
    · exact Fr.refl _ _
    clear HFn
    refine wpAnyH_ready (rs := [19]) (by kernel_rfl) (by simp) ?_
    refine AllReadyH.cons rfl (fun Kx hKx => ?_) AllReadyH.nil
    go_simp
    have hcon := HC19.out v5
    with_reducible refine hcon.mono ?_
    clear hcon
    rintro e' v6 ⟨A19, c19, rfl, ho19, hff⟩
    have HFn : Hid (Fr (fun _ => False) v5 v6) := Lib.hid (hff)
    clear hff
    have HK19 := Lib.hid (KpB.of ho19)
    rw [HL19.out]
    clear ho19
    have HK2 := Lib.hid (HK2.out.fr HFn.out (fun h => h))
    have HQ12 := Lib.hid (HQ12.out.fr HFn.out (fun h => h))
    have HK5 := Lib.hid (HK5.out.fr HFn.out (fun h => h))
    have HK13 := Lib.hid (HK13.out.fr HFn.out (fun h => h))
    have HK16 := Lib.hid (HK16.out.fr HFn.out (fun h => h))
    have HGc := Lib.hid (HGc.out.trans HFn.out (fun _ _ h => h))
    refine hKx.out _ _ ?_ (fun hHeld => ?_)
    · exact HFn.out
    clear hKx Kx
    (try simp only [Act.put, List.setIfInBounds_toArray, List.set_cons_zero, List.set_cons_succ, List.getElem_toArray, List.getElem_cons_zero, List.getElem_cons_succ])
    refine wpAnyH_more (fun w' => Fr (fun _ => False) v6 w') (fun _ h => HFn.out.trans h (fun _ _ h => h)) ?_ (fun hHeld => ?_)
    · exact Fr.refl _ _
    clear HFn
    refine wpAnyH_ready (rs := [24]) (by kernel_rfl) (by simp) ?_
    refine AllReadyH.cons rfl (fun Kx hKx => ?_) AllReadyH.nil
    go_simp
    have hcon := HC24.out v6 HGc.out
    with_reducible refine hcon.mono ?_
    clear hcon
    rintro e' v7 ⟨A24, c24, rfl, ho24, hff⟩
    have HFn : Hid (Fr (fun _ => False) v6 v7) := Lib.hid (hff)
    clear hff
    rw [HTN.out]
    have HT24 := Lib.hid ho24
    clear ho24
    have HK2 := Lib.hid (HK2.out.fr HFn.out (fun h => h))
    have HQ12 := Lib.hid (HQ12.out.fr HFn.out (fun h => h))
    have HK5 := Lib.hid (HK5.out.fr HFn.out (fun h => h))
    have HK13 := Lib.hid (HK13.out.fr HFn.out (fun h => h))
    have HK16 := Lib.hid (HK16.out.fr HFn.out (fun h => h))
    have HK19 := Lib.hid (HK19.out.fr HFn.out (fun h => h))
    have HGc := Lib.hid (HGc.out.trans HFn.out (fun _ _ h => h))
    refine hKx.out _ _ ?_ (fun hHeld => ?_)
    · exact HFn.out
    clear hKx Kx
    (try simp only [Act.put, List.setIfInBounds_toArray, List.set_cons_zero, List.set_cons_succ, List.getElem_toArray, List.getElem_cons_zero, List.getElem_cons_succ])
    refine wpAnyH_more (fun w' => Fr (fun _ => False) v7 w') (fun _ h => HFn.out.trans h (fun _ _ h => h)) ?_ (fun hHeld => ?_)
    · exact Fr.refl _ _
    clear HFn
    refine wpAnyH_ready (rs := [25]) (by kernel_rfl) (by simp) ?_
    refine AllReadyH.cons rfl (fun Kx hKx => ?_) AllReadyH.nil
    go_simp
    have hcon := HC25.out A24 c24 v7 _ HT24.out
    with_reducible refine hcon.mono ?_
    clear hcon
    rintro e' v8 ⟨A25, c25, rfl, ho25, hff⟩
    have HFn : Hid (Fr (fun _ => False) v7 v8) := Lib.hid (hff)
    clear hff
    have HK25 := Lib.hid (KpB.of ho25)
    rw [HL25.out]
    clear ho25
    have HK2 := Lib.hid (HK2.out.fr HFn.out (fun h => h))
    have HQ12 := Lib.hid (HQ12.out.fr HFn.out (fun h => h))
    have HK5 := Lib.hid (HK5.out.fr HFn.out (fun h => h))
    have HK13 := Lib.hid (HK13.out.fr HFn.out (fun h => h))
    have HK16 := Lib.hid (HK16.out.fr HFn.out (fun h => h))
    have HK19 := Lib.hid (HK19.out.fr HFn.out (fun h => h))
    have HGc := Lib.hid (HGc.out.trans HFn.out (fun _ _ h => h))
    refine hKx.out _ _ ?_ (fun hHeld => ?_)
    · exact HFn.out
    clear hKx Kx
    (try simp only [Act.put, List.setIfInBounds_toArray, List.set_cons_zero, List.set_cons_succ, List.getElem_toArray, List.getElem_cons_zero, List.getElem_cons_succ])
    refine wpAnyH_more (fun w' => Fr (fun _ => False) v8 w') (fun _ h => HFn.out.trans h (fun _ _ h => h)) ?_ (fun hHeld => ?_)
    · exact Fr.refl _ _
    clear HFn
    refine wpAnyH_ready (rs := [26]) (by kernel_rfl) (by simp) ?_
    refine AllReadyH.cons rfl (fun Kx hKx => ?_) AllReadyH.nil
    go_simp
    obtain ⟨v9, hwm⟩ : ∃ v, (v8.alloc (.cells [.slice A2 l2 c2, .slice A5 l5 c5, .slice A13 l13 c13, .slice A16 l16 c16, .slice A19 l19 c19, .slice A25 l25 c25].toArray 29)) = v := ⟨_, rfl⟩
    rw [hwm]
    obtain ⟨q26, hqm⟩ : ∃ q, v8.heap.size = q := ⟨_, rfl⟩
    try rw [hqm]
    have HFn : Hid (Fr (fun _ => False) v8 v9) := Lib.hid (by rw [← hwm]; exact ((Fr.refl _ _).alloc _))
    have hbm : Row v9 q26 29 [.slice A2 l2 c2, .slice A5 l5 c5, .slice A13 l13 c13, .slice A16 l16 c16, .slice A19 l19 c19, .slice A25 l25 c25] := by rw [← hwm, ← hqm]; exact Row.new v8 _ _
    have HQ26 := Lib.hid hbm
    clear hwm hqm hbm
    have HK2 := Lib.hid (HK2.out.fr HFn.out (fun h => h))
    have HQ12 := Lib.hid (HQ12.out.fr HFn.out (fun h => h))
    have HK5 := Lib.hid (HK5.out.fr HFn.out (fun h => h))
    have HK13 := Lib.hid (HK13.out.fr HFn.out (fun h => h))
    have HK16 := Lib.hid (HK16.out.fr HFn.out (fun h => h))
    have HK19 := Lib.hid (HK19.out.fr HFn.out (fun h => h))
    have HK25 := Lib.hid (HK25.out.fr HFn.out (fun h => h))
    have HGc := Lib.hid (HGc.out.trans HFn.out (fun _ _ h => h))
    refine hKx.out _ _ ?_ (fun hHeld => ?_)
    · exact HFn.out
    clear hKx Kx
    (try simp only [Act.put, List.setIfInBounds_toArray, List.set_cons_zero, List.set_cons_succ, List.getElem_toArray, List.getElem_cons_zero, List.getElem_cons_succ])
    refine wpAnyH_more (fun w' => Fr (fun _ => False) v9 w') (fun _ h => HFn.out.trans h (fun _ _ h => h)) ?_ (fun hHeld => ?_)
    · exact Fr.refl _ _
    clear HFn
    refine wpAnyH_ready (rs := [27]) (by kernel_rfl) (by simp) ?_
    refine AllReadyH.cons rfl (fun Kx hKx => ?_) AllReadyH.nil
    go_simp
    have hcon := HC27.out A2 c2 A5 c5 A13 c13 A16 c16 A19 c19 A25 c25 q26 v9 (by have h := HQ26.out; exact h) HK2.out HK5.out HK13.out HK16.out HK19.out HK25.out
    with_reducible refine hcon.mono ?_
    clear hcon
    rintro e' v10 ⟨A27, c27, rfl, ho27, hff⟩
    have HFn : Hid (Fr (fun _ => False) v9 v10) := Lib.hid (hff)
    clear hff
    rw [HLR.out]
    have HO27 := Lib.hid (ho27.base (show w.heap.size ≤ _ from Nat.le_trans HF1.out.size HGc.out.size))
    clear ho27
    have HK2 := Lib.hid (HK2.out.fr HFn.out (fun h => h))
    have HQ12 := Lib.hid (HQ12.out.fr HFn.out (fun h => h))
    have HK5 := Lib.hid (HK5.out.fr HFn.out (fun h => h))
    have HK13 := Lib.hid (HK13.out.fr HFn.out (fun h => h))
    have HK16 := Lib.hid (HK16.out.fr HFn.out (fun h => h))
    have HK19 := Lib.hid (HK19.out.fr HFn.out (fun h => h))
    have HK25 := Lib.hid (HK25.out.fr HFn.out (fun h => h))
    have HQ26 := Lib.hid (HQ26.out.fr HFn.out (fun h => h))
    have HGc := Lib.hid (HGc.out.trans HFn.out (fun _ _ h => h))
    refine hKx.out _ _ ?_ (fun hHeld => ?_)
    · exact HFn.out
    clear hKx Kx
    (try simp only [Act.put, List.setIfInBounds_toArray, List.set_cons_zero, List.set_cons_succ, List.getElem_toArray, List.getElem_cons_zero, List.getElem_cons_succ])
    refine wpAnyH_more (fun w' => Fr (fun _ => False) v10 w') (fun _ h => HFn.out.trans h (fun _ _ h => h)) ?_ (fun hHeld => ?_)
    · exact Fr.refl _ _
    clear HFn
    refine wpAnyH_take (i := 28) (v := ?vt20) rfl (by kernel_rfl) (by kernel_rfl) (by kernel_rfl) (fun _ _ _ h => h) (Or.inl ⟨by rfl, ?hyt20⟩) hHeld ?restt20
    case hyt20 => intro w hSw; (try dsimp only at hSw); go_simp; try (with_reducible rfl)
    (try simp only [Act.put, List.setIfInBounds_toArray, List.set_cons_zero, List.set_cons_succ, List.getElem_toArray, List.getElem_cons_zero, List.getElem_cons_succ])
    refine wpAnyH_done (by kernel_rfl) ?_ _
    go_wp2_with fail
    go_ret
    exact ⟨A27, c27, by rw [HLR.out]; rfl, HO27.out, HF1.out.trans HGc.out (fun _ _ h => h)⟩
  refine AllReadyH.cons rfl (fun Kx hKx => ?_) AllReadyH.nil
  go_simp
  obtain ⟨v1, hwm⟩ : ∃ v, (w1.alloc (.cells [.int .u64 (Q : Int), .int .u64 (ST : Int)].toArray 45)).drew = v := ⟨_, rfl⟩
  rw [hwm]
  obtain ⟨q12, hqm⟩ : ∃ q, w1.heap.size = q := ⟨_, rfl⟩
  try rw [hqm]
  have HFn : Hid (Fr (fun _ => False) w1 v1) := Lib.hid (by rw [← hwm]; exact ((Fr.refl _ _).alloc _).drew)
  have hbm : Row v1 q12 45 [.int .u64 (Q : Int), .int .u64 (ST : Int)] := by rw [← hwm, ← hqm]; exact Row.new w1 _ _
  have HQ12 := Lib.hid hbm
  clear hwm hqm hbm
  have HGc := Lib.hid (HGc.out.trans HFn.out (fun _ _ h => h))
  refine hKx.out _ _ ?_ (fun hHeld => ?_)
  · exact HFn.out
  clear hKx Kx
  (try simp only [Act.put, List.setIfInBounds_toArray, List.set_cons_zero, List.set_cons_succ, List.getElem_toArray, List.getElem_cons_zero, List.getElem_cons_succ])
  refine wpAnyH_more (fun w' => Fr (fun _ => False) v1 w') (fun _ h => HFn.out.trans h (fun _ _ h => h)) ?_ (fun hHeld => ?_)
  · exact Fr.refl _ _
  clear HFn
  refine wpAnyH_ready (rs := [2]) (by kernel_rfl) (by simp) ?_
  refine AllReadyH.cons rfl (fun Kx hKx => ?_) AllReadyH.nil
  go_simp
  have hcon := HC2.out v1 HGc.out
  with_reducible refine hcon.mono ?_
  clear hcon
  rintro e' v2 ⟨A2, c2, rfl, ho2, hff⟩
  have HFn : Hid (Fr (fun _ => False) v1 v2) := Lib.hid (hff)
  clear hff
  have HK2 := Lib.hid (KpB.of ho2)
  rw [HL2.out]
  clear ho2
  have HQ12 := Lib.hid (HQ12.out.fr HFn.out (fun h => h))
  have HGc := Lib.hid (HGc.out.trans HFn.out (fun _ _ h => h))
  refine hKx.out _ _ ?_ (fun hHeld => ?_)
  · exact HFn.out
  clear hKx Kx
  (try simp only [Act.put, List.setIfInBounds_toArray, List.set_cons_zero, List.set_cons_succ, List.getElem_toArray, List.getElem_cons_zero, List.getElem_cons_succ])
  refine wpAnyH_more (fun w' => Fr (fun _ => False) v2 w') (fun _ h => HFn.out.trans h (fun _ _ h => h)) ?_ (fun hHeld => ?_)
  · exact Fr.refl _ _
  clear HFn
  refine wpAnyH_ready (rs := [5]) (by kernel_rfl) (by simp) ?_
  refine AllReadyH.cons rfl (fun Kx hKx => ?_) AllReadyH.nil
  go_simp
  have hcon := HC5.out v2
  with_reducible refine hcon.mono ?_
  clear hcon
  rintro e' v3 ⟨A5, c5, rfl, ho5, hff⟩
  have HFn : Hid (Fr (fun _ => False) v2 v3) := Lib.hid (hff)
  clear hff
  have HK5 := Lib.hid (KpB.of ho5)
  rw [HL5.out]
  clear ho5
  have HQ12 := Lib.hid (HQ12.out.fr HFn.out (fun h => h))
  have HK2 := Lib.hid (HK2.out.fr HFn.out (fun h => h))
  have HGc := Lib.hid (HGc.out.trans HFn.out (fun _ _ h => h))
  refine hKx.out _ _ ?_ (fun hHeld => ?_)
  · exact HFn.out
  clear hKx Kx
  (try simp only [Act.put, List.setIfInBounds_toArray, List.set_cons_zero, List.set_cons_succ, List.getElem_toArray, List.getElem_cons_zero, List.getElem_cons_succ])
  refine wpAnyH_more (fun w' => Fr (fun _ => False) v3 w') (fun _ h => HFn.out.trans h (fun _ _ h => h)) ?_ (fun hHeld => ?_)
  · exact Fr.refl _ _
  clear HFn
  refine wpAnyH_ready (rs := [13]) (by kernel_rfl) (by simp) ?_
  refine AllReadyH.cons rfl (fun Kx hKx => ?_) AllReadyH.nil
  go_simp
  have hcon := HC13.out q12 2 v3 (by have h := HQ12.out; exact h)
  with_reducible refine hcon.mono ?_
  clear hcon
  rintro e' v4 ⟨A13, c13, rfl, ho13, hff⟩
  have HFn : Hid (Fr (fun _ => False) v3 v4) := Lib.hid (hff)
  clear hff
  have HK13 := Lib.hid (KpB.of ho13)
  rw [HL13.out]
  clear ho13
  have HQ12 := Lib.hid (HQ12.out.fr HFn.out (fun h => h))
  have HK2 := Lib.hid (HK2.out.fr HFn.out (fun h => h))
  have HK5 := Lib.hid (HK5.out.fr HFn.out (fun h => h))
  have HGc := Lib.hid (HGc.out.trans HFn.out (fun _ _ h => h))
  refine hKx.out _ _ ?_ (fun hHeld => ?_)
  · exact HFn.out
  clear hKx Kx
  (try simp only [Act.put, List.setIfInBounds_toArray, List.set_cons_zero, List.set_cons_succ, List.getElem_toArray, List.getElem_cons_zero, List.getElem_cons_succ])
  refine wpAnyH_more (fun w' => Fr (fun _ => False) v4 w') (fun _ h => HFn.out.trans h (fun _ _ h => h)) ?_ (fun hHeld => ?_)
  · exact Fr.refl _ _
  clear HFn
  refine wpAnyH_ready (rs := [16]) (by kernel_rfl) (by simp) ?_
  refine AllReadyH.cons rfl (fun Kx hKx => ?_) AllReadyH.nil
  go_simp
  have hcon := HC16.out v4
  with_reducible refine hcon.mono ?_
  clear hcon
  rintro e' v5 ⟨A16, c16, rfl, ho16, hff⟩
  have HFn : Hid (Fr (fun _ => False) v4 v5) := Lib.hid (hff)
  clear hff
  have HK16 := Lib.hid (KpB.of ho16)
  rw [HL16.out]
  clear ho16
  have HQ12 := Lib.hid (HQ12.out.fr HFn.out (fun h => h))
  have HK2 := Lib.hid (HK2.out.fr HFn.out (fun h => h))
  have HK5 := Lib.hid (HK5.out.fr HFn.out (fun h => h))
  have HK13 := Lib.hid (HK13.out.fr HFn.out (fun h => h))
  have HGc := Lib.hid (HGc.out.trans HFn.out (fun _ _ h => h))
  refine hKx.out _ _ ?_ (fun hHeld => ?_)
  · exact HFn.out
  clear hKx Kx
  (try simp only [Act.put, List.setIfInBounds_toArray, List.set_cons_zero, List.set_cons_succ, List.getElem_toArray, List.getElem_cons_zero, List.getElem_cons_succ])
  refine wpAnyH_more (fun w' => Fr (fun _ => False) v5 w') (fun _ h => HFn.out.trans h (fun _ _ h => h)) ?_ (fun hHeld => ?_)
  · exact Fr.refl _ _
  clear HFn
  refine wpAnyH_ready (rs := [19]) (by kernel_rfl) (by simp) ?_
  refine AllReadyH.cons rfl (fun Kx hKx => ?_) AllReadyH.nil
  go_simp
  have hcon := HC19.out v5
  with_reducible refine hcon.mono ?_
  clear hcon
  rintro e' v6 ⟨A19, c19, rfl, ho19, hff⟩
  have HFn : Hid (Fr (fun _ => False) v5 v6) := Lib.hid (hff)
  clear hff
  have HK19 := Lib.hid (KpB.of ho19)
  rw [HL19.out]
  clear ho19
  have HQ12 := Lib.hid (HQ12.out.fr HFn.out (fun h => h))
  have HK2 := Lib.hid (HK2.out.fr HFn.out (fun h => h))
  have HK5 := Lib.hid (HK5.out.fr HFn.out (fun h => h))
  have HK13 := Lib.hid (HK13.out.fr HFn.out (fun h => h))
  have HK16 := Lib.hid (HK16.out.fr HFn.out (fun h => h))
  have HGc := Lib.hid (HGc.out.trans HFn.out (fun _ _ h => h))
  refine hKx.out _ _ ?_ (fun hHeld => ?_)
  · exact HFn.out
  clear hKx Kx
  (try simp only [Act.put, List.setIfInBounds_toArray, List.set_cons_zero, List.set_cons_succ, List.getElem_toArray, List.getElem_cons_zero, List.getElem_cons_succ])
  refine wpAnyH_more (fun w' => Fr (fun _ => False) v6 w') (fun _ h => HFn.out.trans h (fun _ _ h => h)) ?_ (fun hHeld => ?_)
  · exact Fr.refl _ _
  clear HFn
  refine wpAnyH_ready (rs := [24]) (by kernel_rfl) (by simp) ?_
  refine AllReadyH.cons rfl (fun Kx hKx => ?_) AllReadyH.nil
  go_simp
  have hcon := HC24.out v6 HGc.out
  with_reducible refine hcon.mono ?_
  clear hcon
  rintro e' v7 ⟨A24, c24, rfl, ho24, hff⟩
  have HFn : Hid (Fr (fun _ => False) v6 v7) := Lib.hid (hff)
  clear hff
  rw [HTN.out]
  have HT24 := Lib.hid ho24
  clear ho24
  have HQ12 := Lib.hid (HQ12.out.fr HFn.out (fun h => h))
  have HK2 := Lib.hid (HK2.out.fr HFn.out (fun h => h))
  have HK5 := Lib.hid (HK5.out.fr HFn.out (fun h => h))
  have HK13 := Lib.hid (HK13.out.fr HFn.out (fun h => h))
  have HK16 := Lib.hid (HK16.out.fr HFn.out (fun h => h))
  have HK19 := Lib.hid (HK19.out.fr HFn.out (fun h => h))
  have HGc := Lib.hid (HGc.out.trans HFn.out (fun _ _ h => h))
  refine hKx.out _ _ ?_ (fun hHeld => ?_)
  · exact HFn.out
  clear hKx Kx
  (try simp only [Act.put, List.setIfInBounds_toArray, List.set_cons_zero, List.set_cons_succ, List.getElem_toArray, List.getElem_cons_zero, List.getElem_cons_succ])
  refine wpAnyH_more (fun w' => Fr (fun _ => False) v7 w') (fun _ h => HFn.out.trans h (fun _ _ h => h)) ?_ (fun hHeld => ?_)
  · exact Fr.refl _ _
  clear HFn
  refine wpAnyH_ready (rs := [25]) (by kernel_rfl) (by simp) ?_
  refine AllReadyH.cons rfl (fun Kx hKx => ?_) AllReadyH.nil
  go_simp
  have hcon := HC25.out A24 c24 v7 _ HT24.out
  with_reducible refine hcon.mono ?_
  clear hcon
  rintro e' v8 ⟨A25, c25, rfl, ho25, hff⟩
  have HFn : Hid (Fr (fun _ => False) v7 v8) := Lib.hid (hff)
  clear hff
  have HK25 := Lib.hid (KpB.of ho25)
  rw [HL25.out]
  clear ho25
  have HQ12 := Lib.hid (HQ12.out.fr HFn.out (fun h => h))
  have HK2 := Lib.hid (HK2.out.fr HFn.out (fun h => h))
  have HK5 := Lib.hid (HK5.out.fr HFn.out (fun h => h))
  have HK13 := Lib.hid (HK13.out.fr HFn.out (fun h => h))
  have HK16 := Lib.hid (HK16.out.fr HFn.out (fun h => h))
  have HK19 := Lib.hid (HK19.out.fr HFn.out (fun h => h))
  have HGc := Lib.hid (HGc.out.trans HFn.out (fun _ _ h => h))
  refine hKx.out _ _ ?_ (fun hHeld => ?_)
  · exact HFn.out
  clear hKx Kx
  (try simp only [Act.put, List.setIfInBounds_toArray, List.set_cons_zero, List.set_cons_succ, List.getElem_toArray, List.getElem_cons_zero, List.getElem_cons_succ])
  refine wpAnyH_more (fun w' => Fr (fun _ => False) v8 w') (fun _ h => HFn.out.trans h (fun _ _ h => h)) ?_ (fun hHeld => ?_)
  · exact Fr.refl _ _
  clear HFn
  refine wpAnyH_ready (rs := [26]) (by kernel_rfl) (by simp) ?_
  refine AllReadyH.cons rfl (fun Kx hKx => ?_) AllReadyH.nil
  go_simp
  obtain ⟨v9, hwm⟩ : ∃ v, (v8.alloc (.cells [.slice A2 l2 c2, .slice A5 l5 c5, .slice A13 l13 c13, .slice A16 l16 c16, .slice A19 l19 c19, .slice A25 l25 c25].toArray 29)) = v := ⟨_, rfl⟩
  rw [hwm]
  obtain ⟨q26, hqm⟩ : ∃ q, v8.heap.size = q := ⟨_, rfl⟩
  try rw [hqm]
  have HFn : Hid (Fr (fun _ => False) v8 v9) := Lib.hid (by rw [← hwm]; exact ((Fr.refl _ _).alloc _))
  have hbm : Row v9 q26 29 [.slice A2 l2 c2, .slice A5 l5 c5, .slice A13 l13 c13, .slice A16 l16 c16, .slice A19 l19 c19, .slice A25 l25 c25] := by rw [← hwm, ← hqm]; exact Row.new v8 _ _
  have HQ26 := Lib.hid hbm
  clear hwm hqm hbm
  have HQ12 := Lib.hid (HQ12.out.fr HFn.out (fun h => h))
  have HK2 := Lib.hid (HK2.out.fr HFn.out (fun h => h))
  have HK5 := Lib.hid (HK5.out.fr HFn.out (fun h => h))
  have HK13 := Lib.hid (HK13.out.fr HFn.out (fun h => h))
  have HK16 := Lib.hid (HK16.out.fr HFn.out (fun h => h))
  have HK19 := Lib.hid (HK19.out.fr HFn.out (fun h => h))
  have HK25 := Lib.hid (HK25.out.fr HFn.out (fun h => h))
  have HGc := Lib.hid (HGc.out.trans HFn.out (fun _ _ h => h))
  refine hKx.out _ _ ?_ (fun hHeld => ?_)
  · exact HFn.out
  clear hKx Kx
  (try simp only [Act.put, List.setIfInBounds_toArray, List.set_cons_zero, List.set_cons_succ, List.getElem_toArray, List.getElem_cons_zero, List.getElem_cons_succ])
  refine wpAnyH_more (fun w' => Fr (fun _ => False) v9 w') (fun _ h => HFn.out.trans h (fun _ _ h => h)) ?_ (fun hHeld => ?_)
  · exact Fr.refl _ _
  clear HFn
  refine wpAnyH_ready (rs := [27]) (by kernel_rfl) (by simp) ?_
  refine AllReadyH.cons rfl (fun Kx hKx => ?_) AllReadyH.nil
  go_simp
  have hcon := HC27.out A2 c2 A5 c5 A13 c13 A16 c16 A19 c19 A25 c25 q26 v9 (by have h := HQ26.out; exact h) HK2.out HK5.out HK13.out HK16.out HK19.out HK25.out
  with_reducible refine hcon.mono ?_
  clear hcon
  rintro e' v10 ⟨A27, c27, rfl, ho27, hff⟩
  have HFn : Hid (Fr (fun _ => False) v9 v10) := Lib.hid (hff)
  clear hff
  rw [HLR.out]
  have HO27 := Lib.hid (ho27.base (show w.heap.size ≤ _ from Nat.le_trans HF1.out.size HGc.out.size))
  clear ho27
  have HQ12 := Lib.hid (HQ12.out.fr HFn.out (fun h => h))
  have HK2 := Lib.hid (HK2.out.fr HFn.out (fun h => h))
  have HK5 := Lib.hid (HK5.out.fr HFn.out (fun h => h))
  have HK13 := Lib.hid (HK13.out.fr HFn.out (fun h => h))
  have HK16 := Lib.hid (HK16.out.fr HFn.out (fun h => h))
  have HK19 := Lib.hid (HK19.out.fr HFn.out (fun h => h))
  have HK25 := Lib.hid (HK25.out.fr HFn.out (fun h => h))
  have HQ26 := Lib.hid (HQ26.out.fr HFn.out (fun h => h))
  have HGc := Lib.hid (HGc.out.trans HFn.out (fun _ _ h => h))
  refine hKx.out _ _ ?_ (fun hHeld => ?_)
  · exact HFn.out
  clear hKx Kx
  (try simp only [Act.put, List.setIfInBounds_toArray, List.set_cons_zero, List.set_cons_succ, List.getElem_toArray, List.getElem_cons_zero, List.getElem_cons_succ])
  refine wpAnyH_more (fun w' => Fr (fun _ => False) v10 w') (fun _ h => HFn.out.trans h (fun _ _ h => h)) ?_ (fun hHeld => ?_)
  · exact Fr.refl _ _
  clear HFn
  refine wpAnyH_take (i := 28) (v := ?vt21) rfl (by kernel_rfl) (by kernel_rfl) (by kernel_rfl) (fun _ _ _ h => h) (Or.inl ⟨by rfl, ?hyt21⟩) hHeld ?restt21
  case hyt21 => intro w hSw; (try dsimp only at hSw); go_simp; try (with_reducible rfl)
  (try simp only [Act.put, List.setIfInBounds_toArray, List.set_cons_zero, List.set_cons_succ, List.getElem_toArray, List.getElem_cons_zero, List.getElem_cons_succ])
  refine wpAnyH_done (by kernel_rfl) ?_ _
  go_wp2_with fail
  go_ret
  exact ⟨A27, c27, by rw [HLR.out]; rfl, HO27.out, HF1.out.trans HGc.out (fun _ _ h => h)⟩
end Go.Proofs.Ytbnkahjmeobblaa
