/-
  Layer 20, the program: Put (written by gen_put.py).
  Layer 20, the program: Get.
-/
import Derived.Test.YtbnkahjmeobblaaZm36
import Derived.Test.YtbnkahjmeobblaaZm37
import Derived.Test.YtbnkahjmeobblaaAcB
import Derived.Test.YtbnkahjmeobblaaZm02
import Derived.Test.YtbnkahjmeobblaaZm32
namespace Go.Proofs.Ytbnkahjmeobblaa
open Go.RowKit Mem Go.Lib LebM UtfM AcM OpM HeM
attribute [local go_sem ↓] Go.wp_at_zero Go.wp_at_succ
set_option linter.unusedVariables false

/-- a slice reads as these bytes -/
def KpB (w : World) (A : Option Addr) (B : List UInt8) : Prop := Rd w A B.length (B.map bytec)
theorem KpB.of {w : World} {base c : Nat} {A : Option Addr} {B : List UInt8} (h : Own w base A c B) : KpB w A B := h.rd
theorem KpB.fr {w w' : World} {A : Option Addr} {B : List UInt8} (h : KpB w A B) (hf : Fr (fun _ => False) w w') (_ : False → False) : KpB w' A B := Rd.fr h hf (fun _ _ h => h)
set_option maxRecDepth 100000 in
set_option maxHeartbeats 12800000 in
theorem hPut_any (ch : Ch) (A : Option Addr) (k : Nat) (A6 : Option Addr) (n6 k6 : Nat) (L : List Om) (w : World) (hd : Hsh w A ch.d.length ch.d) (hr : rightH ch = true) (ht0 : -9223372036854775808 ≤ ch.t) (ht1 : ch.t < 9223372036854775808)
    (hL : Ops w A6 n6 L) (hn6 : n6 ≤ 3000) (hok : ∀ x ∈ L, x.short ∧ x.o.pr.length ≤ 1000) (hTn : (tabA ch.a (namesM L)).length ≤ 100000) (hTx : ∀ x ∈ tabA ch.a (namesM L), x.length ≤ 1000000) (hTp : (putA (tabA ch.a (namesM L))).length ≤ 100000000) :
    Calls Try.prog 13 #[chc ch A k A6 n6 k6] w fun e w' => ∃ A' c', e = .returned (.slice A' (putH ch (tabA ch.a (namesM L))).length c') ∧ Own w' w.heap.size A' c' (putH ch (tabA ch.a (namesM L))) ∧ Fr (fun _ => False) w w' := by
  obtain ⟨⟨a0, a1⟩, ⟨q0, q1⟩, ⟨s0, s1⟩, m1, mw, d1, dr⟩ := right_parts hr
  obtain ⟨a, q, s, t, m, d⟩ := ch
  simp only at *
  obtain ⟨Q, rfl⟩ := Int.eq_ofNat_of_zero_le (show 0 ≤ q by omega)
  obtain ⟨ST, rfl⟩ := Int.eq_ofNat_of_zero_le (show 0 ≤ s by omega)
  obtain ⟨T, hT⟩ : ∃ T, tabA a (namesM L) = T := ⟨_, rfl⟩
  have h24 := fun (w' : World) (hf : Fr (fun _ => False) w w') => acTable_any a A6 n6 k6 L w' (hL.fr hf) hn6 (by omega) hok
  rw [hT] at hTn hTx hTp h24 ⊢
  obtain ⟨nt, hnt⟩ : ∃ nt, T.length = nt := ⟨_, rfl⟩
  have h25 := fun (A : Option Addr) (c : Nat) (w' : World) (ho : OwT w' w'.heap.size A c T) => True
  obtain ⟨R, hR⟩ : ∃ R, putH ⟨a, (Q : Int), (ST : Int), t, m, d⟩ T = R := ⟨_, rfl⟩
  have hRE : R = (u d.length ++ d.flatten) ++ (headT a ++ ((u Q ++ u ST) ++ (LebM.s t ++ (headT m ++ putA T)))) := by rw [← hR]; unfold putH; simp
  have h2 := fun (w' : World) (hf : Fr (fun _ => False) w w') => putDeps_any A d.length k d w' (hd.fr hf) (by omega)
  have h5 := fun (w' : World) => putText_any a w' (by omega)
  have h13 := fun (A : Option Addr) (c : Nat) (w' : World) (hr : Rd w' A 2 ([Q, ST].map numc)) => All_any A 2 c [Q, ST] w' hr (by intro x hx; simp only [List.mem_cons, List.not_mem_nil, or_false] at hx; rcases hx with rfl | rfl <;> omega) (by omega)
  have h16 := fun (w' : World) => S_any t w' ht0 ht1
  have h19 := fun (w' : World) => putText_any m w' (by omega)
  have e13 : [Q, ST].flatMap u = u Q ++ u ST := by simp
  simp only [e13] at h13
  have g2 : (u d.length ++ d.flatten).length ≤ 1000 := by
    have h1 := flat_len32 d hd.2.1
    have h2 := u_len10 (show d.length < 18446744073709551616 by omega)
    rw [List.length_append]
    omega
  have g5 : (headT a).length ≤ 1000 := by
    have h2 := u_len10 (show a.length < 18446744073709551616 by omega)
    unfold headT
    rw [List.length_append]
    omega
  have g13 : (u Q ++ u ST).length ≤ 1000 := by
    have h1 := u_len10 (show Q < 18446744073709551616 by omega)
    have h2 := u_len10 (show ST < 18446744073709551616 by omega)
    rw [List.length_append]
    omega
  have g16 : (LebM.s t).length ≤ 1000 := by have := s_len10 ht0 ht1; omega
  have g19 : (headT m).length ≤ 2000 := by
    have h2 := u_len10 (show m.length < 18446744073709551616 by omega)
    unfold headT
    rw [List.length_append]
    omega
  obtain ⟨B2, hB2⟩ : ∃ B, u d.length ++ d.flatten = B := ⟨_, rfl⟩
  obtain ⟨B5, hB5⟩ : ∃ B, headT a = B := ⟨_, rfl⟩
  obtain ⟨B13, hB13⟩ : ∃ B, u Q ++ u ST = B := ⟨_, rfl⟩
  obtain ⟨B16, hB16⟩ : ∃ B, LebM.s t = B := ⟨_, rfl⟩
  obtain ⟨B19, hB19⟩ : ∃ B, headT m = B := ⟨_, rfl⟩
  obtain ⟨B25, hB25⟩ : ∃ B, putA T = B := ⟨_, rfl⟩
  rw [hB2] at h2 hRE g2
  rw [hB5] at h5 hRE g5
  simp only [hB13] at h13
  rw [hB13] at hRE g13
  rw [hB16] at h16 hRE g16
  rw [hB19] at h19 hRE g19
  rw [hB25] at hRE hTp
  have g25 := hTp
  rw [hR]
  obtain ⟨l2, hl2⟩ : ∃ l, B2.length = l := ⟨_, rfl⟩
  obtain ⟨l5, hl5⟩ : ∃ l, B5.length = l := ⟨_, rfl⟩
  obtain ⟨l13, hl13⟩ : ∃ l, B13.length = l := ⟨_, rfl⟩
  obtain ⟨l16, hl16⟩ : ∃ l, B16.length = l := ⟨_, rfl⟩
  obtain ⟨l19, hl19⟩ : ∃ l, B19.length = l := ⟨_, rfl⟩
  obtain ⟨l25, hl25⟩ : ∃ l, B25.length = l := ⟨_, rfl⟩
  obtain ⟨lR, hlR⟩ : ∃ l, R.length = l := ⟨_, rfl⟩
  obtain ⟨base, hbase⟩ : ∃ b, w.heap.size = b := ⟨_, rfl⟩
  have HC2 : Hid (∀ w', Fr (fun _ => False) w w' → Calls Try.prog 30 #[.slice A d.length k] w' (Gives w' B2)) := Lib.hid h2
  have HC5 : Hid (∀ w', Calls Try.prog 31 #[.string (txt a)] w' (Gives w' B5)) := Lib.hid h5
  have HC19 : Hid (∀ w', Calls Try.prog 31 #[.string (txt m)] w' (Gives w' B19)) := Lib.hid h19
  have HC16 : Hid (∀ w', Calls Try.prog 33 #[.int .i64 t] w' (Gives w' B16)) := Lib.hid h16
  have HC13 : Hid (∀ (q c : Nat) w', Row w' q 45 [.int .u64 (Q : Int), .int .u64 (ST : Int)] → Calls Try.prog 32 #[.slice (some ⟨q, 0, none⟩) 2 c] w' (Gives w' B13)) := Lib.hid (fun q c w' h => h13 _ c w' (by have h1 := h.rd 0 2 (by simp); simpa [numc] using h1))
  have HC24 : Hid (∀ w', Fr (fun _ => False) w w' → Calls Try.prog 35 #[.string (txt a), .slice A6 n6 k6] w' fun e w'' => ∃ A' c', e = .returned (.slice A' T.length c') ∧ OwT w'' w'.heap.size A' c' T ∧ Fr (fun _ => False) w' w'') := Lib.hid h24
  have HC25 : Hid (∀ A c w' b, OwT w' b A c T → Calls Try.prog 34 #[.slice A nt c] w' (Gives w' B25)) := Lib.hid (fun A c w' b ho => by
    have h := acPut_any A nt c T w' (by have h := ho.rd; rwa [hnt] at h) (by have h := ho.cap.1; omega) (by omega) hTx
    rw [hB25] at h
    exact h)
  have HC27 : Hid (∀ (A2 : Option Addr) c2 (A5 : Option Addr) c5 (A13 : Option Addr) c13 (A16 : Option Addr) c16 (A19 : Option Addr) c19 (A25 : Option Addr) c25 (q : Nat) w', Row w' q 29 [.slice A2 l2 c2, .slice A5 l5 c5, .slice A13 l13 c13, .slice A16 l16 c16, .slice A19 l19 c19, .slice A25 l25 c25] →
      KpB w' A2 B2 → KpB w' A5 B5 → KpB w' A13 B13 → KpB w' A16 B16 → KpB w' A19 B19 → KpB w' A25 B25 → Calls Try.prog 29 #[.slice (some ⟨q, 0, none⟩) 6 6] w' (Gives w' R)) := Lib.hid (by
    intro A2 c2 A5 c5 A13 c13 A16 c16 A19 c19 A25 c25 q w' hq k2 k5 k13 k16 k19 k25
    have h := concat_any (some ⟨q, 0, none⟩) 6 6 [⟨0, A2, c2, B2⟩, ⟨0, A5, c5, B5⟩, ⟨0, A13, c13, B13⟩, ⟨0, A16, c16, B16⟩, ⟨0, A19, c19, B19⟩, ⟨0, A25, c25, B25⟩] w' (by
      have h1 := hq.rd 0 6 (by simp)
      simpa [dac, hl2, hl5, hl13, hl16, hl19, hl25] using h1) (by
      intro x hx
      simp only [List.mem_cons, List.not_mem_nil, or_false] at hx
      rcases hx with rfl | rfl | rfl | rfl | rfl | rfl
      · exact k2
      · exact k5
      · exact k13
      · exact k16
      · exact k19
      · exact k25) (by simp [sumB]; omega) (by omega)
    have e : catB [⟨0, A2, c2, B2⟩, ⟨0, A5, c5, B5⟩, ⟨0, A13, c13, B13⟩, ⟨0, A16, c16, B16⟩, ⟨0, A19, c19, B19⟩, ⟨0, A25, c25, B25⟩] = R := by rw [hRE]; simp [catB]
    rw [e] at h
    exact h)
  obtain ⟨nd, hnd⟩ : ∃ nd, d.length = nd := ⟨_, rfl⟩
  unfold chc
  simp only
  rw [hnd] at HC2 ⊢
  obtain ⟨g, hg⟩ : ∃ g, w.heap.size = g := ⟨_, rfl⟩
  obtain ⟨w1, hw1⟩ : ∃ w1, w.alloc (.cells [.string (txt a), .int .i64 (Q : Int), .int .i64 (ST : Int), .int .i64 t, .string (txt m), .slice A nd k, .slice A6 n6 k6].toArray 25) = w1 := ⟨_, rfl⟩
  have HR1 : Hid (Row w1 g 25 [.string (txt a), .int .i64 (Q : Int), .int .i64 (ST : Int), .int .i64 t, .string (txt m), .slice A nd k, .slice A6 n6 k6]) := Lib.hid (by rw [← hw1, ← hg]; exact Row.new _ _ _)
  have HF1 : Hid (Fr (fun _ => False) w w1) := Lib.hid (by rw [← hw1]; exact (Fr.refl _ _).alloc _)
  have HC2 : Hid (∀ w', Fr (fun _ => False) w1 w' → Calls Try.prog 30 #[.slice A nd k] w' (Gives w' B2)) := Lib.hid (fun w' hf => HC2.out w' (HF1.out.trans hf (fun _ _ h => h)))
  have HC24 : Hid (∀ w', Fr (fun _ => False) w1 w' → Calls Try.prog 35 #[.string (txt a), .slice A6 n6 k6] w' fun e w'' => ∃ A' c', e = .returned (.slice A' T.length c') ∧ OwT w'' w'.heap.size A' c' T ∧ Fr (fun _ => False) w' w'') := Lib.hid (fun w' hf => HC24.out w' (HF1.out.trans hf (fun _ _ h => h)))
  have HBX : Hid (∀ w', Fr (fun _ => False) w1 w' → w'.cell? ⟨g, 0, none⟩ = some (.string (txt a)) ∧ w'.cell? ⟨g, 1, none⟩ = some (.int .i64 (Q : Int)) ∧ w'.cell? ⟨g, 2, none⟩ = some (.int .i64 (ST : Int)) ∧ w'.cell? ⟨g, 3, none⟩ = some (.int .i64 t) ∧ w'.cell? ⟨g, 4, none⟩ = some (.string (txt m)) ∧ w'.cell? ⟨g, 5, none⟩ = some (.slice A nd k) ∧ w'.cell? ⟨g, 6, none⟩ = some (.slice A6 n6 k6)) :=
    Lib.hid (fun w' hf => by
      have h := HR1.out.fr hf (fun h => h)
      exact ⟨h.cell rfl, h.cell rfl, h.cell rfl, h.cell rfl, h.cell rfl, h.cell rfl, h.cell rfl⟩)
  have eQ : IntKind.u64.wrap (Q : Int) = (Q : Int) := by rw [IntKind.wrap_u64]; omega
  have eST : IntKind.u64.wrap (ST : Int) = (ST : Int) := by rw [IntKind.wrap_u64]; omega
  have HL2 := Lib.hid hl2
  have HL5 := Lib.hid hl5
  have HL13 := Lib.hid hl13
  have HL16 := Lib.hid hl16
  have HL19 := Lib.hid hl19
  have HL25 := Lib.hid hl25
  have HLR := Lib.hid hlR
  have HTN := Lib.hid hnt
  have HB := Lib.hid hbase
  clear hd hr hL hok hTn hTx hTp h24 h25 hR hRE h2 h5 h13 h16 h19 e13 g2 g5 g13 g16 g19 g25 hB2 hB5 hB13 hB16 hB19 hB25 hl2 hl5 hl13 hl16 hl19 hl25 hlR hbase hnt hT hnd a0 a1 q0 q1 s0 s1 m1 mw d1 dr ht0 ht1 hn6
  go_enter Try.func13, Try.ntmps13
  go_upto_region 1 with fail
  clear hw1 hg
  have HGc : Hid (Fr (fun _ => False) w1 w1) := Lib.hid (Fr.refl _ _)
  refine wp_region_held_drew (S := fun w' => Fr (fun _ => False) w1 w') (by kernel_rfl) ?_ (fun hHeld => ?_)
  · exact (Fr.refl _ _).drew
  refine wpAnyH_take (i := 0) (v := ?vt1) rfl (by kernel_rfl) (by kernel_rfl) (by kernel_rfl) (fun _ _ _ h => h) (Or.inl ⟨by rfl, ?hyt1⟩) hHeld ?restt1
  case hyt1 => intro w hSw; (try dsimp only at hSw); go_simp; try (with_reducible rfl)
  (try simp only [Act.put, List.setIfInBounds_toArray, List.set_cons_zero, List.set_cons_succ, List.getElem_toArray, List.getElem_cons_zero])
  refine wpAnyH_take (i := 1) (v := ?vt2) rfl (by kernel_rfl) (by kernel_rfl) (by kernel_rfl) (fun _ _ _ h => h) (Or.inl ⟨by rfl, ?hyt2⟩) hHeld ?restt2
  case hyt2 => intro w hSw; (try dsimp only at hSw); obtain ⟨k0, k1, k2, k3, k4, k5, k6⟩ := HBX.out _ (HGc.out.trans hSw (fun _ _ h => h)); go_simp; try (with_reducible rfl)
  (try simp only [Act.put, List.setIfInBounds_toArray, List.set_cons_zero, List.set_cons_succ, List.getElem_toArray, List.getElem_cons_zero, List.getElem_cons_succ])
  refine wpAnyH_take (i := 3) (v := ?vt3) rfl (by kernel_rfl) (by kernel_rfl) (by kernel_rfl) (fun _ _ _ h => h) (Or.inl ⟨by rfl, ?hyt3⟩) hHeld ?restt3
  case hyt3 => intro w hSw; (try dsimp only at hSw); go_simp; try (with_reducible rfl)
  (try simp only [Act.put, List.setIfInBounds_toArray, List.set_cons_zero, List.set_cons_succ, List.getElem_toArray, List.getElem_cons_zero, List.getElem_cons_succ])
  refine wpAnyH_take (i := 4) (v := ?vt4) rfl (by kernel_rfl) (by kernel_rfl) (by kernel_rfl) (fun _ _ _ h => h) (Or.inl ⟨by rfl, ?hyt4⟩) hHeld ?restt4
  case hyt4 => intro w hSw; (try dsimp only at hSw); obtain ⟨k0, k1, k2, k3, k4, k5, k6⟩ := HBX.out _ (HGc.out.trans hSw (fun _ _ h => h)); go_simp; try (with_reducible rfl)
  (try simp only [Act.put, List.setIfInBounds_toArray, List.set_cons_zero, List.set_cons_succ, List.getElem_toArray, List.getElem_cons_zero, List.getElem_cons_succ])
  refine wpAnyH_take (i := 6) (v := ?vt5) rfl (by kernel_rfl) (by kernel_rfl) (by kernel_rfl) (fun _ _ _ h => h) (Or.inl ⟨by rfl, ?hyt5⟩) hHeld ?restt5
  case hyt5 => intro w hSw; (try dsimp only at hSw); go_simp; try (with_reducible rfl)
  (try simp only [Act.put, List.setIfInBounds_toArray, List.set_cons_zero, List.set_cons_succ, List.getElem_toArray, List.getElem_cons_zero, List.getElem_cons_succ])
  refine wpAnyH_take (i := 7) (v := ?vt6) rfl (by kernel_rfl) (by kernel_rfl) (by kernel_rfl) (fun _ _ _ h => h) (Or.inl ⟨by rfl, ?hyt6⟩) hHeld ?restt6
  case hyt6 => intro w hSw; (try dsimp only at hSw); obtain ⟨k0, k1, k2, k3, k4, k5, k6⟩ := HBX.out _ (HGc.out.trans hSw (fun _ _ h => h)); go_simp; try (with_reducible rfl)
  (try simp only [Act.put, List.setIfInBounds_toArray, List.set_cons_zero, List.set_cons_succ, List.getElem_toArray, List.getElem_cons_zero, List.getElem_cons_succ])
  refine wpAnyH_take (i := 8) (v := ?vt7) rfl (by kernel_rfl) (by kernel_rfl) (by kernel_rfl) (fun _ _ _ h => h) (Or.inl ⟨by rfl, ?hyt7⟩) hHeld ?restt7
  case hyt7 => intro w hSw; (try dsimp only at hSw); go_simp; try (with_reducible rfl)
  (try simp only [Act.put, List.setIfInBounds_toArray, List.set_cons_zero, List.set_cons_succ, List.getElem_toArray, List.getElem_cons_zero, List.getElem_cons_succ])
  refine wpAnyH_take (i := 9) (v := ?vt8) rfl (by kernel_rfl) (by kernel_rfl) (by kernel_rfl) (fun _ _ _ h => h) (Or.inl ⟨by rfl, ?hyt8⟩) hHeld ?restt8
  case hyt8 => intro w hSw; (try dsimp only at hSw); go_simp; try (with_reducible rfl)
  (try simp only [Act.put, List.setIfInBounds_toArray, List.set_cons_zero, List.set_cons_succ, List.getElem_toArray, List.getElem_cons_zero, List.getElem_cons_succ])
  refine wpAnyH_take (i := 10) (v := ?vt9) rfl (by kernel_rfl) (by kernel_rfl) (by kernel_rfl) (fun _ _ _ h => h) (Or.inl ⟨by rfl, ?hyt9⟩) hHeld ?restt9
  case hyt9 => intro w hSw; (try dsimp only at hSw); obtain ⟨k0, k1, k2, k3, k4, k5, k6⟩ := HBX.out _ (HGc.out.trans hSw (fun _ _ h => h)); go_simp; try (with_reducible rfl)
  (try simp only [Act.put, List.setIfInBounds_toArray, List.set_cons_zero, List.set_cons_succ, List.getElem_toArray, List.getElem_cons_zero, List.getElem_cons_succ])
  refine wpAnyH_take (i := 11) (v := ?vt10) rfl (by kernel_rfl) (by kernel_rfl) (by kernel_rfl) (fun _ _ _ h => h) (Or.inl ⟨by rfl, ?hyt10⟩) hHeld ?restt10
  case hyt10 => intro w hSw; (try dsimp only at hSw); go_simp; try (with_reducible rfl)
  (try simp only [Act.put, List.setIfInBounds_toArray, List.set_cons_zero, List.set_cons_succ, List.getElem_toArray, List.getElem_cons_zero, List.getElem_cons_succ])
  refine wpAnyH_take (i := 14) (v := ?vt11) rfl (by kernel_rfl) (by kernel_rfl) (by kernel_rfl) (fun _ _ _ h => h) (Or.inl ⟨by rfl, ?hyt11⟩) hHeld ?restt11
  case hyt11 => intro w hSw; (try dsimp only at hSw); go_simp; try (with_reducible rfl)
  (try simp only [Act.put, List.setIfInBounds_toArray, List.set_cons_zero, List.set_cons_succ, List.getElem_toArray, List.getElem_cons_zero, List.getElem_cons_succ])
  refine wpAnyH_take (i := 15) (v := ?vt12) rfl (by kernel_rfl) (by kernel_rfl) (by kernel_rfl) (fun _ _ _ h => h) (Or.inl ⟨by rfl, ?hyt12⟩) hHeld ?restt12
  case hyt12 => intro w hSw; (try dsimp only at hSw); obtain ⟨k0, k1, k2, k3, k4, k5, k6⟩ := HBX.out _ (HGc.out.trans hSw (fun _ _ h => h)); go_simp; try (with_reducible rfl)
  (try simp only [Act.put, List.setIfInBounds_toArray, List.set_cons_zero, List.set_cons_succ, List.getElem_toArray, List.getElem_cons_zero, List.getElem_cons_succ])
  refine wpAnyH_take (i := 17) (v := ?vt13) rfl (by kernel_rfl) (by kernel_rfl) (by kernel_rfl) (fun _ _ _ h => h) (Or.inl ⟨by rfl, ?hyt13⟩) hHeld ?restt13
  case hyt13 => intro w hSw; (try dsimp only at hSw); go_simp; try (with_reducible rfl)
  (try simp only [Act.put, List.setIfInBounds_toArray, List.set_cons_zero, List.set_cons_succ, List.getElem_toArray, List.getElem_cons_zero, List.getElem_cons_succ])
  refine wpAnyH_take (i := 18) (v := ?vt14) rfl (by kernel_rfl) (by kernel_rfl) (by kernel_rfl) (fun _ _ _ h => h) (Or.inl ⟨by rfl, ?hyt14⟩) hHeld ?restt14
  case hyt14 => intro w hSw; (try dsimp only at hSw); obtain ⟨k0, k1, k2, k3, k4, k5, k6⟩ := HBX.out _ (HGc.out.trans hSw (fun _ _ h => h)); go_simp; try (with_reducible rfl)
  (try simp only [Act.put, List.setIfInBounds_toArray, List.set_cons_zero, List.set_cons_succ, List.getElem_toArray, List.getElem_cons_zero, List.getElem_cons_succ])
  refine wpAnyH_take (i := 20) (v := ?vt15) rfl (by kernel_rfl) (by kernel_rfl) (by kernel_rfl) (fun _ _ _ h => h) (Or.inl ⟨by rfl, ?hyt15⟩) hHeld ?restt15
  case hyt15 => intro w hSw; (try dsimp only at hSw); go_simp; try (with_reducible rfl)
  (try simp only [Act.put, List.setIfInBounds_toArray, List.set_cons_zero, List.set_cons_succ, List.getElem_toArray, List.getElem_cons_zero, List.getElem_cons_succ])
  refine wpAnyH_take (i := 21) (v := ?vt16) rfl (by kernel_rfl) (by kernel_rfl) (by kernel_rfl) (fun _ _ _ h => h) (Or.inl ⟨by rfl, ?hyt16⟩) hHeld ?restt16
  case hyt16 => intro w hSw; (try dsimp only at hSw); obtain ⟨k0, k1, k2, k3, k4, k5, k6⟩ := HBX.out _ (HGc.out.trans hSw (fun _ _ h => h)); go_simp; try (with_reducible rfl)
  (try simp only [Act.put, List.setIfInBounds_toArray, List.set_cons_zero, List.set_cons_succ, List.getElem_toArray, List.getElem_cons_zero, List.getElem_cons_succ])
  refine wpAnyH_take (i := 22) (v := ?vt17) rfl (by kernel_rfl) (by kernel_rfl) (by kernel_rfl) (fun _ _ _ h => h) (Or.inl ⟨by rfl, ?hyt17⟩) hHeld ?restt17
  case hyt17 => intro w hSw; (try dsimp only at hSw); go_simp; try (with_reducible rfl)
  (try simp only [Act.put, List.setIfInBounds_toArray, List.set_cons_zero, List.set_cons_succ, List.getElem_toArray, List.getElem_cons_zero, List.getElem_cons_succ])
  refine wpAnyH_take (i := 23) (v := ?vt18) rfl (by kernel_rfl) (by kernel_rfl) (by kernel_rfl) (fun _ _ _ h => h) (Or.inl ⟨by rfl, ?hyt18⟩) hHeld ?restt18
  case hyt18 => intro w hSw; (try dsimp only at hSw); obtain ⟨k0, k1, k2, k3, k4, k5, k6⟩ := HBX.out _ (HGc.out.trans hSw (fun _ _ h => h)); go_simp; try (with_reducible rfl)
  (try simp only [Act.put, List.setIfInBounds_toArray, List.set_cons_zero, List.set_cons_succ, List.getElem_toArray, List.getElem_cons_zero, List.getElem_cons_succ])
  refine wpAnyH_ready (rs := [2, 12]) (by kernel_rfl) (by simp) ?_
  refine AllReadyH.cons rfl (fun Kx hKx => ?_) ?_
  · go_simp
    have hcon := HC2.out w1.drew ((Fr.refl (fun _ => False) w1).drew)
    with_reducible refine hcon.mono ?_
    clear hcon
    rintro e' v1 ⟨A2, c2, rfl, ho2, hff⟩
    have HFn : Hid (Fr (fun _ => False) w1 v1) := Lib.hid ((Fr.refl _ _).drew.trans hff (fun _ _ h => h))
    clear hff
    have HK2 := Lib.hid (KpB.of ho2)
    rw [HL2.out]
    clear ho2
    have HGc := Lib.hid (HGc.out.trans HFn.out (fun _ _ h => h))
    refine hKx.out _ _ ?_ (fun hHeld => ?_)
    · exact HFn.out
    clear hKx Kx
    (try simp only [Act.put, List.setIfInBounds_toArray, List.set_cons_zero, List.set_cons_succ, List.getElem_toArray, List.getElem_cons_zero, List.getElem_cons_succ])
    refine wpAnyH_more (fun w' => Fr (fun _ => False) v1 w') (fun _ h => HFn.out.trans h (fun _ _ h => h)) ?_ (fun hHeld => ?_)
    · exact Fr.refl _ _
    clear HFn
    refine wpAnyH_ready (rs := [5, 12]) (by kernel_rfl) (by simp) ?_
    refine AllReadyH.cons rfl (fun Kx hKx => ?_) ?_
    · go_simp
      have hcon := HC5.out v1
      with_reducible refine hcon.mono ?_
      clear hcon
      rintro e' v2 ⟨A5, c5, rfl, ho5, hff⟩
      have HFn : Hid (Fr (fun _ => False) v1 v2) := Lib.hid (hff)
      clear hff
      have HK5 := Lib.hid (KpB.of ho5)
      rw [HL5.out]
      clear ho5
      have HK2 := Lib.hid (HK2.out.fr HFn.out (fun h => h))
      have HGc := Lib.hid (HGc.out.trans HFn.out (fun _ _ h => h))
      refine hKx.out _ _ ?_ (fun hHeld => ?_)
      · exact HFn.out
      clear hKx Kx
      (try simp only [Act.put, List.setIfInBounds_toArray, List.set_cons_zero, List.set_cons_succ, List.getElem_toArray, List.getElem_cons_zero, List.getElem_cons_succ])
      refine wpAnyH_more (fun w' => Fr (fun _ => False) v2 w') (fun _ h => HFn.out.trans h (fun _ _ h => h)) ?_ (fun hHeld => ?_)
      · exact Fr.refl _ _
      clear HFn
      refine wpAnyH_ready (rs := [12]) (by kernel_rfl) (by simp) ?_
      refine AllReadyH.cons rfl (fun Kx hKx => ?_) AllReadyH.nil
      go_simp
      obtain ⟨v3, hwm⟩ : ∃ v, (v2.alloc (.cells [.int .u64 (Q : Int), .int .u64 (ST : Int)].toArray 45)) = v := ⟨_, rfl⟩
      rw [hwm]
      obtain ⟨q12, hqm⟩ : ∃ q, v2.heap.size = q := ⟨_, rfl⟩
      try rw [hqm]
      have HFn : Hid (Fr (fun _ => False) v2 v3) := Lib.hid (by rw [← hwm]; exact ((Fr.refl _ _).alloc _))
      have hbm : Row v3 q12 45 [.int .u64 (Q : Int), .int .u64 (ST : Int)] := by rw [← hwm, ← hqm]; exact Row.new v2 _ _
      have HQ12 := Lib.hid hbm
      clear hwm hqm hbm
      have HK2 := Lib.hid (HK2.out.fr HFn.out (fun h => h))
      have HK5 := Lib.hid (HK5.out.fr HFn.out (fun h => h))
      have HGc := Lib.hid (HGc.out.trans HFn.out (fun _ _ h => h))
      refine hKx.out _ _ ?_ (fun hHeld => ?_)
      · exact HFn.out
      clear hKx Kx
      (try simp only [Act.put, List.setIfInBounds_toArray, List.set_cons_zero, List.set_cons_succ, List.getElem_toArray, List.getElem_cons_zero, List.getElem_cons_succ])
      refine wpAnyH_more (fun w' => Fr (fun _ => False) v3 w') (fun _ h => HFn.out.trans h (fun _ _ h => h)) ?_ (fun hHeld => ?_)
      · exact Fr.refl _ _
      clear HFn
      refine wpAnyH_ready (rs := [13]) (by kernel_rfl) (by simp) ?_
      refine AllReadyH.cons rfl (fun Kx hKx => ?_) AllReadyH.nil
      go_simp
      have hcon := HC13.out q12 2 v3 (by have h := HQ12.out; exact h)
      with_reducible refine hcon.mono ?_
      clear hcon
      rintro e' v4 ⟨A13, c13, rfl, ho13, hff⟩
      have HFn : Hid (Fr (fun _ => False) v3 v4) := Lib.hid (hff)
      clear hff
      have HK13 := Lib.hid (KpB.of ho13)
      rw [HL13.out]
      clear ho13
      have HK2 := Lib.hid (HK2.out.fr HFn.out (fun h => h))
      have HK5 := Lib.hid (HK5.out.fr HFn.out (fun h => h))
      have HQ12 := Lib.hid (HQ12.out.fr HFn.out (fun h => h))
      have HGc := Lib.hid (HGc.out.trans HFn.out (fun _ _ h => h))
      refine hKx.out _ _ ?_ (fun hHeld => ?_)
      · exact HFn.out
      clear hKx Kx
      (try simp only [Act.put, List.setIfInBounds_toArray, List.set_cons_zero, List.set_cons_succ, List.getElem_toArray, List.getElem_cons_zero, List.getElem_cons_succ])
      refine wpAnyH_more (fun w' => Fr (fun _ => False) v4 w') (fun _ h => HFn.out.trans h (fun _ _ h => h)) ?_ (fun hHeld => ?_)
      · exact Fr.refl _ _
      clear HFn
      refine wpAnyH_ready (rs := [16]) (by kernel_rfl) (by simp) ?_
      refine AllReadyH.cons rfl (fun Kx hKx => ?_) AllReadyH.nil
      go_simp
      have hcon := HC16.out v4
      with_reducible refine hcon.mono ?_
      clear hcon
      rintro e' v5 ⟨A16, c16, rfl, ho16, hff⟩
      have HFn : Hid (Fr (fun _ => False) v4 v5) := Lib.hid (hff)
      clear hff
      have HK16 := Lib.hid (KpB.of ho16)
      rw [HL16.out]
      clear ho16
      have HK2 := Lib.hid (HK2.out.fr HFn.out (fun h => h))
      have HK5 := Lib.hid (HK5.out.fr HFn.out (fun h => h))
      have HQ12 := Lib.hid (HQ12.out.fr HFn.out (fun h => h))
      have HK13 := Lib.hid (HK13.out.fr HFn.out (fun h => h))
      have HGc := Lib.hid (HGc.out.trans HFn.out (fun _ _ h => h))
      refine hKx.out _ _ ?_ (fun hHeld => ?_)
      · exact HFn.out
      clear hKx Kx
      (try simp only [Act.put, List.setIfInBounds_toArray, List.set_cons_zero, List.set_cons_succ, List.getElem_toArray, List.getElem_cons_zero, List.getElem_cons_succ])
      refine wpAnyH_more (fun w' => Fr (fun _ => False) v5 w') (fun _ h => HFn.out.trans h (fun _ _ h => h)) ?_ (fun hHeld => ?_)
      · exact Fr.refl _ _
      clear HFn
      refine wpAnyH_ready (rs := [19]) (by kernel_rfl) (by simp) ?_
      refine AllReadyH.cons rfl (fun Kx hKx => ?_) AllReadyH.nil
      go_simp
      have hcon := HC19.out v5
      with_reducible refine hcon.mono ?_
      clear hcon
      rintro e' v6 ⟨A19, c19, rfl, ho19, hff⟩
      have HFn : Hid (Fr (fun _ => False) v5 v6) := Lib.hid (hff)
      clear hff
      have HK19 := Lib.hid (KpB.of ho19)
      rw [HL19.out]
      clear ho19
      have HK2 := Lib.hid (HK2.out.fr HFn.out (fun h => h))
      have HK5 := Lib.hid (HK5.out.fr HFn.out (fun h => h))
      have HQ12 := Lib.hid (HQ12.out.fr HFn.out (fun h => h))
      have HK13 := Lib.hid (HK13.out.fr HFn.out (fun h => h))
      have HK16 := Lib.hid (HK16.out.fr HFn.out (fun h => h))
      have HGc := Lib.hid (HGc.out.trans HFn.out (fun _ _ h => h))
      refine hKx.out _ _ ?_ (fun hHeld => ?_)
      · exact HFn.out
      clear hKx Kx
      (try simp only [Act.put, List.setIfInBounds_toArray, List.set_cons_zero, List.set_cons_succ, List.getElem_toArray, List.getElem_cons_zero, List.getElem_cons_succ])
      refine wpAnyH_more (fun w' => Fr (fun _ => False) v6 w') (fun _ h => HFn.out.trans h (fun _ _ h => h)) ?_ (fun hHeld => ?_)
      · exact Fr.refl _ _
      clear HFn
      refine wpAnyH_ready (rs := [24]) (by kernel_rfl) (by simp) ?_
      refine AllReadyH.cons rfl (fun Kx hKx => ?_) AllReadyH.nil
      go_simp
      have hcon := HC24.out v6 HGc.out
      with_reducible refine hcon.mono ?_
      clear hcon
      rintro e' v7 ⟨A24, c24, rfl, ho24, hff⟩
      have HFn : Hid (Fr (fun _ => False) v6 v7) := Lib.hid (hff)
      clear hff
      rw [HTN.out]
      have HT24 := Lib.hid ho24
      clear ho24
      have HK2 := Lib.hid (HK2.out.fr HFn.out (fun h => h))
      have HK5 := Lib.hid (HK5.out.fr HFn.out (fun h => h))
      have HQ12 := Lib.hid (HQ12.out.fr HFn.out (fun h => h))
      have HK13 := Lib.hid (HK13.out.fr HFn.out (fun h => h))
      have HK16 := Lib.hid (HK16.out.fr HFn.out (fun h => h))
      have HK19 := Lib.hid (HK19.out.fr HFn.out (fun h => h))
      have HGc := Lib.hid (HGc.out.trans HFn.out (fun _ _ h => h))
      refine hKx.out _ _ ?_ (fun hHeld => ?_)
      · exact HFn.out
      clear hKx Kx
      (try simp only [Act.put, List.setIfInBounds_toArray, List.set_cons_zero, List.set_cons_succ, List.getElem_toArray, List.getElem_cons_zero, List.getElem_cons_succ])
      refine wpAnyH_more (fun w' => Fr (fun _ => False) v7 w') (fun _ h => HFn.out.trans h (fun _ _ h => h)) ?_ (fun hHeld => ?_)
      · exact Fr.refl _ _
      clear HFn
      refine wpAnyH_ready (rs := [25]) (by kernel_rfl) (by simp) ?_
      refine AllReadyH.cons rfl (fun Kx hKx => ?_) AllReadyH.nil
      go_simp
      have hcon := HC25.out A24 c24 v7 _ HT24.out
      with_reducible refine hcon.mono ?_
      clear hcon
      rintro e' v8 ⟨A25, c25, rfl, ho25, hff⟩
      have HFn : Hid (Fr (fun _ => False) v7 v8) := Lib.hid (hff)
      clear hff
      have HK25 := Lib.hid (KpB.of ho25)
      rw [HL25.out]
      clear ho25
      have HK2 := Lib.hid (HK2.out.fr HFn.out (fun h => h))
      have HK5 := Lib.hid (HK5.out.fr HFn.out (fun h => h))
      have HQ12 := Lib.hid (HQ12.out.fr HFn.out (fun h => h))
      have HK13 := Lib.hid (HK13.out.fr HFn.out (fun h => h))
      have HK16 := Lib.hid (HK16.out.fr HFn.out (fun h => h))
      have HK19 := Lib.hid (HK19.out.fr HFn.out (fun h => h))
      have HGc := Lib.hid (HGc.out.trans HFn.out (fun _ _ h => h))
      refine hKx.out _ _ ?_ (fun hHeld => ?_)
      · exact HFn.out
      clear hKx Kx
      (try simp only [Act.put, List.setIfInBounds_toArray, List.set_cons_zero, List.set_cons_succ, List.getElem_toArray, List.getElem_cons_zero, List.getElem_cons_succ])
      refine wpAnyH_more (fun w' => Fr (fun _ => False) v8 w') (fun _ h => HFn.out.trans h (fun _ _ h => h)) ?_ (fun hHeld => ?_)
      · exact Fr.refl _ _
      clear HFn
      refine wpAnyH_ready (rs := [26]) (by kernel_rfl) (by simp) ?_
      refine AllReadyH.cons rfl (fun Kx hKx => ?_) AllReadyH.nil
      go_simp
      obtain ⟨v9, hwm⟩ : ∃ v, (v8.alloc (.cells [.slice A2 l2 c2, .slice A5 l5 c5, .slice A13 l13 c13, .slice A16 l16 c16, .slice A19 l19 c19, .slice A25 l25 c25].toArray 29)) = v := ⟨_, rfl⟩
      rw [hwm]
      obtain ⟨q26, hqm⟩ : ∃ q, v8.heap.size = q := ⟨_, rfl⟩
      try rw [hqm]
      have HFn : Hid (Fr (fun _ => False) v8 v9) := Lib.hid (by rw [← hwm]; exact ((Fr.refl _ _).alloc _))
      have hbm : Row v9 q26 29 [.slice A2 l2 c2, .slice A5 l5 c5, .slice A13 l13 c13, .slice A16 l16 c16, .slice A19 l19 c19, .slice A25 l25 c25] := by rw [← hwm, ← hqm]; exact Row.new v8 _ _
      have HQ26 := Lib.hid hbm
      clear hwm hqm hbm
      have HK2 := Lib.hid (HK2.out.fr HFn.out (fun h => h))
      have HK5 := Lib.hid (HK5.out.fr HFn.out (fun h => h))
      have HQ12 := Lib.hid (HQ12.out.fr HFn.out (fun h => h))
      have HK13 := Lib.hid (HK13.out.fr HFn.out (fun h => h))
      have HK16 := Lib.hid (HK16.out.fr HFn.out (fun h => h))
      have HK19 := Lib.hid (HK19.out.fr HFn.out (fun h => h))
      have HK25 := Lib.hid (HK25.out.fr HFn.out (fun h => h))
      have HGc := Lib.hid (HGc.out.trans HFn.out (fun _ _ h => h))
      refine hKx.out _ _ ?_ (fun hHeld => ?_)
      · exact HFn.out
      clear hKx Kx
      (try simp only [Act.put, List.setIfInBounds_toArray, List.set_cons_zero, List.set_cons_succ, List.getElem_toArray, List.getElem_cons_zero, List.getElem_cons_succ])
      refine wpAnyH_more (fun w' => Fr (fun _ => False) v9 w') (fun _ h => HFn.out.trans h (fun _ _ h => h)) ?_ (fun hHeld => ?_)
      · exact Fr.refl _ _
      clear HFn
      refine wpAnyH_ready (rs := [27]) (by kernel_rfl) (by simp) ?_
      refine AllReadyH.cons rfl (fun Kx hKx => ?_) AllReadyH.nil
      go_simp
      have hcon := HC27.out A2 c2 A5 c5 A13 c13 A16 c16 A19 c19 A25 c25 q26 v9 (by have h := HQ26.out; exact h) HK2.out HK5.out HK13.out HK16.out HK19.out HK25.out
      with_reducible refine hcon.mono ?_
      clear hcon
      rintro e' v10 ⟨A27, c27, rfl, ho27, hff⟩
      have HFn : Hid (Fr (fun _ => False) v9 v10) := Lib.hid (hff)
      clear hff
      rw [HLR.out]
      have HO27 := Lib.hid (ho27.base (show w.heap.size ≤ _ from Nat.le_trans HF1.out.size HGc.out.size))
      clear ho27
      have HK2 := Lib.hid (HK2.out.fr HFn.out (fun h => h))
      have HK5 := Lib.hid (HK5.out.fr HFn.out (fun h => h))
      have HQ12 := Lib.hid (HQ12.out.fr HFn.out (fun h => h))
      have HK13 := Lib.hid (HK13.out.fr HFn.out (fun h => h))
      have HK16 := Lib.hid (HK16.out.fr HFn.out (fun h => h))
      have HK19 := Lib.hid (HK19.out.fr HFn.out (fun h => h))
      have HK25 := Lib.hid (HK25.out.fr HFn.out (fun h => h))
      have HQ26 := Lib.hid (HQ26.out.fr HFn.out (fun h => h))
      have HGc := Lib.hid (HGc.out.trans HFn.out (fun _ _ h => h))
      refine hKx.out _ _ ?_ (fun hHeld => ?_)
      · exact HFn.out
      clear hKx Kx
      (try simp only [Act.put, List.setIfInBounds_toArray, List.set_cons_zero, List.set_cons_succ, List.getElem_toArray, List.getElem_cons_zero, List.getElem_cons_succ])
      refine wpAnyH_more (fun w' => Fr (fun _ => False) v10 w') (fun _ h => HFn.out.trans h (fun _ _ h => h)) ?_ (fun hHeld => ?_)
      · exact Fr.refl _ _
      clear HFn
      refine wpAnyH_take (i := 28) (v := ?vt19) rfl (by kernel_rfl) (by kernel_rfl) (by kernel_rfl) (fun _ _ _ h => h) (Or.inl ⟨by rfl, ?hyt19⟩) hHeld ?restt19
      case hyt19 => intro w hSw; (try dsimp only at hSw); go_simp; try (with_reducible rfl)
      (try simp only [Act.put, List.setIfInBounds_toArray, List.set_cons_zero, List.set_cons_succ, List.getElem_toArray, List.getElem_cons_zero, List.getElem_cons_succ])
      refine wpAnyH_done (by kernel_rfl) ?_ _
      go_wp2_with fail
      go_ret
      exact ⟨A27, c27, by rw [HLR.out]; rfl, HO27.out, HF1.out.trans HGc.out (fun _ _ h => h)⟩
    refine AllReadyH.cons rfl (fun Kx hKx => ?_) AllReadyH.nil
    go_simp
    obtain ⟨v2, hwm⟩ : ∃ v, (v1.alloc (.cells [.int .u64 (Q : Int), .int .u64 (ST : Int)].toArray 45)) = v := ⟨_, rfl⟩
    rw [hwm]
    obtain ⟨q12, hqm⟩ : ∃ q, v1.heap.size = q := ⟨_, rfl⟩
    try rw [hqm]
    have HFn : Hid (Fr (fun _ => False) v1 v2) := Lib.hid (by rw [← hwm]; exact ((Fr.refl _ _).alloc _))
    have hbm : Row v2 q12 45 [.int .u64 (Q : Int), .int .u64 (ST : Int)] := by rw [← hwm, ← hqm]; exact Row.new v1 _ _
    have HQ12 := Lib.hid hbm
    clear hwm hqm hbm
    have HK2 := Lib.hid (HK2.out.fr HFn.out (fun h => h))
    have HGc := Lib.hid (HGc.out.trans HFn.out (fun _ _ h => h))
    refine hKx.out _ _ ?_ (fun hHeld => ?_)
    · exact HFn.out
    clear hKx Kx
    (try simp only [Act.put, List.setIfInBounds_toArray, List.set_cons_zero, List.set_cons_succ, List.getElem_toArray, List.getElem_cons_zero, List.getElem_cons_succ])
    refine wpAnyH_more (fun w' => Fr (fun _ => False) v2 w') (fun _ h => HFn.out.trans h (fun _ _ h => h)) ?_ (fun hHeld => ?_)
    · exact Fr.refl _ _
    clear HFn
    refine wpAnyH_ready (rs := [5]) (by kernel_rfl) (by simp) ?_
    refine AllReadyH.cons rfl (fun Kx hKx => ?_) AllReadyH.nil
    go_simp
    have hcon := HC5.out v2
    with_reducible refine hcon.mono ?_
    clear hcon
    rintro e' v3 ⟨A5, c5, rfl, ho5, hff⟩
    have HFn : Hid (Fr (fun _ => False) v2 v3) := Lib.hid (hff)
    clear hff
    have HK5 := Lib.hid (KpB.of ho5)
    rw [HL5.out]
    clear ho5
    have HK2 := Lib.hid (HK2.out.fr HFn.out (fun h => h))
    have HQ12 := Lib.hid (HQ12.out.fr HFn.out (fun h => h))
    have HGc := Lib.hid (HGc.out.trans HFn.out (fun _ _ h => h))
    refine hKx.out _ _ ?_ (fun hHeld => ?_)
    · exact HFn.out
    clear hKx Kx
    (try simp only [Act.put, List.setIfInBounds_toArray, List.set_cons_zero, List.set_cons_succ, List.getElem_toArray, List.getElem_cons_zero, List.getElem_cons_succ])
    refine wpAnyH_more (fun w' => Fr (fun _ => False) v3 w') (fun _ h => HFn.out.trans h (fun _ _ h => h)) ?_ (fun hHeld => ?_)
    · exact Fr.refl _ _
    clear HFn
    refine wpAnyH_ready (rs := [13]) (by kernel_rfl) (by simp) ?_
    refine AllReadyH.cons rfl (fun Kx hKx => ?_) AllReadyH.nil
    go_simp
    have hcon := HC13.out q12 2 v3 (by have h := HQ12.out; exact h)
    with_reducible refine hcon.mono ?_
    clear hcon
    rintro e' v4 ⟨A13, c13, rfl, ho13, hff⟩
    have HFn : Hid (Fr (fun _ => False) v3 v4) := Lib.hid (hff)
    clear hff
    have HK13 := Lib.hid (KpB.of ho13)
    rw [HL13.out]
    clear ho13
    have HK2 := Lib.hid (HK2.out.fr HFn.out (fun h => h))
    have HQ12 := Lib.hid (HQ12.out.fr HFn.out (fun h => h))
    have HK5 := Lib.hid (HK5.out.fr HFn.out (fun h => h))
    have HGc := Lib.hid (HGc.out.trans HFn.out (fun _ _ h => h))
    refine hKx.out _ _ ?_ (fun hHeld => ?_)
    · exact HFn.out
    clear hKx Kx
    (try simp only [Act.put, List.setIfInBounds_toArray, List.set_cons_zero, List.set_cons_succ, List.getElem_toArray, List.getElem_cons_zero, List.getElem_cons_succ])
    refine wpAnyH_more (fun w' => Fr (fun _ => False) v4 w') (fun _ h => HFn.out.trans h (fun _ _ h => h)) ?_ (fun hHeld => ?_)
    · exact Fr.refl _ _
    clear HFn
    refine wpAnyH_ready (rs := [16]) (by kernel_rfl) (by simp) ?_
    refine AllReadyH.cons rfl (fun Kx hKx => ?_) AllReadyH.nil
    go_simp
    have hcon := HC16.out v4
    with_reducible refine hcon.mono ?_
    clear hcon
    rintro e' v5 ⟨A16, c16, rfl, ho16, hff⟩
    have HFn : Hid (Fr (fun _ => False) v4 v5) := Lib.hid (hff)
    clear hff
    have HK16 := Lib.hid (KpB.of ho16)
    rw [HL16.out]
    clear ho16
    have HK2 := Lib.hid (HK2.out.fr HFn.out (fun h => h))
    have HQ12 := Lib.hid (HQ12.out.fr HFn.out (fun h => h))
    have HK5 := Lib.hid (HK5.out.fr HFn.out (fun h => h))
    have HK13 := Lib.hid (HK13.out.fr HFn.out (fun h => h))
    have HGc := Lib.hid (HGc.out.trans HFn.out (fun _ _ h => h))
    refine hKx.out _ _ ?_ (fun hHeld => ?_)
    · exact HFn.out
    clear hKx Kx
    (try simp only [Act.put, List.setIfInBounds_toArray, List.set_cons_zero, List.set_cons_succ, List.getElem_toArray, List.getElem_cons_zero, List.getElem_cons_succ])
    refine wpAnyH_more (fun w' => Fr (fun _ => False) v5 w') (fun _ h => HFn.out.trans h (fun _ _ h => h)) ?_ (fun hHeld => ?_)
    · exact Fr.refl _ _
    clear HFn
    refine wpAnyH_ready (rs := [19]) (by kernel_rfl) (by simp) ?_
    refine AllReadyH.cons rfl (fun Kx hKx => ?_) AllReadyH.nil
    go_simp
    have hcon := HC19.out v5
    with_reducible refine hcon.mono ?_
    clear hcon
    rintro e' v6 ⟨A19, c19, rfl, ho19, hff⟩
    have HFn : Hid (Fr (fun _ => False) v5 v6) := Lib.hid (hff)
    clear hff
    have HK19 := Lib.hid (KpB.of ho19)
    rw [HL19.out]
    clear ho19
    have HK2 := Lib.hid (HK2.out.fr HFn.out (fun h => h))
    have HQ12 := Lib.hid (HQ12.out.fr HFn.out (fun h => h))
    have HK5 := Lib.hid (HK5.out.fr HFn.out (fun h => h))
    have HK13 := Lib.hid (HK13.out.fr HFn.out (fun h => h))
    have HK16 := Lib.hid (HK16.out.fr HFn.out (fun h => h))
    have HGc := Lib.hid (HGc.out.trans HFn.out (fun _ _ h => h))
    refine hKx.out _ _ ?_ (fun hHeld => ?_)
    · exact HFn.out
    clear hKx Kx
    (try simp only [Act.put, List.setIfInBounds_toArray, List.set_cons_zero, List.set_cons_succ, List.getElem_toArray, List.getElem_cons_zero, List.getElem_cons_succ])
    refine wpAnyH_more (fun w' => Fr (fun _ => False) v6 w') (fun _ h => HFn.out.trans h (fun _ _ h => h)) ?_ (fun hHeld => ?_)
    · exact Fr.refl _ _
    clear HFn
    refine wpAnyH_ready (rs := [24]) (by kernel_rfl) (by simp) ?_
    refine AllReadyH.cons rfl (fun Kx hKx => ?_) AllReadyH.nil
    go_simp
    have hcon := HC24.out v6 HGc.out
    with_reducible refine hcon.mono ?_
    clear hcon
    rintro e' v7 ⟨A24, c24, rfl, ho24, hff⟩
    have HFn : Hid (Fr (fun _ => False) v6 v7) := Lib.hid (hff)
    clear hff
    rw [HTN.out]
    have HT24 := Lib.hid ho24
    clear ho24
    have HK2 := Lib.hid (HK2.out.fr HFn.out (fun h => h))
    have HQ12 := Lib.hid (HQ12.out.fr HFn.out (fun h => h))
    have HK5 := Lib.hid (HK5.out.fr HFn.out (fun h => h))
    have HK13 := Lib.hid (HK13.out.fr HFn.out (fun h => h))
    have HK16 := Lib.hid (HK16.out.fr HFn.out (fun h => h))
    have HK19 := Lib.hid (HK19.out.fr HFn.out (fun h => h))
    have HGc := Lib.hid (HGc.out.trans HFn.out (fun _ _ h => h))
    refine hKx.out _ _ ?_ (fun hHeld => ?_)
    · exact HFn.out
    clear hKx Kx
    (try simp only [Act.put, List.setIfInBounds_toArray, List.set_cons_zero, List.set_cons_succ, List.getElem_toArray, List.getElem_cons_zero, List.getElem_cons_succ])
    refine wpAnyH_more (fun w' => Fr (fun _ => False) v7 w') (fun _ h => HFn.out.trans h (fun _ _ h => h)) ?_ (fun hHeld => ?_)
    · exact Fr.refl _ _
    clear HFn
    refine wpAnyH_ready (rs := [25]) (by kernel_rfl) (by simp) ?_
    refine AllReadyH.cons rfl (fun Kx hKx => ?_) AllReadyH.nil
    go_simp
    have hcon := HC25.out A24 c24 v7 _ HT24.out
    with_reducible refine hcon.mono ?_
    clear hcon
    rintro e' v8 ⟨A25, c25, rfl, ho25, hff⟩
    have HFn : Hid (Fr (fun _ => False) v7 v8) := Lib.hid (hff)
    clear hff
    have HK25 := Lib.hid (KpB.of ho25)
    rw [HL25.out]
    clear ho25
    have HK2 := Lib.hid (HK2.out.fr HFn.out (fun h => h))
    have HQ12 := Lib.hid (HQ12.out.fr HFn.out (fun h => h))
    have HK5 := Lib.hid (HK5.out.fr HFn.out (fun h => h))
    have HK13 := Lib.hid (HK13.out.fr HFn.out (fun h => h))
    have HK16 := Lib.hid (HK16.out.fr HFn.out (fun h => h))
    have HK19 := Lib.hid (HK19.out.fr HFn.out (fun h => h))
    have HGc := Lib.hid (HGc.out.trans HFn.out (fun _ _ h => h))
    refine hKx.out _ _ ?_ (fun hHeld => ?_)
    · exact HFn.out
    clear hKx Kx
    (try simp only [Act.put, List.setIfInBounds_toArray, List.set_cons_zero, List.set_cons_succ, List.getElem_toArray, List.getElem_cons_zero, List.getElem_cons_succ])
    refine wpAnyH_more (fun w' => Fr (fun _ => False) v8 w') (fun _ h => HFn.out.trans h (fun _ _ h => h)) ?_ (fun hHeld => ?_)
    · exact Fr.refl _ _
    clear HFn
    refine wpAnyH_ready (rs := [26]) (by kernel_rfl) (by simp) ?_
    refine AllReadyH.cons rfl (fun Kx hKx => ?_) AllReadyH.nil
    go_simp
    obtain ⟨v9, hwm⟩ : ∃ v, (v8.alloc (.cells [.slice A2 l2 c2, .slice A5 l5 c5, .slice A13 l13 c13, .slice A16 l16 c16, .slice A19 l19 c19, .slice A25 l25 c25].toArray 29)) = v := ⟨_, rfl⟩
    rw [hwm]
    obtain ⟨q26, hqm⟩ : ∃ q, v8.heap.size = q := ⟨_, rfl⟩
    try rw [hqm]
    have HFn : Hid (Fr (fun _ => False) v8 v9) := Lib.hid (by rw [← hwm]; exact ((Fr.refl _ _).alloc _))
    have hbm : Row v9 q26 29 [.slice A2 l2 c2, .slice A5 l5 c5, .slice A13 l13 c13, .slice A16 l16 c16, .slice A19 l19 c19, .slice A25 l25 c25] := by rw [← hwm, ← hqm]; exact Row.new v8 _ _
    have HQ26 := Lib.hid hbm
    clear hwm hqm hbm
    have HK2 := Lib.hid (HK2.out.fr HFn.out (fun h => h))
    have HQ12 := Lib.hid (HQ12.out.fr HFn.out (fun h => h))
    have HK5 := Lib.hid (HK5.out.fr HFn.out (fun h => h))
    have HK13 := Lib.hid (HK13.out.fr HFn.out (fun h => h))
    have HK16 := Lib.hid (HK16.out.fr HFn.out (fun h => h))
    have HK19 := Lib.hid (HK19.out.fr HFn.out (fun h => h))
    have HK25 := Lib.hid (HK25.out.fr HFn.out (fun h => h))
    have HGc := Lib.hid (HGc.out.trans HFn.out (fun _ _ h => h))
    refine hKx.out _ _ ?_ (fun hHeld => ?_)
    · exact HFn.out
    clear hKx Kx
    (try simp only [Act.put, List.setIfInBounds_toArray, List.set_cons_zero, List.set_cons_succ, List.getElem_toArray, List.getElem_cons_zero, List.getElem_cons_succ])
    refine wpAnyH_more (fun w' => Fr (fun _ => False) v9 w') (fun _ h => HFn.out.trans h (fun _ _ h => h)) ?_ (fun hHeld => ?_)
    · exact Fr.refl _ _
    clear HFn
    refine wpAnyH_ready (rs := [27]) (by kernel_rfl) (by simp) ?_
    refine AllReadyH.cons rfl (fun Kx hKx => ?_) AllReadyH.nil
    go_simp
    have hcon := HC27.out A2 c2 A5 c5 A13 c13 A16 c16 A19 c19 A25 c25 q26 v9 (by have h := HQ26.out; exact h) HK2.out HK5.out HK13.out HK16.out HK19.out HK25.out
    with_reducible refine hcon.mono ?_
    clear hcon
    rintro e' v10 ⟨A27, c27, rfl, ho27, hff⟩
    have HFn : Hid (Fr (fun _ => False) v9 v10) := Lib.hid (hff)
    clear hff
    rw [HLR.out]
    have HO27 := Lib.hid (ho27.base (show w.heap.size ≤ _ from Nat.le_trans HF1.out.size HGc.out.size))
    clear ho27
    have HK2 := Lib.hid (HK2.out.fr HFn.out (fun h => h))
    have HQ12 := Lib.hid (HQ12.out.fr HFn.out (fun h => h))
    have HK5 := Lib.hid (HK5.out.fr HFn.out (fun h => h))
    have HK13 := Lib.hid (HK13.out.fr HFn.out (fun h => h))
    have HK16 := Lib.hid (HK16.out.fr HFn.out (fun h => h))
    have HK19 := Lib.hid (HK19.out.fr HFn.out (fun h => h))
    have HK25 := Lib.hid (HK25.out.fr HFn.out (fun h => h))
    have HQ26 := Lib.hid (HQ26.out.fr HFn.out (fun h => h))
    have HGc := Lib.hid (HGc.out.trans HFn.out (fun _ _ h => h))
    refine hKx.out _ _ ?_ (fun hHeld => ?_)
    · exact HFn.out
    clear hKx Kx
    (try simp only [Act.put, List.setIfInBounds_toArray, List.set_cons_zero, List.set_cons_succ, List.getElem_toArray, List.getElem_cons_zero, List.getElem_cons_succ])
    refine wpAnyH_more (fun w' => Fr (fun _ => False) v10 w') (fun _ h => HFn.out.trans h (fun _ _ h => h)) ?_ (fun hHeld => ?_)
    · exact Fr.refl _ _
    clear HFn
    refine wpAnyH_take (i := 28) (v := ?vt20) rfl (by kernel_rfl) (by kernel_rfl) (by kernel_rfl) (fun _ _ _ h => h) (Or.inl ⟨by rfl, ?hyt20⟩) hHeld ?restt20
    case hyt20 => intro w hSw; (try dsimp only at hSw); go_simp; try (with_reducible rfl)
    (try simp only [Act.put, List.setIfInBounds_toArray, List.set_cons_zero, List.set_cons_succ, List.getElem_toArray, List.getElem_cons_zero, List.getElem_cons_succ])
    refine wpAnyH_done (by kernel_rfl) ?_ _
    go_wp2_with fail
    go_ret
    exact ⟨A27, c27, by rw [HLR.out]; rfl, HO27.out, HF1.out.trans HGc.out (fun _ _ h => h)⟩
  refine AllReadyH.cons rfl (fun Kx hKx => ?_) AllReadyH.nil
  go_simp
  obtain ⟨v1, hwm⟩ : ∃ v, (w1.alloc (.cells [.int .u64 (Q : Int), .int .u64 (ST : Int)].toArray 45)).drew = v := ⟨_, rfl⟩
  rw [hwm]
  obtain ⟨q12, hqm⟩ : ∃ q, w1.heap.size = q := ⟨_, rfl⟩
  try rw [hqm]
  have HFn : Hid (Fr (fun _ => False) w1 v1) := Lib.hid (by rw [← hwm]; exact ((Fr.refl _ _).alloc _).drew)
  have hbm : Row v1 q12 45 [.int .u64 (Q : Int), .int .u64 (ST : Int)] := by rw [← hwm, ← hqm]; exact Row.new w1 _ _
  have HQ12 := Lib.hid hbm
  clear hwm hqm hbm
  have HGc := Lib.hid (HGc.out.trans HFn.out (fun _ _ h => h))
  refine hKx.out _ _ ?_ (fun hHeld => ?_)
  · exact HFn.out
  clear hKx Kx
  (try simp only [Act.put, List.setIfInBounds_toArray, List.set_cons_zero, List.set_cons_succ, List.getElem_toArray, List.getElem_cons_zero, List.getElem_cons_succ])
  refine wpAnyH_more (fun w' => Fr (fun _ => False) v1 w') (fun _ h => HFn.out.trans h (fun _ _ h => h)) ?_ (fun hHeld => ?_)
  · exact Fr.refl _ _
  clear HFn
  refine wpAnyH_ready (rs := [2]) (by kernel_rfl) (by simp) ?_
  refine AllReadyH.cons rfl (fun Kx hKx => ?_) AllReadyH.nil
  go_simp
  have hcon := HC2.out v1 HGc.out
  with_reducible refine hcon.mono ?_
  clear hcon
  rintro e' v2 ⟨A2, c2, rfl, ho2, hff⟩
  have HFn : Hid (Fr (fun _ => False) v1 v2) := Lib.hid (hff)
  clear hff
  have HK2 := Lib.hid (KpB.of ho2)
  rw [HL2.out]
  clear ho2
  have HQ12 := Lib.hid (HQ12.out.fr HFn.out (fun h => h))
  have HGc := Lib.hid (HGc.out.trans HFn.out (fun _ _ h => h))
  refine hKx.out _ _ ?_ (fun hHeld => ?_)
  · exact HFn.out
  clear hKx Kx
  (try simp only [Act.put, List.setIfInBounds_toArray, List.set_cons_zero, List.set_cons_succ, List.getElem_toArray, List.getElem_cons_zero, List.getElem_cons_succ])
  refine wpAnyH_more (fun w' => Fr (fun _ => False) v2 w') (fun _ h => HFn.out.trans h (fun _ _ h => h)) ?_ (fun hHeld => ?_)
  · exact Fr.refl _ _
  clear HFn
  refine wpAnyH_ready (rs := [5]) (by kernel_rfl) (by simp) ?_
  refine AllReadyH.cons rfl (fun Kx hKx => ?_) AllReadyH.nil
  go_simp
  have hcon := HC5.out v2
  with_reducible refine hcon.mono ?_
  clear hcon
  rintro e' v3 ⟨A5, c5, rfl, ho5, hff⟩
  have HFn : Hid (Fr (fun _ => False) v2 v3) := Lib.hid (hff)
  clear hff
  have HK5 := Lib.hid (KpB.of ho5)
  rw [HL5.out]
  clear ho5
  have HQ12 := Lib.hid (HQ12.out.fr HFn.out (fun h => h))
  have HK2 := Lib.hid (HK2.out.fr HFn.out (fun h => h))
  have HGc := Lib.hid (HGc.out.trans HFn.out (fun _ _ h => h))
  refine hKx.out _ _ ?_ (fun hHeld => ?_)
  · exact HFn.out
  clear hKx Kx
  (try simp only [Act.put, List.setIfInBounds_toArray, List.set_cons_zero, List.set_cons_succ, List.getElem_toArray, List.getElem_cons_zero, List.getElem_cons_succ])
  refine wpAnyH_more (fun w' => Fr (fun _ => False) v3 w') (fun _ h => HFn.out.trans h (fun _ _ h => h)) ?_ (fun hHeld => ?_)
  · exact Fr.refl _ _
  clear HFn
  refine wpAnyH_ready (rs := [13]) (by kernel_rfl) (by simp) ?_
  refine AllReadyH.cons rfl (fun Kx hKx => ?_) AllReadyH.nil
  go_simp
  have hcon := HC13.out q12 2 v3 (by have h := HQ12.out; exact h)
  with_reducible refine hcon.mono ?_
  clear hcon
  rintro e' v4 ⟨A13, c13, rfl, ho13, hff⟩
  have HFn : Hid (Fr (fun _ => False) v3 v4) := Lib.hid (hff)
  clear hff
  have HK13 := Lib.hid (KpB.of ho13)
  rw [HL13.out]
  clear ho13
  have HQ12 := Lib.hid (HQ12.out.fr HFn.out (fun h => h))
  have HK2 := Lib.hid (HK2.out.fr HFn.out (fun h => h))
  have HK5 := Lib.hid (HK5.out.fr HFn.out (fun h => h))
  have HGc := Lib.hid (HGc.out.trans HFn.out (fun _ _ h => h))
  refine hKx.out _ _ ?_ (fun hHeld => ?_)
  · exact HFn.out
  clear hKx Kx
  (try simp only [Act.put, List.setIfInBounds_toArray, List.set_cons_zero, List.set_cons_succ, List.getElem_toArray, List.getElem_cons_zero, List.getElem_cons_succ])
  refine wpAnyH_more (fun w' => Fr (fun _ => False) v4 w') (fun _ h => HFn.out.trans h (fun _ _ h => h)) ?_ (fun hHeld => ?_)
  · exact Fr.refl _ _
  clear HFn
  refine wpAnyH_ready (rs := [16]) (by kernel_rfl) (by simp) ?_
  refine AllReadyH.cons rfl (fun Kx hKx => ?_) AllReadyH.nil
  go_simp
  have hcon := HC16.out v4
  with_reducible refine hcon.mono ?_
  clear hcon
  rintro e' v5 ⟨A16, c16, rfl, ho16, hff⟩
  have HFn : Hid (Fr (fun _ => False) v4 v5) := Lib.hid (hff)
  clear hff
  have HK16 := Lib.hid (KpB.of ho16)
  rw [HL16.out]
  clear ho16
  have HQ12 := Lib.hid (HQ12.out.fr HFn.out (fun h => h))
  have HK2 := Lib.hid (HK2.out.fr HFn.out (fun h => h))
  have HK5 := Lib.hid (HK5.out.fr HFn.out (fun h => h))
  have HK13 := Lib.hid (HK13.out.fr HFn.out (fun h => h))
  have HGc := Lib.hid (HGc.out.trans HFn.out (fun _ _ h => h))
  refine hKx.out _ _ ?_ (fun hHeld => ?_)
  · exact HFn.out
  clear hKx Kx
  (try simp only [Act.put, List.setIfInBounds_toArray, List.set_cons_zero, List.set_cons_succ, List.getElem_toArray, List.getElem_cons_zero, List.getElem_cons_succ])
  refine wpAnyH_more (fun w' => Fr (fun _ => False) v5 w') (fun _ h => HFn.out.trans h (fun _ _ h => h)) ?_ (fun hHeld => ?_)
  · exact Fr.refl _ _
  clear HFn
  refine wpAnyH_ready (rs := [19]) (by kernel_rfl) (by simp) ?_
  refine AllReadyH.cons rfl (fun Kx hKx => ?_) AllReadyH.nil
  go_simp
  have hcon := HC19.out v5
  with_reducible refine hcon.mono ?_
  clear hcon
  rintro e' v6 ⟨A19, c19, rfl, ho19, hff⟩
  have HFn : Hid (Fr (fun _ => False) v5 v6) := Lib.hid (hff)
  clear hff
  have HK19 := Lib.hid (KpB.of ho19)
  rw [HL19.out]
  clear ho19
  have HQ12 := Lib.hid (HQ12.out.fr HFn.out (fun h => h))
  have HK2 := Lib.hid (HK2.out.fr HFn.out (fun h => h))
  have HK5 := Lib.hid (HK5.out.fr HFn.out (fun h => h))
  have HK13 := Lib.hid (HK13.out.fr HFn.out (fun h => h))
  have HK16 := Lib.hid (HK16.out.fr HFn.out (fun h => h))
  have HGc := Lib.hid (HGc.out.trans HFn.out (fun _ _ h => h))
  refine hKx.out _ _ ?_ (fun hHeld => ?_)
  · exact HFn.out
  clear hKx Kx
  (try simp only [Act.put, List.setIfInBounds_toArray, List.set_cons_zero, List.set_cons_succ, List.getElem_toArray, List.getElem_cons_zero, List.getElem_cons_succ])
  refine wpAnyH_more (fun w' => Fr (fun _ => False) v6 w') (fun _ h => HFn.out.trans h (fun _ _ h => h)) ?_ (fun hHeld => ?_)
  · exact Fr.refl _ _
  clear HFn
  refine wpAnyH_ready (rs := [24]) (by kernel_rfl) (by simp) ?_
  refine AllReadyH.cons rfl (fun Kx hKx => ?_) AllReadyH.nil
  go_simp
  have hcon := HC24.out v6 HGc.out
  with_reducible refine hcon.mono ?_
  clear hcon
  rintro e' v7 ⟨A24, c24, rfl, ho24, hff⟩
  have HFn : Hid (Fr (fun _ => False) v6 v7) := Lib.hid (hff)
  clear hff
  rw [HTN.out]
  have HT24 := Lib.hid ho24
  clear ho24
  have HQ12 := Lib.hid (HQ12.out.fr HFn.out (fun h => h))
  have HK2 := Lib.hid (HK2.out.fr HFn.out (fun h => h))
  have HK5 := Lib.hid (HK5.out.fr HFn.out (fun h => h))
  have HK13 := Lib.hid (HK13.out.fr HFn.out (fun h => h))
  have HK16 := Lib.hid (HK16.out.fr HFn.out (fun h => h))
  have HK19 := Lib.hid (HK19.out.fr HFn.out (fun h => h))
  have HGc := Lib.hid (HGc.out.trans HFn.out (fun _ _ h => h))
  refine hKx.out _ _ ?_ (fun hHeld => ?_)
  · exact HFn.out
  clear hKx Kx
  (try simp only [Act.put, List.setIfInBounds_toArray, List.set_cons_zero, List.set_cons_succ, List.getElem_toArray, List.getElem_cons_zero, List.getElem_cons_succ])
  refine wpAnyH_more (fun w' => Fr (fun _ => False) v7 w') (fun _ h => HFn.out.trans h (fun _ _ h => h)) ?_ (fun hHeld => ?_)
  · exact Fr.refl _ _
  clear HFn
  refine wpAnyH_ready (rs := [25]) (by kernel_rfl) (by simp) ?_
  refine AllReadyH.cons rfl (fun Kx hKx => ?_) AllReadyH.nil
  go_simp
  have hcon := HC25.out A24 c24 v7 _ HT24.out
  with_reducible refine hcon.mono ?_
  clear hcon
  rintro e' v8 ⟨A25, c25, rfl, ho25, hff⟩
  have HFn : Hid (Fr (fun _ => False) v7 v8) := Lib.hid (hff)
  clear hff
  have HK25 := Lib.hid (KpB.of ho25)
  rw [HL25.out]
  clear ho25
  have HQ12 := Lib.hid (HQ12.out.fr HFn.out (fun h => h))
  have HK2 := Lib.hid (HK2.out.fr HFn.out (fun h => h))
  have HK5 := Lib.hid (HK5.out.fr HFn.out (fun h => h))
  have HK13 := Lib.hid (HK13.out.fr HFn.out (fun h => h))
  have HK16 := Lib.hid (HK16.out.fr HFn.out (fun h => h))
  have HK19 := Lib.hid (HK19.out.fr HFn.out (fun h => h))
  have HGc := Lib.hid (HGc.out.trans HFn.out (fun _ _ h => h))
  refine hKx.out _ _ ?_ (fun hHeld => ?_)
  · exact HFn.out
  clear hKx Kx
  (try simp only [Act.put, List.setIfInBounds_toArray, List.set_cons_zero, List.set_cons_succ, List.getElem_toArray, List.getElem_cons_zero, List.getElem_cons_succ])
  refine wpAnyH_more (fun w' => Fr (fun _ => False) v8 w') (fun _ h => HFn.out.trans h (fun _ _ h => h)) ?_ (fun hHeld => ?_)
  · exact Fr.refl _ _
  clear HFn
  refine wpAnyH_ready (rs := [26]) (by kernel_rfl) (by simp) ?_
  refine AllReadyH.cons rfl (fun Kx hKx => ?_) AllReadyH.nil
  go_simp
  obtain ⟨v9, hwm⟩ : ∃ v, (v8.alloc (.cells [.slice A2 l2 c2, .slice A5 l5 c5, .slice A13 l13 c13, .slice A16 l16 c16, .slice A19 l19 c19, .slice A25 l25 c25].toArray 29)) = v := ⟨_, rfl⟩
  rw [hwm]
  obtain ⟨q26, hqm⟩ : ∃ q, v8.heap.size = q := ⟨_, rfl⟩
  try rw [hqm]
  have HFn : Hid (Fr (fun _ => False) v8 v9) := Lib.hid (by rw [← hwm]; exact ((Fr.refl _ _).alloc _))
  have hbm : Row v9 q26 29 [.slice A2 l2 c2, .slice A5 l5 c5, .slice A13 l13 c13, .slice A16 l16 c16, .slice A19 l19 c19, .slice A25 l25 c25] := by rw [← hwm, ← hqm]; exact Row.new v8 _ _
  have HQ26 := Lib.hid hbm
  clear hwm hqm hbm
  have HQ12 := Lib.hid (HQ12.out.fr HFn.out (fun h => h))
  have HK2 := Lib.hid (HK2.out.fr HFn.out (fun h => h))
  have HK5 := Lib.hid (HK5.out.fr HFn.out (fun h => h))
  have HK13 := Lib.hid (HK13.out.fr HFn.out (fun h => h))
  have HK16 := Lib.hid (HK16.out.fr HFn.out (fun h => h))
  have HK19 := Lib.hid (HK19.out.fr HFn.out (fun h => h))
  have HK25 := Lib.hid (HK25.out.fr HFn.out (fun h => h))
  have HGc := Lib.hid (HGc.out.trans HFn.out (fun _ _ h => h))
  refine hKx.out _ _ ?_ (fun hHeld => ?_)
  · exact HFn.out
  clear hKx Kx
  (try simp only [Act.put, List.setIfInBounds_toArray, List.set_cons_zero, List.set_cons_succ, List.getElem_toArray, List.getElem_cons_zero, List.getElem_cons_succ])
  refine wpAnyH_more (fun w' => Fr (fun _ => False) v9 w') (fun _ h => HFn.out.trans h (fun _ _ h => h)) ?_ (fun hHeld => ?_)
  · exact Fr.refl _ _
  clear HFn
  refine wpAnyH_ready (rs := [27]) (by kernel_rfl) (by simp) ?_
  refine AllReadyH.cons rfl (fun Kx hKx => ?_) AllReadyH.nil
  go_simp
  have hcon := HC27.out A2 c2 A5 c5 A13 c13 A16 c16 A19 c19 A25 c25 q26 v9 (by have h := HQ26.out; exact h) HK2.out HK5.out HK13.out HK16.out HK19.out HK25.out
  with_reducible refine hcon.mono ?_
  clear hcon
  rintro e' v10 ⟨A27, c27, rfl, ho27, hff⟩
  have HFn : Hid (Fr (fun _ => False) v9 v10) := Lib.hid (hff)
  clear hff
  rw [HLR.out]
  have HO27 := Lib.hid (ho27.base (show w.heap.size ≤ _ from Nat.le_trans HF1.out.size HGc.out.size))
  clear ho27
  have HQ12 := Lib.hid (HQ12.out.fr HFn.out (fun h => h))
  have HK2 := Lib.hid (HK2.out.fr HFn.out (fun h => h))
  have HK5 := Lib.hid (HK5.out.fr HFn.out (fun h => h))
  have HK13 := Lib.hid (HK13.out.fr HFn.out (fun h => h))
  have HK16 := Lib.hid (HK16.out.fr HFn.out (fun h => h))
  have HK19 := Lib.hid (HK19.out.fr HFn.out (fun h => h))
  have HK25 := Lib.hid (HK25.out.fr HFn.out (fun h => h))
  have HQ26 := Lib.hid (HQ26.out.fr HFn.out (fun h => h))
  have HGc := Lib.hid (HGc.out.trans HFn.out (fun _ _ h => h))
  refine hKx.out _ _ ?_ (fun hHeld => ?_)
  · exact HFn.out
  clear hKx Kx
  (try simp only [Act.put, List.setIfInBounds_toArray, List.set_cons_zero, List.set_cons_succ, List.getElem_toArray, List.getElem_cons_zero, List.getElem_cons_succ])
  refine wpAnyH_more (fun w' => Fr (fun _ => False) v10 w') (fun _ h => HFn.out.trans h (fun _ _ h => h)) ?_ (fun hHeld => ?_)
  · exact Fr.refl _ _
  clear HFn
  refine wpAnyH_take (i := 28) (v := ?vt21) rfl (by kernel_rfl) (by kernel_rfl) (by kernel_rfl) (fun _ _ _ h => h) (Or.inl ⟨by rfl, ?hyt21⟩) hHeld ?restt21
  case hyt21 => intro w hSw; (try dsimp only at hSw); go_simp; try (with_reducible rfl)
  (try simp only [Act.put, List.setIfInBounds_toArray, List.set_cons_zero, List.set_cons_succ, List.getElem_toArray, List.getElem_cons_zero, List.getElem_cons_succ])
  refine wpAnyH_done (by kernel_rfl) ?_ _
  go_wp2_with fail
  go_ret
  exact ⟨A27, c27, by rw [HLR.out]; rfl, HO27.out, HF1.out.trans HGc.out (fun _ _ h => h)⟩
end Go.Proofs.Ytbnkahjmeobblaa
namespace Go.Proofs.Ytbnkahjmeobblaa
open Go.RowKit Mem Go.Lib LebM UtfM AcM HeM
attribute [local go_sem ↓] Go.wp_at_zero Go.wp_at_succ
set_option linter.unusedVariables false

/-- what is left only gets less -/
def Shr {α : Type} (f : St → α × St) : Prop := ∀ s, (f s).2.l.length ≤ s.l.length
theorem Shr.bnd {α β : Type} {f : St → α × St} {g : α → St → β × St} (h1 : Shr f) (h2 : ∀ x, Shr (g x)) : Shr (HeM.bnd f g) := fun s => Nat.le_trans (h2 _ _) (h1 s)
theorem shr_rt {α : Type} (x : α) : Shr (rt x) := fun s => Nat.le_refl _
theorem shr_num (m : Nat) : Shr (num m) := fun s => by
  unfold num
  split
  · exact Nat.le_refl _
  · simp only [List.length_drop]; omega
theorem shr_pos (m : Nat) : Shr (pos m) := fun s => shr_num m s
theorem shr_sig : Shr sig := fun s => by
  unfold sig
  split
  · exact Nat.le_refl _
  · simp only [List.length_drop]; omega
theorem shr_byt (n : Nat) : Shr (byt n) := fun s => by
  unfold byt
  split
  · exact Nat.le_refl _
  · split
    · exact Nat.le_refl _
    · simp only [List.length_drop]; omega
theorem shr_depS : ∀ (k : Nat) (acc : List Tx), Shr (depS k acc)
  | 0, acc => fun s => Nat.le_refl _
  | k + 1, acc => fun s => by
    unfold depS
    exact Nat.le_trans (shr_depS k _ _) (shr_byt 32 s)
theorem shr_tab (a : Tx) : Shr (tabS a) := fun s => by
  unfold tabS
  split
  · exact Nat.le_refl _
  · simp only [List.length_drop]; omega
theorem shr_rd : Shr rdH :=
  Shr.bnd (Shr.bnd (Shr.bnd (shr_num _) (fun k => shr_depS k [])) fun _ => (shr_pos _).bnd fun _ => (shr_byt _).bnd fun _ => (shr_pos _).bnd fun _ => (shr_pos _).bnd fun _ => shr_sig.bnd fun _ => (shr_num _).bnd fun _ => (shr_byt _).bnd fun _ => Shr.bnd (f := chk _) (fun s => Nat.le_refl _) fun _ => shr_rt _)
    fun c => (shr_tab _).bnd fun T => shr_rt _
theorem rdSz : (Try.prog.info? 71).map (·.size) = some 2 := by kernel_rfl
theorem results_get {fn : Func} {s a b c : Tmp} {tmps : Array Value} {w : World} (hr : fn.results = #[.cell s 25, .tmp a, .tmp b, .tmp c]) (g : Nat) (hs : tmps.getD s undef = .pointer (some ⟨g, 0, none⟩)) {t : TypeId} {L : List Value} (hb : Row w g t L) (hn : L.length = 7)
    {x y z : Value} (ha : tmps.getD a undef = x) (hb' : tmps.getD b undef = y) (hc : tmps.getD c undef = z) :
    (results fn tmps).run Try.prog w = .ok (.tuple #[.agg L.toArray, x, y, z]) w := by
  have hl := run_ch hb hn
  have hs' : tmps[s]?.getD undef = .pointer (some ⟨g, 0, none⟩) := by rw [← hs]; simp
  have ha' : tmps[a]?.getD undef = x := by rw [← ha]; simp
  have hb2 : tmps[b]?.getD undef = y := by rw [← hb']; simp
  have hc' : tmps[c]?.getD undef = z := by rw [← hc]; simp
  unfold results
  rw [hr]
  simp [hs', asAddr, hl, ha', hb2, hc']
set_option maxRecDepth 100000 in
set_option maxHeartbeats 12800000 in
theorem hGet_any (A : Option Addr) (n c : Nat) (B : List UInt8) (w : World) (hr : Rd w A n (B.map bytec)) (hc : n ≤ c) (hn : n ≤ 100000000) :
    Calls Try.prog 15 #[.slice A n c] w fun e w' => ∃ A1 c1 A2 c2, e = .returned (.tuple #[chc (getH B).1 A1 c1 none 0 0, .slice A2 (getH B).2.1.length c2, .int .i64 ((getH B).2.2.1 : Int), .int .i64 ((getH B).2.2.2 : Int)]) ∧ OwnH w' w.heap.size A1 c1 (getH B).1.d ∧ (∀ h ∈ (getH B).1.d, h.length = 32) ∧ OwT w' w.heap.size A2 c2 (getH B).2.1 ∧ Fr (fun _ => False) w w' := by
  obtain ⟨⟨ch, s1⟩, e0⟩ : ∃ p, chg ⟨B, 0⟩ = p := ⟨_, rfl⟩
  obtain ⟨⟨T, s2⟩, e1⟩ : ∃ p, tabS ch.a s1 = p := ⟨_, rfl⟩
  have er : rdH ⟨B, 0⟩ = ((ch, T), s2) := by
    unfold rdH
    rw [bnd_eq e0, bnd_eq e1]
    rfl
  have hshr : s2.l.length ≤ B.length := by have := shr_rd ⟨B, 0⟩; rw [er] at this; exact this
  have eg : getH B = if s2.e ≠ 0 then (zeroC, [], 0, s2.e) else (ch, T, B.length - s2.l.length, 0) := by unfold getH; rw [er]
  have hBn : B.length = n := by simpa using hr.1
  obtain ⟨w1, hw1⟩ : ∃ w1, w.alloc (.cells [.string ⟨#[]⟩, .int .i64 0, .int .i64 0, .int .i64 0, .string ⟨#[]⟩, .slice none 0 0, .slice none 0 0].toArray 25) = w1 := ⟨_, rfl⟩
  obtain ⟨w2, hw2⟩ : ∃ w2, w1.alloc (.cells [.slice none 0 0, .int .i64 0].toArray 71) = w2 := ⟨_, rfl⟩
  obtain ⟨r, hrr⟩ : ∃ r, w.heap.size = r := ⟨_, rfl⟩
  obtain ⟨g, hg⟩ : ∃ g, w1.heap.size = g := ⟨_, rfl⟩
  have hgr : g = r + 1 := by rw [← hg, ← hw1, ← hrr]; simp
  have HR2 : Hid (Row w2 r 25 [.string ⟨#[]⟩, .int .i64 0, .int .i64 0, .int .i64 0, .string ⟨#[]⟩, .slice none 0 0, .slice none 0 0]) := Lib.hid (by rw [← hw2]; refine Row.alloc ?_ _; rw [← hw1, ← hrr]; exact Row.new _ _ _)
  have HG2 : Hid (Row w2 g 71 [.slice none 0 0, .int .i64 0]) := Lib.hid (by rw [← hw2, ← hg]; exact Row.new _ _ _)
  have HF2 : Hid (Fr (fun _ => False) w w2) := Lib.hid (by rw [← hw2, ← hw1]; exact ((Fr.refl _ _).alloc _).alloc _)
  have HGR : Hid (g = r + 1 ∧ w.heap.size = r ∧ w2.heap.size = g + 1) := Lib.hid ⟨hgr, hrr, by rw [← hw2, ← hg]; simp⟩
  have HSH : Hid (s2.l.length ≤ n) := Lib.hid (by omega)
  have HRD := Lib.hid hr
  have HLT : Hid (0 < n → ∀ ad, A = some ad → ad.block < r) := Lib.hid (fun h ad e => by have := hr.lt h ad e; omega)
  have HE0 := Lib.hid e0
  have HE1 := Lib.hid e1
  have HEG := Lib.hid eg
  have HBN := Lib.hid hBn
  clear hr e0 e1 er eg hBn hgr hshr
  go_enter Try.func15, Try.ntmps15
  go_wp2_with (refine store_st rdSz rfl (.tmp 6) (.tmp 10) rfl g (by rfl) [.slice A n c, .int .i64 0] (by rfl) _ _ HG2.out rfl rfl (by simp [Value.oneCell']) ?_)
  intro w3 hg3 hf3
  have hd3 : Hdm w3 g ⟨B, 0⟩ := ⟨A, n, c, hg3, (HRD.out.fr HF2.out (fun _ _ h => h)).frp hf3 (fun h ad e hb => by have h1 := HLT.out h ad e; have h2 : ad.block = g := hb; have := HGR.out; omega), hc, hn, fun h ad e => by have h1 := HLT.out h ad e; have := HGR.out; omega⟩
  have HD3 := Lib.hid hd3
  have HR3 := Lib.hid (HR2.out.fr hf3 (fun h => by have h1 : r = g := h; have := HGR.out; omega))
  have HF3 : Hid (Fr (fun _ => False) w w3) := Lib.hid (HF2.out.trans hf3 (fun k hk h => by have h1 : k = g := h; have := HGR.out; omega))
  have HS3 : Hid (g + 1 ≤ w3.heap.size) := Lib.hid (by have := hf3.size; have := HGR.out; omega)
  clear hw1 hw2 hrr hg hg3 hf3 hd3
  go_wp2_with fail
  refine (hChange_any g ⟨B, 0⟩ w3 HD3.out).mono ?_
  rintro e w4 ⟨A4, c4, rfl, ho4, h32, ha16, hd16, hd4, hf4⟩
  rw [HE0.out] at ho4 h32 ha16 hd16 hd4 ⊢
  simp only at ho4 h32 ha16 hd16 hd4 ⊢
  have HO4 := Lib.hid ho4
  have H32 := Lib.hid h32
  have HA16 := Lib.hid ha16
  have HD4 := Lib.hid hd4
  have HR4 := Lib.hid (HR3.out.fr hf4 (fun h => by have h1 : r = g := h; have := HGR.out; omega))
  have HF4 : Hid (Fr (fun _ => False) w w4) := Lib.hid (HF3.out.trans hf4 (fun k hk h => by have h1 : k = g := h; have := HGR.out; omega))
  have HS4 : Hid (g + 1 ≤ w3.heap.size ∧ w3.heap.size ≤ w4.heap.size) := Lib.hid ⟨HS3.out, hf4.size⟩
  obtain ⟨nd, hnd⟩ : ∃ nd, ch.d.length = nd := ⟨_, rfl⟩
  obtain ⟨ca, hca⟩ : ∃ x, ch.a = x := ⟨_, rfl⟩
  obtain ⟨cq, hcq⟩ : ∃ x, ch.q = x := ⟨_, rfl⟩
  obtain ⟨cs, hcs⟩ : ∃ x, ch.s = x := ⟨_, rfl⟩
  obtain ⟨ct, hct⟩ : ∃ x, ch.t = x := ⟨_, rfl⟩
  obtain ⟨cm, hcm⟩ : ∃ x, ch.m = x := ⟨_, rfl⟩
  have HCH : Hid (∀ A k, chc ch A k none 0 0 = .agg #[.string (txt ca), .int .i64 cq, .int .i64 cs, .int .i64 ct, .string (txt cm), .slice A nd k, .slice none 0 0]) := Lib.hid (fun A k => by unfold chc; rw [hnd, hca, hcq, hcs, hct, hcm])
  have HCA := Lib.hid hca
  rw [HCH.out]
  rw [hca] at HE1 HA16
  obtain ⟨q, hq⟩ : ∃ q, w4.heap.size = q := ⟨_, rfl⟩
  obtain ⟨w5, hw5⟩ : ∃ w5, w4.alloc (.cells [.string ⟨#[]⟩, .int .i64 0, .int .i64 0, .int .i64 0, .string ⟨#[]⟩, .slice none 0 0, .slice none 0 0].toArray 25) = w5 := ⟨_, rfl⟩
  have HQ5 : Hid (Row w5 q 25 [.string ⟨#[]⟩, .int .i64 0, .int .i64 0, .int .i64 0, .string ⟨#[]⟩, .slice none 0 0, .slice none 0 0]) := Lib.hid (by rw [← hw5, ← hq]; exact Row.new _ _ _)
  have hf5 : Fr (fun _ => False) w4 w5 := by rw [← hw5]; exact (Fr.refl _ _).alloc _
  have HFF5 := Lib.hid hf5
  have HQG : Hid (g < q ∧ w3.heap.size ≤ q) := Lib.hid (by have := HS4.out; omega)
  have HOQ : Hid (∀ k, (Value.slice A4 ch.d.length c4).ownBlock = some k → w3.heap.size ≤ k ∧ k < q) := Lib.hid (fun k hk => by have := HO4.out.lt k hk; omega)
  clear ho4 h32 ha16 hd16 hd4 hf4 hca hcq hcs hct hcm hnd hf5
  go_wp2_with (refine store_st chSz rfl (.tmp 7) (.tmp 11) rfl q (by rfl) [.string (txt ca), .int .i64 cq, .int .i64 cs, .int .i64 ct, .string (txt cm), .slice A4 nd c4, .slice none 0 0] (by rfl) _ _ HQ5.out rfl rfl (by simp [Value.oneCell']) ?_)
  intro w6 hq6 hf6
  have b0 : w6.cell? ⟨q, 0, none⟩ = some (.string (txt ca)) := Row.cell hq6 rfl
  have hf46 : Fr (fun k => k = q) w4 w6 := (HFF5.out.mono (fun _ _ h => h.elim)).trans hf6 (fun _ _ h => h)
  have HQ6 := Lib.hid hq6
  have HR6 := Lib.hid (HR4.out.fr hf46 (fun h => by have h1 : r = q := h; have := HQG.out; have := HGR.out; omega))
  have HD6 := Lib.hid (HD4.out.fr hf46 (fun k hk h => by have h1 : k = q := h; have := HQG.out; omega))
  have HO6 : Hid (OwnH w6 w3.heap.size A4 c4 ch.d) := Lib.hid (hf46.own HO4.out (fun k hk h => by have h1 : k = q := h; have := HOQ.out k hk; omega))
  have HF6 : Hid (Fr (fun _ => False) w w6) := Lib.hid (HF4.out.trans hf46 (fun k hk h => by have h1 : k = q := h; have := HQG.out; have := HF4.out.size; have := HGR.out; omega))
  clear hw5 hq hq6 hf6 hf46
  go_wp2_with fail
  refine (hTable_any g s1 ca w6 HD6.out (by have := HA16.out; omega)).mono ?_
  rintro e w7 ⟨A7, c7, rfl, ho7, hd7, hf7⟩
  rw [HE1.out] at ho7 hd7 ⊢
  simp only at ho7 hd7 ⊢
  obtain ⟨nt, hnt⟩ : ∃ k, T.length = k := ⟨_, rfl⟩
  rw [hnt]
  have HNT := Lib.hid hnt
  have HO7 := Lib.hid ho7
  have HOH7 := Lib.hid (HO6.out.frS hf7 (fun k hk h => by have h1 : k = g := h; have := HS3.out; omega))
  have HQ7 := Lib.hid (HQ6.out.fr hf7 (fun h => by have h1 : q = g := h; have := HQG.out; omega))
  have HR7 := Lib.hid (HR6.out.fr hf7 (fun h => by have h1 : r = g := h; have := HGR.out; omega))
  have HF7 : Hid (Fr (fun _ => False) w w7) := Lib.hid (HF6.out.trans hf7 (fun k hk h => by have h1 : k = g := h; have := HGR.out; omega))
  have HSZ : Hid (r < w.heap.size + 1 ∧ w6.heap.size ≤ w7.heap.size ∧ r < w6.heap.size ∧ w.heap.size ≤ w6.heap.size) := Lib.hid (by have h1 := HF6.out.size; have h2 := hf7.size; have h3 := HR6.out.lt; have := HGR.out; omega)
  obtain ⟨Al, nl, cl, hrl, hrdl, _⟩ := hd7
  have hnl : s2.l.length = nl := by simpa using hrdl.1
  have d0 : w7.cell? ⟨g, 0, none⟩ = some (.slice Al nl cl) := Row.cell hrl rfl
  have d1 : w7.cell? ⟨g, 1, none⟩ = some (.int .i64 (s2.e : Int)) := Row.cell hrl rfl
  obtain ⟨E, hE⟩ : ∃ E, s2.e = E := ⟨_, rfl⟩
  have HNLE : Hid (nl ≤ n) := Lib.hid (by have := HSH.out; omega)
  rw [hE] at d1 HEG
  rw [hnl] at HEG
  have HRL := Lib.hid hrl
  clear b0 ho7 hf7 hnt hrl hrdl hnl hE
  by_cases he : E ≠ 0
  · have t1 : ((E : Int) != 0) = true := by simp; omega
    have t1' : (E != 0) = true := by simp; omega
    have heg := HEG.out
    rw [if_pos he] at heg
    have HEG2 := Lib.hid heg
    clear heg he
    go_upto_region 5 with fail
    refine wp_region_held_drew (S := fun w' => w'.cell? ⟨g, 1, none⟩ = some (.int .i64 (E : Int))) (by kernel_rfl) d1 (fun hH => ?_)
    refine tk 0 hH ?_
    refine tk 1 hH ?_
    refine tk 2 hH ?_
    refine rdo 3 (fun Kx hKx => ?_)
    refine step_store_whole chSz (by rfl) _ _ (by rfl) r (by rfl) [.string ⟨#[]⟩, .int .i64 0, .int .i64 0, .int .i64 0, .string ⟨#[]⟩, .slice none 0 0, .slice none 0 0].toArray (by rfl) _ _ HR7.out.drew rfl rfl (by simp [Value.oneCell']) ?_
    intro w8 hr8 hf8
    have HR8 : Hid (Row w8 r 25 [.string ⟨#[]⟩, .int .i64 0, .int .i64 0, .int .i64 0, .string ⟨#[]⟩, .slice none 0 0, .slice none 0 0]) := Lib.hid hr8
    have HF8 : Hid (Fr (fun _ => False) w w8) := Lib.hid (HF7.out.drew.trans hf8 (fun k hk h => by have h1 : k = r := h; have := HGR.out; omega))
    have hc8 : w8.cell? ⟨g, 1, none⟩ = some (.int .i64 (E : Int)) := hf8.cell hH (fun h => by have h1 : g = r := h; have := HGR.out; omega)
    clear hr8 hf8 d0 d1
    refine hKx.out _ _ hc8 (fun hH => ?_)
    clear hKx Kx
    refine rdo 4 (fun Kx hKx => ?_)
    go_simp
    refine hKx.out _ _ hc8 (fun hH => ?_)
    clear hKx Kx
    refine rdo 5 (fun Kx hKx => ?_)
    go_simp
    refine hKx.out _ _ hc8 (fun hH => ?_)
    clear hKx Kx
    refine rdo 6 (fun Kx hKx => ?_)
    go_simp
    refine hKx.out _ _ hc8 (fun hH => ?_)
    clear hKx Kx
    refine wpAnyH_done (by kernel_rfl) ?_ _
    go_wp2_with fail
    refine bodyPost_ret (v := .tuple #[.agg [.string ⟨#[]⟩, .int .i64 0, .int .i64 0, .int .i64 0, .string ⟨#[]⟩, .slice none 0 0, .slice none 0 0].toArray, .slice none 0 0, .int .i64 0, .int .i64 (E : Int)]) (by exact results_get rfl r rfl HR8.out rfl rfl rfl rfl) rfl ?_
    rw [HEG2.out]
    exact ⟨none, 0, none, 0, rfl, OwnH.nil _ _, fun h hh => (by cases hh), OwT.nil _ _, HF8.out⟩
  · have he0 : E = 0 := by omega
    subst he0
    have t1 : (((0 : Nat) : Int) != 0) = false := by simp
    have heg := HEG.out
    rw [if_neg he] at heg
    have HEG2 := Lib.hid heg
    clear heg he
    have b0 : w7.cell? ⟨q, 0, none⟩ = some (.string (txt ca)) := Row.cell HQ7.out rfl
    have b1 : w7.cell? ⟨q, 1, none⟩ = some (.int .i64 cq) := Row.cell HQ7.out rfl
    have b2 : w7.cell? ⟨q, 2, none⟩ = some (.int .i64 cs) := Row.cell HQ7.out rfl
    have b3 : w7.cell? ⟨q, 3, none⟩ = some (.int .i64 ct) := Row.cell HQ7.out rfl
    have b4 : w7.cell? ⟨q, 4, none⟩ = some (.string (txt cm)) := Row.cell HQ7.out rfl
    have b5 : w7.cell? ⟨q, 5, none⟩ = some (.slice A4 nd c4) := Row.cell HQ7.out rfl
    have b6 : w7.cell? ⟨q, 6, none⟩ = some (.slice none 0 0) := Row.cell HQ7.out rfl
    have e1 : IntKind.i64.wrap ((n : Int) - (nl : Int)) = ((n - nl : Nat) : Int) := by
      rw [IntKind.wrap_i64]; have := HNLE.out; omega
    go_upto_region 6 with fail
    refine wp_region_held_drew (S := fun w' => w'.cell? ⟨g, 0, none⟩ = some (.slice Al nl cl) ∧ w'.cell? ⟨q, 0, none⟩ = some (.string (txt ca)) ∧ w'.cell? ⟨q, 1, none⟩ = some (.int .i64 cq) ∧ w'.cell? ⟨q, 2, none⟩ = some (.int .i64 cs) ∧ w'.cell? ⟨q, 3, none⟩ = some (.int .i64 ct) ∧ w'.cell? ⟨q, 4, none⟩ = some (.string (txt cm)) ∧ w'.cell? ⟨q, 5, none⟩ = some (.slice A4 nd c4) ∧ w'.cell? ⟨q, 6, none⟩ = some (.slice none 0 0)) (by kernel_rfl) ⟨d0, b0, b1, b2, b3, b4, b5, b6⟩ (fun hH => ?_)
    refine tk 0 hH ?_ (hy := by intro w hSw; obtain ⟨k, k0, k1, k2, k3, k4, k5, k6⟩ := hSw; go_simp; try (with_reducible rfl))
    refine tk 1 hH ?_
    refine tk 2 hH ?_
    refine tk 3 hH ?_
    refine tk 4 hH ?_
    refine tk 5 hH ?_ (hy := by intro w hSw; obtain ⟨k, k0, k1, k2, k3, k4, k5, k6⟩ := hSw; go_simp; try (with_reducible rfl))
    refine tk 6 hH ?_
    refine tk 7 hH ?_
    refine rdo 8 (fun Kx hKx => ?_)
    refine step_store_whole chSz (by rfl) _ _ (by rfl) r (by rfl) [.string (txt ca), .int .i64 cq, .int .i64 cs, .int .i64 ct, .string (txt cm), .slice A4 nd c4, .slice none 0 0].toArray (by rfl) _ _ HR7.out.drew rfl rfl (by simp [Value.oneCell']) ?_
    intro w8 hr8 hf8
    have HR8 := Lib.hid hr8
    have HOH8 := Lib.hid ((HOH7.out.fr (Fr.refl _ _).drew).frS hf8 (fun k hk h => by have h1 : k = r := h; have := HGR.out; have := HS3.out; omega))
    have HO8 := Lib.hid ((HO7.out.fr (Fr.refl _ _).drew).frS hf8 (fun k hk h => by have h1 : k = r := h; have := HSZ.out; omega))
    have HF8 : Hid (Fr (fun _ => False) w w8) := Lib.hid (HF7.out.drew.trans hf8 (fun k hk h => by have h1 : k = r := h; have := HGR.out; omega))
    have HH8 : Hid (w8.cell? ⟨g, 0, none⟩ = some (.slice Al nl cl) ∧ w8.cell? ⟨q, 0, none⟩ = some (.string (txt ca)) ∧ w8.cell? ⟨q, 1, none⟩ = some (.int .i64 cq) ∧ w8.cell? ⟨q, 2, none⟩ = some (.int .i64 cs) ∧ w8.cell? ⟨q, 3, none⟩ = some (.int .i64 ct) ∧ w8.cell? ⟨q, 4, none⟩ = some (.string (txt cm)) ∧ w8.cell? ⟨q, 5, none⟩ = some (.slice A4 nd c4) ∧ w8.cell? ⟨q, 6, none⟩ = some (.slice none 0 0)) := Lib.hid (by
      have hq8 := HQ7.out.drew.fr hf8 (fun h => by have h1 : q = r := h; have := HGR.out; have := HQG.out; omega)
      exact ⟨hf8.cell hH.1 (fun h => by have h1 : g = r := h; have := HGR.out; omega), hq8.cell rfl, hq8.cell rfl, hq8.cell rfl, hq8.cell rfl, hq8.cell rfl, hq8.cell rfl, hq8.cell rfl⟩)
    clear hr8 hf8 b0 b1 b2 b3 b4 b5 b6 d0 d1
    refine hKx.out _ _ HH8.out (fun hH => ?_)
    clear hKx Kx
    refine rdo 9 (fun Kx hKx => ?_)
    go_simp
    refine hKx.out _ _ HH8.out (fun hH => ?_)
    clear hKx Kx
    refine rdo 10 (fun Kx hKx => ?_)
    go_simp
    refine hKx.out _ _ HH8.out (fun hH => ?_)
    clear hKx Kx
    refine rdo 11 (fun Kx hKx => ?_)
    go_simp
    refine hKx.out _ _ HH8.out (fun hH => ?_)
    clear hKx Kx
    refine wpAnyH_done (by kernel_rfl) ?_ _
    go_wp2_with fail
    refine bodyPost_ret (v := .tuple #[.agg [.string (txt ca), .int .i64 cq, .int .i64 cs, .int .i64 ct, .string (txt cm), .slice A4 nd c4, .slice none 0 0].toArray, .slice A7 nt c7, .int .i64 ((n - nl : Nat) : Int), .int .i64 0]) (by exact results_get rfl r rfl HR8.out rfl rfl rfl rfl) rfl ?_
    rw [HEG2.out, HBN.out]
    refine ⟨A4, c4, A7, c7, ?_, HOH8.out.base (by have := HF3.out.size; omega), H32.out, HO8.out.base (by have := HSZ.out; omega), HF8.out⟩
    simp only
    rw [HCH.out, HNT.out]
    rfl
end Go.Proofs.Ytbnkahjmeobblaa
