/-
  Layer 6, the program: Right (written by gen_right.py).
  Layer 6, the program: Add.
-/
import Derived.Test.YtgpkiijmembggaaGreatDoorZm14
import Derived.Deep.DeepCutAuto
namespace Go.Proofs.YtgpkiijmembggaaGreatDoor
open Go.RowKit LzM Mem Go.Lib
set_option linter.unusedVariables false

set_option maxRecDepth 100000 in
set_option maxHeartbeats 1600000 in
theorem pRightT_any (t : Tok) (n : Nat) (w : World) :
    Calls Tryz.prog 105 #[tokc t, .int .i64 (n : Int)] w fun e w' => e = .returned (.bool (rightT t n)) ∧ Fr (fun _ => False) w w' := by
  obtain ⟨b, l, d⟩ := t
  unfold tokc bytec
  obtain ⟨u, hu⟩ : ∃ u, u = b.toNat := ⟨_, rfl⟩
  have hz : b = 0 ↔ u = 0 := by rw [hu]; exact ⟨fun h => by rw [h]; rfl, fun h => UInt8.toNat_inj.1 h⟩
  rw [← hu]
  clear hu
  obtain ⟨N, hN⟩ : ∃ N : Int, N = (n : Int) := ⟨_, rfl⟩
  have hN0 : 0 ≤ N := by omega
  rw [← hN]
  clear hN
  by_cases hl : l = 0
  · subst hl
    have HR : Hid (rightT ⟨b, 0, d⟩ N = (d == 0)) := Lib.hid (by
      rw [rightT]
      by_cases hd : d = 0
      · rw [if_pos ⟨rfl, hd⟩, hd]; rfl
      · rw [if_neg (fun h => hd h.2), decide_eq_false (by simp)]
        simp [hd])
    go_enter Tryz.func105, Tryz.ntmps105
    go_wp2_with fail
    go_ret
    exact ⟨by rw [HR.out]; rfl, (Fr.refl _ w).alloc _⟩
  · by_cases h0 : u = 0
    · by_cases h1 : 3 ≤ l
      · by_cases h2 : l ≤ 258
        · by_cases h3 : 1 ≤ d
          · by_cases hmi : N < 32768
            · by_cases h4 : d ≤ N
              · have HR : Hid (rightT ⟨b, l, d⟩ N = true) := Lib.hid (by rw [rightT, if_neg (by simp only; omega)]; exact decide_eq_true ⟨hz.2 h0, h1, h2, h3, (show d ≤ 32768 by omega), (show d ≤ N by omega)⟩)
                go_enter Tryz.func105, Tryz.ntmps105
                go_wp2_with fail
                go_ret
                refine ⟨?_, (Fr.refl _ w).alloc _⟩
                rw [HR.out]
                first | rfl | (simp; omega)
              · have HR : Hid (rightT ⟨b, l, d⟩ N = false) := Lib.hid (by rw [rightT, if_neg (by simp only; omega)]; refine decide_eq_false ?_; rintro ⟨q0, q1, q2, q3, q4, q5⟩; have q6 := hz.1 q0; simp only at q1 q2 q3 q4 q5; omega)
                have h5 : N < d := by omega
                clear h4
                go_enter Tryz.func105, Tryz.ntmps105
                go_wp2_with fail
                go_ret
                refine ⟨?_, (Fr.refl _ w).alloc _⟩
                rw [HR.out]
                first | rfl | (simp; omega)
            · have hmj : 32768 ≤ N := by omega
              clear hmi
              by_cases h4 : d ≤ 32768
              · have HR : Hid (rightT ⟨b, l, d⟩ N = true) := Lib.hid (by rw [rightT, if_neg (by simp only; omega)]; exact decide_eq_true ⟨hz.2 h0, h1, h2, h3, (show d ≤ 32768 by omega), (show d ≤ N by omega)⟩)
                go_enter Tryz.func105, Tryz.ntmps105
                go_wp2_with fail
                go_ret
                refine ⟨?_, (Fr.refl _ w).alloc _⟩
                rw [HR.out]
                first | rfl | (simp; omega)
              · have HR : Hid (rightT ⟨b, l, d⟩ N = false) := Lib.hid (by rw [rightT, if_neg (by simp only; omega)]; refine decide_eq_false ?_; rintro ⟨q0, q1, q2, q3, q4, q5⟩; have q6 := hz.1 q0; simp only at q1 q2 q3 q4 q5; omega)
                have h5 : 32768 < d := by omega
                clear h4
                go_enter Tryz.func105, Tryz.ntmps105
                go_wp2_with fail
                go_ret
                refine ⟨?_, (Fr.refl _ w).alloc _⟩
                rw [HR.out]
                first | rfl | (simp; omega)
          · have HR : Hid (rightT ⟨b, l, d⟩ N = false) := Lib.hid (by rw [rightT, if_neg (by simp only; omega)]; refine decide_eq_false ?_; rintro ⟨q0, q1, q2, q3, q4, q5⟩; have q6 := hz.1 q0; simp only at q1 q2 q3 q4 q5; omega)
            have gh3 : d < 1 := by omega
            clear h3
            go_enter Tryz.func105, Tryz.ntmps105
            go_wp2_with fail
            go_ret
            refine ⟨?_, (Fr.refl _ w).alloc _⟩
            rw [HR.out]
            first | rfl | (simp; omega)
        · have HR : Hid (rightT ⟨b, l, d⟩ N = false) := Lib.hid (by rw [rightT, if_neg (by simp only; omega)]; refine decide_eq_false ?_; rintro ⟨q0, q1, q2, q3, q4, q5⟩; have q6 := hz.1 q0; simp only at q1 q2 q3 q4 q5; omega)
          have gh2 : 258 < l := by omega
          clear h2
          go_enter Tryz.func105, Tryz.ntmps105
          go_wp2_with fail
          go_ret
          refine ⟨?_, (Fr.refl _ w).alloc _⟩
          rw [HR.out]
          first | rfl | (simp; omega)
      · have HR : Hid (rightT ⟨b, l, d⟩ N = false) := Lib.hid (by rw [rightT, if_neg (by simp only; omega)]; refine decide_eq_false ?_; rintro ⟨q0, q1, q2, q3, q4, q5⟩; have q6 := hz.1 q0; simp only at q1 q2 q3 q4 q5; omega)
        have gh1 : l < 3 := by omega
        clear h1
        go_enter Tryz.func105, Tryz.ntmps105
        go_wp2_with fail
        go_ret
        refine ⟨?_, (Fr.refl _ w).alloc _⟩
        rw [HR.out]
        first | rfl | (simp; omega)
    · have HR : Hid (rightT ⟨b, l, d⟩ N = false) := Lib.hid (by rw [rightT, if_neg (by simp only; omega)]; refine decide_eq_false ?_; rintro ⟨q0, q1, q2, q3, q4, q5⟩; have q6 := hz.1 q0; simp only at q1 q2 q3 q4 q5; omega)
      go_enter Tryz.func105, Tryz.ntmps105
      go_wp2_with fail
      go_ret
      refine ⟨?_, (Fr.refl _ w).alloc _⟩
      rw [HR.out]
      first | rfl | (simp; omega)
end Go.Proofs.YtgpkiijmembggaaGreatDoor
namespace Go.Proofs.YtgpkiijmembggaaGreatDoor
open Go.RowKit LzM Mem Go.Lib
set_option linter.unusedVariables false

theorem own_tok {w : World} {base c g : Nat} {A : Option Addr} {B : List UInt8} {cs : Array Value} (h : Own w base A c B) (hg : w.heap[g]? = some (.cells cs 71 (0, 0))) : ∀ k, (Value.slice A B.length c).ownBlock = some k → k ≠ g := by
  intro k hk e
  subst e
  exact own_ne h hg (by decide) hk

set_option maxRecDepth 100000 in
set_option maxHeartbeats 1600000 in
theorem pAdd_any (base : Nat) (A : Option Addr) (c : Nat) (B : List UInt8) (t : Tok) (w : World) (hO : Own w base A c B) (hr : rightT t (B.length : Nat) = true) (hl : B.length ≤ 258000000) (hb : base ≤ w.heap.size) :
    Calls Tryz.prog 106 #[.slice A B.length c, tokc t] w fun e w' => ∃ A' c', e = .returned (.slice A' (addT B t).length c') ∧ Own w' base A' c' (addT B t) ∧ Fr (fun k => base ≤ k) w w' := by
  have HO := Lib.hid hO
  have HR := Lib.hid hr
  obtain ⟨n, hn⟩ : ∃ n, n = B.length := ⟨_, rfl⟩
  have HN := Lib.hid hn
  rw [← hn] at hl ⊢
  have hwt : ∀ T : Tok, ∃ g, g = w.heap.size ∧ (w.alloc (.cells #[bytec T.b, .int .i64 T.l, .int .i64 T.d] 71)).heap[g]? = some (.cells #[bytec T.b, .int .i64 T.l, .int .i64 T.d] 71 (0, 0)) := fun T => ⟨_, rfl, heap_alloc_new w _⟩
  rcases right_cases hr with ⟨b, rfl⟩ | ⟨L, D, rfl, hL1, hL2, hD1, hD2, hD3⟩
  · obtain ⟨u, hu⟩ : ∃ u, u = b.toNat := ⟨_, rfl⟩
    have HU := Lib.hid hu
    have hR : ∀ w, Calls Tryz.prog 105 #[.agg #[.int .u8 (u : Int), .int .i64 0, .int .i64 0], .int .i64 (n : Int)] w fun e w' => e = .returned (.bool true) ∧ Fr (fun _ => False) w w' := by
      intro w
      have h := pRightT_any ⟨b, 0, 0⟩ n w
      rw [show rightT ⟨b, 0, 0⟩ (n : Int) = true from by rw [hn]; exact hr] at h
      rw [hu]
      exact h
    have HRT := Lib.hid hR
    obtain ⟨B3, hB3⟩ : ∃ B3, B3 = addT B ⟨b, 0, 0⟩ := ⟨_, rfl⟩
    rw [← hB3]
    have hB3' : B3 = B ++ [b] := by rw [hB3, addT, if_pos rfl]
    have hb3 : B3.length = n + 1 := by rw [hB3', hn]; simp
    have HB3 := Lib.hid hB3'
    have HBL := Lib.hid hb3
    unfold tokc bytec
    simp only
    rw [← hu]
    clear hO hr hn hwt hR hu hB3 hB3' hb3
    go_enter Tryz.func106, Tryz.ntmps106
    go_wp2_with fail
    obtain ⟨w1, hw1⟩ : ∃ w1, w.alloc (.cells #[.int .u8 (u : Int), .int .i64 0, .int .i64 0] 71) = w1 := ⟨_, rfl⟩
    rw [hw1]
    obtain ⟨g, hg⟩ : ∃ g, w.heap.size = g := ⟨_, rfl⟩
    rw [hg]
    have hf1 : Fr (fun _ => False) w w1 := by rw [← hw1]; exact (Fr.refl _ _).alloc _
    have hg1 : w1.heap[g]? = some (.cells #[.int .u8 (u : Int), .int .i64 0, .int .i64 0] 71 (0, 0)) := by rw [← hw1, ← hg]; exact heap_alloc_new w _
    refine (HRT.out w1).mono ?_
    rintro e w2 ⟨rfl, hf2⟩
    have hf12 := hf1.trans hf2 (fun _ _ h => h)
    have HF2 := Lib.hid hf12
    have HO2 := Lib.hid (HO.out.fr hf12)
    have hg2 := hf2.blk hg1 (fun h => h)
    have k0 : w2.cell? ⟨g, 0, none⟩ = some (.int .u8 (u : Int)) := by rw [cell_of hg2 0]; rfl
    have k1 : w2.cell? ⟨g, 1, none⟩ = some (.int .i64 0) := by rw [cell_of hg2 1]; rfl
    have hbs : base ≤ w2.heap.size := by have := hf12.size; omega
    clear hw1 hg hf1 hg1 hf2 hf12 hg2
    have HO2' : Hid (w2.ownsRow base 5 1 (.slice A n c) n (B.map bytec)) := Lib.hid (by have h := HO2.out; unfold Own at h; rw [← HN.out] at h; exact h)
    go_wp2_with (at_builtin; refine wpList_appN u8T _ rfl _ _ rfl base _ _ _ rfl (HO2'.out.alloc _) _ _ _ [.int .u8 (u : Int)] rfl (Rd.one _ _ _) (one_one _ _) B3.length (by rw [HBL.out]) (by rw [HBL.out]; unfold maxLen; omega) (by rw [HBL.out]; omega) (by simp; omega) ?_)
    intro A' c' w' _ _ hown' hfr' _
    have HO4 : Hid (Own w' base A' c' B3) := by
      show w'.ownsRow base _ 1 _ _ (B3.map bytec)
      have e : B3.map bytec = B.map bytec ++ [.int .u8 (u : Int)] := by rw [HB3.out, List.map_append, HU.out]; rfl
      rw [e]
      exact hown'
    have HF4 : Hid (Fr (fun k => base ≤ k) w w') := Lib.hid (((HF2.out.alloc _).mono (T := fun k => base ≤ k) (fun _ _ h => h.elim)).trans hfr' (fun b hb h => (HO2'.out.lt _ h).1))
    clear hown' hfr'
    go_wp2_with fail
    go_ret
    exact ⟨A', c', rfl, HO4.out, HF4.out⟩
  · have hR : ∀ w, Calls Tryz.prog 105 #[.agg #[.int .u8 0, .int .i64 (L : Int), .int .i64 (D : Int)], .int .i64 (n : Int)] w fun e w' => e = .returned (.bool true) ∧ Fr (fun _ => False) w w' := by
      intro w
      have h := pRightT_any ⟨0, (L : Int), (D : Int)⟩ n w
      rw [show rightT ⟨0, (L : Int), (D : Int)⟩ (n : Int) = true from by rw [hn]; exact hr] at h
      exact h
    have HRT := Lib.hid hR
    have ha : addT B ⟨0, (L : Int), (D : Int)⟩ = copy D L B := by unfold addT; rw [if_neg (by simp only; omega)]; simp
    rw [ha]
    have hL0 : ((L : Int) == 0) = false := by simp; omega
    obtain ⟨R, hRR⟩ : ∃ R, R = copy D L B := ⟨_, rfl⟩
    rw [← hRR]
    have HRR := Lib.hid hRR
    have hDn : D ≤ n := by omega
    unfold tokc
    show Calls Tryz.prog 106 #[.slice A n c, .agg #[.int .u8 0, .int .i64 (L : Int), .int .i64 (D : Int)]] w _
    clear hO hr hn hwt hR ha hRR hD3
    go_enter Tryz.func106, Tryz.ntmps106
    go_wp2_with fail
    obtain ⟨w1, hw1⟩ : ∃ w1, w.alloc (.cells #[.int .u8 0, .int .i64 (L : Int), .int .i64 (D : Int)] 71) = w1 := ⟨_, rfl⟩
    rw [hw1]
    obtain ⟨g, hg⟩ : ∃ g, w.heap.size = g := ⟨_, rfl⟩
    rw [hg]
    have hf1 : Fr (fun _ => False) w w1 := by rw [← hw1]; exact (Fr.refl _ _).alloc _
    have hg1 : w1.heap[g]? = some (.cells #[.int .u8 0, .int .i64 (L : Int), .int .i64 (D : Int)] 71 (0, 0)) := by rw [← hw1, ← hg]; exact heap_alloc_new w _
    refine (HRT.out w1).mono ?_
    rintro e w2 ⟨rfl, hf2⟩
    have hf12 := hf1.trans hf2 (fun _ _ h => h)
    have HF2 := Lib.hid (hf12.mono (T := fun k => base ≤ k) (fun _ _ h => h.elim))
    have HO2 := Lib.hid (HO.out.fr hf12)
    have hg2 := hf2.blk hg1 (fun h => h)
    have HG2 := Lib.hid hg2
    have k1 : w2.cell? ⟨g, 1, none⟩ = some (.int .i64 (L : Int)) := by rw [cell_of hg2 1]; rfl
    have hgb : base ≤ g := by omega
    clear hw1 hg hf1 hg1 hf2 hf12 hg2
    go_wp2_with fail
    have HN2 := HN
    go_loopw [0, 21] (fun s i wx => ∃ (j : Nat) (B' : List UInt8) (A2 : Option Addr) (c2 : Nat), j ≤ L ∧ i = .int .i64 (j : Int) ∧ s = .slice A2 B'.length c2 ∧ Hid (B' = copy D j B) ∧ Hid (Own wx base A2 c2 B') ∧ Hid (wx.heap[g]? = some (.cells #[.int .u8 0, .int .i64 (L : Int), .int .i64 (D : Int)] 71 (0, 0))) ∧ Hid (Fr (fun k => base ≤ k) w wx)) (fun _ i _ => L - (intOf i).toNat)
    case atStart => exact ⟨0, B, A, c, by omega, rfl, by rw [← HN.out], (rfl : B = copy D 0 B), HO2.out, HG2.out, HF2.out⟩
    case round =>
      obtain ⟨j, B', A2, c2, hj, rfl, rfl, HB', HO3, HG3, HF3⟩ := hrel
      rename World => wx
      have hlen : B'.length = n + j := by rw [HB'.out, copy_length, HN.out]
      by_cases hjl : j < L
      · have k1' : wx.cell? ⟨g, 2, none⟩ = some (.int .i64 (D : Int)) := by rw [cell_of HG3.out 2]; rfl
        have hbs : base ≤ wx.heap.size := by have := HF3.out.size; omega
        obtain ⟨M, hM⟩ : ∃ M, M = B'.length := ⟨_, rfl⟩
        obtain ⟨P, hP⟩ : ∃ P, P + D = M := ⟨M - D, by omega⟩
        obtain ⟨b, hb⟩ : ∃ b, b = B'[P]! := ⟨_, rfl⟩
        have hb1 : B'[P]? = some b := by rw [hb, getElem!_pos B' P (by omega)]; exact List.getElem?_eq_getElem (by omega)
        obtain ⟨B3, hB3⟩ : ∃ B3, B3 = B' ++ [b] := ⟨_, rfl⟩
        have hb3 : B3.length ≤ 258000600 := by rw [hB3]; simp; omega
        have HB3 := Lib.hid hB3
        have hcp : B3 = copy D (j + 1) B := by rw [hB3, copy_succ, ← HB'.out, hb, show B'.length - D = P by omega]
        have HCP := Lib.hid hcp
        obtain ⟨ad, rfl, had⟩ := own_at HO3.out (i := P) (u := bytec b) (by rw [List.getElem?_map, hb1]; rfl)
        obtain ⟨hcell, -⟩ := had
        have hPl : P < B'.length := by omega
        have hsub : ((B'.length : Int) - (D : Int)) = (P : Int) := by omega
        have hsubw : IntKind.i64.wrap ((B'.length : Int) - (D : Int)) = (P : Int) := by rw [IntKind.wrap_i64]; omega
        unfold bytec at hcell
        have hlb : B'.length ≤ 258000300 := by omega
        clear hB3 hcp hb hb1 hM hP hlen
        go_wp2_with (at_builtin; refine wpList_appN u8T _ rfl _ _ rfl base _ _ _ rfl (HO3.out.alloc _) _ _ _ _ rfl (Rd.one _ _ _) (bytec_one [b]) B3.length (by rw [HB3.out, List.length_append]; rfl) (by unfold maxLen; omega) (by omega) (by simp; omega) ?_)
        intro A' c' w' _ _ hown' hfr' _
        have HO4 : Hid (Own w' base A' c' B3) := by
          show w'.ownsRow base _ 1 _ _ (B3.map bytec)
          have e : B3.map bytec = B'.map bytec ++ [bytec b] := by rw [HB3.out, List.map_append]; rfl
          rw [e]
          exact hown'
        have HF4 : Hid (Fr (fun k => base ≤ k) w w') := Lib.hid ((HF3.out.alloc _).trans hfr' (fun b hb h => (HO3.out.lt _ h).1))
        have HG4 := Lib.hid (hfr'.blk (((Fr.refl (fun _ => False) _).alloc _).blk HG3.out (fun h => h)) (fun h => own_tok HO3.out HG3.out _ h rfl))
        clear hown' hfr'
        go_wp2
        go_roundw
        case rel => exact ⟨j + 1, B3, A', c', by omega, by go_num, rfl, HCP.out, HO4.out, HG4.out, HF4.out⟩
        case measure => simp [intOf] <;> omega
      · obtain rfl : j = L := by omega
        have hBR : B' = R := by rw [HB'.out, HRR.out]
        have HBR := Lib.hid hBR
        clear hBR hlen
        go_wp2_with fail
        go_ret
        exact ⟨A2, c2, by rw [← HBR.out]; rfl, by rw [← HBR.out]; exact HO3.out, HF3.out⟩
end Go.Proofs.YtgpkiijmembggaaGreatDoor
