/-
  Layer 6, the program: Open.
-/
import Derived.Test.YtgieckdfbkonpaaLzR
namespace Go.Proofs.Ytgieckdfbkonpaa
open Go.RowKit LzM Mem Go.Lib
set_option linter.unusedVariables false

theorem wide_max {t : Tok} {n : Nat} (h : rightT t (n : Nat) = true) : max t.l 1 = (wide t : Int) ∧ wide t ≤ 258 ∧ 1 ≤ wide t := by
  rcases right_cases h with ⟨b, rfl⟩ | ⟨L, D, rfl, h1, h2, _⟩
  · exact ⟨rfl, (show 1 ≤ 258 by omega), Nat.le_refl 1⟩
  · have hw : wide ⟨0, (L : Int), (D : Int)⟩ = L := by unfold wide; rw [if_neg (by simp only; omega)]; simp
    rw [hw]
    exact ⟨by show max (L : Int) 1 = L; omega, h2, by omega⟩
theorem addT_length {t : Tok} {B : List UInt8} (h : rightT t (B.length : Nat) = true) : (addT B t).length = B.length + wide t := by
  rcases right_cases h with ⟨b, rfl⟩ | ⟨L, D, rfl, h1, h2, _⟩
  · rw [addT, if_pos rfl]; simp [wide]
  · have hw : wide ⟨0, (L : Int), (D : Int)⟩ = L := by unfold wide; rw [if_neg (by simp only; omega)]; simp
    rw [hw]
    unfold addT
    rw [if_neg (by simp only; omega), copy_length]
    simp

set_option maxRecDepth 100000 in
set_option maxHeartbeats 3200000 in
theorem pOpen_any (most : Int) (A : Option Addr) (n c : Nat) (T : List Tok) (w : World) (hT : Toks w A n T) (hn : n ≤ 1000000) :
    Calls Try.prog 12 #[.int .i64 most, .slice A n c] w fun e w' => ∃ A' c', e = .returned (.tuple #[.slice A' (toP (openT most [] T)).1.length c', .int .i64 ((toP (openT most [] T)).2 : Nat)]) ∧
      Own w' w.heap.size A' c' (toP (openT most [] T)).1 ∧ Fr (fun _ => False) w w' := by
  have HT := Lib.hid hT
  have hln := hT.1
  have HLN := Lib.hid hln
  clear hT hln
  obtain ⟨base, hbase⟩ : ∃ base, base = w.heap.size := ⟨_, rfl⟩
  have HB := Lib.hid hbase
  rw [← hbase]
  clear hbase
  obtain ⟨R, hR⟩ : ∃ R, R = openT most [] T := ⟨_, rfl⟩
  rw [← hR]
  have HR := Lib.hid hR
  clear hR
  go_enter Try.func12, Try.ntmps12
  go_wp2_with fail
  go_loopw [6, 11] (fun s i wr => ∃ (k : Nat) (B : List UInt8) (A1 : Option Addr) (c1 : Nat), k ≤ n ∧ i = .int .i64 (k : Int) ∧ s = .slice A1 B.length c1 ∧ Hid (Own wr base A1 c1 B) ∧ B.length ≤ 258 * k ∧ Hid (openT most B (T.drop k) = R) ∧ Hid (Fr (fun _ => False) w wr)) (fun _ i _ => n - (intOf i).toNat)
  case atStart => exact ⟨0, [], none, 0, Nat.zero_le _, rfl, rfl, World.ownsRow_nil _ _ _ _, by simp, HR.out.symm, Fr.refl _ _⟩
  case round =>
    obtain ⟨k, B, A1, c1, hk, rfl, rfl, HO, hbl, HE, HF⟩ := hrel
    rename World => wr
    by_cases hlt : k < n
    · obtain ⟨t, ht⟩ : ∃ t, T[k]? = some t := ⟨_, List.getElem?_eq_getElem (by have := HLN.out; omega)⟩
      have hdr : T.drop k = t :: T.drop (k + 1) := by rw [List.drop_eq_getElem_cons (by have := HLN.out; omega)]; congr 1; exact (List.getElem?_eq_some_iff.1 ht).2
      obtain ⟨g, o, rfl, hg, h1, h2, h3⟩ := (HT.out.fr HF.out (fun _ _ => id)).2 k t ht
      have he := HE.out
      rw [hdr, openT] at he
      have hbB : B.length ≤ 258000000 := by omega
      have HTT : Hid (T[k]? = some t) := Lib.hid ht
      obtain ⟨b, l, d⟩ := t
      simp only at h1 h2 h3
      obtain ⟨u, hu⟩ : ∃ u, u = b.toNat := ⟨_, rfl⟩
      unfold bytec at h1
      rw [← hu] at h1
      have hRT : ∀ w, Calls Try.prog 14 #[.agg #[.int .u8 (u : Int), .int .i64 l, .int .i64 d], .int .i64 (B.length : Int)] w fun e w' => e = .returned (.bool (rightT ⟨b, l, d⟩ B.length)) ∧ Fr (fun _ => False) w w' := by
        intro w
        rw [hu]
        exact pRight_any ⟨b, l, d⟩ B.length w
      have HRT := Lib.hid hRT
      have HU := Lib.hid hu
      clear ht hdr hu hRT
      go_wp2_with fail
      obtain ⟨w1, hw1⟩ : ∃ w1, wr.alloc (.cells #[.int .u8 (u : Int), .int .i64 l, .int .i64 d] 27) = w1 := ⟨_, rfl⟩
      rw [hw1]
      obtain ⟨g1, hg1'⟩ : ∃ g, wr.heap.size = g := ⟨_, rfl⟩
      rw [hg1']
      have hf1 : Fr (fun _ => False) wr w1 := by rw [← hw1]; exact (Fr.refl _ _).alloc _
      have hg1 : w1.heap[g1]? = some (.cells #[.int .u8 (u : Int), .int .i64 l, .int .i64 d] 27 (0, 0)) := by rw [← hw1, ← hg1']; exact heap_alloc_new wr _
      refine (HRT.out w1).mono ?_
      rintro e w2 ⟨rfl, hf2⟩
      have hf12 := hf1.trans hf2 (fun _ _ h => h)
      have HF2 := Lib.hid (HF.out.trans hf12 (fun _ _ h => h))
      have HO2 := Lib.hid (HO.out.fr hf12)
      have hg2 := hf2.blk hg1 (fun h => h)
      have HG2 := Lib.hid hg2
      have k0 : w2.cell? ⟨g1, 0, none⟩ = some (.int .u8 (u : Int)) := by rw [cell_of hg2 0]; rfl
      have k1 : w2.cell? ⟨g1, 1, none⟩ = some (.int .i64 l) := by rw [cell_of hg2 1]; rfl
      have k2 : w2.cell? ⟨g1, 2, none⟩ = some (.int .i64 d) := by rw [cell_of hg2 2]; rfl
      clear hw1 hg1' hf1 hg1 hf2 hf12 hg2 h1 h2 h3
      cases hr : rightT ⟨b, l, d⟩ (B.length : Nat) with
      | false =>
        rw [hr, if_pos rfl] at he
        have HE' := Lib.hid he
        clear he hr
        go_wp2_with fail
        rw [← HE'.out]
        exact bodyPost_ret (v := .tuple #[.slice none 0 0, .int .i64 3]) (by simp [results, Try.results12, go_sem]) rfl ⟨none, 0, rfl, Own.nil _ _, HF2.out⟩
      | true =>
        rw [hr, if_neg (by simp)] at he
        obtain ⟨hwm, hw258, hw1⟩ := wide_max hr
        have hadl := addT_length hr
        obtain ⟨W, hW⟩ : ∃ W, W = wide ⟨b, l, d⟩ := ⟨_, rfl⟩
        rw [← hW] at hwm hw258 hw1 hadl he
        have hSZ : ∀ w, Calls Try.prog 19 #[.agg #[.int .u8 (u : Int), .int .i64 l, .int .i64 d]] w fun e w' => e = .returned (.int .i64 (W : Int)) ∧ Fr (fun _ => False) w w' := by
          intro w
          have h := size_any ⟨b, l, d⟩ w
          rw [show max (⟨b, l, d⟩ : Tok).l 1 = (W : Int) from hwm] at h
          rw [HU.out]
          exact h
        have HSZ := Lib.hid hSZ
        have HRR := Lib.hid hr
        obtain ⟨R2, hR2⟩ : ∃ R2, R2 = addT B ⟨b, l, d⟩ := ⟨_, rfl⟩
        rw [← hR2] at hadl
        have HR2 := Lib.hid hR2
        have HADL := Lib.hid hadl
        have hadb : R2.length ≤ 258 * (k + 1) := by omega
        clear hr hwm hW hSZ hR2 hadl
        go_wp2_with fail
        refine (HSZ.out w2).mono ?_
        rintro e w3 ⟨rfl, hf3⟩
        have HF3 := Lib.hid (HF2.out.trans hf3 (fun _ _ h => h))
        have HO3 := Lib.hid (HO2.out.fr hf3)
        have hg3 := hf3.blk HG2.out (fun h => h)
        replace k0 : w3.cell? ⟨g1, 0, none⟩ = some (.int .u8 (u : Int)) := by rw [cell_of hg3 0]; rfl
        replace k1 : w3.cell? ⟨g1, 1, none⟩ = some (.int .i64 l) := by rw [cell_of hg3 1]; rfl
        replace k2 : w3.cell? ⟨g1, 2, none⟩ = some (.int .i64 d) := by rw [cell_of hg3 2]; rfl
        clear hf3 hg3
        by_cases hm : ((B.length : Int) + (W : Int)) > most
        · rw [if_pos (show ((B.length + W : Nat) : Int) > most from by omega)] at he
          have HE' := Lib.hid he
          clear he
          go_wp2_with fail
          rw [← HE'.out]
          exact bodyPost_ret (v := .tuple #[.slice none 0 0, .int .i64 4]) (by simp [results, Try.results12, go_sem]) rfl ⟨none, 0, rfl, Own.nil _ _, HF3.out⟩
        · rw [if_neg (show ¬ ((B.length + W : Nat) : Int) > most from by omega), ← HR2.out] at he
          have HE' := Lib.hid he
          have hadd : Calls Try.prog 16 #[.slice A1 B.length c1, .agg #[.int .u8 (u : Int), .int .i64 l, .int .i64 d]] w3 fun e w' => ∃ A' c', e = .returned (.slice A' R2.length c') ∧ Own w' base A' c' R2 ∧ Fr (fun k => base ≤ k) w3 w' := by
            rw [HU.out, HR2.out]
            exact pAdd_any base A1 c1 B ⟨b, l, d⟩ w3 HO3.out HRR.out hbB (by have h1 := HF3.out.size; have h2 := HB.out; omega)
          have HADD := Lib.hid hadd
          clear he hadd
          go_wp2_with fail
          refine HADD.out.mono ?_
          rintro e w4 ⟨A4, c4, rfl, hO4, hf4⟩
          have HO4 := Lib.hid hO4
          have HF4 : Hid (Fr (fun _ => False) w w4) := Lib.hid (HF3.out.trans hf4 (fun b hb h => by have h2 := HB.out; omega))
          clear hO4 hf4
          go_wp2_with fail
          exact ⟨⟨k + 1, R2, A4, c4, by omega, by go_num, rfl, HO4.out, hadb, HE'.out, HF4.out⟩, by simp [intOf]; omega⟩
    · obtain rfl : k = n := by omega
      have he : R = .ok B := by have h := HE.out; rw [List.drop_of_length_le (by have := HLN.out; omega)] at h; exact h.symm
      have HR2 := Lib.hid he
      clear he
      go_wp2_with fail
      rw [HR2.out]
      exact bodyPost_ret (v := .tuple #[.slice A1 B.length c1, .int .i64 0]) (by simp [results, Try.results12, go_sem]) rfl ⟨A1, c1, rfl, HO.out, HF.out⟩
end Go.Proofs.Ytgieckdfbkonpaa
