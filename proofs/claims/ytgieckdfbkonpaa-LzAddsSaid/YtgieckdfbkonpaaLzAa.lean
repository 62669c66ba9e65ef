/-
  The law LzAdds.
-/
import Derived.Test.YtgieckdfbkonpaaLzU
import Derived.Deep.RegionHeld3
namespace Go.Proofs.Ytgieckdfbkonpaa
open Go.RowKit LzM LzN LzV Mem Go.Lib
attribute [local go_sem ↓] Go.wp_at_zero Go.wp_at_succ
set_option linter.unusedVariables false

/-- so few tokens never tell too much -/
theorem open_step (B : List UInt8) (t : Tok) (T : List Tok) (h : B.length ≤ 100000) : openT 1048576 B (t :: T) = if rightT t B.length = false then .error 3 else openT 1048576 (addT B t) T := by
  rw [openT]
  by_cases hr : rightT t B.length = false
  · rw [if_pos hr, if_pos hr]
  · have hr' : rightT t (B.length : Nat) = true := by simpa using hr
    have hw := wide_max hr'
    rw [if_neg hr, if_neg hr, if_neg (by omega)]
theorem addT_take {t : Tok} {B : List UInt8} (h : rightT t (B.length : Nat) = true) : (addT B t).take B.length = B := by
  rcases right_cases h with ⟨b, rfl⟩ | ⟨L, D, rfl, h1, h2, _⟩
  · rw [addT, if_pos rfl]; simp
  · unfold addT
    rw [if_neg (by simp only; omega)]
    have hc : ∀ (n : Nat) (C : List UInt8), B.length ≤ C.length → (copy (D : Int).toNat n C).take B.length = C.take B.length := by
      intro n
      induction n with
      | zero => intro C _; rfl
      | succ n ih =>
        intro C hC
        rw [copy, ih _ (by simp; omega), List.take_append_of_le_length hC]
    have := hc (L : Int).toNat B (Nat.le_refl _)
    rw [List.take_length] at this
    exact this
theorem rd_take {w : World} {A : Option Addr} {n m : Nat} {xs : List Value} (h : Rd w A n xs) (hm : m ≤ n) : Rd w A m (xs.take m) := by
  refine ⟨by rw [List.length_take, h.1]; omega, fun h0 => ?_⟩
  obtain ⟨ad, e, hc⟩ := h.2 (by omega)
  refine ⟨ad, e, fun j u hu => hc j u ?_⟩
  rw [List.getElem?_take] at hu
  split at hu
  · exact hu
  · cases hu

set_option maxRecDepth 100000 in
set_option maxHeartbeats 3200000 in
theorem adds_law (A : Option Addr) (n c : Nat) (T : List Tok) (w : World) (hT : Toks w A n T) :
    Calls Try.prog 6 #[.slice A n c] w fun e w' => e = .returned (.bool true) ∧ Fr (fun _ => False) w w' := by
  have HT := Lib.hid hT
  have hln := hT.1
  have HLN := Lib.hid hln
  clear hT hln
  by_cases hn : 300 < n
  · go_enter Try.func6, Try.ntmps6
    go_wp2_with fail
    refine (awake_any w).mono ?_
    rintro e w2 ⟨rfl, hf2⟩
    go_wp2_with fail
    refine (awake_any w2).mono ?_
    rintro e w3 ⟨rfl, hf3⟩
    go_wp2_with fail
    go_ret
    exact ⟨rfl, hf2.trans hf3 (fun _ _ h => h)⟩
  · have hn2 : n ≤ 300 := by omega
    clear hn
    obtain ⟨R, hR⟩ : ∃ R, R = openT 1048576 [] T := ⟨_, rfl⟩
    have HR := Lib.hid hR
    have hOP : ∀ w2, Fr (fun _ => False) w w2 → Calls Try.prog 12 #[.int .i64 1048576, .slice A n c] w2 fun e w' => ∃ A' c', e = .returned (.tuple #[.slice A' (toP R).1.length c', .int .i64 ((toP R).2 : Nat)]) ∧ Own w' w2.heap.size A' c' (toP R).1 ∧ Fr (fun _ => False) w2 w' := by
      intro w2 hf
      rw [hR]
      exact pOpen_any 1048576 A n c T w2 (HT.out.fr hf (fun _ _ h => h)) (by omega)
    have HOP := Lib.hid hOP
    clear hR hOP
    go_enter Try.func6, Try.ntmps6
    go_wp2_with fail
    refine (awake_any w).mono ?_
    rintro e w2 ⟨rfl, hf2⟩
    have HF2 := Lib.hid hf2
    clear hf2
    go_wp2_with fail
    go_loopw [3, 4] (fun s i wr => ∃ (k : Nat) (B : List UInt8) (A1 : Option Addr) (c1 : Nat), k ≤ n ∧ i = .int .i64 (k : Int) ∧ s = .slice A1 B.length c1 ∧ Hid (Own wr w.heap.size A1 c1 B) ∧ B.length ≤ 258 * k ∧ Hid (openT 1048576 B (T.drop k) = R) ∧ Hid (Fr (fun _ => False) w wr)) (fun _ i _ => n - (intOf i).toNat)
    case atStart => exact ⟨0, [], none, 0, Nat.zero_le _, rfl, rfl, Own.nil _ _, by simp, HR.out.symm, HF2.out⟩
    case round =>
      obtain ⟨k, B, A1, c1, hk, rfl, rfl, HO, hbl, HE, HF⟩ := hrel
      rename World => wr
      by_cases hlt : k < n
      · obtain ⟨t, ht⟩ : ∃ t, T[k]? = some t := ⟨_, List.getElem?_eq_getElem (by have := HLN.out; omega)⟩
        have hdr : T.drop k = t :: T.drop (k + 1) := by rw [List.drop_eq_getElem_cons (by have := HLN.out; omega)]; congr 1; exact (List.getElem?_eq_some_iff.1 ht).2
        obtain ⟨g, o, rfl, hg, h1w, h2w, h3w⟩ := HT.out.2 k t ht
        have h1 := HF.out.cell h1w (fun h => h)
        have h2 := HF.out.cell h2w (fun h => h)
        have h3 := HF.out.cell h3w (fun h => h)
        clear h1w h2w h3w
        have HG := Lib.hid hg
        clear hg
        have he := HE.out
        rw [hdr, open_step B t _ (by omega)] at he
        have hRT : ∀ w, Calls Try.prog 14 #[tokc t, .int .i64 (B.length : Int)] w fun e w' => e = .returned (.bool (rightT t B.length)) ∧ Fr (fun _ => False) w w' := fun w => pRight_any t B.length w
        obtain ⟨v, hv⟩ : ∃ v, v = rightT t (B.length : Nat) := ⟨_, rfl⟩
        rw [← hv] at he hRT
        have HV := Lib.hid hv
        obtain ⟨m, hm⟩ : ∃ m, m = B.length := ⟨_, rfl⟩
        have HMB := Lib.hid hm
        rw [← hm] at hRT hbl ⊢
        clear hdr hv hm
        obtain ⟨b, l, d⟩ := t
        obtain ⟨u, hu⟩ : ∃ u, u = b.toNat := ⟨_, rfl⟩
        have HU := Lib.hid hu
        unfold tokc bytec at hRT
        unfold bytec at h1
        simp only at hRT h1 h2 h3
        rw [← hu] at hRT h1
        have HRT := Lib.hid hRT
        have HTK := Lib.hid ht
        clear hu hRT ht
        go_wp2_with fail
        refine (HRT.out wr).mono ?_
        rintro e w3 ⟨rfl, hf3⟩
        have HF3 := Lib.hid (HF.out.trans hf3 (fun _ _ h => h))
        have HO3 := Lib.hid (HO.out.fr hf3)
        replace h1 := hf3.cell h1 (fun h => h)
        replace h2 := hf3.cell h2 (fun h => h)
        replace h3 := hf3.cell h3 (fun h => h)
        clear hf3
        cases v with
        | false =>
          rw [if_pos rfl] at he
          have HE2 := Lib.hid he
          clear he h1 h2 h3
          go_wp2_with fail
          refine (HOP.out w3 HF3.out).mono ?_
          rintro e w4 ⟨A4, c4, rfl, hO4, hf4⟩
          rw [← HE2.out]
          simp only [toP]
          go_wp2_with fail
          go_ret
          exact ⟨rfl, HF3.out.trans hf4 (fun _ _ h => h)⟩
        | true =>
          rw [if_neg (by simp)] at he
          have HE2 := Lib.hid he
          clear he
          obtain ⟨S, hS⟩ : ∃ S, S = txt B := ⟨_, rfl⟩
          have hSz : S.size = m := by rw [hS, HMB.out]; simp [txt, ByteArray.size]
          have hs1 : (convert 22 9 (.slice A1 m c1)).run Try.prog w3 = .ok (.string S) w3 := by rw [hS, HMB.out]; exact HO3.out.str
          have HS := Lib.hid hS
          clear hS
          obtain ⟨R2, hR2⟩ : ∃ R2, R2 = addT B ⟨b, l, d⟩ := ⟨_, rfl⟩
          have hADD : ∀ (A4 : Option Addr) (c4 : Nat) (w4 : World), w4.ownsRow w.heap.size 5 1 (.slice A4 m c4) m ([] ++ B.map bytec) → w.heap.size ≤ w4.heap.size → Calls Try.prog 16 #[.slice A4 m c4, .agg #[.int .u8 (u : Int), .int .i64 l, .int .i64 d]] w4 fun e w' => ∃ A' c', e = .returned (.slice A' R2.length c') ∧ Own w' w.heap.size A' c' R2 ∧ Fr (fun k => w.heap.size ≤ k) w4 w' := by
            intro A4 c4 w4 ho hs
            rw [HU.out, hR2, HMB.out]
            rw [List.nil_append, HMB.out] at ho
            exact pAdd_any w.heap.size A4 c4 B ⟨b, l, d⟩ w4 ho HV.out.symm (by rw [← HMB.out]; omega) hs
          have HADD := Lib.hid hADD
          have HR2 := Lib.hid hR2
          have hbase3 : w.heap.size ≤ w3.heap.size := HF3.out.size
          have hrd3 : Rd w3 A1 m (B.map bytec) := by rw [HMB.out]; exact HO3.out.rd
          have HRD3 := Lib.hid hrd3
          clear hR2 hADD hrd3
          go_wp2_with fail
          clear hs1
          go_region_held3 (fun w' => w'.cell? ⟨g, o + k * 3, none⟩ = some (.int .u8 (u : Int)) ∧ w'.cell? ⟨g, o + k * 3 + 1, none⟩ = some (.int .i64 l) ∧ w'.cell? ⟨g, o + k * 3 + 2, none⟩ = some (.int .i64 d))
            (first
              | go_keep
              | exact hk4
              | exact hk5)
            (first
              | (refine step_app u8T _ (by rfl) _ _ (by rfl) w.heap.size _ 0 [] (by rfl) (own_full rfl (by simpa using hbase3) 5 [] (by simp)) A1 m c1 (B.map bytec) (by rfl) ((HRD3.out.drew).fr ((Fr.refl (fun _ => False) _).alloc _) (fun _ _ h => h)) (bytec_one B) m (by omega) (by unfold maxLen; omega) (by omega) (by simp; omega) ?_
                 intro A4 c4 w4 hc4 hown4 hfr4
                 have hf34 : Fr (fun b => w.heap.size ≤ b) w3 w4 := (((Fr.refl (fun b => w.heap.size ≤ b) w3).alloc _).drew).trans hfr4 (fun b hb h => by
                   have e : w3.heap.size = b := by simpa [Value.ownBlock] using h
                   omega)
                 have hk4 : w4.cell? ⟨g, o + k * 3, none⟩ = some (.int .u8 (u : Int)) ∧ w4.cell? ⟨g, o + k * 3 + 1, none⟩ = some (.int .i64 l) ∧ w4.cell? ⟨g, o + k * 3 + 2, none⟩ = some (.int .i64 d) := ⟨hf34.cell h1 (Nat.not_le.2 HG.out), hf34.cell h2 (Nat.not_le.2 HG.out), hf34.cell h3 (Nat.not_le.2 HG.out)⟩
                 have HF4 : Hid (Fr (fun _ => False) w w4) := Lib.hid (HF3.out.trans hf34 (fun b hb h => by omega))
                 clear hf34 hfr4)
              | (go_at_call 16
                 refine (HADD.out A4 c4 w4 hown4 HF4.out.size).mono ?_
                 rintro e w5 ⟨A5, c5, rfl, hO5, hf5⟩
                 have hk5 : w5.cell? ⟨g, o + k * 3, none⟩ = some (.int .u8 (u : Int)) ∧ w5.cell? ⟨g, o + k * 3 + 1, none⟩ = some (.int .i64 l) ∧ w5.cell? ⟨g, o + k * 3 + 2, none⟩ = some (.int .i64 d) := ⟨hf5.cell hk4.1 (Nat.not_le.2 HG.out), hf5.cell hk4.2.1 (Nat.not_le.2 HG.out), hf5.cell hk4.2.2 (Nat.not_le.2 HG.out)⟩
                 have HF5 : Hid (Fr (fun _ => False) w w5) := Lib.hid (HF4.out.trans hf5 (fun b hb h => by omega))
                 have HO5 := Lib.hid hO5
                 clear hf5 hO5))
          obtain ⟨hk51, hk52, hk53⟩ := hk5
          have hwm := wide_max HV.out.symm
          have hadl := addT_length HV.out.symm
          have htk := addT_take HV.out.symm
          rw [← HR2.out, ← HMB.out] at hadl htk
          obtain ⟨W, hW⟩ : ∃ W, W = wide ⟨b, l, d⟩ := ⟨_, rfl⟩
          rw [← hW] at hwm hadl
          obtain ⟨N, hN⟩ : ∃ N, N = R2.length := ⟨_, rfl⟩
          rw [← hN] at hadl ⊢
          have HNN := Lib.hid hN
          have HTK2 := Lib.hid htk
          obtain ⟨hw1, hw2, hw3⟩ := hwm
          simp only at hw1
          have hmN : m ≤ N := by omega
          have hmN2 : N ≤ 100000 := by omega
          have hsum : (m : Int) + (W : Int) = (N : Int) := by omega
          have hcap := HO5.out.cap
          rw [← hN] at hcap
          have hrd5 := HO5.out.rd
          rw [← hN] at hrd5
          have hs3 : (convert 22 9 (.slice A5 m c5)).run Try.prog w5 = .ok (.string S) w5 := by
            have h := rd_take hrd5 hmN
            rw [← List.map_take, htk] at h
            rw [HS.out]
            exact str_rd h c5
          obtain ⟨hcap1, hcap2⟩ := hcap
          have hmc5 : m ≤ c5 := by omega
          have hN2 : N ≤ 258 * (k + 1) := by omega
          clear hN htk hW h1 h2 h3 hk4 hown4 hc4 hadl hrd5 hcap2
          go_wp2_with fail
          all_goals exact ⟨⟨k + 1, R2, A5, c5, by omega, by go_num, by rw [HNN.out], HO5.out, by rw [← HNN.out]; exact hN2, by rw [HR2.out]; exact HE2.out, HF5.out⟩, by simp [intOf]; omega⟩
      · obtain rfl : k = n := by omega
        have he : R = .ok B := by have h := HE.out; rw [List.drop_of_length_le (by have := HLN.out; omega)] at h; exact h.symm
        have HR2 := Lib.hid he
        obtain ⟨S, hS⟩ : ∃ S, S = txt B := ⟨_, rfl⟩
        obtain ⟨m, hm⟩ : ∃ m, m = B.length := ⟨_, rfl⟩
        have HMB := Lib.hid hm
        have HS := Lib.hid hS
        rw [← hm] at hbl ⊢
        clear he hS hm
        go_wp2_with fail
        refine (HOP.out wr HF.out).mono ?_
        rintro e w4 ⟨A4, c4, rfl, hO4, hf4⟩
        rw [HR2.out] at hO4 ⊢
        simp only [toP] at hO4 ⊢
        rw [← HMB.out]
        have hs1 : (convert 22 9 (.slice A4 m c4)).run Try.prog w4 = .ok (.string S) w4 := by rw [HS.out, HMB.out]; exact hO4.str
        have hs2 : (convert 22 9 (.slice A1 m c1)).run Try.prog w4 = .ok (.string S) w4 := by rw [HS.out, HMB.out]; exact (HO.out.fr hf4).str
        have HF4 := Lib.hid (HF.out.trans hf4 (fun _ _ h => h))
        clear hO4 hf4
        go_wp2_with fail
        go_ret
        exact ⟨rfl, HF4.out⟩
end Go.Proofs.Ytgieckdfbkonpaa
