/-
  Contracts of layer 2: GetU, GetS.
  What GetU and GetS read, in plain words: of a number's bytes, of their front, of whatever bytes.
-/
import Derived.Test.YtbnkahjmeobblaaZm02
import Derived.Deep.DeepMust
namespace Go.Proofs.Ytbnkahjmeobblaa
open Go.RowKit LebM Mem Go.Lib

/-- what is read of bytes: the number, how many bytes, the error -/
def gu (B : List UInt8) : Nat × Nat × Nat :=
  if spanE B ≠ 0 then (0, 0, spanE B) else
  if u (val (B.take (spanK B)) % 18446744073709551616) = B.take (spanK B) then (val (B.take (spanK B)) % 18446744073709551616, spanK B, 0) else (0, 0, 3)
def gs (B : List UInt8) : Int × Nat × Nat :=
  if spanE B ≠ 0 then (0, 0, spanE B) else
  if s (sgn (val (B.take (spanK B)) % 18446744073709551616) (spanK B)) = B.take (spanK B) then (sgn (val (B.take (spanK B)) % 18446744073709551616) (spanK B), spanK B, 0) else (0, 0, 3)

theorem spanK_le (B : List UInt8) : spanK B ≤ B.length ∧ spanK B ≤ 10 := by unfold spanK; split <;> omega
theorem spanE_le (B : List UInt8) : spanE B ≤ 3 := by unfold spanE; split <;> (try split) <;> omega

set_option maxRecDepth 100000 in
set_option maxHeartbeats 800000 in
theorem GetU_any (A : Option Addr) (n c : Nat) (B : List UInt8) (w : World) (hr : Rd w A n (B.map bytec)) (hc : n ≤ c) :
    Calls Try.prog 76 #[.slice A n c] w fun e w' => e = .returned (.tuple #[.int .u64 ((gu B).1 : Int), .int .i64 ((gu B).2.1 : Int), .int .i64 ((gu B).2.2 : Int)]) ∧ Fr (fun _ => False) w w' := by
  have hBn : B.length = n := by simpa using hr.1
  obtain ⟨k, hk⟩ : ∃ k, k = spanK B := ⟨_, rfl⟩
  obtain ⟨E, hE⟩ : ∃ E, E = spanE B := ⟨_, rfl⟩
  have hsp := span_any A n c B w hr hc
  have hkl := spanK_le B
  have hel := spanE_le B
  rw [← hk, ← hE] at hsp
  rw [← hk, hBn] at hkl
  rw [← hE] at hel
  obtain ⟨hkn, hk10⟩ := hkl
  have HS := Lib.hid hsp
  by_cases he : E = 0
  · have hg : gu B = if u (val (B.take k) % 18446744073709551616) = B.take k then (val (B.take k) % 18446744073709551616, k, 0) else (0, 0, 3) := by
      unfold gu
      rw [← hk, ← hE, if_neg (by omega)]
    obtain ⟨L, hL⟩ : ∃ L, L = B.take k := ⟨_, rfl⟩
    rw [← hL] at hg
    obtain ⟨N, hN⟩ : ∃ N, N = val L % 18446744073709551616 := ⟨_, rfl⟩
    rw [← hN] at hg
    have hN64 : N < 18446744073709551616 := by rw [hN]; exact Nat.mod_lt _ (by omega)
    have hrk : ∀ w', Fr (fun _ => False) w w' → Rd w' A k (L.map bytec) := by
      intro w' hf
      have h := Rd.cut (hr.fr hf (fun _ _ h => h)) (k := 0) (m := k) (cap := c) (by omega) hkn hc
      have e : (if c = 0 then A else A.map (·.add 0)) = A := by
        split
        · rfl
        · cases A with
          | none => rfl
          | some ad => simp [Addr.add]
      rw [e, ← List.map_take, List.drop_zero, ← hL] at h
      exact h
    have hj := join_any A k c L w (hrk w (Fr.refl _ _)) hk10
    rw [← hN] at hj
    have HJ := Lib.hid hj
    have HK := Lib.hid hrk
    have t : ((E : Int) != 0) = false := by simp; omega
    obtain ⟨q, hq⟩ : ∃ q, decide (u N = L) = q := ⟨_, rfl⟩
    have hg2 : gu B = if q = true then (N, k, 0) else (0, 0, 3) := by rw [hg, ← hq]; simp
    have heq := fun A A' n c n' c' w h h' => equal_any A A' n c n' c' (u N) L w h h'
    rw [hq] at heq
    have HQ := Lib.hid heq
    have HG := Lib.hid hg2
    clear hg hg2 heq hq hsp hE hk hBn hr hj hrk hN hL he
    cases q
    all_goals
      go_enter Try.func76, Try.ntmps76
      go_wp2_with fail
      refine HS.out.mono ?_
      rintro e w1 ⟨rfl, rfl⟩
      go_wp2_with fail
      refine HJ.out.mono ?_
      rintro e w1 ⟨rfl, rfl⟩
      go_wp2_with fail
      go_region_with (first
        | (go_at_call 51
           go_must (refine (U_any N _ hN64).mono ?_
                    rintro e w2 ⟨A2, c2, rfl, hown2, hfr2⟩
                    have H2 := Lib.hid hown2
                    have HF2 := Lib.hid ((Fr.refl (fun _ => False) w).drew.trans hfr2 (fun _ _ h => h))
                    have HR2 := Lib.hid (HK.out _ HF2.out)
                    clear hown2))
        | (go_at_call 88
           go_must (refine (HQ.out _ _ _ _ _ _ _ H2.out.rd HR2.out).mono ?_
                    rintro e w3 ⟨rfl, rfl⟩))
        | fail)
      all_goals go_wp2
      all_goals rw [HG.out]
      all_goals first
        | exact bodyPost_ret (v := .tuple #[.int .u64 0, .int .i64 0, .int .i64 3]) (by simp [results, Try.results76, go_sem]) rfl ⟨rfl, HF2.out⟩
        | exact bodyPost_ret (v := .tuple #[.int .u64 N, .int .i64 k, .int .i64 0]) (by simp [results, Try.results76, go_sem]) rfl ⟨rfl, HF2.out⟩
  · have hg : gu B = (0, 0, E) := by unfold gu; rw [← hE, if_pos he]
    rw [hg]
    have t : ((E : Int) != 0) = true := by simp; omega
    clear hg hsp hE hk hBn hr he
    go_enter Try.func76, Try.ntmps76
    go_wp2_with fail
    refine HS.out.mono ?_
    rintro e w1 ⟨rfl, rfl⟩
    go_wp2
    refine bodyPost_ret (v := .tuple #[.int .u64 0, .int .i64 0, .int .i64 E]) (by simp [results, Try.results76, go_sem]) rfl ⟨rfl, Fr.refl _ _⟩
theorem sgn_bd (N k : Nat) : -9223372036854775808 ≤ sgn N k ∧ sgn N k < 9223372036854775808 := by
  have hp : (0 : Int) < 2 ^ (64 - 7 * k) := Int.pow_pos (by omega)
  unfold sgn
  obtain ⟨x, hx⟩ : ∃ x, x = wrap64 ((N * 2 ^ (64 - 7 * k) % 18446744073709551616 : Nat) : Int) := ⟨_, rfl⟩
  rw [← hx]
  have h1 : -9223372036854775808 ≤ x ∧ x < 9223372036854775808 := by rw [hx]; unfold wrap64; omega
  constructor
  · have h := Int.ediv_le_ediv hp h1.1
    refine Int.le_trans ?_ h
    exact Int.le_ediv_of_mul_le hp (by omega)
  · exact Int.ediv_lt_of_lt_mul hp (by omega)

set_option maxRecDepth 100000 in
set_option maxHeartbeats 800000 in
theorem GetS_any (A : Option Addr) (n c : Nat) (B : List UInt8) (w : World) (hr : Rd w A n (B.map bytec)) (hc : n ≤ c) :
    Calls Try.prog 75 #[.slice A n c] w fun e w' => e = .returned (.tuple #[.int .i64 ((gs B).1), .int .i64 ((gs B).2.1 : Int), .int .i64 ((gs B).2.2 : Int)]) ∧ Fr (fun _ => False) w w' := by
  have hBn : B.length = n := by simpa using hr.1
  obtain ⟨k, hk⟩ : ∃ k, k = spanK B := ⟨_, rfl⟩
  obtain ⟨E, hE⟩ : ∃ E, E = spanE B := ⟨_, rfl⟩
  have hsp := span_any A n c B w hr hc
  have hkl := spanK_le B
  have hel := spanE_le B
  rw [← hk, ← hE] at hsp
  rw [← hk, hBn] at hkl
  rw [← hE] at hel
  obtain ⟨hkn, hk10⟩ := hkl
  have HS := Lib.hid hsp
  by_cases he : E = 0
  · have hg : gs B = if s (sgn (val (B.take k) % 18446744073709551616) k) = B.take k then (sgn (val (B.take k) % 18446744073709551616) k, k, 0) else (0, 0, 3) := by
      unfold gs
      rw [← hk, ← hE, if_neg (by omega)]
    obtain ⟨L, hL⟩ : ∃ L, L = B.take k := ⟨_, rfl⟩
    rw [← hL] at hg
    obtain ⟨N, hN⟩ : ∃ N, N = val L % 18446744073709551616 := ⟨_, rfl⟩
    rw [← hN] at hg
    have hN64 : N < 18446744073709551616 := by rw [hN]; exact Nat.mod_lt _ (by omega)
    have hrk : ∀ w', Fr (fun _ => False) w w' → Rd w' A k (L.map bytec) := by
      intro w' hf
      have h := Rd.cut (hr.fr hf (fun _ _ h => h)) (k := 0) (m := k) (cap := c) (by omega) hkn hc
      have e : (if c = 0 then A else A.map (·.add 0)) = A := by
        split
        · rfl
        · cases A with
          | none => rfl
          | some ad => simp [Addr.add]
      rw [e, ← List.map_take, List.drop_zero, ← hL] at h
      exact h
    obtain ⟨M, hM⟩ : ∃ M, M = sgn N k := ⟨_, rfl⟩
    have hM0 : -9223372036854775808 ≤ M ∧ M < 9223372036854775808 := by rw [hM]; exact sgn_bd N k
    obtain ⟨hM0, hM1⟩ := hM0
    have hsg := fun w => signed_any N k (7 * (k : Int)) w hN64 hk10 rfl
    rw [← hM] at hg hsg
    have HSG := Lib.hid hsg
    have hj := join_any A k c L w (hrk w (Fr.refl _ _)) hk10
    rw [← hN] at hj
    have HJ := Lib.hid hj
    have HK := Lib.hid hrk
    have t : ((E : Int) != 0) = false := by simp; omega
    obtain ⟨q, hq⟩ : ∃ q, decide (s M = L) = q := ⟨_, rfl⟩
    have hg2 : gs B = if q = true then (M, k, 0) else (0, 0, 3) := by rw [hg, ← hq]; simp
    have heq := fun A A' n c n' c' w h h' => equal_any A A' n c n' c' (s M) L w h h'
    rw [hq] at heq
    have HQ := Lib.hid heq
    have HG := Lib.hid hg2
    clear hg hg2 heq hq hsp hE hk hBn hr hj hrk hN hL he hM hsg
    cases q
    all_goals
      go_enter Try.func75, Try.ntmps75
      go_wp2_with fail
      refine HS.out.mono ?_
      rintro e w1 ⟨rfl, rfl⟩
      go_wp2_with fail
      refine HJ.out.mono ?_
      rintro e w1 ⟨rfl, rfl⟩
      go_wp2_with fail
      refine (HSG.out _).mono ?_
      rintro e w1 ⟨rfl, rfl⟩
      go_wp2_with fail
      go_region_with (first
        | (go_at_call 33
           go_must (refine (S_any M _ hM0 hM1).mono ?_
                    rintro e w2 ⟨A2, c2, rfl, hown2, hfr2⟩
                    have H2 := Lib.hid hown2
                    have HF2 := Lib.hid ((Fr.refl (fun _ => False) w).drew.trans hfr2 (fun _ _ h => h))
                    have HR2 := Lib.hid (HK.out _ HF2.out)
                    clear hown2))
        | (go_at_call 88
           go_must (refine (HQ.out _ _ _ _ _ _ _ H2.out.rd HR2.out).mono ?_
                    rintro e w3 ⟨rfl, rfl⟩))
        | fail)
      all_goals go_wp2
      all_goals rw [HG.out]
      all_goals first
        | exact bodyPost_ret (v := .tuple #[.int .i64 0, .int .i64 0, .int .i64 3]) (by simp [results, Try.results75, go_sem]) rfl ⟨rfl, HF2.out⟩
        | exact bodyPost_ret (v := .tuple #[.int .i64 M, .int .i64 k, .int .i64 0]) (by simp [results, Try.results75, go_sem]) rfl ⟨rfl, HF2.out⟩
  · have hg : gs B = (0, 0, E) := by unfold gs; rw [← hE, if_pos he]
    rw [hg]
    have t : ((E : Int) != 0) = true := by simp; omega
    clear hg hsp hE hk hBn hr he
    go_enter Try.func75, Try.ntmps75
    go_wp2_with fail
    refine HS.out.mono ?_
    rintro e w1 ⟨rfl, rfl⟩
    go_wp2
    refine bodyPost_ret (v := .tuple #[.int .i64 0, .int .i64 0, .int .i64 E]) (by simp [results, Try.results75, go_sem]) rfl ⟨rfl, Fr.refl _ _⟩
end Go.Proofs.Ytbnkahjmeobblaa
namespace Go.Proofs.Ytbnkahjmeobblaa
open Go.RowKit LebM Mem Go.Lib

theorem fst_cons (b : UInt8) (l : List UInt8) : fst (b :: l) = if b.toNat < 128 then 0 else fst l + 1 := by
  unfold fst
  rw [List.findIdx_cons]
  by_cases h : b.toNat < 128 <;> simp [h]
theorem fst_form {l : List UInt8} (R : List UInt8) (h : LebM.Form l) : fst (l ++ R) + 1 = l.length := by
  induction l with
  | nil => exact h.elim
  | cons b l ih =>
    rw [List.cons_append, fst_cons]
    cases l with
    | nil => have hb : b.toNat < 128 := h; rw [if_pos hb]; rfl
    | cons c l => have hb := h.1; rw [if_neg (by omega), ih h.2]; rfl
theorem fst_front {l : List UInt8} (h : LebM.Form l) (j : Nat) (hj : j < l.length) : fst (l.take j) = j := by
  induction l generalizing j with
  | nil => exact h.elim
  | cons b l ih =>
    cases j with
    | zero => rfl
    | succ j =>
      rw [List.take_succ_cons, fst_cons]
      cases l with
      | nil => simp at hj
      | cons c l => have hb := h.1; rw [if_neg (by omega), ih h.2 j (by simpa using hj)]
theorem span_form {l : List UInt8} (R : List UInt8) (h : LebM.Form l) (h10 : l.length ≤ 10) : spanK (l ++ R) = l.length ∧ spanE (l ++ R) = 0 := by
  have hf := fst_form R h
  unfold spanK spanE
  rw [List.length_append, if_pos (by omega), if_pos (by omega)]
  exact ⟨hf, rfl⟩
theorem span_front {l : List UInt8} (h : LebM.Form l) (h10 : l.length ≤ 10) (j : Nat) (hj : j < l.length) : spanK (l.take j) = 0 ∧ spanE (l.take j) = 2 := by
  have hf := fst_front h j hj
  have hl : (l.take j).length = j := by rw [List.length_take]; omega
  unfold spanK spanE
  rw [hl, if_neg (by omega), if_neg (by omega), if_pos (by omega)]
  exact ⟨rfl, rfl⟩
/-- whatever has a last byte is in form -/
theorem form_of {B : List UInt8} (h : fst B < B.length) : LebM.Form (B.take (fst B + 1)) := by
  induction B with
  | nil => simp at h
  | cons b l ih =>
    rw [fst_cons] at h ⊢
    split at h
    · rename_i hb
      rw [if_pos hb]
      exact hb
    · rename_i hb
      rw [if_neg hb, List.take_succ_cons]
      exact form_cons (by omega) (ih (by simpa using h))

theorem sgn_sval (l : List UInt8) (h : LebM.Form l) (h10 : l.length ≤ 10) : sgn (val l % 18446744073709551616) l.length = wrap64 (sval l) := by
  obtain ⟨x, h1, h2, h3⟩ := parts l h
  have hl := last_lt h
  have hpos : 0 < l.length := by cases l with | nil => exact h.elim | cons => simp
  obtain ⟨k, hk⟩ : ∃ k, k = l.length := ⟨_, rfl⟩
  rw [← hk] at h1 h2 h3 h10 hpos ⊢
  have hc : k = 1 ∨ k = 2 ∨ k = 3 ∨ k = 4 ∨ k = 5 ∨ k = 6 ∨ k = 7 ∨ k = 8 ∨ k = 9 ∨ k = 10 := by omega
  generalize val l = v at *
  generalize sval l = s at *
  generalize last l = t at *
  clear hk h
  unfold sg at h3
  unfold sgn wrap64
  rcases hc with rfl | rfl | rfl | rfl | rfl | rfl | rfl | rfl | rfl | rfl
  all_goals
    simp only [Nat.reduceSub, Nat.reduceMul, Nat.reducePow, Int.reducePow] at h1 h2 h3 ⊢
    split at h3 <;> omega

theorem gu_form {l : List UInt8} (R : List UInt8) (h : LebM.Form l) (h10 : l.length ≤ 10) : gu (l ++ R) = if u (val l % 18446744073709551616) = l then (val l % 18446744073709551616, l.length, 0) else (0, 0, 3) := by
  obtain ⟨h1, h2⟩ := span_form R h h10
  unfold gu
  rw [h1, h2, List.take_left, if_neg (by omega)]
theorem gs_form {l : List UInt8} (R : List UInt8) (h : LebM.Form l) (h10 : l.length ≤ 10) : gs (l ++ R) = if s (wrap64 (sval l)) = l then (wrap64 (sval l), l.length, 0) else (0, 0, 3) := by
  obtain ⟨h1, h2⟩ := span_form R h h10
  unfold gs
  rw [h1, h2, List.take_left, if_neg (by omega), sgn_sval l h h10]
theorem gu_back (n : Nat) (R : List UInt8) (hn : n < 18446744073709551616) : gu (u n ++ R) = (n, (u n).length, 0) := by
  rw [gu_form R (u_form n) (u_len10 hn), u_val, Nat.mod_eq_of_lt hn, if_pos rfl]
theorem gs_back (n : Int) (R : List UInt8) (h0 : -9223372036854775808 ≤ n) (h1 : n < 9223372036854775808) : gs (s n ++ R) = (n, (s n).length, 0) := by
  have hw : wrap64 n = n := by unfold wrap64; omega
  rw [gs_form R (s_form n) (s_len10 h0 h1), s_val, hw, if_pos rfl]
theorem gu_front {l : List UInt8} (h : LebM.Form l) (h10 : l.length ≤ 10) (j : Nat) (hj : j < l.length) : gu (l.take j) = (0, 0, 2) := by
  obtain ⟨h1, h2⟩ := span_front h h10 j hj
  unfold gu
  rw [h2, if_pos (by omega)]
theorem gs_front {l : List UInt8} (h : LebM.Form l) (h10 : l.length ≤ 10) (j : Nat) (hj : j < l.length) : gs (l.take j) = (0, 0, 2) := by
  obtain ⟨h1, h2⟩ := span_front h h10 j hj
  unfold gs
  rw [h2, if_pos (by omega)]

/-- when bytes in form are a number's that has at most 64 bits -/
theorem u_ok {l : List UInt8} (h : LebM.Form l) (h10 : l.length ≤ 10) : u (val l % 18446744073709551616) = l ↔ l.length = 1 ∨ last l ≠ 0 ∧ (l.length < 10 ∨ last l = 1) := by
  obtain ⟨x, h1, h2, _⟩ := parts l h
  have hl := last_lt h
  have hpos : 0 < l.length := by cases l with | nil => exact h.elim | cons => simp
  have hiff : u (val l % 18446744073709551616) = l ↔ val l < 18446744073709551616 ∧ u (val l) = l := by
    constructor
    · intro e
      have hv := congrArg val e
      rw [u_val] at hv
      have hlt : val l < 18446744073709551616 := by omega
      rw [Nat.mod_eq_of_lt hlt] at e
      exact ⟨hlt, e⟩
    · rintro ⟨hlt, e⟩
      rw [Nat.mod_eq_of_lt hlt]
      exact e
  rw [hiff, u_back l h]
  have hsmall : l.length < 10 → val l < 18446744073709551616 := by
    intro hk
    have := val_lt l
    have := Nat.pow_le_pow_right (show 0 < 128 by omega) (show l.length ≤ 9 by omega)
    omega
  have h10' : l.length = 10 → (val l < 18446744073709551616 ↔ last l ≤ 1) := by
    intro hk
    rw [hk] at h1 h2
    simp only [Nat.reduceSub, Nat.reducePow] at h1 h2
    omega
  rcases (show l.length < 10 ∨ l.length = 10 by omega) with hk | hk
  · have := hsmall hk
    omega
  · have := h10' hk
    omega
theorem s_ok {l : List UInt8} (h : LebM.Form l) (h10 : l.length ≤ 10) : s (wrap64 (sval l)) = l ↔ l.length = 1 ∨ ¬ bad l ∧ (l.length < 10 ∨ last l = 0 ∨ last l = 127) := by
  obtain ⟨x, h1, _, h3⟩ := parts l h
  have hl := last_lt h
  have hpos : 0 < l.length := by cases l with | nil => exact h.elim | cons => simp
  have hiff : s (wrap64 (sval l)) = l ↔ (-9223372036854775808 ≤ sval l ∧ sval l < 9223372036854775808) ∧ s (sval l) = l := by
    constructor
    · intro e
      have hv := congrArg sval e
      rw [s_val] at hv
      have hr : -9223372036854775808 ≤ sval l ∧ sval l < 9223372036854775808 := by rw [← hv]; unfold wrap64; omega
      rw [hv] at e
      exact ⟨hr, e⟩
    · rintro ⟨hr, e⟩
      have hw : wrap64 (sval l) = sval l := by unfold wrap64; omega
      rw [hw]
      exact e
  rw [hiff, s_back l h]
  unfold sg at h3
  have hc : l.length = 1 ∨ l.length = 2 ∨ l.length = 3 ∨ l.length = 4 ∨ l.length = 5 ∨ l.length = 6 ∨ l.length = 7 ∨ l.length = 8 ∨ l.length = 9 ∨ l.length = 10 := by omega
  have hr : (-9223372036854775808 ≤ sval l ∧ sval l < 9223372036854775808) ↔ (l.length < 10 ∨ last l = 0 ∨ last l = 127) := by
    rcases hc with hc | hc | hc | hc | hc | hc | hc | hc | hc | hc
    all_goals
      rw [hc] at h1 h3 ⊢
      simp only [Nat.reduceSub, Nat.reducePow, Int.reducePow] at h1 h3
      split at h3 <;> omega
  rw [hr]
  by_cases hb : bad l <;> simp only [hb, not_true_eq_false, not_false_eq_true, or_false, or_true, and_true, true_and, false_and]
  all_goals omega
theorem last_get {l : List UInt8} (h : l ≠ []) : l[l.length - 1]? = some (UInt8.ofNat (last l)) := by
  induction l with
  | nil => exact absurd rfl h
  | cons b l ih =>
    cases l with
    | nil => simp [last]
    | cons c l => have := ih (by simp); simpa [last] using this
theorem ahead_get {l : List UInt8} (h : 2 ≤ l.length) : l[l.length - 2]? = some (UInt8.ofNat (LebM.ahead l)) := by
  induction l with
  | nil => simp at h
  | cons b l ih =>
    cases l with
    | nil => simp at h
    | cons c l =>
      cases l with
      | nil => simp [LebM.ahead]
      | cons d l =>
        have h3 := ih (by simp)
        show (b :: c :: d :: l)[l.length + 1]? = some (UInt8.ofNat (LebM.ahead (c :: d :: l)))
        rw [List.getElem?_cons_succ]
        exact h3
theorem ahead_lt (l : List UInt8) : LebM.ahead l < 256 := by
  induction l with
  | nil => simp [LebM.ahead]
  | cons b l ih =>
    cases l with
    | nil => simp [LebM.ahead]
    | cons c l =>
      cases l with
      | nil => exact b.toNat_lt
      | cons d l => exact ih

set_option maxRecDepth 100000 in
theorem GetU_back (A : Option Addr) (K c n : Nat) (B R : List UInt8) (w : World) (hn : n < 18446744073709551616) (hB : B = u n ++ R) (hr : Rd w A K (B.map bytec)) (hc : K ≤ c) :
    Calls Try.prog 76 #[.slice A K c] w fun e w' => e = .returned (.tuple #[.int .u64 (n : Int), .int .i64 ((u n).length : Int), .int .i64 0]) ∧ Fr (fun _ => False) w w' := by
  subst hB
  have h := GetU_any A K c _ w hr hc
  rw [gu_back n R hn] at h
  exact h
set_option maxRecDepth 100000 in
theorem GetS_back (A : Option Addr) (K c : Nat) (n : Int) (B R : List UInt8) (w : World) (h0 : -9223372036854775808 ≤ n) (h1 : n < 9223372036854775808) (hB : B = s n ++ R) (hr : Rd w A K (B.map bytec)) (hc : K ≤ c) :
    Calls Try.prog 75 #[.slice A K c] w fun e w' => e = .returned (.tuple #[.int .i64 n, .int .i64 ((s n).length : Int), .int .i64 0]) ∧ Fr (fun _ => False) w w' := by
  subst hB
  have h := GetS_any A K c _ w hr hc
  rw [gs_back n R h0 h1] at h
  exact h
theorem GetU_front (A : Option Addr) (K c : Nat) (l : List UInt8) (w : World) (hf : LebM.Form l) (h10 : l.length ≤ 10) (hK : K < l.length) (hr : Rd w A K ((l.take K).map bytec)) (hc : K ≤ c) :
    Calls Try.prog 76 #[.slice A K c] w fun e w' => e = .returned (.tuple #[.int .u64 0, .int .i64 0, .int .i64 2]) ∧ Fr (fun _ => False) w w' := by
  have h := GetU_any A K c _ w hr hc
  rw [gu_front hf h10 K hK] at h
  exact h
theorem GetS_front (A : Option Addr) (K c : Nat) (l : List UInt8) (w : World) (hf : LebM.Form l) (h10 : l.length ≤ 10) (hK : K < l.length) (hr : Rd w A K ((l.take K).map bytec)) (hc : K ≤ c) :
    Calls Try.prog 75 #[.slice A K c] w fun e w' => e = .returned (.tuple #[.int .i64 0, .int .i64 0, .int .i64 2]) ∧ Fr (fun _ => False) w w' := by
  have h := GetS_any A K c _ w hr hc
  rw [gs_front hf h10 K hK] at h
  exact h
end Go.Proofs.Ytbnkahjmeobblaa
