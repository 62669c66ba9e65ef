import Derived.Test.YtbabgnadgdidmaaGreatZm00
import Derived.Test.YtbabgnadgdidmaaGreatZm01
import Derived.Deep.DeepMust
import Derived.WalkKit
set_option maxRecDepth 100000
set_option maxHeartbeats 12800000
namespace Go.Proofs.YtbabgnadgdidmaaGreat
section
open Go.RowKit LebM Mem Go.Lib
def gu (B : List UInt8) : Nat × Nat × Nat :=
  if spanE B ≠ 0 then (0, 0, spanE B) else
  if u (val (B.take (spanK B)) % 18446744073709551616) = B.take (spanK B) then (val (B.take (spanK B)) % 18446744073709551616, spanK B, 0) else (0, 0, 3)
def gs (B : List UInt8) : Int × Nat × Nat :=
  if spanE B ≠ 0 then (0, 0, spanE B) else
  if s (sgn (val (B.take (spanK B)) % 18446744073709551616) (spanK B)) = B.take (spanK B) then (sgn (val (B.take (spanK B)) % 18446744073709551616) (spanK B), spanK B, 0) else (0, 0, 3)
theorem spanK_le (B : List UInt8) : spanK B ≤ B.length ∧ spanK B ≤ 10 := by unfold spanK; split <;> omega
theorem spanE_le (B : List UInt8) : spanE B ≤ 3 := by unfold spanE; split <;> (try split) <;> omega
theorem GetU_any (A : Option Addr) (n c : Nat) (B : List UInt8) (w : World) (hr : Rd w A n (B.map bytec)) (hc : n ≤ c) :
    Calls Tryz.prog 126 #[.slice A n c] w fun e w' => e = .returned (.tuple #[.int .u64 ((gu B).1 : Int), .int .i64 ((gu B).2.1 : Int), .int .i64 ((gu B).2.2 : Int)]) ∧ Fr (fun _ => False) w w' := by
  have hBn : B.length = n := by simpa using hr.1
  obtain ⟨k, hk⟩ : ∃ k, k = spanK B := ⟨_, rfl⟩
  obtain ⟨E, hE⟩ : ∃ E, E = spanE B := ⟨_, rfl⟩
  have hsp := span_any A n c B w hr hc;have hkl := spanK_le B;have hel := spanE_le B;rw [← hk, ← hE] at hsp;rw [← hk, hBn] at hkl;rw [← hE] at hel;obtain ⟨hkn, hk10⟩ := hkl;have HS := hid hsp;by_cases he : E = 0
  · have hg : gu B = if u (val (B.take k) % 18446744073709551616) = B.take k then (val (B.take k) % 18446744073709551616, k, 0) else (0, 0, 3) := by
      unfold gu;rw [← hk, ← hE, if_neg (by omega)]
    obtain ⟨L, hL⟩ : ∃ L, L = B.take k := ⟨_, rfl⟩
    rw [← hL] at hg;obtain ⟨N, hN⟩ : ∃ N, N = val L % 18446744073709551616 := ⟨_, rfl⟩
    rw [← hN] at hg;have hN64 : N < 18446744073709551616 := by rw [hN]; exact Nat.mod_lt _ (by omega)
    have hrk : ∀ w', Fr (fun _ => False) w w' → Rd w' A k (L.map bytec) := by
      intro w' hf;have h := Rd.cut (hr.fr hf (fun _ _ h => h)) (k := 0) (m := k) (cap := c) (by omega) hkn hc;have e : (if c = 0 then A else A.map (·.add 0)) = A := by
        split
        · rfl
        · cases A with
          | none => rfl
          | some ad => simp [Addr.add]
      rw [e, ← List.map_take, List.drop_zero, ← hL] at h;exact h
    have hj := join_any A k c L w (hrk w (Fr.refl _ _)) hk10;rw [← hN] at hj;have HJ := hid hj;have HK := hid hrk;have t : ((E : Int) != 0) = false := by simp; omega
    obtain ⟨q, hq⟩ := nm_ (decide (u N = L));have hg2 : gu B = if q = true then (N, k, 0) else (0, 0, 3) := by rw [hg, ← hq]; simp
    have heq := fun A A' n c n' c' w h h' => equal_any A A' n c n' c' (u N) L w h h';rw [hq] at heq;have HQ := hid heq;have HG := hid hg2;clear hg hg2 heq hq hsp hE hk hBn hr hj hrk hN hL he;cases q
    all_goals
      go_enter Tryz.func126, Tryz.ntmps126;go_wp2_with fail;refine HS.out.mono ?_;rintro e w1 ⟨rfl, rfl⟩;go_wp2_with fail;refine HJ.out.mono ?_;rintro e w1 ⟨rfl, rfl⟩;go_wp2_with fail
      go_region_with (first
        | (go_at_call 123
           go_must (refine (U_any N _ hN64).mono ?_
                    rintro e w2 ⟨A2, c2, rfl, hown2, hfr2⟩;have H2 := hid hown2;have HF2 := hid ((Fr.refl (fun _ => False) w).drew.trans hfr2 im_);have HR2 := hid (HK.out _ HF2.out);clear hown2))
        | (go_at_call 77
           go_must (refine (HQ.out _ _ _ _ _ _ _ H2.out.rd HR2.out).mono ?_
                    rintro e w3 ⟨rfl, rfl⟩))
        | fail)
      all_goals go_wp2
      all_goals rw [HG.out]
      all_goals first
        | exact bodyPost_ret (v := .tuple #[.int .u64 0, .int .i64 0, .int .i64 3]) (by simp [results, Tryz.results126, go_sem]) rfl ⟨rfl, HF2.out⟩
        | exact bodyPost_ret (v := .tuple #[.int .u64 N, .int .i64 k, .int .i64 0]) (by simp [results, Tryz.results126, go_sem]) rfl ⟨rfl, HF2.out⟩
  · have hg : gu B = (0, 0, E) := by unfold gu; rw [← hE, if_pos he]
    rw [hg];have t : ((E : Int) != 0) = true := by simp; omega
    clear hg hsp hE hk hBn hr he;go_enter Tryz.func126, Tryz.ntmps126;go_wp2_with fail;refine HS.out.mono ?_;rintro e w1 ⟨rfl, rfl⟩
    go_wp2
    refine bodyPost_ret (v := .tuple #[.int .u64 0, .int .i64 0, .int .i64 E]) (by simp [results, Tryz.results126, go_sem]) rfl ⟨rfl, Fr.refl _ _⟩
theorem sgn_bd (N k : Nat) : -9223372036854775808 ≤ sgn N k ∧ sgn N k < 9223372036854775808 := by
  have hp : (0 : Int) < 2 ^ (64 - 7 * k) := Int.pow_pos (by omega);unfold sgn;obtain ⟨x, hx⟩ : ∃ x, x = wrap64 ((N * 2 ^ (64 - 7 * k) % 18446744073709551616 : Nat) : Int) := ⟨_, rfl⟩
  rw [← hx];have h1 : -9223372036854775808 ≤ x ∧ x < 9223372036854775808 := by rw [hx]; unfold wrap64; omega
  constructor
  · have h := Int.ediv_le_ediv hp h1.1;refine Int.le_trans ?_ h;exact Int.le_ediv_of_mul_le hp (by omega)
  · exact Int.ediv_lt_of_lt_mul hp (by omega)
theorem GetS_any (A : Option Addr) (n c : Nat) (B : List UInt8) (w : World) (hr : Rd w A n (B.map bytec)) (hc : n ≤ c) :
    Calls Tryz.prog 150 #[.slice A n c] w fun e w' => e = .returned (.tuple #[.int .i64 ((gs B).1), .int .i64 ((gs B).2.1 : Int), .int .i64 ((gs B).2.2 : Int)]) ∧ Fr (fun _ => False) w w' := by
  have hBn : B.length = n := by simpa using hr.1
  obtain ⟨k, hk⟩ : ∃ k, k = spanK B := ⟨_, rfl⟩
  obtain ⟨E, hE⟩ : ∃ E, E = spanE B := ⟨_, rfl⟩
  have hsp := span_any A n c B w hr hc;have hkl := spanK_le B;have hel := spanE_le B;rw [← hk, ← hE] at hsp;rw [← hk, hBn] at hkl;rw [← hE] at hel;obtain ⟨hkn, hk10⟩ := hkl;have HS := hid hsp;by_cases he : E = 0
  · have hg : gs B = if s (sgn (val (B.take k) % 18446744073709551616) k) = B.take k then (sgn (val (B.take k) % 18446744073709551616) k, k, 0) else (0, 0, 3) := by
      unfold gs;rw [← hk, ← hE, if_neg (by omega)]
    obtain ⟨L, hL⟩ : ∃ L, L = B.take k := ⟨_, rfl⟩
    rw [← hL] at hg;obtain ⟨N, hN⟩ : ∃ N, N = val L % 18446744073709551616 := ⟨_, rfl⟩
    rw [← hN] at hg;have hN64 : N < 18446744073709551616 := by rw [hN]; exact Nat.mod_lt _ (by omega)
    have hrk : ∀ w', Fr (fun _ => False) w w' → Rd w' A k (L.map bytec) := by
      intro w' hf;have h := Rd.cut (hr.fr hf (fun _ _ h => h)) (k := 0) (m := k) (cap := c) (by omega) hkn hc;have e : (if c = 0 then A else A.map (·.add 0)) = A := by
        split
        · rfl
        · cases A with
          | none => rfl
          | some ad => simp [Addr.add]
      rw [e, ← List.map_take, List.drop_zero, ← hL] at h;exact h
    obtain ⟨M, hM⟩ : ∃ M, M = sgn N k := ⟨_, rfl⟩
    have hM0 : -9223372036854775808 ≤ M ∧ M < 9223372036854775808 := by rw [hM]; exact sgn_bd N k
    obtain ⟨hM0, hM1⟩ := hM0;have hsg := fun w => signed_any N k (7 * (k : Int)) w hN64 hk10 rfl;rw [← hM] at hg hsg;have HSG := hid hsg;have hj := join_any A k c L w (hrk w (Fr.refl _ _)) hk10;rw [← hN] at hj;have HJ := hid hj;have HK := hid hrk;have t : ((E : Int) != 0) = false := by simp; omega
    obtain ⟨q, hq⟩ := nm_ (decide (s M = L));have hg2 : gs B = if q = true then (M, k, 0) else (0, 0, 3) := by rw [hg, ← hq]; simp
    have heq := fun A A' n c n' c' w h h' => equal_any A A' n c n' c' (s M) L w h h';rw [hq] at heq;have HQ := hid heq;have HG := hid hg2;clear hg hg2 heq hq hsp hE hk hBn hr hj hrk hN hL he hM hsg;cases q
    all_goals
      go_enter Tryz.func150, Tryz.ntmps150;go_wp2_with fail;refine HS.out.mono ?_;rintro e w1 ⟨rfl, rfl⟩;go_wp2_with fail;refine HJ.out.mono ?_;rintro e w1 ⟨rfl, rfl⟩;go_wp2_with fail;refine (HSG.out _).mono ?_;rintro e w1 ⟨rfl, rfl⟩;go_wp2_with fail
      go_region_with (first
        | (go_at_call 122
           go_must (refine (S_any M _ hM0 hM1).mono ?_
                    rintro e w2 ⟨A2, c2, rfl, hown2, hfr2⟩;have H2 := hid hown2;have HF2 := hid ((Fr.refl (fun _ => False) w).drew.trans hfr2 im_);have HR2 := hid (HK.out _ HF2.out);clear hown2))
        | (go_at_call 77
           go_must (refine (HQ.out _ _ _ _ _ _ _ H2.out.rd HR2.out).mono ?_
                    rintro e w3 ⟨rfl, rfl⟩))
        | fail)
      all_goals go_wp2
      all_goals rw [HG.out]
      all_goals first
        | exact bodyPost_ret (v := .tuple #[.int .i64 0, .int .i64 0, .int .i64 3]) (by simp [results, Tryz.results150, go_sem]) rfl ⟨rfl, HF2.out⟩
        | exact bodyPost_ret (v := .tuple #[.int .i64 M, .int .i64 k, .int .i64 0]) (by simp [results, Tryz.results150, go_sem]) rfl ⟨rfl, HF2.out⟩
  · have hg : gs B = (0, 0, E) := by unfold gs; rw [← hE, if_pos he]
    rw [hg];have t : ((E : Int) != 0) = true := by simp; omega
    clear hg hsp hE hk hBn hr he;go_enter Tryz.func150, Tryz.ntmps150;go_wp2_with fail;refine HS.out.mono ?_;rintro e w1 ⟨rfl, rfl⟩
    go_wp2
    refine bodyPost_ret (v := .tuple #[.int .i64 0, .int .i64 0, .int .i64 E]) (by simp [results, Tryz.results150, go_sem]) rfl ⟨rfl, Fr.refl _ _⟩
end
section
open Go.RowKit LebM Mem Go.Lib
theorem fst_cons (b : UInt8) (l : List UInt8) : fst (b :: l) = if b.toNat < 128 then 0 else fst l + 1 := by
 unfold fst;rw [List.findIdx_cons];by_cases h : b.toNat < 128 <;> simp [h]
theorem fst_form {l : List UInt8} (R : List UInt8) (h : LebM.Form l) : fst (l ++ R) + 1 = l.length := by
 induction l with
 | nil => exact h.elim
 | cons b l ih =>
  rw [List.cons_append, fst_cons];cases l with
  | nil => have hb : b.toNat < 128 := h; rw [if_pos hb]; rfl
  | cons c l => have hb := h.1; rw [if_neg (by omega), ih h.2]; rfl
theorem span_form {l : List UInt8} (R : List UInt8) (h : LebM.Form l) (h10 : l.length ≤ 10) : spanK (l ++ R) = l.length ∧ spanE (l ++ R) = 0 := by
 have hf := fst_form R h;unfold spanK spanE;rw [List.length_append, if_pos (by omega), if_pos (by omega)];exact ⟨hf, rfl⟩
theorem sgn_sval (l : List UInt8) (h : LebM.Form l) (h10 : l.length ≤ 10) : sgn (val l % 18446744073709551616) l.length = wrap64 (sval l) := by
 obtain ⟨x, h1, h2, h3⟩ := parts l h;have hl := last_lt h;have hpos : 0 < l.length := by cases l with | nil => exact h.elim | cons => simp
 obtain ⟨k, hk⟩ : ∃ k, k = l.length := ⟨_, rfl⟩
 rw [← hk] at h1 h2 h3 h10 hpos ⊢;have hc : k = 1 ∨ k = 2 ∨ k = 3 ∨ k = 4 ∨ k = 5 ∨ k = 6 ∨ k = 7 ∨ k = 8 ∨ k = 9 ∨ k = 10 := by omega
 generalize val l = v at *;generalize sval l = s at *;generalize last l = t at *;clear hk h;unfold sg at h3;unfold sgn wrap64;rcases hc with rfl | rfl | rfl | rfl | rfl | rfl | rfl | rfl | rfl | rfl
 all_goals
  simp only [Nat.reduceSub, Nat.reduceMul, Nat.reducePow, Int.reducePow] at h1 h2 h3 ⊢;split at h3 <;> omega
theorem gu_form {l : List UInt8} (R : List UInt8) (h : LebM.Form l) (h10 : l.length ≤ 10) : gu (l ++ R) = if u (val l % 18446744073709551616) = l then (val l % 18446744073709551616, l.length, 0) else (0, 0, 3) := by
 obtain ⟨h1, h2⟩ := span_form R h h10;unfold gu;rw [h1, h2, List.take_left, if_neg (by omega)]
theorem gs_form {l : List UInt8} (R : List UInt8) (h : LebM.Form l) (h10 : l.length ≤ 10) : gs (l ++ R) = if s (wrap64 (sval l)) = l then (wrap64 (sval l), l.length, 0) else (0, 0, 3) := by
 obtain ⟨h1, h2⟩ := span_form R h h10;unfold gs;rw [h1, h2, List.take_left, if_neg (by omega), sgn_sval l h h10]
theorem gu_back (n : Nat) (R : List UInt8) (hn : n < 18446744073709551616) : gu (u n ++ R) = (n, (u n).length, 0) := by
 rw [gu_form R (u_form n) (u_len10 hn), u_val, Nat.mod_eq_of_lt hn, if_pos rfl]
theorem gs_back (n : Int) (R : List UInt8) (h0 : -9223372036854775808 ≤ n) (h1 : n < 9223372036854775808) : gs (s n ++ R) = (n, (s n).length, 0) := by
 have hw : wrap64 n = n := by unfold wrap64; omega
 rw [gs_form R (s_form n) (s_len10 h0 h1), s_val, hw, if_pos rfl]
end
end Go.Proofs.YtbabgnadgdidmaaGreat
namespace Go.Proofs.YtbabgnadgdidmaaGreat.UtfM
def put (n : Int) : List UInt8 :=
 if n < 0 ∨ 1114111 < n ∨ 55296 ≤ n ∧ n ≤ 57343 then [] else
 if n < 128 then [UInt8.ofNat n.toNat] else
 if n < 2048 then [UInt8.ofNat (192 + n.toNat / 64), UInt8.ofNat (128 + n.toNat % 64)] else
 if n < 65536 then [UInt8.ofNat (224 + n.toNat / 4096), UInt8.ofNat (128 + n.toNat / 64 % 64), UInt8.ofNat (128 + n.toNat % 64)] else
 [UInt8.ofNat (240 + n.toNat / 262144), UInt8.ofNat (128 + n.toNat / 4096 % 64), UInt8.ofNat (128 + n.toNat / 64 % 64), UInt8.ofNat (128 + n.toNat % 64)]
def cont (b : UInt8) : Prop := 128 ≤ b.toNat ∧ b.toNat < 192
instance (b : UInt8) : Decidable (cont b) := by unfold cont; infer_instance
def ok2 (a b : UInt8) : Prop := 194 ≤ a.toNat ∧ a.toNat < 224 ∧ cont b
def ok3 (a b c : UInt8) : Prop := 224 ≤ a.toNat ∧ a.toNat < 240 ∧ cont b ∧ cont c ∧ (a.toNat = 224 → 160 ≤ b.toNat) ∧ (a.toNat = 237 → b.toNat < 160)
def ok4 (a b c d : UInt8) : Prop := 240 ≤ a.toNat ∧ a.toNat < 245 ∧ cont b ∧ cont c ∧ cont d ∧ (a.toNat = 240 → 144 ≤ b.toNat) ∧ (a.toNat = 244 → b.toNat < 144)
instance (a b : UInt8) : Decidable (ok2 a b) := by unfold ok2; infer_instance
instance (a b c : UInt8) : Decidable (ok3 a b c) := by unfold ok3; infer_instance
instance (a b c d : UInt8) : Decidable (ok4 a b c d) := by unfold ok4; infer_instance
def nx (B : List UInt8) : Nat :=
 match B with
 | [] => 0
 | a :: r => if a.toNat < 128 then 1 else match r with
  | [] => 0
  | b :: r => if ok2 a b then 2 else match r with
   | [] => 0
   | c :: r => if ok3 a b c then 3 else match r with
    | [] => 0
    | d :: _ => if ok4 a b c d then 4 else 0
theorem beq_ofNat (n : Nat) (b : UInt8) (h : n < 256) : UInt8.ofNat n = b ↔ n = b.toNat := by
 constructor
 · rintro rfl; simp; omega
 · rintro rfl; simp
theorem put1 (a : UInt8) : put (a.toNat : Int) = [a] ↔ a.toNat < 128 := by
 have ha := a.toNat_lt;unfold put;constructor
 · intro h;split at h
   · simp at h
   · split at h
     · omega
     · split at h
       · simp at h
       · omega
 · intro h;rw [if_neg (by omega), if_pos (by omega)];simp
theorem put2 (a b : UInt8) : put (((a.toNat : Int) - 192) * 64 + (b.toNat : Int) - 128) = [a, b] ↔ ok2 a b := by
 have ha := a.toNat_lt;have hb := b.toNat_lt;generalize hn : ((a.toNat : Int) - 192) * 64 + (b.toNat : Int) - 128 = n;unfold put ok2 cont;constructor
 · intro h;split at h
   · simp at h
   · split at h
     · simp at h
     · split at h
       · simp only [List.cons.injEq, and_true] at h;rw [beq_ofNat _ _ (by omega), beq_ofNat _ _ (by omega)] at h;omega
       · split at h <;> simp at h
 · intro h;rw [if_neg (by omega), if_neg (by omega), if_pos (by omega)];simp only [List.cons.injEq, and_true];rw [beq_ofNat _ _ (by omega), beq_ofNat _ _ (by omega)];omega
theorem put3 (a b c : UInt8) : put ((((a.toNat : Int) - 224) * 64 + (b.toNat : Int) - 128) * 64 + (c.toNat : Int) - 128) = [a, b, c] ↔ ok3 a b c := by
 have ha := a.toNat_lt;have hb := b.toNat_lt;have hc := c.toNat_lt;generalize hn : (((a.toNat : Int) - 224) * 64 + (b.toNat : Int) - 128) * 64 + (c.toNat : Int) - 128 = n;unfold put ok3 cont;constructor
 · intro h;split at h
   · simp at h
   · split at h
     · simp at h
     · split at h
       · simp at h
       · split at h
         · simp only [List.cons.injEq, and_true] at h;rw [beq_ofNat _ _ (by omega), beq_ofNat _ _ (by omega), beq_ofNat _ _ (by omega)] at h;omega
         · simp at h
 · intro h;rw [if_neg (by omega), if_neg (by omega), if_neg (by omega), if_pos (by omega)];simp only [List.cons.injEq, and_true];rw [beq_ofNat _ _ (by omega), beq_ofNat _ _ (by omega), beq_ofNat _ _ (by omega)];omega
theorem put4 (a b c d : UInt8) : put (((((a.toNat : Int) - 240) * 64 + (b.toNat : Int) - 128) * 64 + (c.toNat : Int) - 128) * 64 + (d.toNat : Int) - 128) = [a, b, c, d] ↔ ok4 a b c d := by
 have ha := a.toNat_lt;have hb := b.toNat_lt;have hc := c.toNat_lt;have hd := d.toNat_lt;generalize hn : ((((a.toNat : Int) - 240) * 64 + (b.toNat : Int) - 128) * 64 + (c.toNat : Int) - 128) * 64 + (d.toNat : Int) - 128 = n;unfold put ok4 cont;constructor
 · intro h;split at h
   · simp at h
   · split at h
     · simp at h
     · split at h
       · simp at h
       · split at h
         · simp at h
         · simp only [List.cons.injEq, and_true] at h;rw [beq_ofNat _ _ (by omega), beq_ofNat _ _ (by omega), beq_ofNat _ _ (by omega), beq_ofNat _ _ (by omega)] at h;omega
 · intro h;rw [if_neg (by omega), if_neg (by omega), if_neg (by omega), if_neg (by omega)];simp only [List.cons.injEq, and_true];rw [beq_ofNat _ _ (by omega), beq_ofNat _ _ (by omega), beq_ofNat _ _ (by omega), beq_ofNat _ _ (by omega)];omega
def off (k : Nat) : Int := if k = 2 then 192 else if k = 3 then 224 else if k = 4 then 240 else 0
def pn (k : Nat) (B : List UInt8) : Nat → Int
 | 0 => ((B.getD 0 0).toNat : Int) - off k
 | i + 1 => pn k B i * 64 + ((B.getD (i + 1) 0).toNat : Int) - 128
theorem pn_bd (k : Nat) (B : List UInt8) (i : Nat) (hi : i ≤ 3) : -100000000 ≤ pn k B i ∧ pn k B i ≤ 100000000 := by
 have h0 := (B.getD 0 0).toNat_lt;have h1 := (B.getD 1 0).toNat_lt;have h2 := (B.getD 2 0).toNat_lt;have h3 := (B.getD 3 0).toNat_lt;have ho : 0 ≤ off k ∧ off k ≤ 240 := by unfold off; split; omega; split; omega; split <;> omega
 match i, hi with
 | 0, _ => simp only [pn]; omega
 | 1, _ => simp only [pn, Nat.zero_add]; omega
 | 2, _ => simp only [pn, Nat.zero_add, Nat.reduceAdd]; omega
 | 3, _ => simp only [pn, Nat.zero_add, Nat.reduceAdd]; omega
def hit (k : Nat) (B : List UInt8) : Prop := put (pn k B (k - 1)) = B.take k
instance (k : Nat) (B : List UInt8) : Decidable (hit k B) := by unfold hit; infer_instance
theorem hit1 (a : UInt8) (r : List UInt8) : hit 1 (a :: r) ↔ a.toNat < 128 := by
 rw [← put1];unfold hit;simp [pn, off]
theorem hit2 (a b : UInt8) (r : List UInt8) : hit 2 (a :: b :: r) ↔ ok2 a b := by
 rw [← put2];unfold hit;simp [pn, off]
theorem hit3 (a b c : UInt8) (r : List UInt8) : hit 3 (a :: b :: c :: r) ↔ ok3 a b c := by
 rw [← put3];unfold hit;simp [pn, off]
theorem hit4 (a b c d : UInt8) (r : List UInt8) : hit 4 (a :: b :: c :: d :: r) ↔ ok4 a b c d := by
 rw [← put4];unfold hit;simp [pn, off]
theorem nx_hits (B : List UInt8) (k : Nat) (h1 : 1 ≤ k) (h4 : k ≤ 4) (hl : k ≤ B.length) (hit_ : hit k B) (hno : ∀ j, 1 ≤ j → j < k → ¬ hit j B) : nx B = k := by
 match B with
 | [] => simp at hl; omega
 | [a] =>
  obtain rfl : k = 1 := by simp at hl; omega
  rw [hit1] at hit_;simp [nx, hit_]
 | [a, b] =>
  rcases (show k = 1 ∨ k = 2 by simp at hl; omega) with rfl | rfl
  · rw [hit1] at hit_; simp [nx, hit_]
  · have n1 := hno 1 (by omega) (by omega);rw [hit1] at n1;rw [hit2] at hit_;simp [nx, n1, hit_]
 | [a, b, c] =>
  rcases (show k = 1 ∨ k = 2 ∨ k = 3 by simp at hl; omega) with rfl | rfl | rfl
  · rw [hit1] at hit_; simp [nx, hit_]
  · have n1 := hno 1 (by omega) (by omega);rw [hit1] at n1;rw [hit2] at hit_;simp [nx, n1, hit_]
  · have n1 := hno 1 (by omega) (by omega);have n2 := hno 2 (by omega) (by omega);rw [hit1] at n1;rw [hit2] at n2;rw [hit3] at hit_;simp [nx, n1, n2, hit_]
 | a :: b :: c :: d :: r =>
  rcases (show k = 1 ∨ k = 2 ∨ k = 3 ∨ k = 4 by omega) with rfl | rfl | rfl | rfl
  · rw [hit1] at hit_; simp [nx, hit_]
  · have n1 := hno 1 (by omega) (by omega);rw [hit1] at n1;rw [hit2] at hit_;simp [nx, n1, hit_]
  · have n1 := hno 1 (by omega) (by omega);have n2 := hno 2 (by omega) (by omega);rw [hit1] at n1;rw [hit2] at n2;rw [hit3] at hit_;simp [nx, n1, n2, hit_]
  · have n1 := hno 1 (by omega) (by omega);have n2 := hno 2 (by omega) (by omega);have n3 := hno 3 (by omega) (by omega);rw [hit1] at n1;rw [hit2] at n2;rw [hit3] at n3;rw [hit4] at hit_;simp [nx, n1, n2, n3, hit_]
theorem nx_none (B : List UInt8) (hno : ∀ j, 1 ≤ j → j ≤ 4 → j ≤ B.length → ¬ hit j B) : nx B = 0 := by
 match B with
 | [] => rfl
 | [a] =>
  have n1 := hno 1 (by omega) (by omega) (by simp);rw [hit1] at n1;simp [nx]; omega
 | [a, b] =>
  have n1 := hno 1 (by omega) (by omega) (by simp);have n2 := hno 2 (by omega) (by omega) (by simp);rw [hit1] at n1;rw [hit2] at n2;simp [nx, n1, n2]
 | [a, b, c] =>
  have n1 := hno 1 (by omega) (by omega) (by simp);have n2 := hno 2 (by omega) (by omega) (by simp);have n3 := hno 3 (by omega) (by omega) (by simp);rw [hit1] at n1;rw [hit2] at n2;rw [hit3] at n3;simp [nx, n1, n2, n3]
 | a :: b :: c :: d :: r =>
  have n1 := hno 1 (by omega) (by omega) (by simp);have n2 := hno 2 (by omega) (by omega) (by simp);have n3 := hno 3 (by omega) (by omega) (by simp);have n4 := hno 4 (by omega) (by omega) (by simp);rw [hit1] at n1;rw [hit2] at n2;rw [hit3] at n3;rw [hit4] at n4;simp [nx, n1, n2, n3, n4]
theorem nx_le (B : List UInt8) : nx B ≤ 4 ∧ nx B ≤ B.length := by
 unfold nx
 (repeat' split) <;> simp_all
def wh (B : List UInt8) : Nat := if _h : 0 < nx B then nx B + wh (B.drop (nx B)) else 0
termination_by B.length
decreasing_by have := (nx_le B).2; simp; omega
theorem wh_pos {B : List UInt8} (h : 0 < nx B) : wh B = nx B + wh (B.drop (nx B)) := by rw [wh, dif_pos h]
theorem wh_zero {B : List UInt8} (h : nx B = 0) : wh B = 0 := by rw [wh, dif_neg (by omega)]
theorem wh_le (B : List UInt8) : wh B ≤ B.length := by
 induction B using wh.induct with
 | case1 B h ih => rw [wh_pos h]; have := (nx_le B).2; simp at ih; omega
 | case2 B h => rw [wh_zero (by omega)]; omega
theorem wh_nil : wh [] = 0 := wh_zero rfl
end Go.Proofs.YtbabgnadgdidmaaGreat.UtfM
namespace Go.Proofs.YtbabgnadgdidmaaGreat.VaM
open Go Go.RowKit LebM UtfM
def cl (k : Int) : Nat := if k = 0 ∨ k = 1 ∨ k = 2 then 0 else if k = 3 then 1 else if k = 4 ∨ k = 7 ∨ k = 8 then 2 else if k = 5 then 3 else if k = 6 then 4 else 5
theorem cl_le (k : Int) : cl k ≤ 5 := by unfold cl; (repeat' split) <;> omega
theorem cl0 {k : Int} (h : cl k = 0) : k = 0 ∨ k = 1 ∨ k = 2 := by unfold cl at h; (repeat' split at h) <;> omega
theorem cl1 {k : Int} (h : cl k = 1) : k = 3 := by unfold cl at h; (repeat' split at h) <;> omega
theorem cl2 {k : Int} (h : cl k = 2) : k = 4 ∨ k = 7 ∨ k = 8 := by unfold cl at h; (repeat' split at h) <;> omega
theorem cl3 {k : Int} (h : cl k = 3) : k = 5 := by unfold cl at h; (repeat' split at h) <;> omega
theorem cl4 {k : Int} (h : cl k = 4) : k = 6 := by unfold cl at h; (repeat' split at h) <;> omega
theorem cl5 {k : Int} (h : cl k = 5) : k < 0 ∨ 8 < k := by unfold cl at h; (repeat' split at h) <;> omega
structure V where
 k : Int
 u : Nat
 n : Int
 s : List UInt8
def V.ok (v : V) : Prop := (-9223372036854775808 ≤ v.k ∧ v.k < 9223372036854775808) ∧ v.u < 18446744073709551616 ∧ (-9223372036854775808 ≤ v.n ∧ v.n < 9223372036854775808)
def zeroV : V := ⟨0, 0, 0, []⟩
theorem V.ext' {v w : V} (h1 : v.k = w.k) (h2 : v.u = w.u) (h3 : v.n = w.n) (h4 : v.s = w.s) : v = w := by
 cases v; cases w;simp only at h1 h2 h3 h4;rw [h1, h2, h3, h4]
def eqV (v w : V) : Bool := decide (v.k = w.k) && (decide (v.u = w.u) && (decide (v.n = w.n) && decide (v.s = w.s)))
theorem eqV_iff (v w : V) : eqV v w = true ↔ v = w := by
 unfold eqV;simp only [Bool.and_eq_true, decide_eq_true_eq];exact ⟨fun ⟨h1, h2, h3, h4⟩ => V.ext' h1 h2 h3 h4, by rintro rfl; exact ⟨rfl, rfl, rfl, rfl⟩⟩
theorem eqV_self (v : V) : eqV v v = true := (eqV_iff v v).2 rfl
def rightV (v : V) : Bool :=
 match cl v.k with
 | 0 => decide (v.u = 0) && decide (v.n = 0) && decide (v.s = [])
 | 1 => decide (v.n = 0) && decide (v.s = [])
 | 2 => decide (v.u = 0) && decide (v.s = [])
 | 3 => decide (v.u = 0) && decide (v.n = 0) && decide (v.s.length ≤ 4000) && decide (wh v.s = v.s.length)
 | 4 => decide (v.u = 0) && decide (v.n = 0) && decide (v.s.length ≤ 4000)
 | _ => false
def putV (v : V) : List UInt8 :=
 match cl v.k with
 | 1 => u v.u
 | 2 => s v.n
 | 3 => v.s
 | 4 => v.s
 | _ => []
def getC (c : Nat) (k : Int) (B : List UInt8) : V × Bool :=
 match c with
 | 0 => if B = [] then (⟨k, 0, 0, []⟩, true) else (zeroV, false)
 | 1 => if (gu B).2.2 = 0 ∧ (gu B).2.1 = B.length then (⟨k, (gu B).1, 0, []⟩, true) else (zeroV, false)
 | 2 => if (gs B).2.2 = 0 ∧ (gs B).2.1 = B.length then (⟨k, 0, (gs B).1, []⟩, true) else (zeroV, false)
 | 3 => if B.length ≤ 4000 ∧ wh B = B.length then (⟨k, 0, 0, B⟩, true) else (zeroV, false)
 | 4 => if B.length ≤ 4000 then (⟨k, 0, 0, B⟩, true) else (zeroV, false)
 | _ => (zeroV, false)
def getV (k : Int) (B : List UInt8) : V × Bool := getC (cl k) k B
theorem gu_lt (B : List UInt8) : (gu B).1 < 18446744073709551616 ∧ (gu B).2.1 ≤ B.length ∧ (gu B).2.2 ≤ 3 := by
 have h1 := spanK_le B;have h2 := spanE_le B;unfold gu;split
 · exact ⟨by show (0 : Nat) < _; omega, Nat.zero_le _, h2⟩
 · split
   · exact ⟨Nat.mod_lt _ (by omega), h1.1, Nat.zero_le _⟩
   · exact ⟨by show (0 : Nat) < _; omega, Nat.zero_le _, Nat.le_refl _⟩
theorem gs_lt (B : List UInt8) : (-9223372036854775808 ≤ (gs B).1 ∧ (gs B).1 < 9223372036854775808) ∧ (gs B).2.1 ≤ B.length ∧ (gs B).2.2 ≤ 3 := by
 have h1 := spanK_le B;have h2 := spanE_le B;unfold gs;split
 · exact ⟨by show (-9223372036854775808 : Int) ≤ 0 ∧ (0 : Int) < _; omega, Nat.zero_le _, h2⟩
 · split
   · exact ⟨sgn_bd _ _, h1.1, Nat.zero_le _⟩
   · exact ⟨by show (-9223372036854775808 : Int) ≤ 0 ∧ (0 : Int) < _; omega, Nat.zero_le _, Nat.le_refl _⟩
theorem gu_of {B : List UInt8} (h : (gu B).2.2 = 0 ∧ (gu B).2.1 = B.length) : u (gu B).1 = B := by
 obtain ⟨h0, h1⟩ := h;unfold gu at h0 h1 ⊢;by_cases he : spanE B ≠ 0
 · rw [if_pos he] at h0;exact absurd h0 he
 · rw [if_neg he] at h0 h1 ⊢;by_cases hu : u (val (B.take (spanK B)) % 18446744073709551616) = B.take (spanK B)
   · rw [if_pos hu] at h1 ⊢;have h2 : spanK B = B.length := h1;rw [h2, List.take_length] at hu;rw [h2, List.take_length];exact hu
   · rw [if_neg hu] at h0;exact absurd h0 (by simp)
theorem gs_of {B : List UInt8} (h : (gs B).2.2 = 0 ∧ (gs B).2.1 = B.length) : s (gs B).1 = B := by
 obtain ⟨h0, h1⟩ := h;unfold gs at h0 h1 ⊢;by_cases he : spanE B ≠ 0
 · rw [if_pos he] at h0;exact absurd h0 he
 · rw [if_neg he] at h0 h1 ⊢;by_cases hu : s (sgn (val (B.take (spanK B)) % 18446744073709551616) (spanK B)) = B.take (spanK B)
   · rw [if_pos hu] at h1 ⊢;have h2 : spanK B = B.length := h1;rw [h2, List.take_length] at hu;rw [h2, List.take_length];exact hu
   · rw [if_neg hu] at h0;exact absurd h0 (by simp)
theorem right_len {v : V} (h : rightV v = true) : v.s.length ≤ 4000 := by
 unfold rightV at h;have hc := cl_le v.k;rcases (show cl v.k = 0 ∨ cl v.k = 1 ∨ cl v.k = 2 ∨ cl v.k = 3 ∨ cl v.k = 4 ∨ cl v.k = 5 by omega) with e | e | e | e | e | e <;> rw [e] at h <;> simp at h
 · rw [h.2]; simp
 · rw [h.2]; simp
 · rw [h.2]; simp
 · exact h.1.2
 · exact h.2
theorem get_put {v : V} (hk : v.ok) (h : rightV v = true) : getV v.k (putV v) = (v, true) := by
 obtain ⟨k, x, n, t⟩ := v;obtain ⟨_, hu, hn⟩ := hk;simp only at hu hn;unfold rightV at h;unfold getV putV;simp only at h ⊢;have hc := cl_le k;rcases (show cl k = 0 ∨ cl k = 1 ∨ cl k = 2 ∨ cl k = 3 ∨ cl k = 4 ∨ cl k = 5 by omega) with e | e | e | e | e | e
 all_goals rw [e] at h ⊢
 all_goals simp at h
 · obtain ⟨⟨rfl, rfl⟩, rfl⟩ := h;simp [getC]
 · obtain ⟨rfl, rfl⟩ := h;have := gu_back x [] hu;rw [List.append_nil] at this;simp only [getC];rw [this, if_pos ⟨rfl, rfl⟩]
 · obtain ⟨rfl, rfl⟩ := h;have := gs_back n [] hn.1 hn.2;rw [List.append_nil] at this;simp only [getC];rw [this, if_pos ⟨rfl, rfl⟩]
 · obtain ⟨⟨⟨rfl, rfl⟩, h1⟩, h2⟩ := h;simp only [getC];rw [if_pos ⟨h1, h2⟩]
 · obtain ⟨⟨rfl, rfl⟩, h1⟩ := h;simp only [getC];rw [if_pos h1]
theorem put_get {k : Int} {B : List UInt8} {v : V} (h : getV k B = (v, true)) : v.k = k ∧ rightV v = true ∧ putV v = B := by
 unfold getV at h;have hc := cl_le k;rcases (show cl k = 0 ∨ cl k = 1 ∨ cl k = 2 ∨ cl k = 3 ∨ cl k = 4 ∨ cl k = 5 by omega) with e | e | e | e | e | e
 all_goals rw [e] at h
 all_goals simp only [getC] at h
 · by_cases hB : B = []
   · rw [if_pos hB] at h;simp only [Prod.mk.injEq, and_true] at h;subst h;subst hB;exact ⟨rfl, by simp [rightV, e], by simp [putV, e]⟩
   · rw [if_neg hB] at h; simp at h
 · by_cases hB : (gu B).2.2 = 0 ∧ (gu B).2.1 = B.length
   · rw [if_pos hB] at h;simp only [Prod.mk.injEq, and_true] at h;subst h;exact ⟨rfl, by simp [rightV, e], by simp [putV, e]; exact gu_of hB⟩
   · rw [if_neg hB] at h; simp at h
 · by_cases hB : (gs B).2.2 = 0 ∧ (gs B).2.1 = B.length
   · rw [if_pos hB] at h;simp only [Prod.mk.injEq, and_true] at h;subst h;exact ⟨rfl, by simp [rightV, e], by simp [putV, e]; exact gs_of hB⟩
   · rw [if_neg hB] at h; simp at h
 · by_cases hB : B.length ≤ 4000 ∧ wh B = B.length
   · rw [if_pos hB] at h;simp only [Prod.mk.injEq, and_true] at h;subst h;exact ⟨rfl, by simp [rightV, e, hB], by simp [putV, e]⟩
   · rw [if_neg hB] at h; simp at h
 · by_cases hB : B.length ≤ 4000
   · rw [if_pos hB] at h;simp only [Prod.mk.injEq, and_true] at h;subst h;exact ⟨rfl, by simp [rightV, e, hB], by simp [putV, e]⟩
   · rw [if_neg hB] at h; simp at h
 · simp at h
theorem get_ok {k : Int} {B : List UInt8} (hk : -9223372036854775808 ≤ k ∧ k < 9223372036854775808) : (getV k B).1.ok := by
 have hz : zeroV.ok := ⟨by show (-9223372036854775808 : Int) ≤ 0 ∧ (0 : Int) < _; omega, by show (0 : Nat) < _; omega, by show (-9223372036854775808 : Int) ≤ 0 ∧ (0 : Int) < _; omega⟩
 have h0 : (0 : Nat) < 18446744073709551616 := by omega
 have h1 : (-9223372036854775808 : Int) ≤ 0 ∧ (0 : Int) < 9223372036854775808 := by omega
 unfold getV;have hc := cl_le k;rcases (show cl k = 0 ∨ cl k = 1 ∨ cl k = 2 ∨ cl k = 3 ∨ cl k = 4 ∨ cl k = 5 by omega) with e | e | e | e | e | e
 all_goals rw [e]
 all_goals simp only [getC]
 · split
   · exact ⟨hk, h0, h1⟩
   · exact hz
 · split
   · exact ⟨hk, (gu_lt B).1, h1⟩
   · exact hz
 · split
   · exact ⟨hk, h0, (gs_lt B).1⟩
   · exact hz
 · split
   · exact ⟨hk, h0, h1⟩
   · exact hz
 · split
   · exact ⟨hk, h0, h1⟩
   · exact hz
 · exact hz
theorem right_iff {v : V} (hk : v.ok) : rightV v = (decide (v.s.length ≤ 4000) && ((getV v.k (putV v)).2 && eqV (getV v.k (putV v)).1 v)) := by
 obtain ⟨g, hg⟩ : ∃ g, g = getV v.k (putV v) := ⟨_, rfl⟩
 rw [← hg];cases hr : rightV v with
 | true =>
  rw [get_put hk hr] at hg;rw [hg];have := right_len hr;simp [eqV_self, this]
 | false =>
  obtain ⟨x, b⟩ := g;cases b with
  | false => simp
  | true =>
   have h1 := put_get hg.symm;have h2 : eqV x v = false := by
    cases h3 : eqV x v with
    | false => rfl
    | true =>
     rw [(eqV_iff x v).1 h3, hr] at h1;exact absurd h1.2.1 (by simp)
   simp [h2]
theorem put_len {v : V} (hv : v.ok) (h : v.s.length ≤ 1000000) : (putV v).length ≤ 1000000 := by
 unfold putV;have h1 := u_len10 hv.2.1;have h2 := s_len10 hv.2.2.1 hv.2.2.2;have hc := cl_le v.k;rcases (show cl v.k = 0 ∨ cl v.k = 1 ∨ cl v.k = 2 ∨ cl v.k = 3 ∨ cl v.k = 4 ∨ cl v.k = 5 by omega) with e | e | e | e | e | e
 all_goals rw [e]
 all_goals simp only [List.length_nil]
 all_goals omega
end Go.Proofs.YtbabgnadgdidmaaGreat.VaM
