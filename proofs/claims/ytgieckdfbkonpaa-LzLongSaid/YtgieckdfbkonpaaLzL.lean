/-
  The law LzLong (written by gen_long.py).
-/
import Derived.Test.YtgieckdfbkonpaaLzU
namespace Go.Proofs.Ytgieckdfbkonpaa
open Go.RowKit LzM LzN LzV Mem Go.Lib
attribute [local go_sem ↓] Go.wp_at_zero Go.wp_at_succ
set_option linter.unusedVariables false

theorem mk_u8 (m : Nat) (hm : m ≤ 1000000) (w : World) : (Instr.makeSlice 22 (.int .i64 (m : Int)) (.int .i64 (m : Int))).run Try.prog w = .ok (.slice (some ⟨w.heap.size, 0, none⟩) m m) (w.alloc (.cells (Array.replicate m (.int .u8 0)) 5)) := by
  obtain ⟨i, hi, hz, hs, hb⟩ := info_parts u8T.info
  have h := run_makeSlice (P := Try.prog) w 22 5 i _ Try.underlying22 hi hz .i64 .i64 (m : Int) (m : Int) (by omega) (by omega) (by rw [hs]; omega) (by rw [hb]; omega) (by omega)
  rw [h, hs, Int.toNat_natCast]
  congr 3
  apply Array.ext_getElem?
  intro i
  by_cases h : i < m
  · simp [madeCells, Value.cells, h, Nat.mod_one]
  · simp [madeCells, Value.cells, h]
/-- so many of one kind, the others 0 -/
def filled (n : Nat) (v : Value) (i : Nat) : List Value := List.replicate i v ++ List.replicate (n - i) (.int .u8 0)
theorem filled_zero (n : Nat) (v : Value) : filled n v 0 = List.replicate n (.int .u8 0) := by simp [filled]
theorem filled_set (n : Nat) (v : Value) (i : Nat) (h : i < n) : (filled n v i).set i v = filled n v (i + 1) := by
  unfold filled
  rw [List.set_append_right _ _ (by simp), List.length_replicate, Nat.sub_self, show n - i = (n - (i + 1)) + 1 by omega, List.replicate_succ, List.set_cons_zero, List.replicate_succ']
  simp
theorem filled_all (n : Nat) (b : UInt8) : filled n (.int .u8 (b.toNat : Int)) n = (List.replicate n b).map bytec := by
  simp [filled, bytec]
theorem filled_at (n : Nat) (v : Value) (i : Nat) (h : i < n) : (filled n v i)[i]? = some (.int .u8 0) := by
  unfold filled
  rw [List.getElem?_append_right (by simp), List.length_replicate, Nat.sub_self, List.getElem?_replicate, if_pos (by omega)]

set_option maxRecDepth 100000 in
set_option maxHeartbeats 3200000 in
theorem long_law (b : UInt8) (N : Nat) (hN : N < 65536) (w : World) :
    Calls Try.prog 7 #[.int .u8 (b.toNat : Int), .int .u16 (N : Int)] w fun e w' => e = .returned (.bool true) ∧ Fr (fun _ => False) w w' := by
  obtain ⟨u, hu⟩ : ∃ u, u = b.toNat := ⟨_, rfl⟩
  have HU := Lib.hid hu
  rw [← hu]
  obtain ⟨n, hn⟩ : ∃ n, n = N % 5000 := ⟨_, rfl⟩
  have hn5 : n < 5000 := by omega
  have hrem : (N : Int).tmod 5000 = (n : Int) := by rw [Int.tmod_eq_emod_of_nonneg (by omega)]; omega
  have hmk := mk_u8 n (by omega)
  clear hu hn
  go_enter Try.func7, Try.ntmps7
  go_wp2_with fail
  refine (awake_any w).mono ?_
  rintro e w1 ⟨rfl, hf1⟩
  have HF1 := Lib.hid hf1
  clear hf1
  go_wp2_with fail
  obtain ⟨w2, hw2⟩ : ∃ w2, w1.alloc (.cells (Array.replicate n (.int .u8 0)) 5) = w2 := ⟨_, rfl⟩
  rw [hw2]
  obtain ⟨q, hq⟩ : ∃ q, w1.heap.size = q := ⟨_, rfl⟩
  rw [hq]
  have hrow : Row w2 q 5 (filled n (.int .u8 (u : Int)) 0) := by
    rw [filled_zero, ← hw2, ← hq]
    have := Row.new w1 5 (List.replicate n (.int .u8 0))
    rwa [List.toArray_replicate] at this
  have HROW := Lib.hid hrow
  have HF2 : Hid (Fr (fun _ => False) w w2) := Lib.hid (by rw [← hw2]; exact HF1.out.alloc _)
  have HQ : Hid (w.heap.size ≤ q) := Lib.hid (by rw [← hq]; exact HF1.out.size)
  clear hw2 hq hrow hmk hrem
  go_wp2_with fail
  go_loopw [7] (fun i wr => ∃ k : Nat, k ≤ n ∧ i = .int .i64 (k : Int) ∧ Hid (Row wr q 5 (filled n (.int .u8 (u : Int)) k)) ∧ Hid (Fr (fun _ => False) w wr)) (fun i _ => n - (intOf i).toNat)
  case atStart => exact ⟨0, Nat.zero_le _, rfl, HROW.out, HF2.out⟩
  case round =>
    obtain ⟨k, hk, rfl, HRW, HFW⟩ := hrel
    rename World => wr
    by_cases hlt : k < n
    · have c1 : wr.cell? ⟨q, k, none⟩ = some (.int .u8 0) := HRW.out.cell (filled_at n _ k hlt)
      have f1 : wr.frozen? ⟨q, k, none⟩ = false := HRW.out.free k
      have HR2 : Hid (Row (wr.setCell ⟨q, k, none⟩ (.int .u8 (u : Int))) q 5 (filled n (.int .u8 (u : Int)) (k + 1))) := Lib.hid (by rw [← filled_set n _ k hlt]; exact HRW.out.set k _)
      have HF3 : Hid (Fr (fun _ => False) w (wr.setCell ⟨q, k, none⟩ (.int .u8 (u : Int)))) := Lib.hid (HFW.out.trans (Fr.set1 wr q k _) (fun b hb h => by have := HQ.out; omega))
      go_wp2_with fail
      exact ⟨⟨k + 1, by omega, by go_num, HR2.out, HF3.out⟩, by simp [intOf]; omega⟩
    · have hkn : n = k := by omega
      subst hkn
      have hrd : Rd wr (some ⟨q, 0, none⟩) n ((List.replicate n b).map bytec) := by
        have h := HRW.out
        rw [HU.out, filled_all] at h
        have h2 := rd_blk h
        rwa [List.length_map, List.length_replicate] at h2
      have HRD := Lib.hid hrd
      clear hrd HRW hlt hk
      go_wp2_with fail
      refine (pPress_any _ n n (List.replicate n b) wr HRD.out (by omega) (Nat.le_refl _) (by unfold maxLen; omega)).mono ?_
      rintro e w3 ⟨A3, c3, rfl, hO3, hf3⟩
      have HF3 := Lib.hid (HFW.out.trans hf3 (fun _ _ h => h))
      have HT3 := Lib.hid hO3.toks
      have hL1 := press_len (List.replicate n b)
      have HBL : Hid ((List.replicate n b).length = n) := Lib.hid (List.length_replicate ..)
      rw [HBL.out] at hL1
      obtain ⟨T, hT⟩ : ∃ T, T = press (List.replicate n b) := ⟨_, rfl⟩
      rw [← hT] at HT3 hL1 ⊢
      have HPR : Hid (T = pressF (List.replicate n b) n 0) := Lib.hid (by rw [hT, press, HBL.out])
      obtain ⟨L, hL⟩ : ∃ L, L = T.length := ⟨_, rfl⟩
      have HL := Lib.hid hL
      rw [← hL] at HT3 hL1 ⊢
      clear hO3 hf3 hT hL
      go_wp2_with fail
      go_loopw [9, 10] (fun left i wr => ∃ k a l : Nat, k ≤ L ∧ a + l = n ∧ (k = 0 → a = 0) ∧ (0 < k → 0 < a) ∧ left = .int .i64 (l : Int) ∧ i = .int .i64 (k : Int) ∧ Hid (∃ f, T.drop k = pressF (List.replicate n b) f a ∧ n ≤ a + f) ∧ Hid (Fr (fun _ => False) w3 wr)) (fun _ i _ => L - (intOf i).toNat)
      case atStart => exact ⟨0, 0, n, Nat.zero_le _, by omega, fun _ => rfl, fun h => by omega, rfl, rfl, ⟨n, by rw [List.drop_zero]; exact HPR.out, by omega⟩, Fr.refl _ _⟩
      case round =>
        obtain ⟨k, a, l, hk, hal, hk0, hk1, rfl, rfl, HTD0, HF⟩ := hrel
        rename World => wr
        by_cases hlt : k < L
        · obtain ⟨t, ht⟩ : ∃ t, T[k]? = some t := ⟨_, List.getElem?_eq_getElem (by have := HL.out; omega)⟩
          have hdr : T.drop k = t :: T.drop (k + 1) := by rw [List.drop_eq_getElem_cons (by have := HL.out; omega)]; congr 1; exact (List.getElem?_eq_some_iff.1 ht).2
          obtain ⟨g, o, rfl, hg, h1, h2, h3⟩ := (HT3.out.fr HF.out (fun _ _ => id)).2 k t ht
          obtain ⟨f, hf, hfn⟩ := HTD0.out
          rw [hdr] at hf
          obtain ⟨f', rfl, hab0, hcase⟩ := pressF_cases (List.replicate n b) f a t _ hf.symm
          have hab : a < n := by rw [HBL.out] at hab0; exact hab0
          have hl1 : 1 ≤ l := by omega
          have hln5 : l ≤ 5000 := by omega
          clear hf hdr HTD0 ht
          rcases hcase with ⟨rfl, hcl, hTn⟩ | ⟨Lm, D, rfl, hLm3, hLm258, hD1, hDa, hD3, hsum, hLen, hfind, hTn⟩
          · have hfd : 0 < k → l < 3 := fun h => by
              rw [rep_find n b a (hk1 h) hab] at hcl
              simp only at hcl
              omega
            obtain ⟨q1, q2⟩ := tok_neq_self (lit b)
            have q3 : ∀ (x y : Operand) (w : World), (eqGuard .neq 27 x y (.agg #[.int .u8 (u : Int), .int .i64 0, .int .i64 0]) (.agg #[.int .u8 (u : Int), .int .i64 0, .int .i64 0])).run Try.prog w = .ok () w := by rw [HU.out]; exact q1
            have q4 : ∀ (w : World), (binOp .neq 27 (.agg #[.int .u8 (u : Int), .int .i64 0, .int .i64 0]) (.agg #[.int .u8 (u : Int), .int .i64 0, .int .i64 0])).run Try.prog w = .ok (.bool false) w := by rw [HU.out]; exact q2
            clear q1 q2
            by_cases hk00 : k = 0
            · have hbb : (List.replicate n b)[a]! = b := by rw [getElem!_pos _ a hab0]; simp
              rw [hbb] at h1 h2 h3
              replace h1 : wr.cell? ⟨g, o + k * 3, none⟩ = some (.int .u8 (u : Int)) := by rw [h1, HU.out]; rfl
              replace h2 : wr.cell? ⟨g, o + k * 3 + 1, none⟩ = some (.int .i64 0) := h2
              replace h3 : wr.cell? ⟨g, o + k * 3 + 2, none⟩ = some (.int .i64 0) := h3
              have HTD : Hid (∃ f, T.drop (k + 1) = pressF (List.replicate n b) f (a + 1) ∧ n ≤ a + 1 + f) := Lib.hid ⟨f', hTn, by omega⟩
              clear hTn hbb hfd hcl
              subst hk00
              replace h1 : wr.cell? ⟨g, o, none⟩ = some (.int .u8 (u : Int)) := by simpa using h1
              replace h2 : wr.cell? ⟨g, o + 1, none⟩ = some (.int .i64 0) := by simpa using h2
              replace h3 : wr.cell? ⟨g, o + 2, none⟩ = some (.int .i64 0) := by simpa using h3
              go_wp2_with fail
              exact ⟨⟨1, a + 1, l - 1, by omega, by omega, by omega, by omega, by go_num, by go_num, HTD.out, HF.out⟩, by simp [intOf]; omega⟩
            · have hl3 : l < 3 := hfd (by omega)
              have hbb : (List.replicate n b)[a]! = b := by rw [getElem!_pos _ a hab0]; simp
              rw [hbb] at h1 h2 h3
              replace h1 : wr.cell? ⟨g, o + k * 3, none⟩ = some (.int .u8 (u : Int)) := by rw [h1, HU.out]; rfl
              replace h2 : wr.cell? ⟨g, o + k * 3 + 1, none⟩ = some (.int .i64 0) := h2
              replace h3 : wr.cell? ⟨g, o + k * 3 + 2, none⟩ = some (.int .i64 0) := h3
              have HTD : Hid (∃ f, T.drop (k + 1) = pressF (List.replicate n b) f (a + 1) ∧ n ≤ a + 1 + f) := Lib.hid ⟨f', hTn, by omega⟩
              clear hTn hbb hfd hcl

              go_wp2_with fail
              exact ⟨⟨k + 1, a + 1, l - 1, by omega, by omega, by omega, by omega, by go_num, by go_num, HTD.out, HF.out⟩, by simp [intOf]; omega⟩
          · have hk00 : 0 < k := by
              rcases Nat.eq_zero_or_pos k with h | h
              · have ha0 := hk0 h
                subst ha0
                omega
              · exact h
            rw [rep_find n b a (hk1 hk00) hab] at hfind
            simp only [Prod.mk.injEq] at hfind
            obtain ⟨hLmm, hDD⟩ := hfind
            subst hDD
            have hLl : min 258 l = Lm := by omega
            have hl3 : 3 ≤ l := by omega
            have hal2 : a + Lm ≤ n := by omega
            replace h1 : wr.cell? ⟨g, o + k * 3, none⟩ = some (.int .u8 0) := h1
            replace h2 : wr.cell? ⟨g, o + k * 3 + 1, none⟩ = some (.int .i64 (Lm : Int)) := h2
            replace h3 : wr.cell? ⟨g, o + k * 3 + 2, none⟩ = some (.int .i64 1) := h3
            have HTD : Hid (∃ f, T.drop (k + 1) = pressF (List.replicate n b) f (a + Lm) ∧ n ≤ a + Lm + f) := Lib.hid ⟨f', hTn, by omega⟩
            have hlm : a + Lm + (l - Lm) = n := by omega
            have hlmi : (l : Int) - (Lm : Int) = ((l - Lm : Nat) : Int) := by omega
            have HMM := Lib.hid hLmm
            clear hTn hLmm hLen hsum
            by_cases h258 : 258 < l
            · obtain rfl : Lm = 258 := by omega
              have t1 : 258 < (l : Int) := by omega
              have t0 : ((k : Int) == 0) = false := by simp; omega
              have t3 : decide ((l : Int) < 3) = false := by simp; omega
              have t4 : ((k : Int) == 0 || decide ((l : Int) < 3)) = false := by rw [t0, t3]; rfl
              replace h2 : wr.cell? ⟨g, o + k * 3 + 1, none⟩ = some (.int .i64 258) := h2
              replace hlmi : (l : Int) - 258 = ((l - 258 : Nat) : Int) := by omega
              clear hLl
              go_wp2_with fail
              exact ⟨⟨k + 1, a + 258, l - 258, by omega, by omega, by omega, by omega, by go_num, by go_num, HTD.out, HF.out⟩, by simp [intOf]; omega⟩
            · obtain rfl : Lm = l := by omega
              have t1 : (Lm : Int) ≤ 258 := by omega
              have t0 : ((k : Int) == 0) = false := by simp; omega
              have t3 : decide ((Lm : Int) < 3) = false := by simp; omega
              have t4 : ((k : Int) == 0 || decide ((Lm : Int) < 3)) = false := by rw [t0, t3]; rfl
              clear hLl
              go_wp2_with fail
              exact ⟨⟨k + 1, a + Lm, 0, by omega, by omega, by omega, by omega, by go_num, by go_num, HTD.out, HF.out⟩, by simp [intOf]; omega⟩
        · have hkL : L = k := by omega
          subst hkL
          obtain ⟨f, hf, hfn⟩ := HTD0.out
          rw [List.drop_of_length_le (by have := HL.out; omega)] at hf
          have han2 := pressF_nil (List.replicate n b) f a hf.symm (by rw [HBL.out]; exact hfn) (by rw [HBL.out]; omega)
          rw [HBL.out] at han2
          obtain rfl : l = 0 := by omega
          clear hf
          go_wp2_with fail
          go_ret
          exact ⟨rfl, HF3.out.trans HF.out (fun _ _ h => h)⟩
end Go.Proofs.Ytgieckdfbkonpaa
