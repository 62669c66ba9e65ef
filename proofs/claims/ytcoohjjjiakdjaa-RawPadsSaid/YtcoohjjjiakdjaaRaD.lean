/-
  Layer 15, the program: first (written by gen_first.py).
-/
import Derived.Test.YtcoohjjjiakdjaaZm29
import Derived.Test.YtcoohjjjiakdjaaZm04
import Derived.BigQuiet
namespace Go.Proofs.Ytcoohjjjiakdjaa
open Go.RowKit Mem Go.Lib RleM LebM VaM
attribute [local go_sem ↓] Go.wp_at_zero Go.wp_at_succ
set_option linter.unusedVariables false

theorem to_u8 (A : Option Addr) (n c y : Nat) (hy : y ≤ n) (hn : n ≤ c) (yi : Int) (ey : yi = (y : Int)) (w : World) :
    (Instr.sliceAt 25 (.slice A n c) none (some (.int .i64 yi)) none).run Try.prog w = .ok (.slice A y c) w := by
  subst ey
  cases A with
  | none =>
    go_simp
    try (intro h; omega)
  | some ad =>
    go_simp
    try (intro h; omega)
def firstC (r : V × Nat × Nat) : Value := .tuple #[valc r.1, .int .i64 (r.2.1 : Int), .int .i64 (r.2.2 : Int)]
set_option maxRecDepth 100000 in
set_option maxHeartbeats 6400000 in
theorem first_any (i : Bool) (x : Int) (A : Option Addr) (n c : Nat) (B : List UInt8) (w : World) (hx : okU (i, x)) (hr : Rd w A n (B.map bytec)) (hc : n ≤ c) (hn : n ≤ 1000000) :
    Calls Try.prog 37 #[.agg #[.bool i, .int .i64 x], .slice A n c] w fun e w' => e = .returned (firstC (firstR (i, x) B)) ∧ Fr (fun _ => False) w w' := by
  obtain ⟨hx0, hx1⟩ := hx
  have hBn : B.length = n := by simpa using hr.1
  obtain ⟨ans, hans⟩ : ∃ ans, firstR (i, x) B = ans := ⟨_, rfl⟩
  rw [hans]
  obtain ⟨g, hg⟩ : ∃ g, w.heap.size = g := ⟨_, rfl⟩
  obtain ⟨w0, hw0⟩ : ∃ w0, w.alloc (.cells #[.bool i, .int .i64 x] 50) = w0 := ⟨_, rfl⟩
  have hf0 : Fr (fun _ => False) w w0 := by rw [← hw0]; exact (Fr.refl _ _).alloc _
  have hr0 : Row w0 g 50 [.bool i, .int .i64 x] := by rw [← hw0, ← hg]; exact Row.new w _ _
  obtain ⟨p, hp⟩ : ∃ p, w0.heap.size = p := ⟨_, rfl⟩
  obtain ⟨w1, hw1⟩ : ∃ w1, w0.alloc (.cells #[.int .i64 0, .int .u64 0, .int .i64 0, .string ⟨#[]⟩] 46) = w1 := ⟨_, rfl⟩
  have hf1 : Fr (fun _ => False) w0 w1 := by rw [← hw1]; exact (Fr.refl _ _).alloc _
  have hp1 : RowV w1 p zeroV := by rw [← hw1, ← hp]; exact RowV.new w0 zeroV
  have HC1 := Lib.hid (hr0.fr hf1 (fun h => h))
  have j0 : w1.cell? ⟨g, 0, none⟩ = some (.bool i) := HC1.out.cell rfl
  have HF1 := Lib.hid (hf0.trans hf1 (fun _ _ h => h))
  have HR1 := Lib.hid hp1
  have HP : Hid (w.heap.size ≤ p) := Lib.hid (by rw [← hp]; exact hf0.size)
  have HANS := Lib.hid hans
  have HRD := Lib.hid hr
  clear hf0 hr0 hf1 hp1 hans hr
  cases i with
  | false =>
    have HA : Hid (ans = (zeroV, 0, 0)) := Lib.hid (by rw [← HANS.out]; rfl)
    clear hx0 hx1 hBn
    go_enter Try.func37, Try.ntmps37
    go_upto_region 1 with fail
    clear hw0 hw1 hg hp
    go_wp2_with (refine store_st vSz rfl (.tmp 4) (.tmp 14) rfl p (by rfl) (vls zeroV) (by rfl) _ _ HR1.out rfl rfl (v_one _) ?_)
    intro w8 hr8 hf8
    have HR8 : Hid (RowV w8 p zeroV) := Lib.hid hr8
    have HF8 : Hid (Fr (fun _ => False) w w8) := Lib.hid (HF1.out.trans hf8 (fun b hb h => by have := HP.out; omega))
    clear hr8 hf8
    obtain ⟨d0, d1, d2, d3⟩ := HR8.out.cells
    go_wp2_with fail
    refine bodyPost_ret (v := .tuple #[valc zeroV, .int .i64 0, .int .i64 0]) (by simp [results, valc, d0, d1, d2, d3, Try.results37, go_sem]) rfl ⟨by rw [HA.out]; rfl, HF8.out⟩
  | true =>
    obtain ⟨X, rfl⟩ := Int.eq_ofNat_of_zero_le hx0
    have j1 : w1.cell? ⟨g, 1, none⟩ = some (.int .i64 (X : Int)) := HC1.out.cell rfl
    obtain ⟨kd, hkd⟩ : ∃ kd, kd = X % 16 := ⟨_, rfl⟩
    obtain ⟨sz, hsz⟩ : ∃ sz, sz = X / 16 := ⟨_, rfl⟩
    have ek : (X : Int).tmod 16 = (kd : Int) := by rw [hkd, Int.tmod_eq_emod_of_nonneg (by omega)]; omega
    have es : (X : Int).tdiv 16 = (sz : Int) := by rw [hsz, Int.tdiv_eq_ediv_of_nonneg (by omega)]; omega
    have r1 : IntKind.i64.wrap (kd : Int) = (kd : Int) := by rw [IntKind.wrap_i64]; omega
    have r2 : IntKind.i64.wrap (sz : Int) = (sz : Int) := by rw [IntKind.wrap_i64]; omega
    have HKD := Lib.hid hkd
    have HSZ := Lib.hid hsz
    clear hkd hsz
    go_enter Try.func37, Try.ntmps37
    go_upto_region 1 with fail
    clear hw0 hw1 hg hp
    go_wp2_with fail
    go_quiet (fail)
    have hfq : Fr (fun _ => False) w1 (w1.drewN nq) := (Fr.refl _ _).drewN nq
    have HF2 := Lib.hid (HF1.out.trans hfq (fun _ _ h => h))
    have HR2 := Lib.hid (HR1.out.fr hfq (fun h => h))
    have HRD2 := Lib.hid (HRD.out.fr HF2.out (fun _ _ h => h))
    obtain ⟨w2, hw2⟩ : ∃ w2, w1.drewN nq = w2 := ⟨_, rfl⟩
    rw [hw2] at HF2 HR2 HRD2 ⊢
    clear hfq hw2 j0 j1 ek es r1 r2
    have hff : firstR (true, (X : Int)) B = if kd = 0 then (zeroV, 0, 3) else if n < sz then (zeroV, 0, 2) else if (getV (kd : Int) (B.take sz)).2 = true then ((getV (kd : Int) (B.take sz)).1, sz, 0) else (zeroV, 0, 3) := by
      unfold firstR
      have h1 := HKD.out
      have h2 := HSZ.out
      rw [if_neg (by simp), show ((true, (X : Int)) : Bool × Int).2 % 16 = (kd : Int) by show (X : Int) % 16 = _; omega, show ((true, (X : Int)) : Bool × Int).2 / 16 = (sz : Int) by show (X : Int) / 16 = _; omega, Int.toNat_natCast]
      by_cases hk : kd = 0
      · rw [if_pos (by omega), if_pos hk]
      · rw [if_neg (by omega), if_neg hk]
        by_cases hs : n < sz
        · rw [if_pos (by omega), if_pos hs]
        · rw [if_neg (by omega), if_neg hs]
    rw [hff] at HANS
    clear hff
    have hans := HANS.out
    clear HANS
    by_cases hk : kd = 0
    · have HA : Hid (ans = (zeroV, 0, 3)) := Lib.hid (by rw [← hans, if_pos hk])
      subst hk
      clear hans hx0 hx1 hBn HKD
      go_wp2_with (refine store_st vSz rfl (.tmp 4) (.tmp 23) rfl p (by rfl) (vls zeroV) (by rfl) _ _ HR2.out rfl rfl (v_one _) ?_)
      intro w8 hr8 hf8
      have HR8 : Hid (RowV w8 p zeroV) := Lib.hid hr8
      have HF8 : Hid (Fr (fun _ => False) w w8) := Lib.hid (HF2.out.trans hf8 (fun b hb h => by have := HP.out; omega))
      clear hr8 hf8
      obtain ⟨d0, d1, d2, d3⟩ := HR8.out.cells
      go_wp2_with fail
      refine bodyPost_ret (v := .tuple #[valc zeroV, .int .i64 0, .int .i64 3]) (by simp [results, valc, d0, d1, d2, d3, Try.results37, go_sem]) rfl ⟨by rw [HA.out]; rfl, HF8.out⟩
    have tk : ((kd : Int) == 0) = false := by simp; exact hk
    rw [if_neg hk] at hans
    by_cases hs : n < sz
    · have HA : Hid (ans = (zeroV, 0, 2)) := Lib.hid (by rw [← hans, if_pos hs])
      have ts : decide ((n : Int) < (sz : Int)) = true := by simp; exact hs
      have ts' : decide (n < sz) = true := by simp; exact hs
      clear hans hx0 hx1 hBn hs hk
      go_wp2_with (refine store_st vSz rfl (.tmp 4) (.tmp 28) rfl p (by rfl) (vls zeroV) (by rfl) _ _ HR2.out rfl rfl (v_one _) ?_)
      intro w8 hr8 hf8
      have HR8 : Hid (RowV w8 p zeroV) := Lib.hid hr8
      have HF8 : Hid (Fr (fun _ => False) w w8) := Lib.hid (HF2.out.trans hf8 (fun b hb h => by have := HP.out; omega))
      clear hr8 hf8
      obtain ⟨d0, d1, d2, d3⟩ := HR8.out.cells
      go_wp2_with fail
      refine bodyPost_ret (v := .tuple #[valc zeroV, .int .i64 0, .int .i64 2]) (by simp [results, valc, d0, d1, d2, d3, Try.results37, go_sem]) rfl ⟨by rw [HA.out]; rfl, HF8.out⟩
    rw [if_neg hs] at hans
    have ts : decide ((n : Int) < (sz : Int)) = false := by simp; omega
    have ts' : decide (n < sz) = false := by simp; omega
    have hszn : sz ≤ n := by omega
    have hget := pvGet_any (kd : Int) A sz c (B.take sz) w2 (by rw [List.map_take]; exact rd_take HRD2.out hszn) (by omega) (by omega)
    obtain ⟨y, ok, hy⟩ : ∃ y ok, getV (kd : Int) (B.take sz) = (y, ok) := ⟨_, _, rfl⟩
    rw [hy] at hans
    simp only [hy, getR, valc] at hget
    obtain ⟨E, hE⟩ : ∃ E : Int, (if ok = true then 0 else 3) = E := ⟨_, rfl⟩
    rw [hE] at hget
    have HGET := Lib.hid hget
    have HE := Lib.hid hE
    have HANS := Lib.hid hans
    have hcut := to_u8 A n c sz hszn hc (sz : Int) rfl w2
    have hsc : sz ≤ c := by omega
    clear hget hy hx0 hx1 hBn hs hk hE hans
    go_wp2_with fail
    refine HGET.out.mono ?_
    rintro e w3 ⟨rfl, hf3⟩
    have HF3 := Lib.hid (HF2.out.trans hf3 (fun _ _ h => h))
    have HR3 := Lib.hid (HR2.out.fr hf3 (fun h => h))
    clear hf3 hcut
    obtain ⟨q, hq⟩ : ∃ q, w3.heap.size = q := ⟨_, rfl⟩
    obtain ⟨w4, hw4⟩ : ∃ w4, w3.alloc (.cells #[.int .i64 0, .int .u64 0, .int .i64 0, .string ⟨#[]⟩] 46) = w4 := ⟨_, rfl⟩
    have hf4 : Fr (fun _ => False) w3 w4 := by rw [← hw4]; exact (Fr.refl _ _).alloc _
    have hq4 : RowV w4 q zeroV := by rw [← hw4, ← hq]; exact RowV.new w3 zeroV
    have HQ4 := Lib.hid hq4
    have HQ := Lib.hid hq
    have HPQ : Hid (p < q) := Lib.hid (by have h1 := HR3.out.lt; omega)
    have HF4 := Lib.hid hf4
    have HR4 := Lib.hid (HR3.out.fr hf4 (fun h => h))
    clear hf4 hq4
    go_upto_region 9 with (refine store_st vSz rfl (.tmp 9) (.tmp 35) rfl q (by rfl) (vls y) (by rfl) _ _ HQ4.out rfl rfl (v_one _) ?_)
    intro w5 hr5 hf5
    have HQ5 : Hid (RowV w5 q y) := Lib.hid hr5
    have HR5 := Lib.hid (HR4.out.fr hf5 (by have := HPQ.out; intro h; omega))
    have HF5 : Hid (Fr (fun _ => False) w w5) := Lib.hid (HF3.out.trans (HF4.out.trans hf5 (fun b hb h => by have := HQ.out; omega)) (fun _ _ h => h))
    clear hr5 hf5 hw4 hq HR4 HF4 HQ4
    obtain ⟨k0, k1, k2, k3⟩ := HQ5.out.cells
    cases ok with
    | false =>
      have HA : Hid (ans = (zeroV, 0, 3)) := Lib.hid (by rw [← HANS.out]; rfl)
      obtain rfl : 3 = E := HE.out
      go_wp2_with (refine store_st vSz rfl (.tmp 4) (.tmp 39) rfl p (by rfl) (vls zeroV) (by rfl) _ _ HR5.out rfl rfl (v_one _) ?_)
      intro w8 hr8 hf8
      have HR8 : Hid (RowV w8 p zeroV) := Lib.hid hr8
      have HF8 : Hid (Fr (fun _ => False) w w8) := Lib.hid (HF5.out.trans hf8 (fun b hb h => by have := HP.out; omega))
      clear hr8 hf8
      obtain ⟨d0, d1, d2, d3⟩ := HR8.out.cells
      go_wp2_with fail
      refine bodyPost_ret (v := .tuple #[valc zeroV, .int .i64 0, .int .i64 3]) (by simp [results, valc, d0, d1, d2, d3, Try.results37, go_sem]) rfl ⟨by rw [HA.out]; rfl, HF8.out⟩
    | true =>
      have HA : Hid (ans = (y, sz, 0)) := Lib.hid (by rw [← HANS.out]; rfl)
      obtain rfl : 0 = E := HE.out
      go_wp2_with (refine store_st vSz rfl (.tmp 4) (.tmp 41) rfl p (by rfl) (vls y) (by rfl) _ _ HR5.out rfl rfl (v_one _) ?_)
      intro w8 hr8 hf8
      have HR8 : Hid (RowV w8 p y) := Lib.hid hr8
      have HF8 : Hid (Fr (fun _ => False) w w8) := Lib.hid (HF5.out.trans hf8 (fun b hb h => by have := HP.out; omega))
      clear hr8 hf8
      obtain ⟨d0, d1, d2, d3⟩ := HR8.out.cells
      go_wp2_with fail
      refine bodyPost_ret (v := .tuple #[valc y, .int .i64 (sz : Int), .int .i64 0]) (by simp [results, valc, d0, d1, d2, d3, Try.results37, go_sem]) rfl ⟨by rw [HA.out]; rfl, HF8.out⟩
end Go.Proofs.Ytcoohjjjiakdjaa
