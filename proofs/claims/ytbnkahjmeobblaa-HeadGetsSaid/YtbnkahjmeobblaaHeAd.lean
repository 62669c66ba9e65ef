/-
  Layer 20, the reference: Get (written by gen_rget20.py).
-/
import Derived.Test.YtbnkahjmeobblaaHeAb
import Derived.Test.YtbnkahjmeobblaaHeAc
import Derived.Test.YtbnkahjmeobblaaZm38
import Derived.Test.YtbnkahjmeobblaaAcI
import Derived.Test.YtbnkahjmeobblaaZm13
namespace Go.Proofs.Ytbnkahjmeobblaa
open Go.RowKit Mem Go.Lib LebM UtfM VaM AcM OpM HeM
attribute [local go_sem ↓] Go.wp_at_zero Go.wp_at_succ
set_option linter.unusedVariables false

theorem textH_le (lo hi : Nat) (L : List UInt8) : (textH lo hi L).2.1 ≤ L.length ∧ (textH lo hi L).1.length ≤ hi ∧ (textH lo hi L).2.2 ≤ 4 := by
  have h := numH_le lo hi L
  unfold textH
  split
  · exact ⟨Nat.zero_le _, Nat.zero_le _, h.2.2⟩
  · split
    · exact ⟨Nat.zero_le _, Nat.zero_le _, by simp⟩
    · refine ⟨by simp only; omega, ?_, by simp⟩
      simp only [List.length_take]
      omega
theorem fail_at {α : Type} {B : List UInt8} {f : St → α × St} {g : α → St → (Ch × List Tx) × St} {t : St} (h : At20 B (bnd f g) t) (hg : ∀ x, Sticky (g x)) (he : (f t).2.e ≠ 0) : getH B = (zeroC, [], 0, (f t).2.e) :=
  At20.bad (s := (f t).2) (r := g (f t).1) h (hg _) he
theorem text_at {B L : List UInt8} {f : St → Nat × St} {lo hi : Nat} {g : Tx → St → (Ch × List Tx) × St} (hf : (numH lo hi L).2.2 = 0 → f ⟨L, 0⟩ = ((numH lo hi L).1, ⟨L.drop (numH lo hi L).2.1, 0⟩)) (he : (f ⟨L, 0⟩).2.e = (numH lo hi L).2.2)
    (h : At20 B (bnd (bnd f byt) g) ⟨L, 0⟩) (hg : ∀ x, Sticky (g x)) : ((textH lo hi L).2.2 ≠ 0 → getH B = (zeroC, [], 0, (textH lo hi L).2.2)) ∧ ((textH lo hi L).2.2 = 0 → At20 B (g (textH lo hi L).1) ⟨L.drop (textH lo hi L).2.1, 0⟩) := by
  obtain ⟨e1, e2⟩ := text_err hf he
  refine ⟨fun hne => ?_, fun hz => h.step (e2 hz)⟩
  rw [← e1] at hne ⊢
  exact fail_at h hg hne
theorem pos_at {B L : List UInt8} {hi : Nat} {g : Nat → St → (Ch × List Tx) × St} (h : At20 B (bnd (pos hi) g) ⟨L, 0⟩) (hg : ∀ x, Sticky (g x)) : ((numH 1 hi L).2.2 ≠ 0 → getH B = (zeroC, [], 0, (numH 1 hi L).2.2)) ∧ ((numH 1 hi L).2.2 = 0 → At20 B (g (numH 1 hi L).1) ⟨L.drop (numH 1 hi L).2.1, 0⟩) := by
  refine ⟨fun hne => ?_, fun hz => h.step (pos_yes hz)⟩
  rw [← pos_err] at hne ⊢
  exact fail_at h hg hne
theorem sig_at {B L : List UInt8} {g : Int → St → (Ch × List Tx) × St} (h : At20 B (bnd sig g) ⟨L, 0⟩) (hg : ∀ x, Sticky (g x)) : (spanE L ≠ 0 → getH B = (zeroC, [], 0, spanE L)) ∧
    (spanE L = 0 → (s (sgn (vd (L.take (spanK L)) 0) (spanK L)) ≠ L.take (spanK L) → getH B = (zeroC, [], 0, 3)) ∧ (s (sgn (vd (L.take (spanK L)) 0) (spanK L)) = L.take (spanK L) → At20 B (g (sgn (vd (L.take (spanK L)) 0) (spanK L))) ⟨L.drop (spanK L), 0⟩)) := by
  have e : sig ⟨L, 0⟩ = ((gs L).1, ⟨L.drop (gs L).2.1, (gs L).2.2⟩) := by unfold sig; rw [if_neg (by simp)]
  refine ⟨fun hne => ?_, fun hz => ⟨fun hq => ?_, fun hq => ?_⟩⟩
  · have hgs : gs L = (0, 0, spanE L) := by unfold gs; rw [if_pos hne]
    rw [hgs] at e
    have := fail_at h hg (by rw [e]; exact hne)
    rw [e] at this
    exact this
  · have hgs : gs L = (0, 0, 3) := by unfold gs; rw [if_neg (by omega), if_neg (show ¬ (s (sgn (val (L.take (spanK L)) % 18446744073709551616) (spanK L)) = L.take (spanK L)) from hq)]
    rw [hgs] at e
    have := fail_at h hg (by rw [e]; show ¬ (3 : Nat) = 0; omega)
    rw [e] at this
    exact this
  · have hgs : gs L = (sgn (vd (L.take (spanK L)) 0) (spanK L), spanK L, 0) := by unfold gs; rw [if_neg (by omega), if_pos (show s (sgn (val (L.take (spanK L)) % 18446744073709551616) (spanK L)) = L.take (spanK L) from hq)]; rfl
    rw [hgs] at e
    exact h.step e
theorem chk_at {B L : List UInt8} {D : List Tx} {a : Tx} {q st : Nat} {t : Int} {m : Tx} (h : At20 B (k7 D a q st t m) ⟨L, 0⟩) : (wh m < m.length → getH B = (zeroC, [], 0, 3)) ∧ (wh m = m.length → At20 B (fin20 ⟨a, (q : Int), (st : Int), t, m, D⟩) ⟨L, 0⟩) := by
  refine ⟨fun hlt => ?_, fun heq => ?_⟩
  · have e : (chk (!decide (wh m = m.length)) ⟨L, 0⟩).2.e = 3 := by unfold chk; rw [decide_eq_false (by omega)]; rfl
    have := fail_at (f := chk (!decide (wh m = m.length))) h (fun _ => (tab_sticky _).bnd fun _ => rt_sticky _) (by rw [e]; omega)
    rw [e] at this
    exact this
  · have e : chk (!decide (wh m = m.length)) ⟨L, 0⟩ = ((), ⟨L, 0⟩) := by unfold chk; rw [decide_eq_true heq]; rfl
    exact At20.step (f := chk (!decide (wh m = m.length))) h e
theorem fin_at {B L : List UInt8} {c : Ch} (h : At20 B (fin20 c) ⟨L, 0⟩) : ((getA c.a L).2.2 ≠ 0 → getH B = (zeroC, [], 0, (getA c.a L).2.2)) ∧ ((getA c.a L).2.2 = 0 → getH B = (c, (getA c.a L).1, B.length - (L.drop (getA c.a L).2.1).length, 0)) := by
  have e : tabS c.a ⟨L, 0⟩ = ((getA c.a L).1, ⟨L.drop (getA c.a L).2.1, (getA c.a L).2.2⟩) := by unfold tabS; rw [if_neg (by simp)]
  refine ⟨fun hne => ?_, fun hz => ?_⟩
  · have := fail_at (f := tabS c.a) h (fun _ => rt_sticky _) (by rw [e]; exact hne)
    rw [e] at this
    exact this
  · have h2 : rdH ⟨B, 0⟩ = ((c, (getA c.a L).1), ⟨L.drop (getA c.a L).2.1, 0⟩) := by
      unfold At20 at h
      rw [h]
      unfold fin20
      rw [bnd_eq e, hz]
      rfl
    unfold getH
    rw [h2]
    rfl
set_option maxRecDepth 1000000 in
set_option maxHeartbeats 25600000 in
theorem rGet20_any (A : Option Addr) (n c : Nat) (B : List UInt8) (w : World) (hr : Rd w A n (B.map bytec)) (hc : n ≤ c) (hn : n ≤ 1000000) (hlt : 0 < n → ∀ ad, A = some ad → ad.block < w.heap.size) :
    Calls Try.prog 16 #[.slice A n c] w fun e w' => ∃ A1 c1 A2 c2, e = .returned (.tuple #[chc (getH B).1 A1 c1 none 0 0, .slice A2 (getH B).2.1.length c2, .int .i64 ((getH B).2.2.1 : Int), .int .i64 ((getH B).2.2.2 : Int)]) ∧ OwnH w' w.heap.size A1 c1 (getH B).1.d ∧ (∀ h ∈ (getH B).1.d, h.length = 32) ∧ OwT w' w.heap.size A2 c2 (getH B).2.1 ∧ Fr (fun _ => False) w w' := by
  have hBn : B.length = n := by simpa using hr.1
  obtain ⟨g, hg⟩ : ∃ g, w.heap.size = g := ⟨_, rfl⟩
  obtain ⟨w1, hw1⟩ : ∃ w1, w.alloc (.cells [.string ⟨#[]⟩, .int .i64 0, .int .i64 0, .int .i64 0, .string ⟨#[]⟩, .slice none 0 0, .slice none 0 0].toArray 25) = w1 := ⟨_, rfl⟩
  obtain ⟨pc, hpc⟩ : ∃ p, w1.heap.size = p := ⟨_, rfl⟩
  obtain ⟨w2, hw2⟩ : ∃ w2, w1.alloc (.cells [.string ⟨#[]⟩, .int .i64 0, .int .i64 0, .int .i64 0, .string ⟨#[]⟩, .slice none 0 0, .slice none 0 0].toArray 25) = w2 := ⟨_, rfl⟩
  have hgp : pc = g + 1 := by rw [← hpc, ← hw1, ← hg]; simp
  have HG2 : Hid (Row w2 g 25 [.string ⟨#[]⟩, .int .i64 0, .int .i64 0, .int .i64 0, .string ⟨#[]⟩, .slice none 0 0, .slice none 0 0]) := Lib.hid (by rw [← hw2]; refine Row.alloc ?_ _; rw [← hw1, ← hg]; exact Row.new _ _ _)
  have HC2 : Hid (Row w2 pc 25 [.string ⟨#[]⟩, .int .i64 0, .int .i64 0, .int .i64 0, .string ⟨#[]⟩, .slice none 0 0, .slice none 0 0]) := Lib.hid (by rw [← hw2, ← hpc]; exact Row.new _ _ _)
  have HF2 : Hid (Fr (fun _ => False) w w2) := Lib.hid (by rw [← hw2, ← hw1]; exact ((Fr.refl _ _).alloc _).alloc _)
  have HGP : Hid (pc = g + 1 ∧ w.heap.size = g ∧ w2.heap.size = g + 2) := Lib.hid ⟨hgp, hg, by rw [← hw2]; simp [hpc, hgp]⟩
  have hnu := fun w' (hf : Fr (fun _ => False) w w') => rNum20_any A n c B 0 0 16 w' (hr.fr hf (fun _ _ h => h)) hc hn (Nat.zero_le _) (by omega) (by omega)
  have hat : At20 B (bnd deps k2) ⟨B, 0⟩ := by unfold At20; rw [rd_k]
  have hle := numH_le 0 16 B
  simp only [List.drop_zero] at hnu
  obtain ⟨M, hM⟩ : ∃ M, (numH 0 16 B).1 = M := ⟨_, rfl⟩
  obtain ⟨K, hK⟩ : ∃ M, (numH 0 16 B).2.1 = M := ⟨_, rfl⟩
  obtain ⟨E, hE⟩ : ∃ M, (numH 0 16 B).2.2 = M := ⟨_, rfl⟩
  have hA2 : At20 B (bnd (depS M []) k2) ⟨B.drop K, E⟩ := by
    have h : At20 B (bnd (num 16) fun k => bnd (depS k []) k2) ⟨B, 0⟩ := hat
    have h2 := h.step num_of
    rw [hM, hK, hE] at h2
    exact h2
  have hps : E = 0 → 0 < n := fun h0 => by
    rcases Nat.eq_zero_or_pos n with h1 | h1
    · have hb : B = [] := List.eq_nil_of_length_eq_zero (by rw [hBn, h1])
      subst hb
      have h2 : (numH 0 16 []).2.2 = 2 := by rfl
      rw [h2] at hE
      omega
    · exact h1
  have HPS := Lib.hid hps
  rw [hM, hK, hE] at hle
  simp only [hM, hK, hE] at hnu
  rw [hBn] at hle
  have HA := Lib.hid hA2
  obtain ⟨K', hK'⟩ : ∃ K' : Int, (if E = 0 then (K : Int) else 0) = K' := ⟨_, rfl⟩
  have HKE : Hid (E = 0 → K' = (K : Int)) := Lib.hid (fun h => by rw [← hK', if_pos h])
  have HNU : Hid (∀ w', Fr (fun _ => False) w w' → Calls Try.prog 41 #[.slice A n c, .int .i64 0, .int .u64 0, .int .u64 16] w' fun e w'' => e = .returned (.tuple #[.int .i64 (M : Int), .int .i64 K', .int .i64 (E : Int)]) ∧ Fr (fun _ => False) w' w'') := Lib.hid (fun w' hf => by
    have h := hnu w' hf
    rw [Nat.zero_add, hK'] at h
    exact h)
  have HRD := Lib.hid hr
  have HBN := Lib.hid hBn
  have HCN := Lib.hid hc
  have HLT : Hid (0 < n → ∀ ad, A = some ad → ad.block < w.heap.size) := Lib.hid hlt
  have HKN : Hid (K ≤ n ∧ n ≤ 1000000 ∧ M ≤ 16) := Lib.hid ⟨hle.1, hn, hle.2.1⟩
  clear hr hc hn hlt hBn hnu hat hle hM hK hE hA2 hgp hK' hps
  go_enter Try.func16, Try.ntmps16
  go_wp2_with (refine store_st chSz rfl (.tmp 6) (.tmp 33) rfl pc (by rfl) [.string ⟨#[]⟩, .int .i64 0, .int .i64 0, .int .i64 0, .string ⟨#[]⟩, .slice none 0 0, .slice none 0 0] (by rfl) _ _ HC2.out rfl rfl (by simp [Value.oneCell']) ?_)
  intro wb hcb hfb
  have HFB : Hid (Fr (fun _ => False) w wb) := Lib.hid (HF2.out.trans hfb (fun k hk h => by have h1 : k = pc := h; have := HGP.out; omega))
  have HGB := Lib.hid (HG2.out.fr hfb (fun h => by have h1 : g = pc := h; have := HGP.out; omega))
  have HCB := Lib.hid hcb
  have HSB : Hid (w2.heap.size ≤ wb.heap.size) := Lib.hid hfb.size
  clear hw1 hw2 hg hpc hcb hfb
  go_wp2_with fail
  refine (HNU.out wb HFB.out).mono ?_
  rintro e w3 ⟨rfl, hf3⟩
  have HF3 : Hid (Fr (fun _ => False) w w3) := Lib.hid (HFB.out.trans hf3 (fun _ _ h => h))
  have HG3 := Lib.hid (HGB.out.fr hf3 (fun h => h))
  have HC3 := Lib.hid (HCB.out.fr hf3 (fun h => h))
  have HS3 : Hid (w2.heap.size ≤ w3.heap.size) := Lib.hid (Nat.le_trans HSB.out hf3.size)
  clear hf3
  by_cases hE : E ≠ 0
  · have t1 : ((E : Int) != 0) = true := by simp; omega
    have HB := Lib.hid (HA.out.bad ((depS_sticky _ _).bnd s2) hE)
    clear hE
    go_wp2_with (refine store_st chSz rfl (.tmp 2) (.tmp 42) rfl g (by rfl) [.string ⟨#[]⟩, .int .i64 0, .int .i64 0, .int .i64 0, .string ⟨#[]⟩, .slice none 0 0, .slice none 0 0] (by rfl) _ _ HG3.out rfl rfl (by simp [Value.oneCell']) ?_)
    intro wz hz hfz
    have HZ := Lib.hid hz
    have HFZ : Hid (Fr (fun _ => False) w wz) := Lib.hid (Fr.trans HF3.out hfz (fun k hk h => by have h1 : k = g := h; have := HGP.out; omega))
    clear hz hfz
    go_wp2_with fail
    refine bodyPost_ret (v := .tuple #[.agg [.string ⟨#[]⟩, .int .i64 0, .int .i64 0, .int .i64 0, .string ⟨#[]⟩, .slice none 0 0, .slice none 0 0].toArray, .slice none 0 0, .int .i64 0, .int .i64 (E : Int)]) (by exact results_get rfl g rfl HZ.out rfl rfl rfl rfl) rfl ?_
    rw [HB.out]
    exact ⟨none, 0, none, 0, rfl, OwnH.nil _ _, fun h hh => (by cases hh), OwT.nil _ _, HFZ.out⟩
  · obtain rfl : E = 0 := by omega
    obtain rfl := HKE.out rfl
    have hps := HPS.out rfl
    have t1 : (((0 : Nat) : Int) != 0) = false := by simp
    clear hE
    go_wp2_with fail
    refine deps_loop _ _ _ _ _ _ _ _ _ _ _ _ _ _ _ _ _ _ _ _ _ _ _ _ _ _ _ _ _ _ _ _ _ _ _ _ _ _ _ _ _ _ _ _ _ _ _ _ _ _ _ _ _ _ _ _ _ _ _ _ _ _ _ _ _ _ _ _ _ _ _ _ _ _ _ _ _ _ _ _ _ _ _ _ _ _ _ _ _ _ _ _ _ _ _ _ _ _ _ _ _ _ _ _ _ _ _ _ _ _ _ _ _ _ _ _ _ _ _ _ _ _ _ _ _ _ _ _ _ _ _ _ _ _ _ _ _ _ _ _ _ _ _ _ _ _ _ _ _ _ _ _ _ _ _ _ _ _ _ _ _ _ _ _ _ _ _ _ _ _ _ _ _ _ _ _ _ _ _ _ _ _ _ _ _ _ _ _ _ _ _ _ _ _ _ _ _ _ _ _ _ _ _ _ _ _ _ _ _ _ _ _ _ _ _ _ _ _ _ _ _ _ _ _ _ _ A n c K g pc M B w3 (Lib.hid (HRD.out.fr HF3.out (fun _ _ h => h))) HBN HKN.out.1 HKN.out.2.1 HKN.out.2.2 (Lib.hid ⟨by have := HGP.out; omega, ⟨by have := HGP.out; have := HS3.out; omega, by have := HGP.out; have := HS3.out; omega⟩, fun ad e => by have := HLT.out hps ad e; have := HF3.out.size; omega, fun ad e => by have := HLT.out hps ad e; have := HGP.out; omega⟩) HC3 HG3 HA ?_ ?_
    rotate_left
    · intro wz E z0 z1 z2 z3 z4 z5 z6 z7 z8 z9 z10 z11 z12 z13 z14 z15 z16 z17 z18 z19 z20 z21 z22 z23 z24 z25 z26 z27 z28 z29 z30 z31 z32 z33 z34 z35 z36 z37 z38 z39 z40 z41 z42 z43 z44 z45 z46 z47 z48 z49 hb hz hfz
      have HZ := Lib.hid hz
      have HB := Lib.hid hb
      have HFZ : Hid (Fr (fun _ => False) w wz) := Lib.hid (HF3.out.trans hfz (fun k hk h => by have h1 : k = pc ∨ k = g := h; have := HGP.out; omega))
      clear hz hfz hb
      go_wp2_with fail
      refine bodyPost_ret (v := .tuple #[.agg [.string ⟨#[]⟩, .int .i64 0, .int .i64 0, .int .i64 0, .string ⟨#[]⟩, .slice none 0 0, .slice none 0 0].toArray, .slice none 0 0, .int .i64 0, .int .i64 (E : Int)]) (by exact results_get rfl g rfl HZ.out rfl rfl rfl rfl) rfl ?_
      rw [HB.out]
      exact ⟨none, 0, none, 0, rfl, OwnH.nil _ _, fun h hh => (by cases hh), OwT.nil _ _, HFZ.out⟩
    · intro w4 s D A1 c1 r0 r1 r2 r3 r4 r5 r6 r7 r8 r9 r10 r11 r12 r13 r14 r15 r16 r17 r18 r19 r20 r21 r22 r23 r24 r25 r26 r27 r28 r29 r30 r31 r32 r33 r34 r35 r36 r37 r38 r39 r40 r41 r42 r43 r44 r45 r46 r47 r48 r49 r50 r51 hs hDl h32 hrs ho hc hat hf4
      have HDL := Lib.hid hDl
      have H32 := Lib.hid h32
      have HO4 := Lib.hid ho
      have HC4 := Lib.hid hc
      have HF4 : Hid (Fr (fun _ => False) w w4) := Lib.hid (HF3.out.trans hf4 (fun k hk h => by have h1 : k = pc := h; have := HGP.out; omega))
      have HG4 := Lib.hid (HG3.out.fr hf4 (fun h => by have h1 : g = pc := h; have := HGP.out; omega))
      have HS4 : Hid (w2.heap.size ≤ w4.heap.size ∧ w2.heap.size ≤ w3.heap.size) := Lib.hid ⟨by have := HS3.out; have := hf4.size; omega, HS3.out⟩
      have HRD4 := Lib.hid (HRD.out.fr HF4.out (fun _ _ h => h))
      have hn6 := HKN.out.2.1
      have HT := Lib.hid (rText20_any A n c B s 1 16 w4 HRD4.out HCN.out hn6 hs (by omega) (by omega))
      have hst := text_at (f := pos 16) (lo := 1) (hi := 16) (L := B.drop s) pos_yes pos_err hat (s3 D)
      have hle := textH_le 1 16 (B.drop s)
      rw [List.length_drop, HBN.out] at hle
      obtain ⟨a, ha⟩ : ∃ a, (textH 1 16 (B.drop s)).1 = a := ⟨_, rfl⟩
      obtain ⟨K1, hK1⟩ : ∃ K, (textH 1 16 (B.drop s)).2.1 = K := ⟨_, rfl⟩
      obtain ⟨E1, hE1⟩ : ∃ K, (textH 1 16 (B.drop s)).2.2 = K := ⟨_, rfl⟩
      rw [ha, hK1, hE1] at HT hst hle
      clear hDl h32 hrs ho hc hat hf4 ha hK1 hE1 hn6
      by_cases hE : E1 ≠ 0
      · have t2 : ((E1 : Int) != 0) = true := by simp; omega
        have HB := Lib.hid (hst.1 hE)
        rw [if_neg hE] at HT
        clear hst hE hle
        go_wp2_with fail
        refine HT.out.mono ?_
        rintro e w5 ⟨rfl, hf5⟩
        have HFF := Lib.hid hf5
        clear hf5
        go_wp2_with (refine store_st chSz rfl (.tmp 2) (.tmp 99) rfl g (by rfl) [.string ⟨#[]⟩, .int .i64 0, .int .i64 0, .int .i64 0, .string ⟨#[]⟩, .slice none 0 0, .slice none 0 0] (by rfl) _ _ (HG4.out.fr HFF.out (fun h => h)) rfl rfl (by simp [Value.oneCell']) ?_)
        intro wz hz hfz
        have HZ := Lib.hid hz
        have HFZ : Hid (Fr (fun _ => False) w wz) := Lib.hid (Fr.trans (HF4.out.trans HFF.out (fun _ _ h => h)) hfz (fun k hk h => by have h1 : k = g := h; have := HGP.out; omega))
        clear hz hfz
        go_wp2_with fail
        refine bodyPost_ret (v := .tuple #[.agg [.string ⟨#[]⟩, .int .i64 0, .int .i64 0, .int .i64 0, .string ⟨#[]⟩, .slice none 0 0, .slice none 0 0].toArray, .slice none 0 0, .int .i64 0, .int .i64 (E1 : Int)]) (by exact results_get rfl g rfl HZ.out rfl rfl rfl rfl) rfl ?_
        rw [HB.out]
        exact ⟨none, 0, none, 0, rfl, OwnH.nil _ _, fun h hh => (by cases hh), OwT.nil _ _, HFZ.out⟩
      · obtain rfl : E1 = 0 := by omega
        have t2 : (((0 : Nat) : Int) != 0) = false := by simp
        rw [if_pos rfl] at HT
        have hat := hst.2 rfl
        rw [List.drop_drop] at hat
        obtain ⟨p1, hp1⟩ : ∃ q, s + K1 = q := ⟨_, rfl⟩
        rw [hp1] at HT hat
        have hp1n : p1 ≤ n := by omega
        have ha16 := hle.2.1
        have HA16 := Lib.hid ha16
        clear hst hE hle ha16
        go_wp2_with fail
        refine HT.out.mono ?_
        rintro e w5 ⟨rfl, hf5⟩
        have HF45 := Lib.hid hf5
        clear hf5 HT
        have HNE2 := Lib.hid (rNum20_any A n c B p1 1 9007199254740991 w5 (HRD4.out.fr HF45.out (fun _ _ h => h)) HCN.out HKN.out.2.1 hp1n (by omega) (by omega))
        have hst := pos_at (L := B.drop p1) hat (s4 D a)
        have hle := numH_le 1 9007199254740991 (B.drop p1)
        rw [List.length_drop, HBN.out] at hle
        obtain ⟨q, ha⟩ : ∃ a, (numH 1 9007199254740991 (B.drop p1)).1 = a := ⟨_, rfl⟩
        obtain ⟨K2, hK⟩ : ∃ K, (numH 1 9007199254740991 (B.drop p1)).2.1 = K := ⟨_, rfl⟩
        obtain ⟨E2, hEE⟩ : ∃ K, (numH 1 9007199254740991 (B.drop p1)).2.2 = K := ⟨_, rfl⟩
        rw [ha, hK, hEE] at HNE2 hst hle
        clear hat ha hK hEE
        by_cases hE : E2 ≠ 0
        · have tE2 : ((E2 : Int) != 0) = true := by simp; omega
          have HB := Lib.hid (hst.1 hE)
          rw [if_neg hE] at HNE2
          clear hst hE hle
          go_wp2_with fail
          refine HNE2.out.mono ?_
          rintro e w6 ⟨rfl, hff⟩
          have HFF := Lib.hid (Fr.trans HF45.out hff (fun _ _ h => h))
          clear hff
          go_wp2_with (refine store_st chSz rfl (.tmp 2) (.tmp 111) rfl g (by rfl) [.string ⟨#[]⟩, .int .i64 0, .int .i64 0, .int .i64 0, .string ⟨#[]⟩, .slice none 0 0, .slice none 0 0] (by rfl) _ _ (HG4.out.fr HFF.out (fun h => h)) rfl rfl (by simp [Value.oneCell']) ?_)
          intro wz hz hfz
          have HZ := Lib.hid hz
          have HFZ : Hid (Fr (fun _ => False) w wz) := Lib.hid (Fr.trans (HF4.out.trans HFF.out (fun _ _ h => h)) hfz (fun k hk h => by have h1 : k = g := h; have := HGP.out; omega))
          clear hz hfz
          go_wp2_with fail
          refine bodyPost_ret (v := .tuple #[.agg [.string ⟨#[]⟩, .int .i64 0, .int .i64 0, .int .i64 0, .string ⟨#[]⟩, .slice none 0 0, .slice none 0 0].toArray, .slice none 0 0, .int .i64 0, .int .i64 (E2 : Int)]) (by exact results_get rfl g rfl HZ.out rfl rfl rfl rfl) rfl ?_
          rw [HB.out]
          exact ⟨none, 0, none, 0, rfl, OwnH.nil _ _, fun h hh => (by cases hh), OwT.nil _ _, HFZ.out⟩
        · obtain rfl : E2 = 0 := by omega
          have tE2 : (((0 : Nat) : Int) != 0) = false := by simp
          rw [if_pos rfl] at HNE2
          have hat := hst.2 rfl
          rw [List.drop_drop] at hat
          obtain ⟨p2, hpp⟩ : ∃ q, p1 + K2 = q := ⟨_, rfl⟩
          rw [hpp] at HNE2 hat
          have hp2n : p2 ≤ n := by omega
          have HVE2 : Hid (q ≤ 9007199254740991) := Lib.hid hle.2.1
          clear hst hE hle hpp
          go_wp2_with fail
          refine HNE2.out.mono ?_
          rintro e w6 ⟨rfl, hff⟩
          have HF4w6 := Lib.hid (Fr.trans HF45.out hff (fun _ _ h => h))
          clear hff HNE2
          have HNE3 := Lib.hid (rNum20_any A n c B p2 1 9007199254740991 w6 (HRD4.out.fr HF4w6.out (fun _ _ h => h)) HCN.out HKN.out.2.1 hp2n (by omega) (by omega))
          have hst := pos_at (L := B.drop p2) hat (s5 D a q)
          have hle := numH_le 1 9007199254740991 (B.drop p2)
          rw [List.length_drop, HBN.out] at hle
          obtain ⟨st, ha⟩ : ∃ a, (numH 1 9007199254740991 (B.drop p2)).1 = a := ⟨_, rfl⟩
          obtain ⟨K3, hK⟩ : ∃ K, (numH 1 9007199254740991 (B.drop p2)).2.1 = K := ⟨_, rfl⟩
          obtain ⟨E3, hEE⟩ : ∃ K, (numH 1 9007199254740991 (B.drop p2)).2.2 = K := ⟨_, rfl⟩
          rw [ha, hK, hEE] at HNE3 hst hle
          clear hat ha hK hEE
          by_cases hE : E3 ≠ 0
          · have tE3 : ((E3 : Int) != 0) = true := by simp; omega
            have HB := Lib.hid (hst.1 hE)
            rw [if_neg hE] at HNE3
            clear hst hE hle
            go_wp2_with fail
            refine HNE3.out.mono ?_
            rintro e w7 ⟨rfl, hff⟩
            have HFF := Lib.hid (Fr.trans HF4w6.out hff (fun _ _ h => h))
            clear hff
            go_wp2_with (refine store_st chSz rfl (.tmp 2) (.tmp 123) rfl g (by rfl) [.string ⟨#[]⟩, .int .i64 0, .int .i64 0, .int .i64 0, .string ⟨#[]⟩, .slice none 0 0, .slice none 0 0] (by rfl) _ _ (HG4.out.fr HFF.out (fun h => h)) rfl rfl (by simp [Value.oneCell']) ?_)
            intro wz hz hfz
            have HZ := Lib.hid hz
            have HFZ : Hid (Fr (fun _ => False) w wz) := Lib.hid (Fr.trans (HF4.out.trans HFF.out (fun _ _ h => h)) hfz (fun k hk h => by have h1 : k = g := h; have := HGP.out; omega))
            clear hz hfz
            go_wp2_with fail
            refine bodyPost_ret (v := .tuple #[.agg [.string ⟨#[]⟩, .int .i64 0, .int .i64 0, .int .i64 0, .string ⟨#[]⟩, .slice none 0 0, .slice none 0 0].toArray, .slice none 0 0, .int .i64 0, .int .i64 (E3 : Int)]) (by exact results_get rfl g rfl HZ.out rfl rfl rfl rfl) rfl ?_
            rw [HB.out]
            exact ⟨none, 0, none, 0, rfl, OwnH.nil _ _, fun h hh => (by cases hh), OwT.nil _ _, HFZ.out⟩
          · obtain rfl : E3 = 0 := by omega
            have tE3 : (((0 : Nat) : Int) != 0) = false := by simp
            rw [if_pos rfl] at HNE3
            have hat := hst.2 rfl
            rw [List.drop_drop] at hat
            obtain ⟨p3, hpp⟩ : ∃ q, p2 + K3 = q := ⟨_, rfl⟩
            rw [hpp] at HNE3 hat
            have hp3n : p3 ≤ n := by omega
            have HVE3 : Hid (st ≤ 9007199254740991) := Lib.hid hle.2.1
            clear hst hE hle hpp
            go_wp2_with fail
            refine HNE3.out.mono ?_
            rintro e w7 ⟨rfl, hff⟩
            have HF4w7 := Lib.hid (Fr.trans HF4w6.out hff (fun _ _ h => h))
            clear hff HNE3
            have hrd := rd_from (HRD4.out.fr HF4w7.out (fun _ _ h => h)) hp3n HCN.out
            rw [← List.map_drop] at hrd
            have hsp := rspan_any (cutAt A c p3) (n - p3) (c - p3) (B.drop p3) w7 hrd
            have hcut3 := fun w' => run_fromB A n c p3 hp3n (p3 : Int) rfl w'
            have hst := sig_at (L := B.drop p3) hat (s6 D a q st)
            have hkl := spanK_le (B.drop p3)
            rw [List.length_drop, HBN.out] at hkl
            have hXt := fun h => span_take (B := B.drop p3) h
            have hsgn := fun h => sign_of (hXt h).1 (hXt h).2.1
            have hspl := fun h => span_of (hXt h).1 (hXt h).2.1
            obtain ⟨E4, hE4⟩ : ∃ E, spanE (B.drop p3) = E := ⟨_, rfl⟩
            obtain ⟨k, hk⟩ : ∃ k, spanK (B.drop p3) = k := ⟨_, rfl⟩
            obtain ⟨X, hX⟩ : ∃ X, (B.drop p3).take k = X := ⟨_, rfl⟩
            rw [hE4, hk] at hsp
            rw [hE4, hk, hX] at hst
            simp only [hE4, hk, hX] at hXt hsgn hspl
            rw [hk] at hkl
            have HSP := Lib.hid hsp
            clear hat hrd hsp hE4 hk
            by_cases hE : E4 ≠ 0
            · have tE4 : ((E4 : Int) != 0) = true := by simp; omega
              have HB := Lib.hid (hst.1 hE)
              clear hst hE hkl hXt hsgn hspl hX
              go_wp2_with fail
              refine HSP.out.mono ?_
              rintro e w8 ⟨rfl, rfl⟩
              go_wp2_with (refine store_st chSz rfl (.tmp 2) (.tmp 134) rfl g (by rfl) [.string ⟨#[]⟩, .int .i64 0, .int .i64 0, .int .i64 0, .string ⟨#[]⟩, .slice none 0 0, .slice none 0 0] (by rfl) _ _ (HG4.out.fr HF4w7.out (fun h => h)) rfl rfl (by simp [Value.oneCell']) ?_)
              intro wz hz hfz
              have HZ := Lib.hid hz
              have HFZ : Hid (Fr (fun _ => False) w wz) := Lib.hid (Fr.trans (HF4.out.trans HF4w7.out (fun _ _ h => h)) hfz (fun k hk h => by have h1 : k = g := h; have := HGP.out; omega))
              clear hz hfz
              go_wp2_with fail
              refine bodyPost_ret (v := .tuple #[.agg [.string ⟨#[]⟩, .int .i64 0, .int .i64 0, .int .i64 0, .string ⟨#[]⟩, .slice none 0 0, .slice none 0 0].toArray, .slice none 0 0, .int .i64 0, .int .i64 (E4 : Int)]) (by exact results_get rfl g rfl HZ.out rfl rfl rfl rfl) rfl ?_
              rw [HB.out]
              exact ⟨none, 0, none, 0, rfl, OwnH.nil _ _, fun h hh => (by cases hh), OwT.nil _ _, HFZ.out⟩
            · obtain rfl : E4 = 0 := by omega
              have tE4 : (((0 : Nat) : Int) != 0) = false := by simp
              have hst2 := hst.2 rfl
              clear hst
              have hk1 := (hXt rfl).2.2
              have hXl : X.length = k := by rw [← hX, List.length_take, List.length_drop, HBN.out]; omega
              have hsg := hsgn rfl
              have hll := last_lt (hspl rfl).1
              have hlg := last_get (l := X) (by intro h; rw [h] at hXl; simp at hXl; omega)
              rw [hXl] at hsg hlg
              obtain ⟨k1, hk1e⟩ : ∃ k1, k1 + 1 = k := ⟨k - 1, by omega⟩
              have rk : IntKind.i64.wrap ((k : Int) - 1) = (k1 : Int) := by rw [IntKind.wrap_i64]; omega
              have hXb : B[p3 + k1]? = some (UInt8.ofNat (last X)) := by
                have h := hlg
                rw [← hX, show k - 1 = k1 by omega, List.getElem?_take_of_lt (by omega), List.getElem?_drop, hX] at h
                exact h
              obtain ⟨M7, hM7⟩ : ∃ M, vd X 0 = M := ⟨_, rfl⟩
              obtain ⟨NN, hNN⟩ : ∃ N, sgn M7 k = N := ⟨_, rfl⟩
              rw [hM7] at hsg hst2
              have hMl : M7 < 18446744073709551616 := by rw [← hM7]; exact vd_lt _ _
              rw [hNN] at hsg hst2
              obtain ⟨l, hl⟩ : ∃ l, last X = l := ⟨_, rfl⟩
              rw [hl] at hsg hll hXb
              have HX := Lib.hid hX
              have HXL := Lib.hid hXl
              have HM7 := Lib.hid hM7
              have HST := Lib.hid hst2
              have HSG := Lib.hid hsg
              have hk10 := hkl.2
              have hpk : p3 + k ≤ n := by omega
              clear hst2 hsg hsgn hE hkl hXt hspl hlg hX hXl hM7 hNN hl
              go_wp2_with fail
              refine HSP.out.mono ?_
              rintro e w8 ⟨rfl, rfl⟩
              clear hcut3
              go_wp2_with fail
              refine sgn_loop _ _ _ _ _ _ _ _ _ _ _ _ _ _ _ _ _ _ _ _ _ _ _ _ _ _ _ _ _ _ _ _ _ _ _ _ _ _ _ _ _ _ _ _ _ _ _ _ _ _ _ _ _ _ _ _ _ _ _ _ _ _ _ _ _ _ _ _ _ _ _ _ _ _ _ _ _ _ _ _ _ _ _ _ _ _ _ _ _ _ _ _ _ _ _ _ _ _ _ _ _ _ _ _ _ _ _ _ _ _ _ _ _ _ _ _ _ _ _ _ _ _ _ _ _ _ _ _ _ _ _ _ _ _ _ _ _ _ _ _ _ _ _ _ _ _ _ _ _ _ _ _ _ _ _ _ _ _ _ _ _ _ _ _ _ _ _ _ _ _ _ _ _ _ _ _ _ _ _ _ _ _ _ _ _ _ _ _ _ _ _ _ _ _ _ _ _ _ _ _ _ _ _ _ _ _ _ _ _ _ _ _ _ _ _ _ _ _ _ _ _ _ _ _ _ _ _ A n c p3 k k1 B X w7 (Lib.hid (HRD4.out.fr HF4w7.out (fun _ _ h => h))) hpk HKN.out.2.1 hk1e HX HXL ?_
              intro y0 y1 y2 y3 y4 y5 y6 y7 y8 y9 y10 y11 y12 y13 y14 y15
              rw [HM7.out]
              obtain ⟨ad, v, rfl, hv, hcell⟩ := (HRD4.out.fr HF4w7.out (fun _ _ h => h)).at_ (show p3 + k1 < n by omega)
              obtain rfl : bytec (UInt8.ofNat l) = v := by simpa [hXb] using hv
              rw [bytec_ofNat (by omega)] at hcell
              obtain ⟨p4, hp4⟩ : ∃ p, p3 + k = p := ⟨_, rfl⟩
              have hp4n : p4 ≤ n := by omega
              have hp34 : p3 ≤ p4 := by omega
              have hbn : p3 + k1 < n := by omega
              have hbn2 : (p3 : Int) + (k1 : Int) < (n : Int) := by omega
              have hbn3 : 0 ≤ (p3 : Int) + (k1 : Int) := by omega
              have q1 : IntKind.i64.wrap ((p3 : Int) + (k : Int)) = (p4 : Int) := by rw [IntKind.wrap_i64]; have := HKN.out; omega
              have q2 : IntKind.i64.wrap ((p4 : Int) - 1) = ((p3 + k1 : Nat) : Int) := by rw [IntKind.wrap_i64]; have := HKN.out; omega
              have hsgn := HSG.out
              have hNb : -9223372036854775808 ≤ NN ∧ NN < 9223372036854775808 := by rw [hsgn]; unfold wrap64; omega
              have HSS := Lib.hid (fun w' => rS_any NN w' hNb.1 hNb.2)
              have HNB := Lib.hid hNb
              obtain ⟨YY, hYY⟩ : ∃ Y, LebM.s NN = Y := ⟨_, rfl⟩
              rw [hYY] at HSS HST
              clear hv hXb hNb hYY
              have hcs : (k < 10 ∧ 64 ≤ l ∧ ∃ DD : Int, (2 : Int) ^ (7 * k) = DD ∧ IntKind.u64.wrap ((2 : Int) ^ (7 * k)) = DD ∧ ∃ R : Int, IntKind.u64.wrap ((M7 : Int) - DD) = R ∧ IntKind.i64.wrap R = NN) ∨ (¬ k < 10 ∧ IntKind.i64.wrap (M7 : Int) = NN) ∨ (k < 10 ∧ ¬ 64 ≤ l ∧ IntKind.i64.wrap (M7 : Int) = NN) := by
                by_cases h1 : k < 10
                · by_cases h2 : 64 ≤ l
                  · refine .inl ⟨h1, h2, (2 : Int) ^ (7 * k), rfl, ?_, _, rfl, ?_⟩
                    · have hc : k = 1 ∨ k = 2 ∨ k = 3 ∨ k = 4 ∨ k = 5 ∨ k = 6 ∨ k = 7 ∨ k = 8 ∨ k = 9 := by omega
                      rcases hc with rfl | rfl | rfl | rfl | rfl | rfl | rfl | rfl | rfl <;> decide
                    · rw [if_pos ⟨h1, h2⟩] at hsgn
                      rw [IntKind.wrap_u64, IntKind.wrap_i64, hsgn]
                      obtain ⟨R, hR⟩ : ∃ R : Int, ((M7 : Int) - (2 : Int) ^ (7 * k)) % 18446744073709551616 = R := ⟨_, rfl⟩
                      rw [hR]; unfold wrap64; omega
                  · rw [if_neg (by omega)] at hsgn
                    exact .inr (.inr ⟨h1, h2, by rw [IntKind.wrap_i64, hsgn]; unfold wrap64; omega⟩)
                · rw [if_neg (by omega)] at hsgn
                  exact .inr (.inl ⟨h1, by rw [IntKind.wrap_i64, hsgn]; unfold wrap64; omega⟩)
              clear hsgn HSG hll hMl
              have hcut := fun w' => run_cutB (some ad) n c p3 p4 hp34 hp4n HCN.out (p3 : Int) (p4 : Int) rfl rfl w'
              have hstr := fun w' (hf : Fr (fun _ => False) w7 w') => str_rd (n := p4 - p3) (B := X) (by rw [← HX.out]; have h := rd_cut ((HRD4.out.fr HF4w7.out (fun _ _ h => h)).fr hf (fun _ _ h => h)) (f := p3) (y := p4) hp34 hp4n HCN.out; have e := mid_map B p3 0 k; rw [List.drop_zero, Nat.add_zero, hp4] at e; rwa [e] at h) (c - p3)
              have hdd : (B.drop p3).drop k = B.drop p4 := by rw [List.drop_drop, hp4]
              rw [hdd] at HST
              obtain ⟨A3, hA3⟩ : ∃ A3, cutAt (some ad) c p3 = A3 := ⟨_, rfl⟩
              obtain ⟨n3, hn3⟩ : ∃ n3, p4 - p3 = n3 := ⟨_, rfl⟩
              obtain ⟨c3, hc3⟩ : ∃ c3, c - p3 = c3 := ⟨_, rfl⟩
              simp only [hA3, hn3, hc3] at hcut hstr
              have HCUT := Lib.hid hcut
              have HSTR := Lib.hid hstr
              clear hA3 hn3 hc3 hcut hstr hdd
              by_cases hq : YY = X
              · subst hq
                have HAT := Lib.hid (HST.out.2 rfl)
                clear HST
                rcases hcs with ⟨h1, h2, DD, hD, r1, R, r2, r3⟩ | ⟨h1, r3⟩ | ⟨h1, h2, r3⟩
                · have t5 : decide ((k : Int) < 10) = true := by simp; omega
                  have t5' : decide (k < 10) = true := by simp; omega
                  have t6 : decide ((64 : Int) ≤ (l : Int)) = true := by simp; omega
                  have t6' : decide (64 ≤ l) = true := by simp; omega
                  have hn2 : (k : Int) < 10 := by omega
                  have hn3 : 7 * (k : Int) < 64 := by omega
                  rw [hD] at r1
                  clear hk1 hk10 hk1e hp4 hp34
                  go_upto_region 39 with fail
                  refine wp_region_held_drew (S := fun w' => Fr (fun _ => False) w7 w') (by kernel_rfl) (Fr.refl _ _).drew (fun hH => ?_)
                  refine tk 0 hH ?_
                  refine tk 1 hH ?_
                  refine tk 4 hH ?_
                  refine tk 5 hH ?_
                  refine tk 6 hH ?_
                  refine tk 7 hH ?_
                  refine tk 8 hH ?_
                  refine tk 9 hH ?_ (hy := by intro w hSw; have kk := HCUT.out w; go_simp; try (with_reducible rfl))
                  refine tk 10 hH ?_ (hy := by intro w hSw; (try dsimp only at hSw); have kk := HSTR.out w hSw; go_simp; try (with_reducible rfl))
                  refine rdo 2 (fun Kx hKx => ?_)
                  go_simp
                  have hcon := HSS.out w7.drew
                  with_reducible refine hcon.mono ?_
                  clear hcon
                  rintro e' w8 ⟨A8, c8, rfl, ho8, hff⟩
                  have hf8 : Fr (fun _ => False) w7 w8 := (Fr.refl _ _).drew.trans hff (fun _ _ h => h)
                  have HS8 := Lib.hid (fun w' (hf : Fr (fun _ => False) w8 w') => (ho8.fr hf).str)
                  have HF4w8 : Hid (Fr (fun _ => False) w4 w8) := Lib.hid (HF4w7.out.trans hf8 (fun _ _ h => h))
                  have HF78 := Lib.hid hf8
                  refine hKx.out _ _ hf8 (fun hH => ?_)
                  clear hKx Kx hff hf8 ho8
                  (try simp only [Act.put, List.setIfInBounds_toArray, List.set_cons_zero, List.set_cons_succ, List.getElem_toArray, List.getElem_cons_zero, List.getElem_cons_succ])
                  refine wpAnyH_more (fun w' => Fr (fun _ => False) w8 w') (fun _ h => HF78.out.trans h (fun _ _ h => h)) ?_ (fun hH => ?_)
                  · exact Fr.refl _ _
                  refine tk 3 hH ?_ (hy := by intro w hSw; (try dsimp only at hSw); have kk := HS8.out w hSw; go_simp; try (with_reducible rfl))
                  refine tk 11 hH ?_
                  refine wpAnyH_done (by kernel_rfl) ?_ _
                  have ht5 := rText20_any (some ad) n c B p4 0 1000 w8 (HRD4.out.fr HF4w8.out (fun _ _ h => h)) HCN.out HKN.out.2.1 hp4n (by omega) (by omega)
                  have hst5 := text_at (f := num 1000) (lo := 0) (hi := 1000) (L := B.drop p4) (g := fun m => k7 D a q st NN m) (fun h => by rw [num_of, h]) (by rw [num_of]) HAT.out (s7 D a q st NN)
                  have hle5 := textH_le 0 1000 (B.drop p4)
                  rw [List.length_drop, HBN.out] at hle5
                  obtain ⟨m, hm⟩ : ∃ a, (textH 0 1000 (B.drop p4)).1 = a := ⟨_, rfl⟩
                  obtain ⟨K5, hK5⟩ : ∃ K, (textH 0 1000 (B.drop p4)).2.1 = K := ⟨_, rfl⟩
                  obtain ⟨E5, hE5⟩ : ∃ K, (textH 0 1000 (B.drop p4)).2.2 = K := ⟨_, rfl⟩
                  rw [hm, hK5, hE5] at ht5 hst5 hle5
                  have HT5 := Lib.hid ht5
                  clear ht5 hm hK5 hE5
                  by_cases hE : E5 ≠ 0
                  · have t7 : ((E5 : Int) != 0) = true := by simp; omega
                    have HB := Lib.hid (hst5.1 hE)
                    rw [if_neg hE] at HT5
                    clear hst5 hE hle5
                    go_wp2_with fail
                    refine HT5.out.mono ?_
                    rintro e w9 ⟨rfl, hf⟩
                    have HFF : Hid (Fr (fun _ => False) w4 w9) := Lib.hid (HF4w8.out.trans hf (fun _ _ h => h))
                    clear hf
                    go_wp2_with (refine store_st chSz rfl (.tmp 2) (.tmp 194) rfl g (by rfl) [.string ⟨#[]⟩, .int .i64 0, .int .i64 0, .int .i64 0, .string ⟨#[]⟩, .slice none 0 0, .slice none 0 0] (by rfl) _ _ (HG4.out.fr HFF.out (fun h => h)) rfl rfl (by simp [Value.oneCell']) ?_)
                    intro wz hz hfz
                    have HZ := Lib.hid hz
                    have HFZ : Hid (Fr (fun _ => False) w wz) := Lib.hid (Fr.trans (HF4.out.trans HFF.out (fun _ _ h => h)) hfz (fun k hk h => by have h1 : k = g := h; have := HGP.out; omega))
                    clear hz hfz
                    go_wp2_with fail
                    refine bodyPost_ret (v := .tuple #[.agg [.string ⟨#[]⟩, .int .i64 0, .int .i64 0, .int .i64 0, .string ⟨#[]⟩, .slice none 0 0, .slice none 0 0].toArray, .slice none 0 0, .int .i64 0, .int .i64 (E5 : Int)]) (by exact results_get rfl g rfl HZ.out rfl rfl rfl rfl) rfl ?_
                    rw [HB.out]
                    exact ⟨none, 0, none, 0, rfl, OwnH.nil _ _, fun h hh => (by cases hh), OwT.nil _ _, HFZ.out⟩
                  · obtain rfl : E5 = 0 := by omega
                    have t7 : (((0 : Nat) : Int) != 0) = false := by simp
                    rw [if_pos rfl] at HT5
                    have hat5 := hst5.2 rfl
                    rw [List.drop_drop] at hat5
                    obtain ⟨p5, hp5⟩ : ∃ q, p4 + K5 = q := ⟨_, rfl⟩
                    rw [hp5] at HT5 hat5
                    have hp5n : p5 ≤ n := by omega
                    have hml := hle5.2.1
                    have hsz := txt_sz m
                    have hwl := wh_le m
                    have hck := chk_at hat5
                    have HW := Lib.hid (fun w' => rWhere_any m w' (by omega))
                    obtain ⟨nm, hnm⟩ : ∃ x, m.length = x := ⟨_, rfl⟩
                    obtain ⟨zw, hzw⟩ : ∃ x, wh m = x := ⟨_, rfl⟩
                    rw [hzw] at hck hwl HW
                    rw [hnm] at hck hwl hsz hml
                    clear hst5 hE hle5 hat5 hnm hzw hp5
                    by_cases hlw : zw < nm
                    · have t8 : decide ((zw : Int) < (nm : Int)) = true := by simp; omega
                      have t8' : decide (zw < nm) = true := by simp; omega
                      have HB := Lib.hid (hck.1 hlw)
                      clear hck hlw hwl
                      go_wp2_with fail
                      refine HT5.out.mono ?_
                      rintro e w9 ⟨rfl, hf⟩
                      have HF4w9 : Hid (Fr (fun _ => False) w4 w9) := Lib.hid (HF4w8.out.trans hf (fun _ _ h => h))
                      clear hf
                      go_wp2_with fail
                      refine (HW.out w9).mono ?_
                      rintro e w10 ⟨rfl, hf⟩
                      have HFF : Hid (Fr (fun _ => False) w4 w10) := Lib.hid (HF4w9.out.trans hf (fun _ _ h => h))
                      clear hf
                      go_wp2_with (refine store_st chSz rfl (.tmp 2) (.tmp 201) rfl g (by rfl) [.string ⟨#[]⟩, .int .i64 0, .int .i64 0, .int .i64 0, .string ⟨#[]⟩, .slice none 0 0, .slice none 0 0] (by rfl) _ _ (HG4.out.fr HFF.out (fun h => h)) rfl rfl (by simp [Value.oneCell']) ?_)
                      intro wz hz hfz
                      have HZ := Lib.hid hz
                      have HFZ : Hid (Fr (fun _ => False) w wz) := Lib.hid (Fr.trans (HF4.out.trans HFF.out (fun _ _ h => h)) hfz (fun k hk h => by have h1 : k = g := h; have := HGP.out; omega))
                      clear hz hfz
                      go_wp2_with fail
                      refine bodyPost_ret (v := .tuple #[.agg [.string ⟨#[]⟩, .int .i64 0, .int .i64 0, .int .i64 0, .string ⟨#[]⟩, .slice none 0 0, .slice none 0 0].toArray, .slice none 0 0, .int .i64 0, .int .i64 3]) (by exact results_get rfl g rfl HZ.out rfl rfl rfl rfl) rfl ?_
                      rw [HB.out]
                      exact ⟨none, 0, none, 0, rfl, OwnH.nil _ _, fun h hh => (by cases hh), OwT.nil _ _, HFZ.out⟩
                    · have t8 : decide ((zw : Int) < (nm : Int)) = false := by simp; omega
                      have t8' : decide (zw < nm) = false := by simp; omega
                      have hfin := fin_at (hck.2 (by omega))
                      simp only at hfin
                      have hgl := get_le20 a (B.drop p5)
                      rw [List.length_drop, HBN.out] at hgl
                      have hln : B.length - ((B.drop p5).drop (getA a (B.drop p5)).2.1).length = p5 + (getA a (B.drop p5)).2.1 := by rw [List.length_drop, List.length_drop, HBN.out]; omega
                      rw [hln] at hfin
                      have hcut5 := fun w' => run_fromB (some ad) n c p5 hp5n (p5 : Int) rfl w'
                      have hag := fun w' (hf : Fr (fun _ => False) w4 w') => racGet_any a (cutAt (some ad) c p5) (n - p5) (c - p5) (B.drop p5) w' (by have h := rd_from (HRD4.out.fr hf (fun _ _ h => h)) hp5n HCN.out; rwa [← List.map_drop] at h) (by have := HCN.out; omega) (by have := HKN.out; omega)
                      obtain ⟨T, hT⟩ : ∃ T, (getA a (B.drop p5)).1 = T := ⟨_, rfl⟩
                      obtain ⟨K6, hK6⟩ : ∃ T, (getA a (B.drop p5)).2.1 = T := ⟨_, rfl⟩
                      obtain ⟨E6, hE6⟩ : ∃ T, (getA a (B.drop p5)).2.2 = T := ⟨_, rfl⟩
                      rw [hT, hK6, hE6] at hfin
                      simp only [hT, hK6, hE6] at hag
                      rw [hK6] at hgl
                      obtain ⟨nt, hnt⟩ : ∃ x, T.length = x := ⟨_, rfl⟩
                      simp only [hnt] at hag
                      obtain ⟨A5, hA5⟩ : ∃ A3, cutAt (some ad) c p5 = A3 := ⟨_, rfl⟩
                      obtain ⟨n5, hn5⟩ : ∃ n3, n - p5 = n3 := ⟨_, rfl⟩
                      obtain ⟨c5, hc5⟩ : ∃ c3, c - p5 = c3 := ⟨_, rfl⟩
                      simp only [hA5, hn5, hc5] at hcut5 hag
                      have r9 : IntKind.i64.wrap ((p5 : Int) + (K6 : Int)) = ((p5 + K6 : Nat) : Int) := by rw [IntKind.wrap_i64]; have := HKN.out; omega
                      have HAG := Lib.hid hag
                      have HFIN := Lib.hid hfin
                      have HNT := Lib.hid hnt
                      clear hck hlw hwl hfin hgl hln hag hT hK6 hE6 hnt hA5 hn5 hc5
                      go_wp2_with fail
                      refine HT5.out.mono ?_
                      rintro e w9 ⟨rfl, hf⟩
                      have HF4w9 : Hid (Fr (fun _ => False) w4 w9) := Lib.hid (HF4w8.out.trans hf (fun _ _ h => h))
                      clear hf
                      go_wp2_with fail
                      refine (HW.out w9).mono ?_
                      rintro e w10 ⟨rfl, hf⟩
                      have HF4wa : Hid (Fr (fun _ => False) w4 w10) := Lib.hid (HF4w9.out.trans hf (fun _ _ h => h))
                      clear hf
                      go_wp2_with fail
                      refine (HAG.out w10 HF4wa.out).mono ?_
                      rintro e w11 ⟨A11, c11, rfl, ho11, hf⟩
                      have HF4wb : Hid (Fr (fun _ => False) w4 w11) := Lib.hid (HF4wa.out.trans hf (fun _ _ h => h))
                      have HO11 := Lib.hid ho11
                      clear hf ho11
                      by_cases hE : E6 ≠ 0
                      · have t9 : ((E6 : Int) != 0) = true := by simp; omega
                        have HB := Lib.hid (HFIN.out.1 hE)
                        clear hE
                        go_wp2_with (refine store_st chSz rfl (.tmp 2) (.tmp 213) rfl g (by rfl) [.string ⟨#[]⟩, .int .i64 0, .int .i64 0, .int .i64 0, .string ⟨#[]⟩, .slice none 0 0, .slice none 0 0] (by rfl) _ _ (HG4.out.fr HF4wb.out (fun h => h)) rfl rfl (by simp [Value.oneCell']) ?_)
                        intro wz hz hfz
                        have HZ := Lib.hid hz
                        have HFZ : Hid (Fr (fun _ => False) w wz) := Lib.hid (Fr.trans (HF4.out.trans HF4wb.out (fun _ _ h => h)) hfz (fun k hk h => by have h1 : k = g := h; have := HGP.out; omega))
                        clear hz hfz
                        go_wp2_with fail
                        refine bodyPost_ret (v := .tuple #[.agg [.string ⟨#[]⟩, .int .i64 0, .int .i64 0, .int .i64 0, .string ⟨#[]⟩, .slice none 0 0, .slice none 0 0].toArray, .slice none 0 0, .int .i64 0, .int .i64 (E6 : Int)]) (by exact results_get rfl g rfl HZ.out rfl rfl rfl rfl) rfl ?_
                        rw [HB.out]
                        exact ⟨none, 0, none, 0, rfl, OwnH.nil _ _, fun h hh => (by cases hh), OwT.nil _ _, HFZ.out⟩
                      · obtain rfl : E6 = 0 := by omega
                        have t9 : (((0 : Nat) : Int) != 0) = false := by simp
                        have HB := Lib.hid (HFIN.out.2 rfl)
                        clear hE
                        have hx0 := HC4.out.fr HF4wb.out (fun h => h)
                        obtain ⟨x1, hx1⟩ : ∃ y, w11.setCell ⟨pc, 0, none⟩ (.string (txt a)) = y := ⟨_, rfl⟩
                        have f0 : w11.frozen? ⟨pc, 0, none⟩ = false := Row.free hx0 0
                        have i0 : w11.cell? ⟨pc, 0, none⟩ = some (.string ⟨#[]⟩) := Row.cell hx0 rfl
                        have g1 := Row.set hx0 0 (.string (txt a))
                        rw [hx1] at g1
                        have hx1r : Row x1 pc 25 [.string (txt a), .int .i64 0, .int .i64 0, .int .i64 0, .string ⟨#[]⟩, .slice A1 M c1, .slice none 0 0] := g1
                        obtain ⟨x2, hx2⟩ : ∃ y, x1.setCell ⟨pc, 1, none⟩ (.int .i64 (q : Int)) = y := ⟨_, rfl⟩
                        have f1 : x1.frozen? ⟨pc, 1, none⟩ = false := Row.free hx1r 1
                        have i1 : x1.cell? ⟨pc, 1, none⟩ = some (.int .i64 0) := Row.cell hx1r rfl
                        have g2 := Row.set hx1r 1 (.int .i64 (q : Int))
                        rw [hx2] at g2
                        have hx2r : Row x2 pc 25 [.string (txt a), .int .i64 (q : Int), .int .i64 0, .int .i64 0, .string ⟨#[]⟩, .slice A1 M c1, .slice none 0 0] := g2
                        obtain ⟨x3, hx3⟩ : ∃ y, x2.setCell ⟨pc, 2, none⟩ (.int .i64 (st : Int)) = y := ⟨_, rfl⟩
                        have f2 : x2.frozen? ⟨pc, 2, none⟩ = false := Row.free hx2r 2
                        have i2 : x2.cell? ⟨pc, 2, none⟩ = some (.int .i64 0) := Row.cell hx2r rfl
                        have g3 := Row.set hx2r 2 (.int .i64 (st : Int))
                        rw [hx3] at g3
                        have hx3r : Row x3 pc 25 [.string (txt a), .int .i64 (q : Int), .int .i64 (st : Int), .int .i64 0, .string ⟨#[]⟩, .slice A1 M c1, .slice none 0 0] := g3
                        obtain ⟨x4, hx4⟩ : ∃ y, x3.setCell ⟨pc, 3, none⟩ (.int .i64 NN) = y := ⟨_, rfl⟩
                        have f3 : x3.frozen? ⟨pc, 3, none⟩ = false := Row.free hx3r 3
                        have i3 : x3.cell? ⟨pc, 3, none⟩ = some (.int .i64 0) := Row.cell hx3r rfl
                        have g4 := Row.set hx3r 3 (.int .i64 NN)
                        rw [hx4] at g4
                        have hx4r : Row x4 pc 25 [.string (txt a), .int .i64 (q : Int), .int .i64 (st : Int), .int .i64 NN, .string ⟨#[]⟩, .slice A1 M c1, .slice none 0 0] := g4
                        obtain ⟨x5, hx5⟩ : ∃ y, x4.setCell ⟨pc, 4, none⟩ (.string (txt m)) = y := ⟨_, rfl⟩
                        have f4 : x4.frozen? ⟨pc, 4, none⟩ = false := Row.free hx4r 4
                        have i4 : x4.cell? ⟨pc, 4, none⟩ = some (.string ⟨#[]⟩) := Row.cell hx4r rfl
                        have g5 := Row.set hx4r 4 (.string (txt m))
                        rw [hx5] at g5
                        have hx5r : Row x5 pc 25 [.string (txt a), .int .i64 (q : Int), .int .i64 (st : Int), .int .i64 NN, .string (txt m), .slice A1 M c1, .slice none 0 0] := g5
                        have hfx : Fr (fun k => k = pc) w11 x5 := by
                          rw [← hx5, ← hx4, ← hx3, ← hx2, ← hx1]
                          exact ((((Fr.set1 _ _ _ _).trans (Fr.set1 _ _ _ _) (fun _ _ h => h)).trans (Fr.set1 _ _ _ _) (fun _ _ h => h)).trans (Fr.set1 _ _ _ _) (fun _ _ h => h)).trans (Fr.set1 _ _ _ _) (fun _ _ h => h)
                        have b0 : x5.cell? ⟨pc, 0, none⟩ = some (.string (txt a)) := Row.cell hx5r rfl
                        have b1 : x5.cell? ⟨pc, 1, none⟩ = some (.int .i64 (q : Int)) := Row.cell hx5r rfl
                        have b2 : x5.cell? ⟨pc, 2, none⟩ = some (.int .i64 (st : Int)) := Row.cell hx5r rfl
                        have b3 : x5.cell? ⟨pc, 3, none⟩ = some (.int .i64 NN) := Row.cell hx5r rfl
                        have b4 : x5.cell? ⟨pc, 4, none⟩ = some (.string (txt m)) := Row.cell hx5r rfl
                        have b5 : x5.cell? ⟨pc, 5, none⟩ = some (.slice A1 M c1) := Row.cell hx5r rfl
                        have b6 : x5.cell? ⟨pc, 6, none⟩ = some (.slice none 0 0) := Row.cell hx5r rfl
                        have HFX := Lib.hid hfx
                        have HGX := Lib.hid ((HG4.out.fr HF4wb.out (fun h => h)).fr hfx (fun h => by have h1 : g = pc := h; have := HGP.out; omega))
                        have HSX : Hid (w4.heap.size ≤ w10.heap.size) := Lib.hid HF4wa.out.size
                        clear hx0 g1 g2 g3 g4 g5 hx1r hx2r hx3r hx4r hx5r hfx
                        go_wp2_with (refine store_st chSz rfl (.tmp 2) (.tmp 226) rfl g (by rfl) [.string (txt a), .int .i64 (q : Int), .int .i64 (st : Int), .int .i64 NN, .string (txt m), .slice A1 M c1, .slice none 0 0] (by rfl) _ _ HGX.out rfl rfl (by simp [Value.oneCell']) ?_)
                        intro wz hz hfz
                        have HZ := Lib.hid hz
                        have HFZ := Lib.hid hfz
                        have hfall : Fr (fun _ => False) w wz := Fr.trans (Fr.trans (Fr.trans HF4.out HF4wb.out (fun _ _ h => h)) HFX.out (fun k hk h => by have h1 : k = pc := h; have := HGP.out; omega)) hfz (fun k hk h => by have h1 : k = g := h; have := HGP.out; omega)
                        have HFALL := Lib.hid hfall
                        have HOH := Lib.hid (((HO4.out.fr HF4wb.out).frS HFX.out (fun k hk h => by have h1 : k = pc := h; have := HS4.out; have := HGP.out; omega)).frS hfz (fun k hk h => by have h1 : k = g := h; have := HS4.out; have := HGP.out; omega))
                        have HOT := Lib.hid ((HO11.out.frS HFX.out (fun k hk h => by have h1 : k = pc := h; have := HS4.out; have := HSX.out; have := HGP.out; omega)).frS hfz (fun k hk h => by have h1 : k = g := h; have := HS4.out; have := HSX.out; have := HGP.out; omega))
                        clear hz hfz hfall b0 b1 b2 b3 b4 b5 b6 f0 f1 f2 f3 f4 i0 i1 i2 i3 i4
                        go_wp2_with fail
                        refine bodyPost_ret (v := .tuple #[.agg [.string (txt a), .int .i64 (q : Int), .int .i64 (st : Int), .int .i64 NN, .string (txt m), .slice A1 M c1, .slice none 0 0].toArray, .slice A11 nt c11, .int .i64 ((p5 + K6 : Nat) : Int), .int .i64 0]) (by exact results_get rfl g rfl HZ.out rfl rfl rfl rfl) rfl ?_
                        rw [HB.out]
                        refine ⟨A1, c1, A11, c11, ?_, HOH.out.base (by have := HS4.out; have := HGP.out; omega), H32.out, HOT.out.base (by have := HS4.out; have := HSX.out; have := HGP.out; omega), HFALL.out⟩
                        simp only [chc]
                        rw [HDL.out, HNT.out]
                        rfl
                · have t5 : decide ((k : Int) < 10) = false := by simp; omega
                  have t5' : decide (k < 10) = false := by simp; omega
                  clear hk1 hk10 hk1e hp4 hp34
                  go_upto_region 39 with fail
                  refine wp_region_held_drew (S := fun w' => Fr (fun _ => False) w7 w') (by kernel_rfl) (Fr.refl _ _).drew (fun hH => ?_)
                  refine tk 0 hH ?_
                  refine tk 1 hH ?_
                  refine tk 4 hH ?_
                  refine tk 5 hH ?_
                  refine tk 6 hH ?_
                  refine tk 7 hH ?_
                  refine tk 8 hH ?_
                  refine tk 9 hH ?_ (hy := by intro w hSw; have kk := HCUT.out w; go_simp; try (with_reducible rfl))
                  refine tk 10 hH ?_ (hy := by intro w hSw; (try dsimp only at hSw); have kk := HSTR.out w hSw; go_simp; try (with_reducible rfl))
                  refine rdo 2 (fun Kx hKx => ?_)
                  go_simp
                  have hcon := HSS.out w7.drew
                  with_reducible refine hcon.mono ?_
                  clear hcon
                  rintro e' w8 ⟨A8, c8, rfl, ho8, hff⟩
                  have hf8 : Fr (fun _ => False) w7 w8 := (Fr.refl _ _).drew.trans hff (fun _ _ h => h)
                  have HS8 := Lib.hid (fun w' (hf : Fr (fun _ => False) w8 w') => (ho8.fr hf).str)
                  have HF4w8 : Hid (Fr (fun _ => False) w4 w8) := Lib.hid (HF4w7.out.trans hf8 (fun _ _ h => h))
                  have HF78 := Lib.hid hf8
                  refine hKx.out _ _ hf8 (fun hH => ?_)
                  clear hKx Kx hff hf8 ho8
                  (try simp only [Act.put, List.setIfInBounds_toArray, List.set_cons_zero, List.set_cons_succ, List.getElem_toArray, List.getElem_cons_zero, List.getElem_cons_succ])
                  refine wpAnyH_more (fun w' => Fr (fun _ => False) w8 w') (fun _ h => HF78.out.trans h (fun _ _ h => h)) ?_ (fun hH => ?_)
                  · exact Fr.refl _ _
                  refine tk 3 hH ?_ (hy := by intro w hSw; (try dsimp only at hSw); have kk := HS8.out w hSw; go_simp; try (with_reducible rfl))
                  refine tk 11 hH ?_
                  refine wpAnyH_done (by kernel_rfl) ?_ _
                  have ht5 := rText20_any (some ad) n c B p4 0 1000 w8 (HRD4.out.fr HF4w8.out (fun _ _ h => h)) HCN.out HKN.out.2.1 hp4n (by omega) (by omega)
                  have hst5 := text_at (f := num 1000) (lo := 0) (hi := 1000) (L := B.drop p4) (g := fun m => k7 D a q st NN m) (fun h => by rw [num_of, h]) (by rw [num_of]) HAT.out (s7 D a q st NN)
                  have hle5 := textH_le 0 1000 (B.drop p4)
                  rw [List.length_drop, HBN.out] at hle5
                  obtain ⟨m, hm⟩ : ∃ a, (textH 0 1000 (B.drop p4)).1 = a := ⟨_, rfl⟩
                  obtain ⟨K5, hK5⟩ : ∃ K, (textH 0 1000 (B.drop p4)).2.1 = K := ⟨_, rfl⟩
                  obtain ⟨E5, hE5⟩ : ∃ K, (textH 0 1000 (B.drop p4)).2.2 = K := ⟨_, rfl⟩
                  rw [hm, hK5, hE5] at ht5 hst5 hle5
                  have HT5 := Lib.hid ht5
                  clear ht5 hm hK5 hE5
                  by_cases hE : E5 ≠ 0
                  · have t7 : ((E5 : Int) != 0) = true := by simp; omega
                    have HB := Lib.hid (hst5.1 hE)
                    rw [if_neg hE] at HT5
                    clear hst5 hE hle5
                    go_wp2_with fail
                    refine HT5.out.mono ?_
                    rintro e w9 ⟨rfl, hf⟩
                    have HFF : Hid (Fr (fun _ => False) w4 w9) := Lib.hid (HF4w8.out.trans hf (fun _ _ h => h))
                    clear hf
                    go_wp2_with (refine store_st chSz rfl (.tmp 2) (.tmp 194) rfl g (by rfl) [.string ⟨#[]⟩, .int .i64 0, .int .i64 0, .int .i64 0, .string ⟨#[]⟩, .slice none 0 0, .slice none 0 0] (by rfl) _ _ (HG4.out.fr HFF.out (fun h => h)) rfl rfl (by simp [Value.oneCell']) ?_)
                    intro wz hz hfz
                    have HZ := Lib.hid hz
                    have HFZ : Hid (Fr (fun _ => False) w wz) := Lib.hid (Fr.trans (HF4.out.trans HFF.out (fun _ _ h => h)) hfz (fun k hk h => by have h1 : k = g := h; have := HGP.out; omega))
                    clear hz hfz
                    go_wp2_with fail
                    refine bodyPost_ret (v := .tuple #[.agg [.string ⟨#[]⟩, .int .i64 0, .int .i64 0, .int .i64 0, .string ⟨#[]⟩, .slice none 0 0, .slice none 0 0].toArray, .slice none 0 0, .int .i64 0, .int .i64 (E5 : Int)]) (by exact results_get rfl g rfl HZ.out rfl rfl rfl rfl) rfl ?_
                    rw [HB.out]
                    exact ⟨none, 0, none, 0, rfl, OwnH.nil _ _, fun h hh => (by cases hh), OwT.nil _ _, HFZ.out⟩
                  · obtain rfl : E5 = 0 := by omega
                    have t7 : (((0 : Nat) : Int) != 0) = false := by simp
                    rw [if_pos rfl] at HT5
                    have hat5 := hst5.2 rfl
                    rw [List.drop_drop] at hat5
                    obtain ⟨p5, hp5⟩ : ∃ q, p4 + K5 = q := ⟨_, rfl⟩
                    rw [hp5] at HT5 hat5
                    have hp5n : p5 ≤ n := by omega
                    have hml := hle5.2.1
                    have hsz := txt_sz m
                    have hwl := wh_le m
                    have hck := chk_at hat5
                    have HW := Lib.hid (fun w' => rWhere_any m w' (by omega))
                    obtain ⟨nm, hnm⟩ : ∃ x, m.length = x := ⟨_, rfl⟩
                    obtain ⟨zw, hzw⟩ : ∃ x, wh m = x := ⟨_, rfl⟩
                    rw [hzw] at hck hwl HW
                    rw [hnm] at hck hwl hsz hml
                    clear hst5 hE hle5 hat5 hnm hzw hp5
                    by_cases hlw : zw < nm
                    · have t8 : decide ((zw : Int) < (nm : Int)) = true := by simp; omega
                      have t8' : decide (zw < nm) = true := by simp; omega
                      have HB := Lib.hid (hck.1 hlw)
                      clear hck hlw hwl
                      go_wp2_with fail
                      refine HT5.out.mono ?_
                      rintro e w9 ⟨rfl, hf⟩
                      have HF4w9 : Hid (Fr (fun _ => False) w4 w9) := Lib.hid (HF4w8.out.trans hf (fun _ _ h => h))
                      clear hf
                      go_wp2_with fail
                      refine (HW.out w9).mono ?_
                      rintro e w10 ⟨rfl, hf⟩
                      have HFF : Hid (Fr (fun _ => False) w4 w10) := Lib.hid (HF4w9.out.trans hf (fun _ _ h => h))
                      clear hf
                      go_wp2_with (refine store_st chSz rfl (.tmp 2) (.tmp 201) rfl g (by rfl) [.string ⟨#[]⟩, .int .i64 0, .int .i64 0, .int .i64 0, .string ⟨#[]⟩, .slice none 0 0, .slice none 0 0] (by rfl) _ _ (HG4.out.fr HFF.out (fun h => h)) rfl rfl (by simp [Value.oneCell']) ?_)
                      intro wz hz hfz
                      have HZ := Lib.hid hz
                      have HFZ : Hid (Fr (fun _ => False) w wz) := Lib.hid (Fr.trans (HF4.out.trans HFF.out (fun _ _ h => h)) hfz (fun k hk h => by have h1 : k = g := h; have := HGP.out; omega))
                      clear hz hfz
                      go_wp2_with fail
                      refine bodyPost_ret (v := .tuple #[.agg [.string ⟨#[]⟩, .int .i64 0, .int .i64 0, .int .i64 0, .string ⟨#[]⟩, .slice none 0 0, .slice none 0 0].toArray, .slice none 0 0, .int .i64 0, .int .i64 3]) (by exact results_get rfl g rfl HZ.out rfl rfl rfl rfl) rfl ?_
                      rw [HB.out]
                      exact ⟨none, 0, none, 0, rfl, OwnH.nil _ _, fun h hh => (by cases hh), OwT.nil _ _, HFZ.out⟩
                    · have t8 : decide ((zw : Int) < (nm : Int)) = false := by simp; omega
                      have t8' : decide (zw < nm) = false := by simp; omega
                      have hfin := fin_at (hck.2 (by omega))
                      simp only at hfin
                      have hgl := get_le20 a (B.drop p5)
                      rw [List.length_drop, HBN.out] at hgl
                      have hln : B.length - ((B.drop p5).drop (getA a (B.drop p5)).2.1).length = p5 + (getA a (B.drop p5)).2.1 := by rw [List.length_drop, List.length_drop, HBN.out]; omega
                      rw [hln] at hfin
                      have hcut5 := fun w' => run_fromB (some ad) n c p5 hp5n (p5 : Int) rfl w'
                      have hag := fun w' (hf : Fr (fun _ => False) w4 w') => racGet_any a (cutAt (some ad) c p5) (n - p5) (c - p5) (B.drop p5) w' (by have h := rd_from (HRD4.out.fr hf (fun _ _ h => h)) hp5n HCN.out; rwa [← List.map_drop] at h) (by have := HCN.out; omega) (by have := HKN.out; omega)
                      obtain ⟨T, hT⟩ : ∃ T, (getA a (B.drop p5)).1 = T := ⟨_, rfl⟩
                      obtain ⟨K6, hK6⟩ : ∃ T, (getA a (B.drop p5)).2.1 = T := ⟨_, rfl⟩
                      obtain ⟨E6, hE6⟩ : ∃ T, (getA a (B.drop p5)).2.2 = T := ⟨_, rfl⟩
                      rw [hT, hK6, hE6] at hfin
                      simp only [hT, hK6, hE6] at hag
                      rw [hK6] at hgl
                      obtain ⟨nt, hnt⟩ : ∃ x, T.length = x := ⟨_, rfl⟩
                      simp only [hnt] at hag
                      obtain ⟨A5, hA5⟩ : ∃ A3, cutAt (some ad) c p5 = A3 := ⟨_, rfl⟩
                      obtain ⟨n5, hn5⟩ : ∃ n3, n - p5 = n3 := ⟨_, rfl⟩
                      obtain ⟨c5, hc5⟩ : ∃ c3, c - p5 = c3 := ⟨_, rfl⟩
                      simp only [hA5, hn5, hc5] at hcut5 hag
                      have r9 : IntKind.i64.wrap ((p5 : Int) + (K6 : Int)) = ((p5 + K6 : Nat) : Int) := by rw [IntKind.wrap_i64]; have := HKN.out; omega
                      have HAG := Lib.hid hag
                      have HFIN := Lib.hid hfin
                      have HNT := Lib.hid hnt
                      clear hck hlw hwl hfin hgl hln hag hT hK6 hE6 hnt hA5 hn5 hc5
                      go_wp2_with fail
                      refine HT5.out.mono ?_
                      rintro e w9 ⟨rfl, hf⟩
                      have HF4w9 : Hid (Fr (fun _ => False) w4 w9) := Lib.hid (HF4w8.out.trans hf (fun _ _ h => h))
                      clear hf
                      go_wp2_with fail
                      refine (HW.out w9).mono ?_
                      rintro e w10 ⟨rfl, hf⟩
                      have HF4wa : Hid (Fr (fun _ => False) w4 w10) := Lib.hid (HF4w9.out.trans hf (fun _ _ h => h))
                      clear hf
                      go_wp2_with fail
                      refine (HAG.out w10 HF4wa.out).mono ?_
                      rintro e w11 ⟨A11, c11, rfl, ho11, hf⟩
                      have HF4wb : Hid (Fr (fun _ => False) w4 w11) := Lib.hid (HF4wa.out.trans hf (fun _ _ h => h))
                      have HO11 := Lib.hid ho11
                      clear hf ho11
                      by_cases hE : E6 ≠ 0
                      · have t9 : ((E6 : Int) != 0) = true := by simp; omega
                        have HB := Lib.hid (HFIN.out.1 hE)
                        clear hE
                        go_wp2_with (refine store_st chSz rfl (.tmp 2) (.tmp 213) rfl g (by rfl) [.string ⟨#[]⟩, .int .i64 0, .int .i64 0, .int .i64 0, .string ⟨#[]⟩, .slice none 0 0, .slice none 0 0] (by rfl) _ _ (HG4.out.fr HF4wb.out (fun h => h)) rfl rfl (by simp [Value.oneCell']) ?_)
                        intro wz hz hfz
                        have HZ := Lib.hid hz
                        have HFZ : Hid (Fr (fun _ => False) w wz) := Lib.hid (Fr.trans (HF4.out.trans HF4wb.out (fun _ _ h => h)) hfz (fun k hk h => by have h1 : k = g := h; have := HGP.out; omega))
                        clear hz hfz
                        go_wp2_with fail
                        refine bodyPost_ret (v := .tuple #[.agg [.string ⟨#[]⟩, .int .i64 0, .int .i64 0, .int .i64 0, .string ⟨#[]⟩, .slice none 0 0, .slice none 0 0].toArray, .slice none 0 0, .int .i64 0, .int .i64 (E6 : Int)]) (by exact results_get rfl g rfl HZ.out rfl rfl rfl rfl) rfl ?_
                        rw [HB.out]
                        exact ⟨none, 0, none, 0, rfl, OwnH.nil _ _, fun h hh => (by cases hh), OwT.nil _ _, HFZ.out⟩
                      · obtain rfl : E6 = 0 := by omega
                        have t9 : (((0 : Nat) : Int) != 0) = false := by simp
                        have HB := Lib.hid (HFIN.out.2 rfl)
                        clear hE
                        have hx0 := HC4.out.fr HF4wb.out (fun h => h)
                        obtain ⟨x1, hx1⟩ : ∃ y, w11.setCell ⟨pc, 0, none⟩ (.string (txt a)) = y := ⟨_, rfl⟩
                        have f0 : w11.frozen? ⟨pc, 0, none⟩ = false := Row.free hx0 0
                        have i0 : w11.cell? ⟨pc, 0, none⟩ = some (.string ⟨#[]⟩) := Row.cell hx0 rfl
                        have g1 := Row.set hx0 0 (.string (txt a))
                        rw [hx1] at g1
                        have hx1r : Row x1 pc 25 [.string (txt a), .int .i64 0, .int .i64 0, .int .i64 0, .string ⟨#[]⟩, .slice A1 M c1, .slice none 0 0] := g1
                        obtain ⟨x2, hx2⟩ : ∃ y, x1.setCell ⟨pc, 1, none⟩ (.int .i64 (q : Int)) = y := ⟨_, rfl⟩
                        have f1 : x1.frozen? ⟨pc, 1, none⟩ = false := Row.free hx1r 1
                        have i1 : x1.cell? ⟨pc, 1, none⟩ = some (.int .i64 0) := Row.cell hx1r rfl
                        have g2 := Row.set hx1r 1 (.int .i64 (q : Int))
                        rw [hx2] at g2
                        have hx2r : Row x2 pc 25 [.string (txt a), .int .i64 (q : Int), .int .i64 0, .int .i64 0, .string ⟨#[]⟩, .slice A1 M c1, .slice none 0 0] := g2
                        obtain ⟨x3, hx3⟩ : ∃ y, x2.setCell ⟨pc, 2, none⟩ (.int .i64 (st : Int)) = y := ⟨_, rfl⟩
                        have f2 : x2.frozen? ⟨pc, 2, none⟩ = false := Row.free hx2r 2
                        have i2 : x2.cell? ⟨pc, 2, none⟩ = some (.int .i64 0) := Row.cell hx2r rfl
                        have g3 := Row.set hx2r 2 (.int .i64 (st : Int))
                        rw [hx3] at g3
                        have hx3r : Row x3 pc 25 [.string (txt a), .int .i64 (q : Int), .int .i64 (st : Int), .int .i64 0, .string ⟨#[]⟩, .slice A1 M c1, .slice none 0 0] := g3
                        obtain ⟨x4, hx4⟩ : ∃ y, x3.setCell ⟨pc, 3, none⟩ (.int .i64 NN) = y := ⟨_, rfl⟩
                        have f3 : x3.frozen? ⟨pc, 3, none⟩ = false := Row.free hx3r 3
                        have i3 : x3.cell? ⟨pc, 3, none⟩ = some (.int .i64 0) := Row.cell hx3r rfl
                        have g4 := Row.set hx3r 3 (.int .i64 NN)
                        rw [hx4] at g4
                        have hx4r : Row x4 pc 25 [.string (txt a), .int .i64 (q : Int), .int .i64 (st : Int), .int .i64 NN, .string ⟨#[]⟩, .slice A1 M c1, .slice none 0 0] := g4
                        obtain ⟨x5, hx5⟩ : ∃ y, x4.setCell ⟨pc, 4, none⟩ (.string (txt m)) = y := ⟨_, rfl⟩
                        have f4 : x4.frozen? ⟨pc, 4, none⟩ = false := Row.free hx4r 4
                        have i4 : x4.cell? ⟨pc, 4, none⟩ = some (.string ⟨#[]⟩) := Row.cell hx4r rfl
                        have g5 := Row.set hx4r 4 (.string (txt m))
                        rw [hx5] at g5
                        have hx5r : Row x5 pc 25 [.string (txt a), .int .i64 (q : Int), .int .i64 (st : Int), .int .i64 NN, .string (txt m), .slice A1 M c1, .slice none 0 0] := g5
                        have hfx : Fr (fun k => k = pc) w11 x5 := by
                          rw [← hx5, ← hx4, ← hx3, ← hx2, ← hx1]
                          exact ((((Fr.set1 _ _ _ _).trans (Fr.set1 _ _ _ _) (fun _ _ h => h)).trans (Fr.set1 _ _ _ _) (fun _ _ h => h)).trans (Fr.set1 _ _ _ _) (fun _ _ h => h)).trans (Fr.set1 _ _ _ _) (fun _ _ h => h)
                        have b0 : x5.cell? ⟨pc, 0, none⟩ = some (.string (txt a)) := Row.cell hx5r rfl
                        have b1 : x5.cell? ⟨pc, 1, none⟩ = some (.int .i64 (q : Int)) := Row.cell hx5r rfl
                        have b2 : x5.cell? ⟨pc, 2, none⟩ = some (.int .i64 (st : Int)) := Row.cell hx5r rfl
                        have b3 : x5.cell? ⟨pc, 3, none⟩ = some (.int .i64 NN) := Row.cell hx5r rfl
                        have b4 : x5.cell? ⟨pc, 4, none⟩ = some (.string (txt m)) := Row.cell hx5r rfl
                        have b5 : x5.cell? ⟨pc, 5, none⟩ = some (.slice A1 M c1) := Row.cell hx5r rfl
                        have b6 : x5.cell? ⟨pc, 6, none⟩ = some (.slice none 0 0) := Row.cell hx5r rfl
                        have HFX := Lib.hid hfx
                        have HGX := Lib.hid ((HG4.out.fr HF4wb.out (fun h => h)).fr hfx (fun h => by have h1 : g = pc := h; have := HGP.out; omega))
                        have HSX : Hid (w4.heap.size ≤ w10.heap.size) := Lib.hid HF4wa.out.size
                        clear hx0 g1 g2 g3 g4 g5 hx1r hx2r hx3r hx4r hx5r hfx
                        go_wp2_with (refine store_st chSz rfl (.tmp 2) (.tmp 226) rfl g (by rfl) [.string (txt a), .int .i64 (q : Int), .int .i64 (st : Int), .int .i64 NN, .string (txt m), .slice A1 M c1, .slice none 0 0] (by rfl) _ _ HGX.out rfl rfl (by simp [Value.oneCell']) ?_)
                        intro wz hz hfz
                        have HZ := Lib.hid hz
                        have HFZ := Lib.hid hfz
                        have hfall : Fr (fun _ => False) w wz := Fr.trans (Fr.trans (Fr.trans HF4.out HF4wb.out (fun _ _ h => h)) HFX.out (fun k hk h => by have h1 : k = pc := h; have := HGP.out; omega)) hfz (fun k hk h => by have h1 : k = g := h; have := HGP.out; omega)
                        have HFALL := Lib.hid hfall
                        have HOH := Lib.hid (((HO4.out.fr HF4wb.out).frS HFX.out (fun k hk h => by have h1 : k = pc := h; have := HS4.out; have := HGP.out; omega)).frS hfz (fun k hk h => by have h1 : k = g := h; have := HS4.out; have := HGP.out; omega))
                        have HOT := Lib.hid ((HO11.out.frS HFX.out (fun k hk h => by have h1 : k = pc := h; have := HS4.out; have := HSX.out; have := HGP.out; omega)).frS hfz (fun k hk h => by have h1 : k = g := h; have := HS4.out; have := HSX.out; have := HGP.out; omega))
                        clear hz hfz hfall b0 b1 b2 b3 b4 b5 b6 f0 f1 f2 f3 f4 i0 i1 i2 i3 i4
                        go_wp2_with fail
                        refine bodyPost_ret (v := .tuple #[.agg [.string (txt a), .int .i64 (q : Int), .int .i64 (st : Int), .int .i64 NN, .string (txt m), .slice A1 M c1, .slice none 0 0].toArray, .slice A11 nt c11, .int .i64 ((p5 + K6 : Nat) : Int), .int .i64 0]) (by exact results_get rfl g rfl HZ.out rfl rfl rfl rfl) rfl ?_
                        rw [HB.out]
                        refine ⟨A1, c1, A11, c11, ?_, HOH.out.base (by have := HS4.out; have := HGP.out; omega), H32.out, HOT.out.base (by have := HS4.out; have := HSX.out; have := HGP.out; omega), HFALL.out⟩
                        simp only [chc]
                        rw [HDL.out, HNT.out]
                        rfl
                · have t5 : decide ((k : Int) < 10) = true := by simp; omega
                  have t5' : decide (k < 10) = true := by simp; omega
                  have t6 : decide ((64 : Int) ≤ (l : Int)) = false := by simp; omega
                  have t6' : decide (64 ≤ l) = false := by simp; omega
                  clear hk1 hk10 hk1e hp4 hp34
                  go_upto_region 39 with fail
                  refine wp_region_held_drew (S := fun w' => Fr (fun _ => False) w7 w') (by kernel_rfl) (Fr.refl _ _).drew (fun hH => ?_)
                  refine tk 0 hH ?_
                  refine tk 1 hH ?_
                  refine tk 4 hH ?_
                  refine tk 5 hH ?_
                  refine tk 6 hH ?_
                  refine tk 7 hH ?_
                  refine tk 8 hH ?_
                  refine tk 9 hH ?_ (hy := by intro w hSw; have kk := HCUT.out w; go_simp; try (with_reducible rfl))
                  refine tk 10 hH ?_ (hy := by intro w hSw; (try dsimp only at hSw); have kk := HSTR.out w hSw; go_simp; try (with_reducible rfl))
                  refine rdo 2 (fun Kx hKx => ?_)
                  go_simp
                  have hcon := HSS.out w7.drew
                  with_reducible refine hcon.mono ?_
                  clear hcon
                  rintro e' w8 ⟨A8, c8, rfl, ho8, hff⟩
                  have hf8 : Fr (fun _ => False) w7 w8 := (Fr.refl _ _).drew.trans hff (fun _ _ h => h)
                  have HS8 := Lib.hid (fun w' (hf : Fr (fun _ => False) w8 w') => (ho8.fr hf).str)
                  have HF4w8 : Hid (Fr (fun _ => False) w4 w8) := Lib.hid (HF4w7.out.trans hf8 (fun _ _ h => h))
                  have HF78 := Lib.hid hf8
                  refine hKx.out _ _ hf8 (fun hH => ?_)
                  clear hKx Kx hff hf8 ho8
                  (try simp only [Act.put, List.setIfInBounds_toArray, List.set_cons_zero, List.set_cons_succ, List.getElem_toArray, List.getElem_cons_zero, List.getElem_cons_succ])
                  refine wpAnyH_more (fun w' => Fr (fun _ => False) w8 w') (fun _ h => HF78.out.trans h (fun _ _ h => h)) ?_ (fun hH => ?_)
                  · exact Fr.refl _ _
                  refine tk 3 hH ?_ (hy := by intro w hSw; (try dsimp only at hSw); have kk := HS8.out w hSw; go_simp; try (with_reducible rfl))
                  refine tk 11 hH ?_
                  refine wpAnyH_done (by kernel_rfl) ?_ _
                  have ht5 := rText20_any (some ad) n c B p4 0 1000 w8 (HRD4.out.fr HF4w8.out (fun _ _ h => h)) HCN.out HKN.out.2.1 hp4n (by omega) (by omega)
                  have hst5 := text_at (f := num 1000) (lo := 0) (hi := 1000) (L := B.drop p4) (g := fun m => k7 D a q st NN m) (fun h => by rw [num_of, h]) (by rw [num_of]) HAT.out (s7 D a q st NN)
                  have hle5 := textH_le 0 1000 (B.drop p4)
                  rw [List.length_drop, HBN.out] at hle5
                  obtain ⟨m, hm⟩ : ∃ a, (textH 0 1000 (B.drop p4)).1 = a := ⟨_, rfl⟩
                  obtain ⟨K5, hK5⟩ : ∃ K, (textH 0 1000 (B.drop p4)).2.1 = K := ⟨_, rfl⟩
                  obtain ⟨E5, hE5⟩ : ∃ K, (textH 0 1000 (B.drop p4)).2.2 = K := ⟨_, rfl⟩
                  rw [hm, hK5, hE5] at ht5 hst5 hle5
                  have HT5 := Lib.hid ht5
                  clear ht5 hm hK5 hE5
                  by_cases hE : E5 ≠ 0
                  · have t7 : ((E5 : Int) != 0) = true := by simp; omega
                    have HB := Lib.hid (hst5.1 hE)
                    rw [if_neg hE] at HT5
                    clear hst5 hE hle5
                    go_wp2_with fail
                    refine HT5.out.mono ?_
                    rintro e w9 ⟨rfl, hf⟩
                    have HFF : Hid (Fr (fun _ => False) w4 w9) := Lib.hid (HF4w8.out.trans hf (fun _ _ h => h))
                    clear hf
                    go_wp2_with (refine store_st chSz rfl (.tmp 2) (.tmp 194) rfl g (by rfl) [.string ⟨#[]⟩, .int .i64 0, .int .i64 0, .int .i64 0, .string ⟨#[]⟩, .slice none 0 0, .slice none 0 0] (by rfl) _ _ (HG4.out.fr HFF.out (fun h => h)) rfl rfl (by simp [Value.oneCell']) ?_)
                    intro wz hz hfz
                    have HZ := Lib.hid hz
                    have HFZ : Hid (Fr (fun _ => False) w wz) := Lib.hid (Fr.trans (HF4.out.trans HFF.out (fun _ _ h => h)) hfz (fun k hk h => by have h1 : k = g := h; have := HGP.out; omega))
                    clear hz hfz
                    go_wp2_with fail
                    refine bodyPost_ret (v := .tuple #[.agg [.string ⟨#[]⟩, .int .i64 0, .int .i64 0, .int .i64 0, .string ⟨#[]⟩, .slice none 0 0, .slice none 0 0].toArray, .slice none 0 0, .int .i64 0, .int .i64 (E5 : Int)]) (by exact results_get rfl g rfl HZ.out rfl rfl rfl rfl) rfl ?_
                    rw [HB.out]
                    exact ⟨none, 0, none, 0, rfl, OwnH.nil _ _, fun h hh => (by cases hh), OwT.nil _ _, HFZ.out⟩
                  · obtain rfl : E5 = 0 := by omega
                    have t7 : (((0 : Nat) : Int) != 0) = false := by simp
                    rw [if_pos rfl] at HT5
                    have hat5 := hst5.2 rfl
                    rw [List.drop_drop] at hat5
                    obtain ⟨p5, hp5⟩ : ∃ q, p4 + K5 = q := ⟨_, rfl⟩
                    rw [hp5] at HT5 hat5
                    have hp5n : p5 ≤ n := by omega
                    have hml := hle5.2.1
                    have hsz := txt_sz m
                    have hwl := wh_le m
                    have hck := chk_at hat5
                    have HW := Lib.hid (fun w' => rWhere_any m w' (by omega))
                    obtain ⟨nm, hnm⟩ : ∃ x, m.length = x := ⟨_, rfl⟩
                    obtain ⟨zw, hzw⟩ : ∃ x, wh m = x := ⟨_, rfl⟩
                    rw [hzw] at hck hwl HW
                    rw [hnm] at hck hwl hsz hml
                    clear hst5 hE hle5 hat5 hnm hzw hp5
                    by_cases hlw : zw < nm
                    · have t8 : decide ((zw : Int) < (nm : Int)) = true := by simp; omega
                      have t8' : decide (zw < nm) = true := by simp; omega
                      have HB := Lib.hid (hck.1 hlw)
                      clear hck hlw hwl
                      go_wp2_with fail
                      refine HT5.out.mono ?_
                      rintro e w9 ⟨rfl, hf⟩
                      have HF4w9 : Hid (Fr (fun _ => False) w4 w9) := Lib.hid (HF4w8.out.trans hf (fun _ _ h => h))
                      clear hf
                      go_wp2_with fail
                      refine (HW.out w9).mono ?_
                      rintro e w10 ⟨rfl, hf⟩
                      have HFF : Hid (Fr (fun _ => False) w4 w10) := Lib.hid (HF4w9.out.trans hf (fun _ _ h => h))
                      clear hf
                      go_wp2_with (refine store_st chSz rfl (.tmp 2) (.tmp 201) rfl g (by rfl) [.string ⟨#[]⟩, .int .i64 0, .int .i64 0, .int .i64 0, .string ⟨#[]⟩, .slice none 0 0, .slice none 0 0] (by rfl) _ _ (HG4.out.fr HFF.out (fun h => h)) rfl rfl (by simp [Value.oneCell']) ?_)
                      intro wz hz hfz
                      have HZ := Lib.hid hz
                      have HFZ : Hid (Fr (fun _ => False) w wz) := Lib.hid (Fr.trans (HF4.out.trans HFF.out (fun _ _ h => h)) hfz (fun k hk h => by have h1 : k = g := h; have := HGP.out; omega))
                      clear hz hfz
                      go_wp2_with fail
                      refine bodyPost_ret (v := .tuple #[.agg [.string ⟨#[]⟩, .int .i64 0, .int .i64 0, .int .i64 0, .string ⟨#[]⟩, .slice none 0 0, .slice none 0 0].toArray, .slice none 0 0, .int .i64 0, .int .i64 3]) (by exact results_get rfl g rfl HZ.out rfl rfl rfl rfl) rfl ?_
                      rw [HB.out]
                      exact ⟨none, 0, none, 0, rfl, OwnH.nil _ _, fun h hh => (by cases hh), OwT.nil _ _, HFZ.out⟩
                    · have t8 : decide ((zw : Int) < (nm : Int)) = false := by simp; omega
                      have t8' : decide (zw < nm) = false := by simp; omega
                      have hfin := fin_at (hck.2 (by omega))
                      simp only at hfin
                      have hgl := get_le20 a (B.drop p5)
                      rw [List.length_drop, HBN.out] at hgl
                      have hln : B.length - ((B.drop p5).drop (getA a (B.drop p5)).2.1).length = p5 + (getA a (B.drop p5)).2.1 := by rw [List.length_drop, List.length_drop, HBN.out]; omega
                      rw [hln] at hfin
                      have hcut5 := fun w' => run_fromB (some ad) n c p5 hp5n (p5 : Int) rfl w'
                      have hag := fun w' (hf : Fr (fun _ => False) w4 w') => racGet_any a (cutAt (some ad) c p5) (n - p5) (c - p5) (B.drop p5) w' (by have h := rd_from (HRD4.out.fr hf (fun _ _ h => h)) hp5n HCN.out; rwa [← List.map_drop] at h) (by have := HCN.out; omega) (by have := HKN.out; omega)
                      obtain ⟨T, hT⟩ : ∃ T, (getA a (B.drop p5)).1 = T := ⟨_, rfl⟩
                      obtain ⟨K6, hK6⟩ : ∃ T, (getA a (B.drop p5)).2.1 = T := ⟨_, rfl⟩
                      obtain ⟨E6, hE6⟩ : ∃ T, (getA a (B.drop p5)).2.2 = T := ⟨_, rfl⟩
                      rw [hT, hK6, hE6] at hfin
                      simp only [hT, hK6, hE6] at hag
                      rw [hK6] at hgl
                      obtain ⟨nt, hnt⟩ : ∃ x, T.length = x := ⟨_, rfl⟩
                      simp only [hnt] at hag
                      obtain ⟨A5, hA5⟩ : ∃ A3, cutAt (some ad) c p5 = A3 := ⟨_, rfl⟩
                      obtain ⟨n5, hn5⟩ : ∃ n3, n - p5 = n3 := ⟨_, rfl⟩
                      obtain ⟨c5, hc5⟩ : ∃ c3, c - p5 = c3 := ⟨_, rfl⟩
                      simp only [hA5, hn5, hc5] at hcut5 hag
                      have r9 : IntKind.i64.wrap ((p5 : Int) + (K6 : Int)) = ((p5 + K6 : Nat) : Int) := by rw [IntKind.wrap_i64]; have := HKN.out; omega
                      have HAG := Lib.hid hag
                      have HFIN := Lib.hid hfin
                      have HNT := Lib.hid hnt
                      clear hck hlw hwl hfin hgl hln hag hT hK6 hE6 hnt hA5 hn5 hc5
                      go_wp2_with fail
                      refine HT5.out.mono ?_
                      rintro e w9 ⟨rfl, hf⟩
                      have HF4w9 : Hid (Fr (fun _ => False) w4 w9) := Lib.hid (HF4w8.out.trans hf (fun _ _ h => h))
                      clear hf
                      go_wp2_with fail
                      refine (HW.out w9).mono ?_
                      rintro e w10 ⟨rfl, hf⟩
                      have HF4wa : Hid (Fr (fun _ => False) w4 w10) := Lib.hid (HF4w9.out.trans hf (fun _ _ h => h))
                      clear hf
                      go_wp2_with fail
                      refine (HAG.out w10 HF4wa.out).mono ?_
                      rintro e w11 ⟨A11, c11, rfl, ho11, hf⟩
                      have HF4wb : Hid (Fr (fun _ => False) w4 w11) := Lib.hid (HF4wa.out.trans hf (fun _ _ h => h))
                      have HO11 := Lib.hid ho11
                      clear hf ho11
                      by_cases hE : E6 ≠ 0
                      · have t9 : ((E6 : Int) != 0) = true := by simp; omega
                        have HB := Lib.hid (HFIN.out.1 hE)
                        clear hE
                        go_wp2_with (refine store_st chSz rfl (.tmp 2) (.tmp 213) rfl g (by rfl) [.string ⟨#[]⟩, .int .i64 0, .int .i64 0, .int .i64 0, .string ⟨#[]⟩, .slice none 0 0, .slice none 0 0] (by rfl) _ _ (HG4.out.fr HF4wb.out (fun h => h)) rfl rfl (by simp [Value.oneCell']) ?_)
                        intro wz hz hfz
                        have HZ := Lib.hid hz
                        have HFZ : Hid (Fr (fun _ => False) w wz) := Lib.hid (Fr.trans (HF4.out.trans HF4wb.out (fun _ _ h => h)) hfz (fun k hk h => by have h1 : k = g := h; have := HGP.out; omega))
                        clear hz hfz
                        go_wp2_with fail
                        refine bodyPost_ret (v := .tuple #[.agg [.string ⟨#[]⟩, .int .i64 0, .int .i64 0, .int .i64 0, .string ⟨#[]⟩, .slice none 0 0, .slice none 0 0].toArray, .slice none 0 0, .int .i64 0, .int .i64 (E6 : Int)]) (by exact results_get rfl g rfl HZ.out rfl rfl rfl rfl) rfl ?_
                        rw [HB.out]
                        exact ⟨none, 0, none, 0, rfl, OwnH.nil _ _, fun h hh => (by cases hh), OwT.nil _ _, HFZ.out⟩
                      · obtain rfl : E6 = 0 := by omega
                        have t9 : (((0 : Nat) : Int) != 0) = false := by simp
                        have HB := Lib.hid (HFIN.out.2 rfl)
                        clear hE
                        have hx0 := HC4.out.fr HF4wb.out (fun h => h)
                        obtain ⟨x1, hx1⟩ : ∃ y, w11.setCell ⟨pc, 0, none⟩ (.string (txt a)) = y := ⟨_, rfl⟩
                        have f0 : w11.frozen? ⟨pc, 0, none⟩ = false := Row.free hx0 0
                        have i0 : w11.cell? ⟨pc, 0, none⟩ = some (.string ⟨#[]⟩) := Row.cell hx0 rfl
                        have g1 := Row.set hx0 0 (.string (txt a))
                        rw [hx1] at g1
                        have hx1r : Row x1 pc 25 [.string (txt a), .int .i64 0, .int .i64 0, .int .i64 0, .string ⟨#[]⟩, .slice A1 M c1, .slice none 0 0] := g1
                        obtain ⟨x2, hx2⟩ : ∃ y, x1.setCell ⟨pc, 1, none⟩ (.int .i64 (q : Int)) = y := ⟨_, rfl⟩
                        have f1 : x1.frozen? ⟨pc, 1, none⟩ = false := Row.free hx1r 1
                        have i1 : x1.cell? ⟨pc, 1, none⟩ = some (.int .i64 0) := Row.cell hx1r rfl
                        have g2 := Row.set hx1r 1 (.int .i64 (q : Int))
                        rw [hx2] at g2
                        have hx2r : Row x2 pc 25 [.string (txt a), .int .i64 (q : Int), .int .i64 0, .int .i64 0, .string ⟨#[]⟩, .slice A1 M c1, .slice none 0 0] := g2
                        obtain ⟨x3, hx3⟩ : ∃ y, x2.setCell ⟨pc, 2, none⟩ (.int .i64 (st : Int)) = y := ⟨_, rfl⟩
                        have f2 : x2.frozen? ⟨pc, 2, none⟩ = false := Row.free hx2r 2
                        have i2 : x2.cell? ⟨pc, 2, none⟩ = some (.int .i64 0) := Row.cell hx2r rfl
                        have g3 := Row.set hx2r 2 (.int .i64 (st : Int))
                        rw [hx3] at g3
                        have hx3r : Row x3 pc 25 [.string (txt a), .int .i64 (q : Int), .int .i64 (st : Int), .int .i64 0, .string ⟨#[]⟩, .slice A1 M c1, .slice none 0 0] := g3
                        obtain ⟨x4, hx4⟩ : ∃ y, x3.setCell ⟨pc, 3, none⟩ (.int .i64 NN) = y := ⟨_, rfl⟩
                        have f3 : x3.frozen? ⟨pc, 3, none⟩ = false := Row.free hx3r 3
                        have i3 : x3.cell? ⟨pc, 3, none⟩ = some (.int .i64 0) := Row.cell hx3r rfl
                        have g4 := Row.set hx3r 3 (.int .i64 NN)
                        rw [hx4] at g4
                        have hx4r : Row x4 pc 25 [.string (txt a), .int .i64 (q : Int), .int .i64 (st : Int), .int .i64 NN, .string ⟨#[]⟩, .slice A1 M c1, .slice none 0 0] := g4
                        obtain ⟨x5, hx5⟩ : ∃ y, x4.setCell ⟨pc, 4, none⟩ (.string (txt m)) = y := ⟨_, rfl⟩
                        have f4 : x4.frozen? ⟨pc, 4, none⟩ = false := Row.free hx4r 4
                        have i4 : x4.cell? ⟨pc, 4, none⟩ = some (.string ⟨#[]⟩) := Row.cell hx4r rfl
                        have g5 := Row.set hx4r 4 (.string (txt m))
                        rw [hx5] at g5
                        have hx5r : Row x5 pc 25 [.string (txt a), .int .i64 (q : Int), .int .i64 (st : Int), .int .i64 NN, .string (txt m), .slice A1 M c1, .slice none 0 0] := g5
                        have hfx : Fr (fun k => k = pc) w11 x5 := by
                          rw [← hx5, ← hx4, ← hx3, ← hx2, ← hx1]
                          exact ((((Fr.set1 _ _ _ _).trans (Fr.set1 _ _ _ _) (fun _ _ h => h)).trans (Fr.set1 _ _ _ _) (fun _ _ h => h)).trans (Fr.set1 _ _ _ _) (fun _ _ h => h)).trans (Fr.set1 _ _ _ _) (fun _ _ h => h)
                        have b0 : x5.cell? ⟨pc, 0, none⟩ = some (.string (txt a)) := Row.cell hx5r rfl
                        have b1 : x5.cell? ⟨pc, 1, none⟩ = some (.int .i64 (q : Int)) := Row.cell hx5r rfl
                        have b2 : x5.cell? ⟨pc, 2, none⟩ = some (.int .i64 (st : Int)) := Row.cell hx5r rfl
                        have b3 : x5.cell? ⟨pc, 3, none⟩ = some (.int .i64 NN) := Row.cell hx5r rfl
                        have b4 : x5.cell? ⟨pc, 4, none⟩ = some (.string (txt m)) := Row.cell hx5r rfl
                        have b5 : x5.cell? ⟨pc, 5, none⟩ = some (.slice A1 M c1) := Row.cell hx5r rfl
                        have b6 : x5.cell? ⟨pc, 6, none⟩ = some (.slice none 0 0) := Row.cell hx5r rfl
                        have HFX := Lib.hid hfx
                        have HGX := Lib.hid ((HG4.out.fr HF4wb.out (fun h => h)).fr hfx (fun h => by have h1 : g = pc := h; have := HGP.out; omega))
                        have HSX : Hid (w4.heap.size ≤ w10.heap.size) := Lib.hid HF4wa.out.size
                        clear hx0 g1 g2 g3 g4 g5 hx1r hx2r hx3r hx4r hx5r hfx
                        go_wp2_with (refine store_st chSz rfl (.tmp 2) (.tmp 226) rfl g (by rfl) [.string (txt a), .int .i64 (q : Int), .int .i64 (st : Int), .int .i64 NN, .string (txt m), .slice A1 M c1, .slice none 0 0] (by rfl) _ _ HGX.out rfl rfl (by simp [Value.oneCell']) ?_)
                        intro wz hz hfz
                        have HZ := Lib.hid hz
                        have HFZ := Lib.hid hfz
                        have hfall : Fr (fun _ => False) w wz := Fr.trans (Fr.trans (Fr.trans HF4.out HF4wb.out (fun _ _ h => h)) HFX.out (fun k hk h => by have h1 : k = pc := h; have := HGP.out; omega)) hfz (fun k hk h => by have h1 : k = g := h; have := HGP.out; omega)
                        have HFALL := Lib.hid hfall
                        have HOH := Lib.hid (((HO4.out.fr HF4wb.out).frS HFX.out (fun k hk h => by have h1 : k = pc := h; have := HS4.out; have := HGP.out; omega)).frS hfz (fun k hk h => by have h1 : k = g := h; have := HS4.out; have := HGP.out; omega))
                        have HOT := Lib.hid ((HO11.out.frS HFX.out (fun k hk h => by have h1 : k = pc := h; have := HS4.out; have := HSX.out; have := HGP.out; omega)).frS hfz (fun k hk h => by have h1 : k = g := h; have := HS4.out; have := HSX.out; have := HGP.out; omega))
                        clear hz hfz hfall b0 b1 b2 b3 b4 b5 b6 f0 f1 f2 f3 f4 i0 i1 i2 i3 i4
                        go_wp2_with fail
                        refine bodyPost_ret (v := .tuple #[.agg [.string (txt a), .int .i64 (q : Int), .int .i64 (st : Int), .int .i64 NN, .string (txt m), .slice A1 M c1, .slice none 0 0].toArray, .slice A11 nt c11, .int .i64 ((p5 + K6 : Nat) : Int), .int .i64 0]) (by exact results_get rfl g rfl HZ.out rfl rfl rfl rfl) rfl ?_
                        rw [HB.out]
                        refine ⟨A1, c1, A11, c11, ?_, HOH.out.base (by have := HS4.out; have := HGP.out; omega), H32.out, HOT.out.base (by have := HS4.out; have := HSX.out; have := HGP.out; omega), HFALL.out⟩
                        simp only [chc]
                        rw [HDL.out, HNT.out]
                        rfl
              · have HB := Lib.hid (HST.out.1 hq)
                have hne : ((txt YY).toList == (txt X).toList) = false := by rw [beq_txt]; simp [hq]
                clear HST hq
                rcases hcs with ⟨h1, h2, DD, hD, r1, R, r2, r3⟩ | ⟨h1, r3⟩ | ⟨h1, h2, r3⟩
                · have t5 : decide ((k : Int) < 10) = true := by simp; omega
                  have t5' : decide (k < 10) = true := by simp; omega
                  have t6 : decide ((64 : Int) ≤ (l : Int)) = true := by simp; omega
                  have t6' : decide (64 ≤ l) = true := by simp; omega
                  have hn2 : (k : Int) < 10 := by omega
                  have hn3 : 7 * (k : Int) < 64 := by omega
                  rw [hD] at r1
                  clear hk1 hk10 hk1e hp4 hp34
                  go_upto_region 39 with fail
                  refine wp_region_held_drew (S := fun w' => Fr (fun _ => False) w7 w') (by kernel_rfl) (Fr.refl _ _).drew (fun hH => ?_)
                  refine tk 0 hH ?_
                  refine tk 1 hH ?_
                  refine tk 4 hH ?_
                  refine tk 5 hH ?_
                  refine tk 6 hH ?_
                  refine tk 7 hH ?_
                  refine tk 8 hH ?_
                  refine tk 9 hH ?_ (hy := by intro w hSw; have kk := HCUT.out w; go_simp; try (with_reducible rfl))
                  refine tk 10 hH ?_ (hy := by intro w hSw; (try dsimp only at hSw); have kk := HSTR.out w hSw; go_simp; try (with_reducible rfl))
                  refine rdo 2 (fun Kx hKx => ?_)
                  go_simp
                  have hcon := HSS.out w7.drew
                  with_reducible refine hcon.mono ?_
                  clear hcon
                  rintro e' w8 ⟨A8, c8, rfl, ho8, hff⟩
                  have hf8 : Fr (fun _ => False) w7 w8 := (Fr.refl _ _).drew.trans hff (fun _ _ h => h)
                  have HS8 := Lib.hid (fun w' (hf : Fr (fun _ => False) w8 w') => (ho8.fr hf).str)
                  have HF4w8 : Hid (Fr (fun _ => False) w4 w8) := Lib.hid (HF4w7.out.trans hf8 (fun _ _ h => h))
                  have HF78 := Lib.hid hf8
                  refine hKx.out _ _ hf8 (fun hH => ?_)
                  clear hKx Kx hff hf8 ho8
                  (try simp only [Act.put, List.setIfInBounds_toArray, List.set_cons_zero, List.set_cons_succ, List.getElem_toArray, List.getElem_cons_zero, List.getElem_cons_succ])
                  refine wpAnyH_more (fun w' => Fr (fun _ => False) w8 w') (fun _ h => HF78.out.trans h (fun _ _ h => h)) ?_ (fun hH => ?_)
                  · exact Fr.refl _ _
                  refine tk 3 hH ?_ (hy := by intro w hSw; (try dsimp only at hSw); have kk := HS8.out w hSw; go_simp; try (with_reducible rfl))
                  refine tk 11 hH ?_
                  refine wpAnyH_done (by kernel_rfl) ?_ _
                  go_wp2_with (refine store_st chSz rfl (.tmp 2) (.tmp 182) rfl g (by rfl) [.string ⟨#[]⟩, .int .i64 0, .int .i64 0, .int .i64 0, .string ⟨#[]⟩, .slice none 0 0, .slice none 0 0] (by rfl) _ _ (HG4.out.fr HF4w8.out (fun h => h)) rfl rfl (by simp [Value.oneCell']) ?_)
                  intro wz hz hfz
                  have HZ := Lib.hid hz
                  have HFZ : Hid (Fr (fun _ => False) w wz) := Lib.hid (Fr.trans (HF4.out.trans HF4w8.out (fun _ _ h => h)) hfz (fun k hk h => by have h1 : k = g := h; have := HGP.out; omega))
                  clear hz hfz
                  go_wp2_with fail
                  refine bodyPost_ret (v := .tuple #[.agg [.string ⟨#[]⟩, .int .i64 0, .int .i64 0, .int .i64 0, .string ⟨#[]⟩, .slice none 0 0, .slice none 0 0].toArray, .slice none 0 0, .int .i64 0, .int .i64 3]) (by exact results_get rfl g rfl HZ.out rfl rfl rfl rfl) rfl ?_
                  rw [HB.out]
                  exact ⟨none, 0, none, 0, rfl, OwnH.nil _ _, fun h hh => (by cases hh), OwT.nil _ _, HFZ.out⟩
                · have t5 : decide ((k : Int) < 10) = false := by simp; omega
                  have t5' : decide (k < 10) = false := by simp; omega
                  clear hk1 hk10 hk1e hp4 hp34
                  go_upto_region 39 with fail
                  refine wp_region_held_drew (S := fun w' => Fr (fun _ => False) w7 w') (by kernel_rfl) (Fr.refl _ _).drew (fun hH => ?_)
                  refine tk 0 hH ?_
                  refine tk 1 hH ?_
                  refine tk 4 hH ?_
                  refine tk 5 hH ?_
                  refine tk 6 hH ?_
                  refine tk 7 hH ?_
                  refine tk 8 hH ?_
                  refine tk 9 hH ?_ (hy := by intro w hSw; have kk := HCUT.out w; go_simp; try (with_reducible rfl))
                  refine tk 10 hH ?_ (hy := by intro w hSw; (try dsimp only at hSw); have kk := HSTR.out w hSw; go_simp; try (with_reducible rfl))
                  refine rdo 2 (fun Kx hKx => ?_)
                  go_simp
                  have hcon := HSS.out w7.drew
                  with_reducible refine hcon.mono ?_
                  clear hcon
                  rintro e' w8 ⟨A8, c8, rfl, ho8, hff⟩
                  have hf8 : Fr (fun _ => False) w7 w8 := (Fr.refl _ _).drew.trans hff (fun _ _ h => h)
                  have HS8 := Lib.hid (fun w' (hf : Fr (fun _ => False) w8 w') => (ho8.fr hf).str)
                  have HF4w8 : Hid (Fr (fun _ => False) w4 w8) := Lib.hid (HF4w7.out.trans hf8 (fun _ _ h => h))
                  have HF78 := Lib.hid hf8
                  refine hKx.out _ _ hf8 (fun hH => ?_)
                  clear hKx Kx hff hf8 ho8
                  (try simp only [Act.put, List.setIfInBounds_toArray, List.set_cons_zero, List.set_cons_succ, List.getElem_toArray, List.getElem_cons_zero, List.getElem_cons_succ])
                  refine wpAnyH_more (fun w' => Fr (fun _ => False) w8 w') (fun _ h => HF78.out.trans h (fun _ _ h => h)) ?_ (fun hH => ?_)
                  · exact Fr.refl _ _
                  refine tk 3 hH ?_ (hy := by intro w hSw; (try dsimp only at hSw); have kk := HS8.out w hSw; go_simp; try (with_reducible rfl))
                  refine tk 11 hH ?_
                  refine wpAnyH_done (by kernel_rfl) ?_ _
                  go_wp2_with (refine store_st chSz rfl (.tmp 2) (.tmp 182) rfl g (by rfl) [.string ⟨#[]⟩, .int .i64 0, .int .i64 0, .int .i64 0, .string ⟨#[]⟩, .slice none 0 0, .slice none 0 0] (by rfl) _ _ (HG4.out.fr HF4w8.out (fun h => h)) rfl rfl (by simp [Value.oneCell']) ?_)
                  intro wz hz hfz
                  have HZ := Lib.hid hz
                  have HFZ : Hid (Fr (fun _ => False) w wz) := Lib.hid (Fr.trans (HF4.out.trans HF4w8.out (fun _ _ h => h)) hfz (fun k hk h => by have h1 : k = g := h; have := HGP.out; omega))
                  clear hz hfz
                  go_wp2_with fail
                  refine bodyPost_ret (v := .tuple #[.agg [.string ⟨#[]⟩, .int .i64 0, .int .i64 0, .int .i64 0, .string ⟨#[]⟩, .slice none 0 0, .slice none 0 0].toArray, .slice none 0 0, .int .i64 0, .int .i64 3]) (by exact results_get rfl g rfl HZ.out rfl rfl rfl rfl) rfl ?_
                  rw [HB.out]
                  exact ⟨none, 0, none, 0, rfl, OwnH.nil _ _, fun h hh => (by cases hh), OwT.nil _ _, HFZ.out⟩
                · have t5 : decide ((k : Int) < 10) = true := by simp; omega
                  have t5' : decide (k < 10) = true := by simp; omega
                  have t6 : decide ((64 : Int) ≤ (l : Int)) = false := by simp; omega
                  have t6' : decide (64 ≤ l) = false := by simp; omega
                  clear hk1 hk10 hk1e hp4 hp34
                  go_upto_region 39 with fail
                  refine wp_region_held_drew (S := fun w' => Fr (fun _ => False) w7 w') (by kernel_rfl) (Fr.refl _ _).drew (fun hH => ?_)
                  refine tk 0 hH ?_
                  refine tk 1 hH ?_
                  refine tk 4 hH ?_
                  refine tk 5 hH ?_
                  refine tk 6 hH ?_
                  refine tk 7 hH ?_
                  refine tk 8 hH ?_
                  refine tk 9 hH ?_ (hy := by intro w hSw; have kk := HCUT.out w; go_simp; try (with_reducible rfl))
                  refine tk 10 hH ?_ (hy := by intro w hSw; (try dsimp only at hSw); have kk := HSTR.out w hSw; go_simp; try (with_reducible rfl))
                  refine rdo 2 (fun Kx hKx => ?_)
                  go_simp
                  have hcon := HSS.out w7.drew
                  with_reducible refine hcon.mono ?_
                  clear hcon
                  rintro e' w8 ⟨A8, c8, rfl, ho8, hff⟩
                  have hf8 : Fr (fun _ => False) w7 w8 := (Fr.refl _ _).drew.trans hff (fun _ _ h => h)
                  have HS8 := Lib.hid (fun w' (hf : Fr (fun _ => False) w8 w') => (ho8.fr hf).str)
                  have HF4w8 : Hid (Fr (fun _ => False) w4 w8) := Lib.hid (HF4w7.out.trans hf8 (fun _ _ h => h))
                  have HF78 := Lib.hid hf8
                  refine hKx.out _ _ hf8 (fun hH => ?_)
                  clear hKx Kx hff hf8 ho8
                  (try simp only [Act.put, List.setIfInBounds_toArray, List.set_cons_zero, List.set_cons_succ, List.getElem_toArray, List.getElem_cons_zero, List.getElem_cons_succ])
                  refine wpAnyH_more (fun w' => Fr (fun _ => False) w8 w') (fun _ h => HF78.out.trans h (fun _ _ h => h)) ?_ (fun hH => ?_)
                  · exact Fr.refl _ _
                  refine tk 3 hH ?_ (hy := by intro w hSw; (try dsimp only at hSw); have kk := HS8.out w hSw; go_simp; try (with_reducible rfl))
                  refine tk 11 hH ?_
                  refine wpAnyH_done (by kernel_rfl) ?_ _
                  go_wp2_with (refine store_st chSz rfl (.tmp 2) (.tmp 182) rfl g (by rfl) [.string ⟨#[]⟩, .int .i64 0, .int .i64 0, .int .i64 0, .string ⟨#[]⟩, .slice none 0 0, .slice none 0 0] (by rfl) _ _ (HG4.out.fr HF4w8.out (fun h => h)) rfl rfl (by simp [Value.oneCell']) ?_)
                  intro wz hz hfz
                  have HZ := Lib.hid hz
                  have HFZ : Hid (Fr (fun _ => False) w wz) := Lib.hid (Fr.trans (HF4.out.trans HF4w8.out (fun _ _ h => h)) hfz (fun k hk h => by have h1 : k = g := h; have := HGP.out; omega))
                  clear hz hfz
                  go_wp2_with fail
                  refine bodyPost_ret (v := .tuple #[.agg [.string ⟨#[]⟩, .int .i64 0, .int .i64 0, .int .i64 0, .string ⟨#[]⟩, .slice none 0 0, .slice none 0 0].toArray, .slice none 0 0, .int .i64 0, .int .i64 3]) (by exact results_get rfl g rfl HZ.out rfl rfl rfl rfl) rfl ?_
                  rw [HB.out]
                  exact ⟨none, 0, none, 0, rfl, OwnH.nil _ _, fun h hh => (by cases hh), OwT.nil _ _, HFZ.out⟩
end Go.Proofs.Ytbnkahjmeobblaa
