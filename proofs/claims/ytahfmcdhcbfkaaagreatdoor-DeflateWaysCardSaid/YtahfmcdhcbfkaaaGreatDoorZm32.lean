/-
  Contracts of layer 7's program: symbol, Literal, Length, Distance.
  Contracts of layer 7's program: Length, Distance.
  Contract of layer 7's program: Weights.
-/
import Derived.Test.YtahfmcdhcbfkaaaGreatDoorSyQ
import Derived.Deep.RegionHeld3
import Derived.Test.YtahfmcdhcbfkaaaGreatDoorZm22
import Derived.Test.YtahfmcdhcbfkaaaGreatDoorSyD
namespace Go.Proofs.YtahfmcdhcbfkaaaGreatDoor
open Go.RowKit SyM LzM Mem Go.Lib
attribute [local go_sem ↓] Go.wp_at_zero Go.wp_at_succ
set_option linter.unusedVariables false

set_option maxRecDepth 100000 in
theorem symbol_any (s n a b x : Nat) (w : World) (hx : n = a + x) (hn : n ≤ 1000000) (hs : s ≤ 1000000) (hb : b ≤ 1000000) :
    Calls Tryz.prog 75 #[.int .i64 (s : Int), .int .i64 (n : Int), .agg #[.int .i64 (a : Int), .int .i64 (b : Int)]] w fun e w' => e = .returned (.agg #[.int .i64 (s : Int), .int .i64 (b : Int), .int .u64 (x : Int)]) ∧ Fr (fun _ => False) w w' := by
  have hd : IntKind.i64.wrap ((n : Int) - (a : Int)) = (x : Int) := by rw [IntKind.wrap_i64]; omega
  have hd2 : (n : Int) - (a : Int) = (x : Int) := by omega
  have hcv : ∀ w : World, (convert 3 46 (.int .i64 (x : Int))).run Tryz.prog w = .ok (.int .u64 (x : Int)) w := by
    intro w
    go_simp
    rw [IntKind.wrap_u64]
    omega
  clear hx
  go_enter Tryz.func75, Tryz.ntmps75
  go_wp2_with fail
  exact bodyPost_ret (v := .agg #[.int .i64 (s : Int), .int .i64 (b : Int), .int .u64 (x : Int)]) (by simp [results, Tryz.results75, go_sem]) rfl ⟨rfl, ((Fr.refl _ w).alloc _).alloc _⟩

set_option maxRecDepth 100000 in
theorem literal_any (b : UInt8) (w : World) : Calls Tryz.prog 53 #[.int .u8 (b.toNat : Int)] w fun e w' => e = .returned (symv b.toNat 0 0) ∧ Fr (fun _ => False) w w' := by
  obtain ⟨u, hu⟩ : ∃ u, u = b.toNat := ⟨_, rfl⟩
  have hu2 : u < 256 := by rw [hu]; exact b.toNat_lt
  rw [← hu]
  clear hu
  have hcv : ∀ w : World, (convert 5 3 (.int .u8 (u : Int))).run Tryz.prog w = .ok (.int .i64 (u : Int)) w := by
    intro w
    go_simp
    rw [IntKind.wrap_i64]
    omega
  unfold symv
  go_enter Tryz.func53, Tryz.ntmps53
  go_wp2_with fail
  exact bodyPost_ret (v := .agg #[.int .i64 (u : Int), .int .i64 0, .int .u64 0]) (by simp [results, Tryz.results53, go_sem]) rfl ⟨rfl, (Fr.refl _ w).alloc _⟩
end Go.Proofs.YtahfmcdhcbfkaaaGreatDoor
namespace Go.Proofs.YtahfmcdhcbfkaaaGreatDoor
open Go.RowKit SyM LzM Mem Go.Lib
attribute [local go_sem ↓] Go.wp_at_zero Go.wp_at_succ
set_option linter.unusedVariables false

/-- what a search by halves finds is the symbol -/
theorem sym_of_search {R : List (Nat × Nat)} (m k : Nat) (hR : 0 < R.length) (h0 : least R 0 ≤ m) (hk : k ≤ R.length) (h1 : ∀ t, t < k → decide (m < least R t) = false) (h2 : ∀ t, k ≤ t → t < R.length → decide (m < least R t) = true) : k = sym (m : Int) R + 1 := by
  obtain ⟨a, b⟩ := sym_is (R := R) (m : Int) hR (by omega)
  have c := sym_lt (m : Int) R hR
  rcases Nat.lt_trichotomy k (sym (m : Int) R + 1) with h | h | h
  · have := h2 (sym (m : Int) R) (by omega) c
    simp at this
    omega
  · exact h
  · have := h1 (sym (m : Int) R + 1) h
    have := b (sym (m : Int) R + 1) (by omega) (by omega)
    simp at *
    omega

theorem symSize : (Tryz.prog.info? 84).map (·.size) = some 3 := by kernel_rfl
theorem symSz : (Tryz.prog.info? 84).map (·.size) = some 3 := by kernel_rfl
set_option maxRecDepth 100000 in
set_option maxHeartbeats 1600000 in
theorem length_any (n : Int) (w : World) (hG : Gl w) (hn : inI n) : Calls Tryz.prog 54 #[.int .i64 n] w fun e w' => e = .returned (symv (257 + lenS n) (wid lens (lenS n)) (lenX n)) ∧ Fr (fun _ => False) w w' := by
  obtain ⟨m, hm⟩ : ∃ m : Nat, (m : Int) = clampI n 3 258 := ⟨(clampI n 3 258).toNat, by have := clampI_in n 3 258 (by omega); omega⟩
  have hmi := clampI_in n 3 258 (by omega)
  rw [← hm] at hmi
  obtain ⟨k, hk⟩ : ∃ k, k = lenS n := ⟨_, rfl⟩
  have hk29 : k < 29 := by rw [hk]; exact lenS_lt n
  have hks : sym (m : Int) lens = k := by rw [hk, hm]; rfl
  have hX := (lenX_is n).1
  rw [← hm, ← hk] at hX
  obtain ⟨x, hx⟩ : ∃ x, x = lenX n := ⟨_, rfl⟩
  rw [← hx] at hX
  obtain ⟨a, ha⟩ : ∃ a, a = least lens k := ⟨_, rfl⟩
  obtain ⟨b, hb⟩ : ∃ b, b = wid lens k := ⟨_, rfl⟩
  have hb13 : b ≤ 13 := by rw [hb]; exact lens_wid k
  rw [← ha] at hX
  rw [← hk, ← hb, ← hx]
  have hwi : ∀ w, Calls Tryz.prog 72 #[.int .i64 n, .int .i64 3, .int .i64 258] w fun e w' => e = .returned (.int .i64 (m : Int)) ∧ w = w' := fun w => by
    rw [hm]
    exact clamp_any n 3 258 w
  obtain ⟨s, hs⟩ : ∃ s, s = 257 + k := ⟨_, rfl⟩
  rw [← hs]
  have hsw : IntKind.i64.wrap (257 + (k : Int)) = (s : Int) := by rw [IntKind.wrap_i64]; omega
  have hsw2 : 257 + (k : Int) = (s : Int) := by omega
  have hsy : ∀ w, Calls Tryz.prog 75 #[.int .i64 (s : Int), .int .i64 (m : Int), .agg #[.int .i64 (a : Int), .int .i64 (b : Int)]] w fun e w' => e = .returned (.agg #[.int .i64 (s : Int), .int .i64 (b : Int), .int .u64 (x : Int)]) ∧ Fr (fun _ => False) w w' := fun w => symbol_any s m a b x w (by omega) (by omega) (by omega) (by omega)
  have hse : ∀ (p : Nat) (w : World), Gl w → w.cell? ⟨p, 0, none⟩ = some (.int .i64 (m : Int)) → Calls Tryz.prog 73 #[.int .i64 29, .func (.func 74) #[] #[.pointer (some ⟨p, 0, none⟩)]] w fun e w' => e = .returned (.int .i64 ((k : Int) + 1)) ∧ Fr (fun _ => False) w w' := by
    intro p w hG hp
    have h := search_len p 29 (fun i => decide (m < least lens i)) w (by omega) (fun i j hij hj h => by
      have := rise_le rise_lens (j - i) i (by show i + (j - i) < 29; omega)
      rw [show i + (j - i) = j by omega] at this
      simp at h ⊢
      omega) (fun i wr hi hf => len1_any i p m wr ((hG.fr0 hf).1) hi (hf.cell hp (fun h => h)))
    refine h.mono ?_
    rintro e w' ⟨q, rfl, h1, h2, h3, h4⟩
    have e1 := sym_of_search (R := lens) m q (by decide) (by show 3 ≤ m; omega) h2 h3 h4
    rw [hks] at e1
    exact ⟨by rw [e1]; rfl, h1⟩
  have hkm : (k : Int) + 1 - 1 = (k : Int) := by omega
  have hki : (k : Int) < 29 := by omega
  unfold symv
  have HWI := Lib.hid hwi
  have HSY := Lib.hid hsy
  have HSE := Lib.hid hse
  have HAB := Lib.hid (And.intro ha hb)
  have HG := Lib.hid hG
  have HK29 := Lib.hid hk29
  clear hG hn hm hk hs hks hX hx ha hb hwi hsy hse hmi
  go_enter Tryz.func54, Tryz.ntmps54
  go_upto_region 1 with fail
  obtain ⟨w0, hw0⟩ : ∃ w0, (w.alloc (.cells #[Value.int .i64 n] 3)).alloc (.cells #[Value.int .i64 0, .int .i64 0, .int .u64 0] 84) = w0 := ⟨_, rfl⟩
  have hf0 : Fr (fun _ => False) w w0 := by rw [← hw0]; exact ((Fr.refl _ w).alloc _).alloc _
  have hp0 : Row w0 w.heap.size 3 [Value.int .i64 n] := by rw [← hw0]; exact Row.alloc (Row.new w _ _) _
  have hr0 : Row w0 (w.heap.size + 1) 84 [Value.int .i64 0, .int .i64 0, .int .u64 0] := by
    rw [← hw0]
    have h := Row.new (w.alloc (.cells #[Value.int .i64 n] 3)) 84 [Value.int .i64 0, .int .i64 0, .int .u64 0]
    rwa [show (w.alloc (.cells #[Value.int .i64 n] 3)).heap.size = w.heap.size + 1 by simp] at h
  obtain ⟨p, hp⟩ : ∃ p, p = w.heap.size := ⟨_, rfl⟩
  obtain ⟨r, hr⟩ : ∃ r, r = p + 1 := ⟨_, rfl⟩
  rw [hw0]
  rw [← hp] at hp0 hr0 ⊢
  rw [← hr] at hr0 ⊢
  have c0 : w0.cell? ⟨p, 0, none⟩ = some (.int .i64 n) := hp0.cell rfl
  have f0 := hp0.free 0
  have hp1 : Row (w0.setCell ⟨p, 0, none⟩ (.int .i64 (m : Int))) p 3 [.int .i64 (m : Int)] := hp0.set 0 _
  have hr1 : Row (w0.setCell ⟨p, 0, none⟩ (.int .i64 (m : Int))) r 84 [Value.int .i64 0, .int .i64 0, .int .u64 0] := hr0.other (by omega) _
  have hf1 : Fr (fun _ => False) w (w0.setCell ⟨p, 0, none⟩ (.int .i64 (m : Int))) := hf0.trans (Fr.set1 w0 p 0 _) (fun b hb h => by omega)
  obtain ⟨w1, hw1⟩ : ∃ w1, w1 = w0.setCell ⟨p, 0, none⟩ (.int .i64 (m : Int)) := ⟨_, rfl⟩
  rw [← hw1] at hp1 hr1 hf1
  have HW1 := Lib.hid hw1
  have HNR : Hid (¬ (0 = r)) := Lib.hid (by have := HG.out.size; unfold top7 at this; omega)
  have HPR : Hid (w.heap.size ≤ p ∧ w.heap.size ≤ r ∧ p ≠ r) := Lib.hid ⟨by omega, by omega, by omega⟩
  have HF1 := Lib.hid hf1
  have HG1 := Lib.hid (HG.out.fr0 hf1)
  have HP1 := Lib.hid hp1
  have HR1 := Lib.hid hr1
  clear hw0 hf0 hp0 hr0 hp hr hp1 hr1 hf1 hw1
  go_wp2_with (refine (HWI.out _).mono ?_; rintro e w' ⟨rfl, rfl⟩)
  rw [← HW1.out]
  refine (HSE.out p w1 HG1.out (HP1.out.cell rfl)).mono ?_
  rintro e w2 ⟨rfl, hf2⟩
  have hp2 := HP1.out.fr hf2 (fun h => h)
  have hr2 := HR1.out.fr hf2 (fun h => h)
  have HF2 := Lib.hid (HF1.out.trans hf2 (fun _ _ h => h))
  have hG2 := HG1.out.fr0 hf2
  obtain ⟨e0, e1⟩ := hG2.1 k HK29.out
  rw [← HAB.out.1] at e0
  rw [← HAB.out.2] at e1
  have c2 : w2.cell? ⟨p, 0, none⟩ = some (.int .i64 (m : Int)) := hp2.cell rfl
  have HR2 := Lib.hid hr2
  have HSY2 := Lib.hid (HSY.out w2.drew)
  clear hf2 hp2 hr2 hG2 c0 f0
  go_upto_region 3 with fail
  go_still_tail 6, (by kernel_rfl)
  change wpList _ _ _ _ _ w2.drew
  go_wp2_with (first
    | (refine HSY2.out.mono ?_
       rintro e w3 ⟨rfl, hf3⟩
       have HR3 := Lib.hid (HR2.out.drew.fr hf3 (fun h => h))
       have HF3 := Lib.hid (HF2.out.drew.trans hf3 (fun _ _ h => h))
       clear hf3)
    | (refine store_st symSz rfl (.tmp 2) (.tmp 15) rfl r (by rfl) [.int .i64 (s : Int), .int .i64 (b : Int), .int .u64 (x : Int)] (by rfl) _ _ HR3.out rfl rfl (symv_one s b x) ?_
       intro w4 hr4 hf4
       have HR4 := Lib.hid hr4
       have HF4 := Lib.hid (HF3.out.trans hf4 (fun b hb h => by have := HPR.out.2.1; omega))
       clear hr4 hf4))
  have d0 : w4.cell? ⟨r, 0, none⟩ = some (.int .i64 (s : Int)) := HR4.out.cell rfl
  have d1 : w4.cell? ⟨r, 1, none⟩ = some (.int .i64 (b : Int)) := HR4.out.cell rfl
  have d2 : w4.cell? ⟨r, 2, none⟩ = some (.int .u64 (x : Int)) := HR4.out.cell rfl
  exact bodyPost_ret (v := .agg #[.int .i64 (s : Int), .int .i64 (b : Int), .int .u64 (x : Int)]) (by simp [results, Tryz.results54, go_sem, d0, d1, d2]) rfl ⟨rfl, HF4.out⟩

set_option maxRecDepth 100000 in
set_option maxHeartbeats 1600000 in
theorem distance_any (n : Int) (w : World) (hG : Gl w) (hn : inI n) : Calls Tryz.prog 55 #[.int .i64 n] w fun e w' => e = .returned (symv (distS n) (wid dists (distS n)) (distX n)) ∧ Fr (fun _ => False) w w' := by
  obtain ⟨m, hm⟩ : ∃ m : Nat, (m : Int) = clampI n 1 32768 := ⟨(clampI n 1 32768).toNat, by have := clampI_in n 1 32768 (by omega); omega⟩
  have hmi := clampI_in n 1 32768 (by omega)
  rw [← hm] at hmi
  obtain ⟨k, hk⟩ : ∃ k, k = distS n := ⟨_, rfl⟩
  have hk29 : k < 30 := by rw [hk]; exact distS_lt n
  have hks : sym (m : Int) dists = k := by rw [hk, hm]; rfl
  have hX := (distX_is n).1
  rw [← hm, ← hk] at hX
  obtain ⟨x, hx⟩ : ∃ x, x = distX n := ⟨_, rfl⟩
  rw [← hx] at hX
  obtain ⟨a, ha⟩ : ∃ a, a = least dists k := ⟨_, rfl⟩
  obtain ⟨b, hb⟩ : ∃ b, b = wid dists k := ⟨_, rfl⟩
  have hb13 : b ≤ 13 := by rw [hb]; exact dists_wid k
  rw [← ha] at hX
  rw [← hk, ← hb, ← hx]
  have hwi : ∀ w, Calls Tryz.prog 72 #[.int .i64 n, .int .i64 1, .int .i64 32768] w fun e w' => e = .returned (.int .i64 (m : Int)) ∧ w = w' := fun w => by
    rw [hm]
    exact clamp_any n 1 32768 w
  have hsy : ∀ w, Calls Tryz.prog 75 #[.int .i64 (k : Int), .int .i64 (m : Int), .agg #[.int .i64 (a : Int), .int .i64 (b : Int)]] w fun e w' => e = .returned (.agg #[.int .i64 (k : Int), .int .i64 (b : Int), .int .u64 (x : Int)]) ∧ Fr (fun _ => False) w w' := fun w => symbol_any k m a b x w (by omega) (by omega) (by omega) (by omega)
  have hse : ∀ (p : Nat) (w : World), Gl w → w.cell? ⟨p, 0, none⟩ = some (.int .i64 (m : Int)) → Calls Tryz.prog 73 #[.int .i64 30, .func (.func 76) #[] #[.pointer (some ⟨p, 0, none⟩)]] w fun e w' => e = .returned (.int .i64 ((k : Int) + 1)) ∧ Fr (fun _ => False) w w' := by
    intro p w hG hp
    have h := search_dist p 30 (fun i => decide (m < least dists i)) w (by omega) (fun i j hij hj h => by
      have := rise_le rise_dists (j - i) i (by show i + (j - i) < 30; omega)
      rw [show i + (j - i) = j by omega] at this
      simp at h ⊢
      omega) (fun i wr hi hf => dist1_any i p m wr ((hG.fr0 hf).2) hi (hf.cell hp (fun h => h)))
    refine h.mono ?_
    rintro e w' ⟨q, rfl, h1, h2, h3, h4⟩
    have e1 := sym_of_search (R := dists) m q (by decide) (by show 1 ≤ m; omega) h2 h3 h4
    rw [hks] at e1
    exact ⟨by rw [e1]; rfl, h1⟩
  have hkm : (k : Int) + 1 - 1 = (k : Int) := by omega
  have hki : (k : Int) < 30 := by omega
  unfold symv
  have HWI := Lib.hid hwi
  have HSY := Lib.hid hsy
  have HSE := Lib.hid hse
  have HAB := Lib.hid (And.intro ha hb)
  have HG := Lib.hid hG
  have HK29 := Lib.hid hk29
  clear hG hn hm hk hks hX hx ha hb hwi hsy hse hmi
  go_enter Tryz.func55, Tryz.ntmps55
  go_upto_region 1 with fail
  obtain ⟨w0, hw0⟩ : ∃ w0, (w.alloc (.cells #[Value.int .i64 n] 3)).alloc (.cells #[Value.int .i64 0, .int .i64 0, .int .u64 0] 84) = w0 := ⟨_, rfl⟩
  have hf0 : Fr (fun _ => False) w w0 := by rw [← hw0]; exact ((Fr.refl _ w).alloc _).alloc _
  have hp0 : Row w0 w.heap.size 3 [Value.int .i64 n] := by rw [← hw0]; exact Row.alloc (Row.new w _ _) _
  have hr0 : Row w0 (w.heap.size + 1) 84 [Value.int .i64 0, .int .i64 0, .int .u64 0] := by
    rw [← hw0]
    have h := Row.new (w.alloc (.cells #[Value.int .i64 n] 3)) 84 [Value.int .i64 0, .int .i64 0, .int .u64 0]
    rwa [show (w.alloc (.cells #[Value.int .i64 n] 3)).heap.size = w.heap.size + 1 by simp] at h
  obtain ⟨p, hp⟩ : ∃ p, p = w.heap.size := ⟨_, rfl⟩
  obtain ⟨r, hr⟩ : ∃ r, r = p + 1 := ⟨_, rfl⟩
  rw [hw0]
  rw [← hp] at hp0 hr0 ⊢
  rw [← hr] at hr0 ⊢
  have c0 : w0.cell? ⟨p, 0, none⟩ = some (.int .i64 n) := hp0.cell rfl
  have f0 := hp0.free 0
  have hp1 : Row (w0.setCell ⟨p, 0, none⟩ (.int .i64 (m : Int))) p 3 [.int .i64 (m : Int)] := hp0.set 0 _
  have hr1 : Row (w0.setCell ⟨p, 0, none⟩ (.int .i64 (m : Int))) r 84 [Value.int .i64 0, .int .i64 0, .int .u64 0] := hr0.other (by omega) _
  have hf1 : Fr (fun _ => False) w (w0.setCell ⟨p, 0, none⟩ (.int .i64 (m : Int))) := hf0.trans (Fr.set1 w0 p 0 _) (fun b hb h => by omega)
  obtain ⟨w1, hw1⟩ : ∃ w1, w1 = w0.setCell ⟨p, 0, none⟩ (.int .i64 (m : Int)) := ⟨_, rfl⟩
  rw [← hw1] at hp1 hr1 hf1
  have HW1 := Lib.hid hw1
  have HNR : Hid (¬ (1 = r)) := Lib.hid (by have := HG.out.size; unfold top7 at this; omega)
  have HPR : Hid (w.heap.size ≤ p ∧ w.heap.size ≤ r ∧ p ≠ r) := Lib.hid ⟨by omega, by omega, by omega⟩
  have HF1 := Lib.hid hf1
  have HG1 := Lib.hid (HG.out.fr0 hf1)
  have HP1 := Lib.hid hp1
  have HR1 := Lib.hid hr1
  clear hw0 hf0 hp0 hr0 hp hr hp1 hr1 hf1 hw1
  go_wp2_with (refine (HWI.out _).mono ?_; rintro e w' ⟨rfl, rfl⟩)
  rw [← HW1.out]
  refine (HSE.out p w1 HG1.out (HP1.out.cell rfl)).mono ?_
  rintro e w2 ⟨rfl, hf2⟩
  have hp2 := HP1.out.fr hf2 (fun h => h)
  have hr2 := HR1.out.fr hf2 (fun h => h)
  have HF2 := Lib.hid (HF1.out.trans hf2 (fun _ _ h => h))
  have hG2 := HG1.out.fr0 hf2
  obtain ⟨e0, e1⟩ := hG2.2 k HK29.out
  rw [← HAB.out.1] at e0
  rw [← HAB.out.2] at e1
  have c2 : w2.cell? ⟨p, 0, none⟩ = some (.int .i64 (m : Int)) := hp2.cell rfl
  have HR2 := Lib.hid hr2
  have HSY2 := Lib.hid (HSY.out w2.drew)
  clear hf2 hp2 hr2 hG2 c0 f0
  go_upto_region 3 with fail
  go_still_tail 5, (by kernel_rfl)
  change wpList _ _ _ _ _ w2.drew
  go_wp2_with (first
    | (refine HSY2.out.mono ?_
       rintro e w3 ⟨rfl, hf3⟩
       have HR3 := Lib.hid (HR2.out.drew.fr hf3 (fun h => h))
       have HF3 := Lib.hid (HF2.out.drew.trans hf3 (fun _ _ h => h))
       clear hf3)
    | (refine store_st symSz rfl (.tmp 2) (.tmp 14) rfl r (by rfl) [.int .i64 (k : Int), .int .i64 (b : Int), .int .u64 (x : Int)] (by rfl) _ _ HR3.out rfl rfl (symv_one k b x) ?_
       intro w4 hr4 hf4
       have HR4 := Lib.hid hr4
       have HF4 := Lib.hid (HF3.out.trans hf4 (fun b hb h => by have := HPR.out.2.1; omega))
       clear hr4 hf4))
  have d0 : w4.cell? ⟨r, 0, none⟩ = some (.int .i64 (k : Int)) := HR4.out.cell rfl
  have d1 : w4.cell? ⟨r, 1, none⟩ = some (.int .i64 (b : Int)) := HR4.out.cell rfl
  have d2 : w4.cell? ⟨r, 2, none⟩ = some (.int .u64 (x : Int)) := HR4.out.cell rfl
  exact bodyPost_ret (v := .agg #[.int .i64 (k : Int), .int .i64 (b : Int), .int .u64 (x : Int)]) (by simp [results, Tryz.results55, go_sem, d0, d1, d2]) rfl ⟨rfl, HF4.out⟩
end Go.Proofs.YtahfmcdhcbfkaaaGreatDoor
namespace Go.Proofs.YtahfmcdhcbfkaaaGreatDoor
open Go.RowKit SyM LzM Mem Go.Lib
attribute [local go_sem ↓] Go.wp_at_zero Go.wp_at_succ
set_option linter.unusedVariables false

theorem run_symS (a b c : Int) (w : World) : (Instr.field 84 (.agg #[.int .i64 a, .int .i64 b, .int .u64 c]) 0).run Tryz.prog w = .ok (.int .i64 a) w := by
  unfold Instr.field
  go_simp
  rfl

set_option maxRecDepth 100000 in
set_option maxHeartbeats 3200000 in
theorem pWeights_any (A : Option Addr) (n c : Nat) (T : List Tok) (w : World) (hG : Gl w) (hT : Toks w A n T) (hn : n ≤ 1000000) (hfit : ∀ t ∈ T, Fits t) :
    Calls Tryz.prog 35 #[.slice A n c] w fun e w' => ∃ ga gb, e = .returned (.tuple #[.slice (some ⟨ga, 0, none⟩) 286 286, .slice (some ⟨gb, 0, none⟩) 30 30]) ∧ NRow w' ga (weigh T SyM.start).1 ∧ NRow w' gb (weigh T SyM.start).2 ∧ Fr (fun _ => False) w w' := by
  have HGL := Lib.hid hG
  have HT := Lib.hid hT
  have hln := hT.1
  have HLN := Lib.hid hln
  have HFT := Lib.hid hfit
  obtain ⟨R, hR⟩ : ∃ R, R = weigh T SyM.start := ⟨_, rfl⟩
  rw [← hR]
  have HR := Lib.hid hR
  have hmk1 : ∀ w : World, (Instr.makeSlice 36 (.int .i64 286) (.int .i64 286)).run Tryz.prog w = .ok (.slice (some ⟨w.heap.size, 0, none⟩) 286 286) (w.alloc (.cells (Array.replicate 286 (.int .i64 0)) 3)) := mk_int7 286 (by omega)
  have hmk2 : ∀ w : World, (Instr.makeSlice 36 (.int .i64 30) (.int .i64 30)).run Tryz.prog w = .ok (.slice (some ⟨w.heap.size, 0, none⟩) 30 30) (w.alloc (.cells (Array.replicate 30 (.int .i64 0)) 3)) := mk_int7 30 (by omega)
  obtain ⟨ra, hra⟩ : ∃ r, r = Array.replicate 286 (Value.int .i64 0) := ⟨_, rfl⟩
  obtain ⟨rb, hrb⟩ : ∃ r, r = Array.replicate 30 (Value.int .i64 0) := ⟨_, rfl⟩
  have hza : ∀ w : World, NRow (w.alloc (.cells ra 3)) w.heap.size (List.replicate 286 0) := fun w => by rw [hra]; exact NRow.zeros w 286
  have hzb : ∀ w : World, NRow (w.alloc (.cells rb 3)) w.heap.size (List.replicate 30 0) := fun w => by rw [hrb]; exact NRow.zeros w 30
  rw [← hra] at hmk1
  rw [← hrb] at hmk2
  have HZA := Lib.hid hza
  have HZB := Lib.hid hzb
  clear hG hT hln hfit hR hra hrb hza hzb
  have hfs := run_symS
  go_enter Tryz.func35, Tryz.ntmps35
  go_upto_region 1 with fail
  go_cut [4, 5] (fun a b wx => ∃ ga gb, a = .slice (some ⟨ga, 0, none⟩) 286 286 ∧ b = .slice (some ⟨gb, 0, none⟩) 30 30 ∧ ga ≠ gb ∧ w.heap.size ≤ ga ∧ w.heap.size ≤ gb ∧ NRow wx ga (List.replicate 286 0) ∧ NRow wx gb (List.replicate 30 0) ∧ Fr (fun _ => False) w wx)
  case first =>
    go_region
    · go_wp2_with fail
      go_meet
      refine ⟨w.heap.size, w.heap.size + 1, rfl, rfl, by omega, by omega, by omega, ?_, ?_, (((Fr.refl _ w).alloc _).alloc _).drew⟩
      · exact Row.drew (Row.alloc (HZA.out w) _)
      · have h := HZB.out (w.alloc (.cells ra 3))
        rw [show (w.alloc (.cells ra 3)).heap.size = w.heap.size + 1 by simp] at h
        exact Row.drew h
    · go_wp2_with fail
      go_meet
      refine ⟨w.heap.size + 1, w.heap.size, rfl, rfl, by omega, by omega, by omega, ?_, ?_, (((Fr.refl _ w).alloc _).alloc _).drew⟩
      · have h := HZA.out (w.alloc (.cells rb 3))
        rw [show (w.alloc (.cells rb 3)).heap.size = w.heap.size + 1 by simp] at h
        exact Row.drew h
      · exact Row.drew (Row.alloc (HZB.out w) _)
  obtain ⟨ga, gb, rfl, rfl, hab, hga, hgb, ha, hb, hf⟩ := hcut
  rename World => w1
  obtain ⟨z286, hz286⟩ : ∃ z, z = List.replicate 286 0 := ⟨_, rfl⟩
  obtain ⟨z30, hz30⟩ : ∃ z, z = List.replicate 30 0 := ⟨_, rfl⟩
  rw [← hz286] at ha
  rw [← hz30] at hb
  have hl286 : z286.length = 286 := by rw [hz286]; simp
  have c0 := ha.at_ (i := 256) (by omega)
  have e0 : z286[256]! = 0 := by rw [hz286]; rfl
  have f0 : w1.frozen? ⟨ga, 256, none⟩ = false := Row.free ha 256
  have ha2 := ha.bump 256
  rw [e0] at c0 ha2
  replace ha2 : NRow (w1.setCell ⟨ga, 256, none⟩ (.int .i64 1)) ga (SyM.bump z286 256) := ha2
  have HAB := Lib.hid (And.intro hab (And.intro hga hgb))
  have HA2 := Lib.hid ha2
  have HB2 : Hid (NRow (w1.setCell ⟨ga, 256, none⟩ (.int .i64 1)) gb z30) := Lib.hid (Row.other hb (fun e => hab e.symm) _)
  have HF2 : Hid (Fr (fun _ => False) w (w1.setCell ⟨ga, 256, none⟩ (.int .i64 1))) := Lib.hid (hf.trans (Fr.set1 w1 ga 256 _) (fun b hb h => by omega))
  have HST : Hid (SyM.start = (SyM.bump z286 256, z30)) := Lib.hid (by rw [hz286, hz30]; rfl)
  have HLE : Hid ((∀ x ∈ z286, x ≤ 0) ∧ (∀ x ∈ z30, x ≤ 0) ∧ z286.length = 286 ∧ z30.length = 30) := Lib.hid (by rw [hz286, hz30]; exact ⟨fun x hx => Nat.le_of_eq (List.eq_of_mem_replicate hx), fun x hx => Nat.le_of_eq (List.eq_of_mem_replicate hx), by simp, by simp⟩)
  clear hz286 hz30 ha hb ha2 e0 hf hab hga hgb hl286
  go_wp2_with fail
  go_loopw [14] (fun i wr => ∃ (k : Nat) (La Lb : List Nat), k ≤ n ∧ i = .int .i64 (k : Int) ∧ Hid (NRow wr ga La ∧ NRow wr gb Lb) ∧ Hid (weigh (T.drop k) (La, Lb) = R) ∧ Hid ((∀ x ∈ La, x ≤ k + 1) ∧ (∀ x ∈ Lb, x ≤ k + 1) ∧ La.length = 286 ∧ Lb.length = 30) ∧ Hid (Fr (fun _ => False) w wr)) (fun i _ => n - (intOf i).toNat)
  case atStart =>
    refine ⟨0, SyM.bump z286 256, z30, Nat.zero_le _, rfl, ⟨HA2.out, HB2.out⟩, ?_, ⟨fun x hx => ?_, fun x hx => ?_, by rw [bump_length]; exact HLE.out.2.2.1, HLE.out.2.2.2⟩, HF2.out⟩
    · show weigh T (SyM.bump z286 256, z30) = R
      rw [HR.out, HST.out]
    · exact (bump_le HLE.out.1).1 x hx
    · have := HLE.out.2.1 x hx; omega
  case round =>
    obtain ⟨k, La, Lb, hk, rfl, HN, HW, HLL, HF⟩ := hrel
    rename World => wr
    by_cases hlt : k < n
    · obtain ⟨t, ht⟩ : ∃ t, T[k]? = some t := ⟨_, List.getElem?_eq_getElem (by have := HLN.out; omega)⟩
      have hdr : T.drop k = t :: T.drop (k + 1) := by rw [List.drop_eq_getElem_cons (by have := HLN.out; omega)]; congr 1; exact (List.getElem?_eq_some_iff.1 ht).2
      obtain ⟨g, o, rfl, hg, h1w, h2w, h3w⟩ := HT.out.2 k t ht
      have h1 := HF.out.cell h1w (fun h => h)
      have h2 := HF.out.cell h2w (fun h => h)
      have h3 := HF.out.cell h3w (fun h => h)
      have hw := HW.out
      rw [hdr, weigh] at hw
      have hla := HLL.out.2.2.1
      have hlb := HLL.out.2.2.2
      have hft := HFT.out t (List.mem_of_getElem? ht)
      clear h1w h2w h3w hg hdr ht
      rcases fits_cases hft with ⟨b, rfl⟩ | ⟨L, D, rfl, hL3, hL258, hD1, hD2⟩
      · rw [if_pos rfl] at hw
        simp only at hw h1 h2 h3
        obtain ⟨u, hu⟩ : ∃ u, u = b.toNat := ⟨_, rfl⟩
        have hu256 : u < 256 := by rw [hu]; exact b.toNat_lt
        unfold bytec at h1
        have hli : ∀ w, Calls Tryz.prog 53 #[.int .u8 (u : Int)] w fun e w' => e = .returned (.agg #[.int .i64 (u : Int), .int .i64 0, .int .u64 0]) ∧ Fr (fun _ => False) w w' := fun w => by
          rw [hu]
          exact literal_any b w
        have HLI := Lib.hid hli
        rw [← hu] at hw h1
        have hb1 := bump_le (i := u) HLL.out.1
        obtain ⟨y, hy⟩ : ∃ y, y = La[u]! := ⟨_, rfl⟩
        rw [← hy] at hb1
        have hyk : y ≤ k + 1 := hb1.2
        have HY := Lib.hid hy
        have HL2 : Hid ((∀ x ∈ SyM.bump La u, x ≤ k + 1 + 1) ∧ (∀ x ∈ Lb, x ≤ k + 1 + 1) ∧ (SyM.bump La u).length = 286 ∧ Lb.length = 30) := Lib.hid ⟨hb1.1, fun x hx => by have := HLL.out.2.1 x hx; omega, by rw [bump_length]; exact hla, hlb⟩
        have HW2 := Lib.hid hw
        have hula : u < 286 := by omega
        have HUL := Lib.hid (show u < La.length by omega)
        clear hu hb1 hy hw hla hlb hft hli
        go_upto_region 6 with fail
        obtain ⟨w2, hw2⟩ : ∃ w2, w2 = wr.alloc (.cells #[Value.int .u8 (u : Int), .int .i64 0, .int .i64 0] 58) := ⟨_, rfl⟩
        have hq2 : Row w2 wr.heap.size 58 [Value.int .u8 (u : Int), .int .i64 0, .int .i64 0] := by rw [hw2]; exact Row.new wr _ _
        have hf2 : Fr (fun _ => False) wr w2 := by rw [hw2]; exact (Fr.refl _ wr).alloc _
        obtain ⟨q, hq⟩ : ∃ q, q = wr.heap.size := ⟨_, rfl⟩
        rw [← hw2]
        rw [← hq] at hq2 ⊢
        have d0 : w2.cell? ⟨q, 0, none⟩ = some (.int .u8 (u : Int)) := hq2.cell rfl
        have d1 : w2.cell? ⟨q, 1, none⟩ = some (.int .i64 0) := hq2.cell rfl
        have HF2 := Lib.hid hf2
        clear hw2 hq2 hf2 hq h1 h2 h3
        go_wp2_with fail
        refine (HLI.out w2).mono ?_
        rintro e w3 ⟨rfl, hf3⟩
        have HF3 := Lib.hid (HF2.out.trans hf3 (fun _ _ h => h))
        have hna : NRow w3 ga La := Row.fr HN.out.1 HF3.out (fun h => h)
        have hnb : NRow w3 gb Lb := Row.fr HN.out.2 HF3.out (fun h => h)
        have c1 := hna.at_ (i := u) HUL.out
        have f1 : w3.frozen? ⟨ga, u, none⟩ = false := Row.free hna u
        have hb := hna.bump u
        rw [← HY.out] at c1 hb
        have HN2 : Hid (NRow (w3.setCell ⟨ga, u, none⟩ (.int .i64 ((y : Int) + 1))) ga (SyM.bump La u) ∧ NRow (w3.setCell ⟨ga, u, none⟩ (.int .i64 ((y : Int) + 1))) gb Lb) := Lib.hid ⟨hb, Row.other hnb (fun e => HAB.out.1 e.symm) _⟩
        have HF4 : Hid (Fr (fun _ => False) w (w3.setCell ⟨ga, u, none⟩ (.int .i64 ((y : Int) + 1)))) := Lib.hid ((HF.out.trans HF3.out (fun _ _ h => h)).trans (Fr.set1 w3 ga u _) (fun b hb h => by have := HAB.out.2.1; omega))
        clear hf3 hna hnb hb d0 d1
        go_wp2_with fail
        exact ⟨⟨k + 1, SyM.bump La u, Lb, by omega, by go_num, HN2.out, HW2.out, HL2.out, HF4.out⟩, by simp [intOf]; omega⟩
      · rw [if_neg (by simp only; omega)] at hw
        simp only at hw h1 h2 h3
        obtain ⟨x, hx⟩ : ∃ x, x = sym (L : Int) lens := ⟨_, rfl⟩
        obtain ⟨y, hy⟩ : ∃ y, y = sym (D : Int) dists := ⟨_, rfl⟩
        have hx29 : x < 29 := by rw [hx]; exact sym_lt _ lens (by decide)
        have hy30 : y < 30 := by rw [hy]; exact sym_lt _ dists (by decide)
        rw [← hx, ← hy] at hw
        obtain ⟨p, hp⟩ : ∃ p, p = 257 + x := ⟨_, rfl⟩
        have hlc : ∀ w, Gl w → Calls Tryz.prog 54 #[.int .i64 (L : Int)] w fun e w' => (∃ (b2 x2 : Nat), e = .returned (.agg #[.int .i64 (p : Int), .int .i64 (b2 : Int), .int .u64 (x2 : Int)])) ∧ Fr (fun _ => False) w w' := fun w h => by
          have h2 := length_any (L : Int) w h ⟨by omega, by omega⟩
          rw [show lenS (L : Int) = x by unfold lenS; rw [clampI_id _ _ _ (by omega) (by omega), hx], ← hp] at h2
          exact h2.mono (fun e w' h => ⟨⟨_, _, h.1⟩, h.2⟩)
        have hdc : ∀ w, Gl w → Calls Tryz.prog 55 #[.int .i64 (D : Int)] w fun e w' => (∃ (b2 x2 : Nat), e = .returned (.agg #[.int .i64 (y : Int), .int .i64 (b2 : Int), .int .u64 (x2 : Int)])) ∧ Fr (fun _ => False) w w' := fun w h => by
          have h2 := distance_any (D : Int) w h ⟨by omega, by omega⟩
          rw [show distS (D : Int) = y by unfold distS; rw [clampI_id _ _ _ (by omega) (by omega), hy]] at h2
          exact h2.mono (fun e w' h => ⟨⟨_, _, h.1⟩, h.2⟩)
        have HLC := Lib.hid hlc
        have HDC := Lib.hid hdc
        have HWW := Lib.hid hw
        have hp286 : p < 286 := by omega
        have hb1 := bump_le (i := p) HLL.out.1
        have hb2 := bump_le (i := y) HLL.out.2.1
        obtain ⟨u, hu⟩ : ∃ u, u = La[p]! := ⟨_, rfl⟩
        obtain ⟨v, hv⟩ : ∃ v, v = Lb[y]! := ⟨_, rfl⟩
        have huk : u ≤ k + 1 := by rw [hu]; exact hb1.2
        have hvk : v ≤ k + 1 := by rw [hv]; exact hb2.2
        have HL8 : Hid ((∀ x ∈ SyM.bump La p, x ≤ k + 1 + 1) ∧ (∀ x ∈ SyM.bump Lb y, x ≤ k + 1 + 1) ∧ (SyM.bump La p).length = 286 ∧ (SyM.bump Lb y).length = 30) := Lib.hid ⟨hb1.1, hb2.1, by rw [bump_length]; exact HLL.out.2.2.1, by rw [bump_length]; exact HLL.out.2.2.2⟩
        have HW8 : Hid (weigh (T.drop (k + 1)) (SyM.bump La p, SyM.bump Lb y) = R) := Lib.hid (by rw [hp]; exact HWW.out)
        have HU := Lib.hid (And.intro hu hv)
        have hL0 : ¬ (L : Int) = 0 := by omega
        replace h1 : wr.cell? ⟨g, o + k * 3, none⟩ = some (.int .u8 0) := h1
        clear hx hy hlc hdc hw hft c0 f0 hla hlb hp hb1 hb2 hu hv
        go_upto_region 6 with fail
        obtain ⟨w2, hw2⟩ : ∃ w2, w2 = wr.alloc (.cells #[Value.int .u8 0, .int .i64 (L : Int), .int .i64 (D : Int)] 58) := ⟨_, rfl⟩
        have hq2 : Row w2 wr.heap.size 58 [Value.int .u8 0, .int .i64 (L : Int), .int .i64 (D : Int)] := by rw [hw2]; exact Row.new wr _ _
        have hf2 : Fr (fun _ => False) wr w2 := by rw [hw2]; exact (Fr.refl _ wr).alloc _
        obtain ⟨q, hq⟩ : ∃ q, q = wr.heap.size := ⟨_, rfl⟩
        rw [← hw2]
        rw [← hq] at hq2 ⊢
        have d1 : w2.cell? ⟨q, 1, none⟩ = some (.int .i64 (L : Int)) := hq2.cell rfl
        have HQ2 := Lib.hid hq2
        have HF2 := Lib.hid hf2
        have HGA := Lib.hid (show ga < wr.heap.size ∧ gb < wr.heap.size from ⟨Row.lt HN.out.1, Row.lt HN.out.2⟩)
        have HQ := Lib.hid hq
        have HG2 := Lib.hid (HGL.out.fr0 (HF.out.trans hf2 (fun _ _ h => h)))
        clear hw2 hq2 hf2 hq h1 h2 h3
        go_wp2_with fail
        refine (HLC.out w2 HG2.out).mono ?_
        rintro e w3 ⟨⟨b2, x2, rfl⟩, hf3⟩
        have HF3 := Lib.hid (HF2.out.trans hf3 (fun _ _ h => h))
        have hna : NRow w3 ga La := Row.fr HN.out.1 HF3.out (fun h => h)
        have hnb : NRow w3 gb Lb := Row.fr HN.out.2 HF3.out (fun h => h)
        have hq3 := HQ2.out.fr hf3 (fun h => h)
        have c1 := hna.at_ (i := p) (by rw [HLL.out.2.2.1]; exact hp286)
        have f1 : w3.frozen? ⟨ga, p, none⟩ = false := Row.free hna p
        have ha2 := hna.bump p
        rw [← HU.out.1] at c1 ha2
        obtain ⟨w4, hw4⟩ : ∃ w4, w4 = w3.setCell ⟨ga, p, none⟩ (.int .i64 ((u : Int) + 1)) := ⟨_, rfl⟩
        rw [← hw4] at ha2
        have hnb4 : NRow w4 gb Lb := by rw [hw4]; exact Row.other hnb (fun e => HAB.out.1 e.symm) _
        have hq4 : Row w4 q 58 [Value.int .u8 0, .int .i64 (L : Int), .int .i64 (D : Int)] := by rw [hw4]; exact hq3.other (by have := HGA.out; have := HQ.out; omega) _
        have hf34 : Fr (fun b => b = ga) w3 w4 := by rw [hw4]; exact Fr.set1 w3 ga p _
        have HF4 := Lib.hid ((HF.out.trans HF3.out (fun _ _ h => h)).trans hf34 (fun b hb h => by have := HAB.out.2.1; omega))
        have HG4 := Lib.hid (HGL.out.fr0 HF4.out)
        have HNA4 := Lib.hid ha2
        have HNB4 := Lib.hid hnb4
        have HW4 := Lib.hid hw4
        have d2 : w4.cell? ⟨q, 2, none⟩ = some (.int .i64 (D : Int)) := hq4.cell rfl
        clear hf3 hna hnb hq3 ha2 hw4 hnb4 hq4 hf34 d1
        go_upto_region 9 with fail
        rw [← HW4.out]
        clear c1 f1
        go_wp2_with fail
        refine (HDC.out w4 HG4.out).mono ?_
        rintro e w5 ⟨⟨b3, x3, rfl⟩, hf5⟩
        have hna : NRow w5 ga (SyM.bump La p) := Row.fr HNA4.out hf5 (fun h => h)
        have hnb : NRow w5 gb Lb := Row.fr HNB4.out hf5 (fun h => h)
        have c1 := hnb.at_ (i := y) (by rw [HLL.out.2.2.2]; exact hy30)
        have f1 : w5.frozen? ⟨gb, y, none⟩ = false := Row.free hnb y
        have hb2 := hnb.bump y
        rw [← HU.out.2] at c1 hb2
        have HN8 : Hid (NRow (w5.setCell ⟨gb, y, none⟩ (.int .i64 ((v : Int) + 1))) ga (SyM.bump La p) ∧ NRow (w5.setCell ⟨gb, y, none⟩ (.int .i64 ((v : Int) + 1))) gb (SyM.bump Lb y)) := Lib.hid ⟨Row.other hna HAB.out.1 _, hb2⟩
        have HF8 : Hid (Fr (fun _ => False) w (w5.setCell ⟨gb, y, none⟩ (.int .i64 ((v : Int) + 1)))) := Lib.hid ((HF4.out.trans hf5 (fun _ _ h => h)).trans (Fr.set1 w5 gb y _) (fun b hb h => by have := HAB.out.2.2; omega))
        clear hf5 hna hnb hb2 d2
        go_wp2_with fail
        exact ⟨⟨k + 1, SyM.bump La p, SyM.bump Lb y, by omega, by go_num, HN8.out, HW8.out, HL8.out, HF8.out⟩, by simp [intOf]; omega⟩
    · obtain rfl : k = n := by omega
      have hw := HW.out
      rw [List.drop_of_length_le (by have := HLN.out; omega)] at hw
      have hw2 : (La, Lb) = R := hw
      clear hw
      subst hw2
      go_wp2_with fail
      exact bodyPost_ret (v := .tuple #[.slice (some ⟨ga, 0, none⟩) 286 286, .slice (some ⟨gb, 0, none⟩) 30 30]) (by simp [results, Tryz.results35, go_sem]) rfl ⟨ga, gb, rfl, HN.out.1, HN.out.2, HF.out⟩
end Go.Proofs.YtahfmcdhcbfkaaaGreatDoor
