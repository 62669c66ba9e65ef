/-
  Contracts of layer 7's program: symbol, Literal, Length, Distance.
  Contracts of layer 7's program: Length, Distance.
-/
import Derived.Test.YtgpkiijmembggaaGreatDoorSyQ
import Derived.Deep.RegionHeld3
import Derived.Test.YtgpkiijmembggaaGreatDoorZm13
namespace Go.Proofs.YtgpkiijmembggaaGreatDoor
open Go.RowKit SyM LzM Mem Go.Lib
attribute [local go_sem ↓] Go.wp_at_zero Go.wp_at_succ
set_option linter.unusedVariables false

set_option maxRecDepth 100000 in
theorem symbol_any (s n a b x : Nat) (w : World) (hx : n = a + x) (hn : n ≤ 1000000) (hs : s ≤ 1000000) (hb : b ≤ 1000000) :
    Calls Tryz.prog 67 #[.int .i64 (s : Int), .int .i64 (n : Int), .agg #[.int .i64 (a : Int), .int .i64 (b : Int)]] w fun e w' => e = .returned (.agg #[.int .i64 (s : Int), .int .i64 (b : Int), .int .u64 (x : Int)]) ∧ Fr (fun _ => False) w w' := by
  have hd : IntKind.i64.wrap ((n : Int) - (a : Int)) = (x : Int) := by rw [IntKind.wrap_i64]; omega
  have hd2 : (n : Int) - (a : Int) = (x : Int) := by omega
  have hcv : ∀ w : World, (convert 3 47 (.int .i64 (x : Int))).run Tryz.prog w = .ok (.int .u64 (x : Int)) w := by
    intro w
    go_simp
    rw [IntKind.wrap_u64]
    omega
  clear hx
  go_enter Tryz.func67, Tryz.ntmps67
  go_wp2_with fail
  exact bodyPost_ret (v := .agg #[.int .i64 (s : Int), .int .i64 (b : Int), .int .u64 (x : Int)]) (by simp [results, Tryz.results67, go_sem]) rfl ⟨rfl, ((Fr.refl _ w).alloc _).alloc _⟩

set_option maxRecDepth 100000 in
theorem literal_any (b : UInt8) (w : World) : Calls Tryz.prog 40 #[.int .u8 (b.toNat : Int)] w fun e w' => e = .returned (symv b.toNat 0 0) ∧ Fr (fun _ => False) w w' := by
  obtain ⟨u, hu⟩ : ∃ u, u = b.toNat := ⟨_, rfl⟩
  have hu2 : u < 256 := by rw [hu]; exact b.toNat_lt
  rw [← hu]
  clear hu
  have hcv : ∀ w : World, (convert 5 3 (.int .u8 (u : Int))).run Tryz.prog w = .ok (.int .i64 (u : Int)) w := by
    intro w
    go_simp
    rw [IntKind.wrap_i64]
    omega
  unfold symv
  go_enter Tryz.func40, Tryz.ntmps40
  go_wp2_with fail
  exact bodyPost_ret (v := .agg #[.int .i64 (u : Int), .int .i64 0, .int .u64 0]) (by simp [results, Tryz.results40, go_sem]) rfl ⟨rfl, (Fr.refl _ w).alloc _⟩
end Go.Proofs.YtgpkiijmembggaaGreatDoor
namespace Go.Proofs.YtgpkiijmembggaaGreatDoor
open Go.RowKit SyM LzM Mem Go.Lib
attribute [local go_sem ↓] Go.wp_at_zero Go.wp_at_succ
set_option linter.unusedVariables false

/-- what a search by halves finds is the symbol -/
theorem sym_of_search {R : List (Nat × Nat)} (m k : Nat) (hR : 0 < R.length) (h0 : least R 0 ≤ m) (hk : k ≤ R.length) (h1 : ∀ t, t < k → decide (m < least R t) = false) (h2 : ∀ t, k ≤ t → t < R.length → decide (m < least R t) = true) : k = sym (m : Int) R + 1 := by
  obtain ⟨a, b⟩ := sym_is (R := R) (m : Int) hR (by omega)
  have c := sym_lt (m : Int) R hR
  rcases Nat.lt_trichotomy k (sym (m : Int) R + 1) with h | h | h
  · have := h2 (sym (m : Int) R) (by omega) c
    simp at this
    omega
  · exact h
  · have := h1 (sym (m : Int) R + 1) h
    have := b (sym (m : Int) R + 1) (by omega) (by omega)
    simp at *
    omega

theorem symSize : (Tryz.prog.info? 91).map (·.size) = some 3 := by kernel_rfl
theorem symSz : (Tryz.prog.info? 91).map (·.size) = some 3 := by kernel_rfl
set_option maxRecDepth 100000 in
set_option maxHeartbeats 1600000 in
theorem length_any (n : Int) (w : World) (hG : Gl w) (hn : inI n) : Calls Tryz.prog 41 #[.int .i64 n] w fun e w' => e = .returned (symv (257 + lenS n) (wid lens (lenS n)) (lenX n)) ∧ Fr (fun _ => False) w w' := by
  obtain ⟨m, hm⟩ : ∃ m : Nat, (m : Int) = clampI n 3 258 := ⟨(clampI n 3 258).toNat, by have := clampI_in n 3 258 (by omega); omega⟩
  have hmi := clampI_in n 3 258 (by omega)
  rw [← hm] at hmi
  obtain ⟨k, hk⟩ : ∃ k, k = lenS n := ⟨_, rfl⟩
  have hk29 : k < 29 := by rw [hk]; exact lenS_lt n
  have hks : sym (m : Int) lens = k := by rw [hk, hm]; rfl
  have hX := (lenX_is n).1
  rw [← hm, ← hk] at hX
  obtain ⟨x, hx⟩ : ∃ x, x = lenX n := ⟨_, rfl⟩
  rw [← hx] at hX
  obtain ⟨a, ha⟩ : ∃ a, a = least lens k := ⟨_, rfl⟩
  obtain ⟨b, hb⟩ : ∃ b, b = wid lens k := ⟨_, rfl⟩
  have hb13 : b ≤ 13 := by rw [hb]; exact lens_wid k
  rw [← ha] at hX
  rw [← hk, ← hb, ← hx]
  have hwi : ∀ w, Calls Tryz.prog 64 #[.int .i64 n, .int .i64 3, .int .i64 258] w fun e w' => e = .returned (.int .i64 (m : Int)) ∧ w = w' := fun w => by
    rw [hm]
    exact clamp_any n 3 258 w
  obtain ⟨s, hs⟩ : ∃ s, s = 257 + k := ⟨_, rfl⟩
  rw [← hs]
  have hsw : IntKind.i64.wrap (257 + (k : Int)) = (s : Int) := by rw [IntKind.wrap_i64]; omega
  have hsw2 : 257 + (k : Int) = (s : Int) := by omega
  have hsy : ∀ w, Calls Tryz.prog 67 #[.int .i64 (s : Int), .int .i64 (m : Int), .agg #[.int .i64 (a : Int), .int .i64 (b : Int)]] w fun e w' => e = .returned (.agg #[.int .i64 (s : Int), .int .i64 (b : Int), .int .u64 (x : Int)]) ∧ Fr (fun _ => False) w w' := fun w => symbol_any s m a b x w (by omega) (by omega) (by omega) (by omega)
  have hse : ∀ (p : Nat) (w : World), Gl w → w.cell? ⟨p, 0, none⟩ = some (.int .i64 (m : Int)) → Calls Tryz.prog 65 #[.int .i64 29, .func (.func 66) #[] #[.pointer (some ⟨p, 0, none⟩)]] w fun e w' => e = .returned (.int .i64 ((k : Int) + 1)) ∧ Fr (fun _ => False) w w' := by
    intro p w hG hp
    have h := search_len p 29 (fun i => decide (m < least lens i)) w (by omega) (fun i j hij hj h => by
      have := rise_le rise_lens (j - i) i (by show i + (j - i) < 29; omega)
      rw [show i + (j - i) = j by omega] at this
      simp at h ⊢
      omega) (fun i wr hi hf => len1_any i p m wr ((hG.fr0 hf).1) hi (hf.cell hp (fun h => h)))
    refine h.mono ?_
    rintro e w' ⟨q, rfl, h1, h2, h3, h4⟩
    have e1 := sym_of_search (R := lens) m q (by decide) (by show 3 ≤ m; omega) h2 h3 h4
    rw [hks] at e1
    exact ⟨by rw [e1]; rfl, h1⟩
  have hkm : (k : Int) + 1 - 1 = (k : Int) := by omega
  have hki : (k : Int) < 29 := by omega
  unfold symv
  have HWI := Lib.hid hwi
  have HSY := Lib.hid hsy
  have HSE := Lib.hid hse
  have HAB := Lib.hid (And.intro ha hb)
  have HG := Lib.hid hG
  have HK29 := Lib.hid hk29
  clear hG hn hm hk hs hks hX hx ha hb hwi hsy hse hmi
  go_enter Tryz.func41, Tryz.ntmps41
  go_upto_region 1 with fail
  obtain ⟨w0, hw0⟩ : ∃ w0, (w.alloc (.cells #[Value.int .i64 n] 3)).alloc (.cells #[Value.int .i64 0, .int .i64 0, .int .u64 0] 91) = w0 := ⟨_, rfl⟩
  have hf0 : Fr (fun _ => False) w w0 := by rw [← hw0]; exact ((Fr.refl _ w).alloc _).alloc _
  have hp0 : Row w0 w.heap.size 3 [Value.int .i64 n] := by rw [← hw0]; exact Row.alloc (Row.new w _ _) _
  have hr0 : Row w0 (w.heap.size + 1) 91 [Value.int .i64 0, .int .i64 0, .int .u64 0] := by
    rw [← hw0]
    have h := Row.new (w.alloc (.cells #[Value.int .i64 n] 3)) 91 [Value.int .i64 0, .int .i64 0, .int .u64 0]
    rwa [show (w.alloc (.cells #[Value.int .i64 n] 3)).heap.size = w.heap.size + 1 by simp] at h
  obtain ⟨p, hp⟩ : ∃ p, p = w.heap.size := ⟨_, rfl⟩
  obtain ⟨r, hr⟩ : ∃ r, r = p + 1 := ⟨_, rfl⟩
  rw [hw0]
  rw [← hp] at hp0 hr0 ⊢
  rw [← hr] at hr0 ⊢
  have c0 : w0.cell? ⟨p, 0, none⟩ = some (.int .i64 n) := hp0.cell rfl
  have f0 := hp0.free 0
  have hp1 : Row (w0.setCell ⟨p, 0, none⟩ (.int .i64 (m : Int))) p 3 [.int .i64 (m : Int)] := hp0.set 0 _
  have hr1 : Row (w0.setCell ⟨p, 0, none⟩ (.int .i64 (m : Int))) r 91 [Value.int .i64 0, .int .i64 0, .int .u64 0] := hr0.other (by omega) _
  have hf1 : Fr (fun _ => False) w (w0.setCell ⟨p, 0, none⟩ (.int .i64 (m : Int))) := hf0.trans (Fr.set1 w0 p 0 _) (fun b hb h => by omega)
  obtain ⟨w1, hw1⟩ : ∃ w1, w1 = w0.setCell ⟨p, 0, none⟩ (.int .i64 (m : Int)) := ⟨_, rfl⟩
  rw [← hw1] at hp1 hr1 hf1
  have HW1 := Lib.hid hw1
  have HNR : Hid (¬ (0 = r)) := Lib.hid (by have := HG.out.size; unfold top7 at this; omega)
  have HPR : Hid (w.heap.size ≤ p ∧ w.heap.size ≤ r ∧ p ≠ r) := Lib.hid ⟨by omega, by omega, by omega⟩
  have HF1 := Lib.hid hf1
  have HG1 := Lib.hid (HG.out.fr0 hf1)
  have HP1 := Lib.hid hp1
  have HR1 := Lib.hid hr1
  clear hw0 hf0 hp0 hr0 hp hr hp1 hr1 hf1 hw1
  go_wp2_with (refine (HWI.out _).mono ?_; rintro e w' ⟨rfl, rfl⟩)
  rw [← HW1.out]
  refine (HSE.out p w1 HG1.out (HP1.out.cell rfl)).mono ?_
  rintro e w2 ⟨rfl, hf2⟩
  have hp2 := HP1.out.fr hf2 (fun h => h)
  have hr2 := HR1.out.fr hf2 (fun h => h)
  have HF2 := Lib.hid (HF1.out.trans hf2 (fun _ _ h => h))
  have hG2 := HG1.out.fr0 hf2
  obtain ⟨e0, e1⟩ := hG2.1 k HK29.out
  rw [← HAB.out.1] at e0
  rw [← HAB.out.2] at e1
  have c2 : w2.cell? ⟨p, 0, none⟩ = some (.int .i64 (m : Int)) := hp2.cell rfl
  have HR2 := Lib.hid hr2
  have HSY2 := Lib.hid (HSY.out w2.drew)
  clear hf2 hp2 hr2 hG2 c0 f0
  go_upto_region 3 with fail
  go_still_tail 6, (by kernel_rfl)
  change wpList _ _ _ _ _ w2.drew
  go_wp2_with (first
    | (refine HSY2.out.mono ?_
       rintro e w3 ⟨rfl, hf3⟩
       have HR3 := Lib.hid (HR2.out.drew.fr hf3 (fun h => h))
       have HF3 := Lib.hid (HF2.out.drew.trans hf3 (fun _ _ h => h))
       clear hf3)
    | (refine store_st symSz rfl (.tmp 2) (.tmp 15) rfl r (by rfl) [.int .i64 (s : Int), .int .i64 (b : Int), .int .u64 (x : Int)] (by rfl) _ _ HR3.out rfl rfl (symv_one s b x) ?_
       intro w4 hr4 hf4
       have HR4 := Lib.hid hr4
       have HF4 := Lib.hid (HF3.out.trans hf4 (fun b hb h => by have := HPR.out.2.1; omega))
       clear hr4 hf4))
  have d0 : w4.cell? ⟨r, 0, none⟩ = some (.int .i64 (s : Int)) := HR4.out.cell rfl
  have d1 : w4.cell? ⟨r, 1, none⟩ = some (.int .i64 (b : Int)) := HR4.out.cell rfl
  have d2 : w4.cell? ⟨r, 2, none⟩ = some (.int .u64 (x : Int)) := HR4.out.cell rfl
  exact bodyPost_ret (v := .agg #[.int .i64 (s : Int), .int .i64 (b : Int), .int .u64 (x : Int)]) (by simp [results, Tryz.results41, go_sem, d0, d1, d2]) rfl ⟨rfl, HF4.out⟩

set_option maxRecDepth 100000 in
set_option maxHeartbeats 1600000 in
theorem distance_any (n : Int) (w : World) (hG : Gl w) (hn : inI n) : Calls Tryz.prog 42 #[.int .i64 n] w fun e w' => e = .returned (symv (distS n) (wid dists (distS n)) (distX n)) ∧ Fr (fun _ => False) w w' := by
  obtain ⟨m, hm⟩ : ∃ m : Nat, (m : Int) = clampI n 1 32768 := ⟨(clampI n 1 32768).toNat, by have := clampI_in n 1 32768 (by omega); omega⟩
  have hmi := clampI_in n 1 32768 (by omega)
  rw [← hm] at hmi
  obtain ⟨k, hk⟩ : ∃ k, k = distS n := ⟨_, rfl⟩
  have hk29 : k < 30 := by rw [hk]; exact distS_lt n
  have hks : sym (m : Int) dists = k := by rw [hk, hm]; rfl
  have hX := (distX_is n).1
  rw [← hm, ← hk] at hX
  obtain ⟨x, hx⟩ : ∃ x, x = distX n := ⟨_, rfl⟩
  rw [← hx] at hX
  obtain ⟨a, ha⟩ : ∃ a, a = least dists k := ⟨_, rfl⟩
  obtain ⟨b, hb⟩ : ∃ b, b = wid dists k := ⟨_, rfl⟩
  have hb13 : b ≤ 13 := by rw [hb]; exact dists_wid k
  rw [← ha] at hX
  rw [← hk, ← hb, ← hx]
  have hwi : ∀ w, Calls Tryz.prog 64 #[.int .i64 n, .int .i64 1, .int .i64 32768] w fun e w' => e = .returned (.int .i64 (m : Int)) ∧ w = w' := fun w => by
    rw [hm]
    exact clamp_any n 1 32768 w
  have hsy : ∀ w, Calls Tryz.prog 67 #[.int .i64 (k : Int), .int .i64 (m : Int), .agg #[.int .i64 (a : Int), .int .i64 (b : Int)]] w fun e w' => e = .returned (.agg #[.int .i64 (k : Int), .int .i64 (b : Int), .int .u64 (x : Int)]) ∧ Fr (fun _ => False) w w' := fun w => symbol_any k m a b x w (by omega) (by omega) (by omega) (by omega)
  have hse : ∀ (p : Nat) (w : World), Gl w → w.cell? ⟨p, 0, none⟩ = some (.int .i64 (m : Int)) → Calls Tryz.prog 65 #[.int .i64 30, .func (.func 68) #[] #[.pointer (some ⟨p, 0, none⟩)]] w fun e w' => e = .returned (.int .i64 ((k : Int) + 1)) ∧ Fr (fun _ => False) w w' := by
    intro p w hG hp
    have h := search_dist p 30 (fun i => decide (m < least dists i)) w (by omega) (fun i j hij hj h => by
      have := rise_le rise_dists (j - i) i (by show i + (j - i) < 30; omega)
      rw [show i + (j - i) = j by omega] at this
      simp at h ⊢
      omega) (fun i wr hi hf => dist1_any i p m wr ((hG.fr0 hf).2) hi (hf.cell hp (fun h => h)))
    refine h.mono ?_
    rintro e w' ⟨q, rfl, h1, h2, h3, h4⟩
    have e1 := sym_of_search (R := dists) m q (by decide) (by show 1 ≤ m; omega) h2 h3 h4
    rw [hks] at e1
    exact ⟨by rw [e1]; rfl, h1⟩
  have hkm : (k : Int) + 1 - 1 = (k : Int) := by omega
  have hki : (k : Int) < 30 := by omega
  unfold symv
  have HWI := Lib.hid hwi
  have HSY := Lib.hid hsy
  have HSE := Lib.hid hse
  have HAB := Lib.hid (And.intro ha hb)
  have HG := Lib.hid hG
  have HK29 := Lib.hid hk29
  clear hG hn hm hk hks hX hx ha hb hwi hsy hse hmi
  go_enter Tryz.func42, Tryz.ntmps42
  go_upto_region 1 with fail
  obtain ⟨w0, hw0⟩ : ∃ w0, (w.alloc (.cells #[Value.int .i64 n] 3)).alloc (.cells #[Value.int .i64 0, .int .i64 0, .int .u64 0] 91) = w0 := ⟨_, rfl⟩
  have hf0 : Fr (fun _ => False) w w0 := by rw [← hw0]; exact ((Fr.refl _ w).alloc _).alloc _
  have hp0 : Row w0 w.heap.size 3 [Value.int .i64 n] := by rw [← hw0]; exact Row.alloc (Row.new w _ _) _
  have hr0 : Row w0 (w.heap.size + 1) 91 [Value.int .i64 0, .int .i64 0, .int .u64 0] := by
    rw [← hw0]
    have h := Row.new (w.alloc (.cells #[Value.int .i64 n] 3)) 91 [Value.int .i64 0, .int .i64 0, .int .u64 0]
    rwa [show (w.alloc (.cells #[Value.int .i64 n] 3)).heap.size = w.heap.size + 1 by simp] at h
  obtain ⟨p, hp⟩ : ∃ p, p = w.heap.size := ⟨_, rfl⟩
  obtain ⟨r, hr⟩ : ∃ r, r = p + 1 := ⟨_, rfl⟩
  rw [hw0]
  rw [← hp] at hp0 hr0 ⊢
  rw [← hr] at hr0 ⊢
  have c0 : w0.cell? ⟨p, 0, none⟩ = some (.int .i64 n) := hp0.cell rfl
  have f0 := hp0.free 0
  have hp1 : Row (w0.setCell ⟨p, 0, none⟩ (.int .i64 (m : Int))) p 3 [.int .i64 (m : Int)] := hp0.set 0 _
  have hr1 : Row (w0.setCell ⟨p, 0, none⟩ (.int .i64 (m : Int))) r 91 [Value.int .i64 0, .int .i64 0, .int .u64 0] := hr0.other (by omega) _
  have hf1 : Fr (fun _ => False) w (w0.setCell ⟨p, 0, none⟩ (.int .i64 (m : Int))) := hf0.trans (Fr.set1 w0 p 0 _) (fun b hb h => by omega)
  obtain ⟨w1, hw1⟩ : ∃ w1, w1 = w0.setCell ⟨p, 0, none⟩ (.int .i64 (m : Int)) := ⟨_, rfl⟩
  rw [← hw1] at hp1 hr1 hf1
  have HW1 := Lib.hid hw1
  have HNR : Hid (¬ (1 = r)) := Lib.hid (by have := HG.out.size; unfold top7 at this; omega)
  have HPR : Hid (w.heap.size ≤ p ∧ w.heap.size ≤ r ∧ p ≠ r) := Lib.hid ⟨by omega, by omega, by omega⟩
  have HF1 := Lib.hid hf1
  have HG1 := Lib.hid (HG.out.fr0 hf1)
  have HP1 := Lib.hid hp1
  have HR1 := Lib.hid hr1
  clear hw0 hf0 hp0 hr0 hp hr hp1 hr1 hf1 hw1
  go_wp2_with (refine (HWI.out _).mono ?_; rintro e w' ⟨rfl, rfl⟩)
  rw [← HW1.out]
  refine (HSE.out p w1 HG1.out (HP1.out.cell rfl)).mono ?_
  rintro e w2 ⟨rfl, hf2⟩
  have hp2 := HP1.out.fr hf2 (fun h => h)
  have hr2 := HR1.out.fr hf2 (fun h => h)
  have HF2 := Lib.hid (HF1.out.trans hf2 (fun _ _ h => h))
  have hG2 := HG1.out.fr0 hf2
  obtain ⟨e0, e1⟩ := hG2.2 k HK29.out
  rw [← HAB.out.1] at e0
  rw [← HAB.out.2] at e1
  have c2 : w2.cell? ⟨p, 0, none⟩ = some (.int .i64 (m : Int)) := hp2.cell rfl
  have HR2 := Lib.hid hr2
  have HSY2 := Lib.hid (HSY.out w2.drew)
  clear hf2 hp2 hr2 hG2 c0 f0
  go_upto_region 3 with fail
  go_still_tail 5, (by kernel_rfl)
  change wpList _ _ _ _ _ w2.drew
  go_wp2_with (first
    | (refine HSY2.out.mono ?_
       rintro e w3 ⟨rfl, hf3⟩
       have HR3 := Lib.hid (HR2.out.drew.fr hf3 (fun h => h))
       have HF3 := Lib.hid (HF2.out.drew.trans hf3 (fun _ _ h => h))
       clear hf3)
    | (refine store_st symSz rfl (.tmp 2) (.tmp 14) rfl r (by rfl) [.int .i64 (k : Int), .int .i64 (b : Int), .int .u64 (x : Int)] (by rfl) _ _ HR3.out rfl rfl (symv_one k b x) ?_
       intro w4 hr4 hf4
       have HR4 := Lib.hid hr4
       have HF4 := Lib.hid (HF3.out.trans hf4 (fun b hb h => by have := HPR.out.2.1; omega))
       clear hr4 hf4))
  have d0 : w4.cell? ⟨r, 0, none⟩ = some (.int .i64 (k : Int)) := HR4.out.cell rfl
  have d1 : w4.cell? ⟨r, 1, none⟩ = some (.int .i64 (b : Int)) := HR4.out.cell rfl
  have d2 : w4.cell? ⟨r, 2, none⟩ = some (.int .u64 (x : Int)) := HR4.out.cell rfl
  exact bodyPost_ret (v := .agg #[.int .i64 (k : Int), .int .i64 (b : Int), .int .u64 (x : Int)]) (by simp [results, Tryz.results42, go_sem, d0, d1, d2]) rfl ⟨rfl, HF4.out⟩
end Go.Proofs.YtgpkiijmembggaaGreatDoor
