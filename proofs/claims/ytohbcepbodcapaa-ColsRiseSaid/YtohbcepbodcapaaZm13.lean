/-
  Layer 14, the program: the closures of texts and of numbers (written by gen_clos.py).
  Layer 14, the program: the closures of numbers (written by gen_clos.py).
-/
import Derived.Test.YtohbcepbodcapaaZm12
import Derived.Test.YtohbcepbodcapaaZm03
import Derived.StillTailTactics
namespace Go.Proofs.Ytohbcepbodcapaa
open Go.RowKit Mem Go.Lib VaM LebM UtfM
attribute [local go_sem ↓] Go.wp_at_zero Go.wp_at_succ
set_option linter.unusedVariables false

def vls (v : V) : List Value := [.int .i64 v.k, .int .u64 (v.u : Int), .int .i64 v.n, .string (txt v.s)]
theorem v_one (v : V) : (vls v).toArray.all (·.oneCell') = true := by simp [vls, Value.oneCell']
theorem valc_eq (v : V) : valc v = .agg (vls v).toArray := rfl
/-- block g holds a value -/
def RowV (w : World) (g : Nat) (v : V) : Prop := Row w g 38 (vls v)
theorem RowV.fr {w w' : World} {g : Nat} {v : V} {S : Nat → Prop} (h : RowV w g v) (hf : Fr S w w') (hg : ¬ S g) : RowV w' g v := Row.fr h hf hg
theorem RowV.new (w : World) (v : V) : RowV (w.alloc (.cells (vls v).toArray 38)) w.heap.size v := Row.new w _ _
theorem RowV.c0 {w : World} {g : Nat} {v : V} (h : RowV w g v) : w.cell? ⟨g, 0, none⟩ = some (.int .i64 v.k) := Row.cell h rfl
theorem RowV.c1 {w : World} {g : Nat} {v : V} (h : RowV w g v) : w.cell? ⟨g, 1, none⟩ = some (.int .u64 (v.u : Int)) := Row.cell h rfl
theorem RowV.c2 {w : World} {g : Nat} {v : V} (h : RowV w g v) : w.cell? ⟨g, 2, none⟩ = some (.int .i64 v.n) := Row.cell h rfl
theorem RowV.c3 {w : World} {g : Nat} {v : V} (h : RowV w g v) : w.cell? ⟨g, 3, none⟩ = some (.string (txt v.s)) := Row.cell h rfl
theorem RowV.lt {w : World} {g : Nat} {v : V} (h : RowV w g v) : g < w.heap.size := Row.lt h
theorem tells_of {w w' : World} {B : List UInt8} {A : Option Addr} {c : Nat} (hc : B.length ≤ c) (hr : Rd w' A B.length (B.map bytec)) (hf : Fr (fun _ => False) w w') : Tells w B (.returned (.slice A B.length c)) w' := ⟨A, c, rfl, hc, hr, hf⟩

set_option maxRecDepth 100000 in
set_option maxHeartbeats 1600000 in
theorem vgetT_any (p : Nat) (A : Option Addr) (n c : Nat) (B : List UInt8) (w : World) (hp : w.cell? ⟨p, 0, none⟩ = some (fnc 69)) (hr : Rd w A n (B.map bytec)) (hc : n ≤ c) (hn : n ≤ 1000000) :
    Calls Try.prog 85 #[.slice A n c, .pointer (some ⟨p, 0, none⟩)] w fun e w' => e = .returned (valR (getC 3 0 B)) ∧ Fr (fun _ => False) w w' := by
  have hBn : B.length = n := by simpa using hr.1
  have hpl : p < w.heap.size := World.block_lt_of_cell? w _ hp
  unfold fnc at hp
  obtain ⟨g, hg⟩ : ∃ g, w.heap.size = g := ⟨_, rfl⟩
  have HG := Lib.hid hg
  by_cases h4 : 4000 < n
  · rw [show getC 3 0 B = (zeroV, false) from if_neg (fun h => by have h2 : B.length ≤ 4000 := h.1; omega)]
    have t : decide ((4000 : Int) < (n : Int)) = true := by simp; omega
    have t' : decide (4000 < n) = true := by simp; omega
    clear hBn hr hp hg
    go_enter Try.func85, Try.ntmps85
    go_wp2_with (refine store_st vSz rfl (.tmp 3) (.tmp 9) rfl w.heap.size (by rfl) (vls zeroV) (by rfl) _ _ (RowV.new w zeroV) rfl rfl (v_one _) ?_)
    intro w2 hr2 hf2
    have HR2 : Hid (RowV w2 w.heap.size zeroV) := Lib.hid hr2
    have HF2 := Lib.hid (((Fr.refl (fun _ => False) w).alloc _).trans hf2 (fun b hb h => by omega))
    have d0 := HR2.out.c0
    have d1 := HR2.out.c1
    have d2 := HR2.out.c2
    have d3 := HR2.out.c3
    clear hr2 hf2
    go_wp2_with fail
    refine bodyPost_ret (v := valR (zeroV, false)) (by simp [results, valR, valc, d0, d1, d2, d3, Try.results85, go_sem]) rfl ⟨rfl, HF2.out⟩
  · have t : decide ((4000 : Int) < (n : Int)) = false := by simp; omega
    have t' : decide (4000 < n) = false := by simp; omega
    have hs : ∀ w', Fr (fun _ => False) w w' → (convert 30 9 (.slice A n c)).run Try.prog w' = .ok (.string (txt B)) w' := fun w' hf => str_rd (hr.fr hf (fun _ _ h => h)) c
    obtain ⟨w1, hw1⟩ : ∃ w1, w.alloc (.cells #[.int .i64 0, .int .u64 0, .int .i64 0, .string ⟨#[]⟩] 38) = w1 := ⟨_, rfl⟩
    have hf1 : Fr (fun _ => False) w w1 := by rw [← hw1]; exact (Fr.refl _ _).alloc _
    have hr1 : RowV w1 g zeroV := by rw [← hw1, ← hg]; exact RowV.new w zeroV
    have hp1 := hf1.cell hp (fun h => h)
    have hs1 := hs w1 hf1
    have HF1 := Lib.hid hf1
    have HR1 := Lib.hid hr1
    obtain ⟨q, hq⟩ : ∃ q, (wh B == B.length) = q := ⟨_, rfl⟩
    have hcall : ∀ w', Calls Try.prog 69 #[.string (txt B)] w' fun e w'' => e = .returned (.bool q) ∧ Fr (fun _ => False) w' w'' := fun w' => by
      rw [← hq]
      exact vmayT_any B w' (by omega)
    have hget : getC 3 0 B = if q = true then (⟨0, 0, 0, B⟩, true) else (zeroV, false) := by
      have h4 : B.length ≤ 4000 := by omega
      have h := show getC 3 0 B = (if B.length ≤ 4000 ∧ wh B = B.length then (⟨0, 0, 0, B⟩, true) else (zeroV, false)) from rfl
      rw [h, ← hq]
      simp [h4]
    rw [hget]
    have HC := Lib.hid hcall
    clear hBn hr hp hs hf1 hr1 hcall hq hget
    cases q
    · simp only [Bool.false_eq_true, if_false]
      go_enter Try.func85, Try.ntmps85
      go_wp2_with fail
      clear hw1 hg
      refine (HC.out _).mono ?_
      rintro e w2 ⟨rfl, hf2⟩
      have HR2 := Lib.hid (HR1.out.fr hf2 (fun h => h))
      have HF2 := Lib.hid (HF1.out.trans hf2 (fun _ _ h => h))
      clear hf2
      go_wp2_with (refine store_st vSz rfl (.tmp 3) (.tmp 16) rfl g (by rfl) (vls zeroV) (by rfl) _ _ HR2.out rfl rfl (v_one _) ?_)
      intro w3 hr3 hf3
      have HR3 : Hid (RowV w3 g zeroV) := Lib.hid hr3
      have HF3 := Lib.hid (HF2.out.trans hf3 (fun b hb h => by have := HG.out; omega))
      have d0 := HR3.out.c0
      have d1 := HR3.out.c1
      have d2 := HR3.out.c2
      have d3 := HR3.out.c3
      clear hr3 hf3
      go_wp2_with fail
      refine bodyPost_ret (v := valR (zeroV, false)) (by simp [results, valR, valc, d0, d1, d2, d3, Try.results85, go_sem]) rfl ⟨rfl, HF3.out⟩
    · simp only [if_true]
      go_enter Try.func85, Try.ntmps85
      go_wp2_with fail
      clear hw1 hg
      refine (HC.out _).mono ?_
      rintro e w2 ⟨rfl, hf2⟩
      have HR2 := Lib.hid (HR1.out.fr hf2 (fun h => h))
      have HF2 := Lib.hid (HF1.out.trans hf2 (fun _ _ h => h))
      clear hf2
      go_wp2_with (refine store_st vSz rfl (.tmp 3) (.tmp 18) rfl g (by rfl) (vls ⟨0, 0, 0, B⟩) (by rfl) _ _ HR2.out rfl rfl (v_one _) ?_)
      intro w3 hr3 hf3
      have HR3 : Hid (RowV w3 g ⟨0, 0, 0, B⟩) := Lib.hid hr3
      have HF3 := Lib.hid (HF2.out.trans hf3 (fun b hb h => by have := HG.out; omega))
      have d0 := HR3.out.c0
      have d1 := HR3.out.c1
      have d2 := HR3.out.c2
      have d3 := HR3.out.c3
      clear hr3 hf3
      go_wp2_with fail
      refine bodyPost_ret (v := valR (⟨0, 0, 0, B⟩, true)) (by simp [results, valR, valc, d0, d1, d2, d3, Try.results85, go_sem]) rfl ⟨rfl, HF3.out⟩

set_option maxRecDepth 100000 in
set_option maxHeartbeats 1600000 in
theorem vgetB_any (p : Nat) (A : Option Addr) (n c : Nat) (B : List UInt8) (w : World) (hp : w.cell? ⟨p, 0, none⟩ = some (fnc 71)) (hr : Rd w A n (B.map bytec)) (hc : n ≤ c) (hn : n ≤ 1000000) :
    Calls Try.prog 85 #[.slice A n c, .pointer (some ⟨p, 0, none⟩)] w fun e w' => e = .returned (valR (getC 4 0 B)) ∧ Fr (fun _ => False) w w' := by
  have hBn : B.length = n := by simpa using hr.1
  have hpl : p < w.heap.size := World.block_lt_of_cell? w _ hp
  unfold fnc at hp
  obtain ⟨g, hg⟩ : ∃ g, w.heap.size = g := ⟨_, rfl⟩
  have HG := Lib.hid hg
  by_cases h4 : 4000 < n
  · rw [show getC 4 0 B = (zeroV, false) from if_neg (fun h => by have h2 : B.length ≤ 4000 := h; omega)]
    have t : decide ((4000 : Int) < (n : Int)) = true := by simp; omega
    have t' : decide (4000 < n) = true := by simp; omega
    clear hBn hr hp hg
    go_enter Try.func85, Try.ntmps85
    go_wp2_with (refine store_st vSz rfl (.tmp 3) (.tmp 9) rfl w.heap.size (by rfl) (vls zeroV) (by rfl) _ _ (RowV.new w zeroV) rfl rfl (v_one _) ?_)
    intro w2 hr2 hf2
    have HR2 : Hid (RowV w2 w.heap.size zeroV) := Lib.hid hr2
    have HF2 := Lib.hid (((Fr.refl (fun _ => False) w).alloc _).trans hf2 (fun b hb h => by omega))
    have d0 := HR2.out.c0
    have d1 := HR2.out.c1
    have d2 := HR2.out.c2
    have d3 := HR2.out.c3
    clear hr2 hf2
    go_wp2_with fail
    refine bodyPost_ret (v := valR (zeroV, false)) (by simp [results, valR, valc, d0, d1, d2, d3, Try.results85, go_sem]) rfl ⟨rfl, HF2.out⟩
  · have t : decide ((4000 : Int) < (n : Int)) = false := by simp; omega
    have t' : decide (4000 < n) = false := by simp; omega
    have hs : ∀ w', Fr (fun _ => False) w w' → (convert 30 9 (.slice A n c)).run Try.prog w' = .ok (.string (txt B)) w' := fun w' hf => str_rd (hr.fr hf (fun _ _ h => h)) c
    obtain ⟨w1, hw1⟩ : ∃ w1, w.alloc (.cells #[.int .i64 0, .int .u64 0, .int .i64 0, .string ⟨#[]⟩] 38) = w1 := ⟨_, rfl⟩
    have hf1 : Fr (fun _ => False) w w1 := by rw [← hw1]; exact (Fr.refl _ _).alloc _
    have hr1 : RowV w1 g zeroV := by rw [← hw1, ← hg]; exact RowV.new w zeroV
    have hp1 := hf1.cell hp (fun h => h)
    have hs1 := hs w1 hf1
    have HF1 := Lib.hid hf1
    have HR1 := Lib.hid hr1
    obtain ⟨q, hq⟩ : ∃ q, true = q := ⟨_, rfl⟩
    have hcall : ∀ w', Calls Try.prog 71 #[.string (txt B)] w' fun e w'' => e = .returned (.bool q) ∧ Fr (fun _ => False) w' w'' := fun w' => by
      rw [← hq]
      exact (vmayB_any B w').mono (fun e w2 h => ⟨h.1, by rw [← h.2]; exact Fr.refl _ _⟩)
    have hget : getC 4 0 B = if q = true then (⟨0, 0, 0, B⟩, true) else (zeroV, false) := by
      have h4 : B.length ≤ 4000 := by omega
      have h := show getC 4 0 B = (if B.length ≤ 4000 then (⟨0, 0, 0, B⟩, true) else (zeroV, false)) from rfl
      rw [h, ← hq]
      simp [h4]
    rw [hget]
    have HC := Lib.hid hcall
    clear hBn hr hp hs hf1 hr1 hcall hq hget
    cases q
    · simp only [Bool.false_eq_true, if_false]
      go_enter Try.func85, Try.ntmps85
      go_wp2_with fail
      clear hw1 hg
      refine (HC.out _).mono ?_
      rintro e w2 ⟨rfl, hf2⟩
      have HR2 := Lib.hid (HR1.out.fr hf2 (fun h => h))
      have HF2 := Lib.hid (HF1.out.trans hf2 (fun _ _ h => h))
      clear hf2
      go_wp2_with (refine store_st vSz rfl (.tmp 3) (.tmp 16) rfl g (by rfl) (vls zeroV) (by rfl) _ _ HR2.out rfl rfl (v_one _) ?_)
      intro w3 hr3 hf3
      have HR3 : Hid (RowV w3 g zeroV) := Lib.hid hr3
      have HF3 := Lib.hid (HF2.out.trans hf3 (fun b hb h => by have := HG.out; omega))
      have d0 := HR3.out.c0
      have d1 := HR3.out.c1
      have d2 := HR3.out.c2
      have d3 := HR3.out.c3
      clear hr3 hf3
      go_wp2_with fail
      refine bodyPost_ret (v := valR (zeroV, false)) (by simp [results, valR, valc, d0, d1, d2, d3, Try.results85, go_sem]) rfl ⟨rfl, HF3.out⟩
    · simp only [if_true]
      go_enter Try.func85, Try.ntmps85
      go_wp2_with fail
      clear hw1 hg
      refine (HC.out _).mono ?_
      rintro e w2 ⟨rfl, hf2⟩
      have HR2 := Lib.hid (HR1.out.fr hf2 (fun h => h))
      have HF2 := Lib.hid (HF1.out.trans hf2 (fun _ _ h => h))
      clear hf2
      go_wp2_with (refine store_st vSz rfl (.tmp 3) (.tmp 18) rfl g (by rfl) (vls ⟨0, 0, 0, B⟩) (by rfl) _ _ HR2.out rfl rfl (v_one _) ?_)
      intro w3 hr3 hf3
      have HR3 : Hid (RowV w3 g ⟨0, 0, 0, B⟩) := Lib.hid hr3
      have HF3 := Lib.hid (HF2.out.trans hf3 (fun b hb h => by have := HG.out; omega))
      have d0 := HR3.out.c0
      have d1 := HR3.out.c1
      have d2 := HR3.out.c2
      have d3 := HR3.out.c3
      clear hr3 hf3
      go_wp2_with fail
      refine bodyPost_ret (v := valR (⟨0, 0, 0, B⟩, true)) (by simp [results, valR, valc, d0, d1, d2, d3, Try.results85, go_sem]) rfl ⟨rfl, HF3.out⟩
end Go.Proofs.Ytohbcepbodcapaa
namespace Go.Proofs.Ytohbcepbodcapaa
open Go.RowKit Mem Go.Lib VaM LebM UtfM
attribute [local go_sem ↓] Go.wp_at_zero Go.wp_at_succ
set_option linter.unusedVariables false

theorem sw14 {f : FuncId} {args : Array Value} {w : World} {v : Value} (h : Calls Try.prog f args w fun e w' => e = .returned v ∧ w = w') : Calls Try.prog f args w fun e w' => e = .returned v ∧ w' = w := h.mono fun _ _ h => ⟨h.1, h.2.symm⟩

set_option maxRecDepth 100000 in
set_option maxHeartbeats 1600000 in
theorem vputU_any (a f : Nat) (v : V) (w : World) (hv : v.ok) (ha : w.cell? ⟨a, 0, none⟩ = some (fnc 51)) (hf : w.cell? ⟨f, 0, none⟩ = some (fnc 64)) :
    Calls Try.prog 79 #[valc v, .pointer (some ⟨a, 0, none⟩), .pointer (some ⟨f, 0, none⟩)] w (TellsN w (u v.u)) := by
  unfold fnc at ha hf
  obtain ⟨g, hg⟩ : ∃ g, w.heap.size = g := ⟨_, rfl⟩
  obtain ⟨w1, hw1⟩ : ∃ w1, w.alloc (.cells #[.int .i64 v.k, .int .u64 (v.u : Int), .int .i64 v.n, .string (txt v.s)] 38) = w1 := ⟨_, rfl⟩
  have hf1 : Fr (fun _ => False) w w1 := by rw [← hw1]; exact (Fr.refl _ _).alloc _
  have hr1 : RowV w1 g v := by rw [← hw1, ← hg]; exact RowV.new w v
  have ha1 := hf1.cell ha (fun h => h)
  have hc1 := hf1.cell hf (fun h => h)
  have d1 := hr1.c1
  have hu := U_any v.u w1.drew hv.2.1
  have hfl := fieldU_any g w1.drew
  have HU := Lib.hid hu
  have HFL := Lib.hid hfl
  have HF1 := Lib.hid hf1
  unfold valc
  clear ha hf hf1 hr1 hu hfl
  go_enter Try.func79, Try.ntmps79
  go_upto_region 1 with fail
  clear hw1 hg
  refine wp_region_still_tail 5 (by kernel_rfl) (by kernel_rfl) ?_
  simp only [List.take_succ_cons, List.take_zero, List.drop_succ_cons, List.drop_zero]
  repeat still_step
  still_call (sw14 HFL.out)
  repeat still_step
  refine wpStill_nil ?_
  change wpList _ _ _ _ _ w1.drew
  go_wp2_with fail
  refine HU.out.mono ?_
  intro e w2 h2
  obtain ⟨A, c, rfl, ho, hf2⟩ := h2
  have HO := Lib.hid ho
  have HF2 := Lib.hid (HF1.out.drew.trans hf2 (fun _ _ h => h))
  clear ho hf2
  go_wp2_with fail
  go_ret
  exact ⟨A, c, rfl, HO.out.cap.1, HO.out.rd, HF2.out, fun ad e => Nat.le_trans HF1.out.drew.size (HO.out.lt ad.block (by rw [e]; rfl)).1⟩

set_option maxRecDepth 100000 in
set_option maxHeartbeats 1600000 in
theorem vgetU_any (a f : Nat) (A : Option Addr) (n c : Nat) (B : List UInt8) (w : World) (ha : w.cell? ⟨a, 0, none⟩ = some (fnc 54)) (hf : w.cell? ⟨f, 0, none⟩ = some (fnc 64)) (hr : Rd w A n (B.map bytec)) (hc : n ≤ c) (hn : n ≤ 1000000) :
    Calls Try.prog 80 #[.slice A n c, .pointer (some ⟨a, 0, none⟩), .pointer (some ⟨f, 0, none⟩)] w fun e w' => e = .returned (valR (getC 1 0 B)) ∧ Fr (fun _ => False) w w' := by
  have hBn : B.length = n := by simpa using hr.1
  unfold fnc at ha hf
  obtain ⟨g, hg⟩ : ∃ g, w.heap.size = g := ⟨_, rfl⟩
  have hgf : f < g := by rw [← hg]; exact World.block_lt_of_cell? w _ hf
  have HG := Lib.hid hg
  obtain ⟨w1, hw1⟩ : ∃ w1, w.alloc (.cells #[.int .i64 0, .int .u64 0, .int .i64 0, .string ⟨#[]⟩] 38) = w1 := ⟨_, rfl⟩
  have hf1 : Fr (fun _ => False) w w1 := by rw [← hw1]; exact (Fr.refl _ _).alloc _
  have hr1 : RowV w1 g zeroV := by rw [← hw1, ← hg]; exact RowV.new w zeroV
  have ha1 := hf1.cell ha (fun h => h)
  have hbd := gu_lt B
  obtain ⟨N, hN⟩ : ∃ N, N = (gu B).1 := ⟨_, rfl⟩
  obtain ⟨k, hk⟩ : ∃ k, k = (gu B).2.1 := ⟨_, rfl⟩
  obtain ⟨E, hE⟩ : ∃ E, E = (gu B).2.2 := ⟨_, rfl⟩
  have hget := GetU_any A n c B w1 (hr.fr hf1 (fun _ _ h => h)) hc
  have hG : getC 1 0 B = if (gu B).2.2 = 0 ∧ (gu B).2.1 = B.length then ((⟨0, (gu B).1, 0, []⟩ : V), true) else (zeroV, false) := rfl
  rw [hG]
  rw [← hN, ← hk, ← hE] at hbd hget
  rw [← hN, ← hk, ← hE, hBn]
  rw [hBn] at hbd
  have HGET := Lib.hid hget
  have HF1 := Lib.hid hf1
  have HR1 := Lib.hid hr1
  have HFC := Lib.hid hf
  obtain ⟨hb1, hb2, hb3⟩ := hbd
  have hb1' := hb1
  clear hBn ha hf hr hf1 hr1 hN hk hE hget hG
  by_cases hok : E = 0 ∧ k = n
  · rw [if_pos hok]
    obtain ⟨rfl, rfl⟩ := hok
    go_enter Try.func80, Try.ntmps80
    go_wp2_with fail
    clear hw1 hg ha1
    refine HGET.out.mono ?_
    rintro e w2 ⟨rfl, hf2⟩
    have HR2 := Lib.hid (HR1.out.fr hf2 (fun h => h))
    have hf3 := HF1.out.trans hf2 (fun _ _ h => h)
    obtain ⟨p, hp⟩ : ∃ p, w2.heap.size = p := ⟨_, rfl⟩
    have hgp : g < p := by rw [← hp]; exact HR2.out.lt
    obtain ⟨w3, hw3⟩ : ∃ w3, w2.alloc (.cells #[.int .i64 0, .int .u64 0, .int .i64 0, .string ⟨#[]⟩] 38) = w3 := ⟨_, rfl⟩
    have hf4 : Fr (fun _ => False) w2 w3 := by rw [← hw3]; exact (Fr.refl _ _).alloc _
    have hr3 : RowV w3 p zeroV := by rw [← hw3, ← hp]; exact RowV.new w2 zeroV
    have hc3 := (hf3.trans hf4 (fun _ _ h => h)).cell HFC.out (fun h => h)
    have HR3 := Lib.hid (HR2.out.fr hf4 (fun h => h))
    have HP3 := Lib.hid hr3
    have HF3 := Lib.hid (hf3.trans hf4 (fun _ _ h => h))
    have hfl := fieldU_any p w3
    have HFL := Lib.hid hfl
    have d1 := hr3.c1
    have f1 : w3.frozen? ⟨p, 1, none⟩ = false := Row.free hr3 1
    clear hf2 hf3 hf4 hr3 hfl
    go_wp2_with fail
    clear hw3 hp
    refine HFL.out.mono ?_
    rintro e w4 ⟨rfl, rfl⟩
    have h4 := Row.set HP3.out 1 (.int .u64 (N : Int))
    obtain ⟨w5, hw5⟩ : ∃ w5, w3.setCell ⟨p, 1, none⟩ (.int .u64 (N : Int)) = w5 := ⟨_, rfl⟩
    rw [hw5] at h4
    have h5 : RowV w5 p ((⟨0, N, 0, []⟩ : V)) := h4
    have hf5 : Fr (fun b => b = p) w3 w5 := by rw [← hw5]; exact Fr.set1 _ _ _ _
    have HR5 := Lib.hid (HR3.out.fr hf5 (by omega))
    have HF5 := Lib.hid (HF3.out.trans hf5 (fun b hb h => by have := HG.out; omega))
    have e0 := h5.c0
    have e1 := h5.c1
    have e2 := h5.c2
    have e3 := h5.c3
    simp only at e0 e1 e2 e3
    clear h4 h5 hf5
    go_wp2_with (refine store_st vSz rfl (.tmp 4) (.tmp 30) rfl g (by rfl) (vls ((⟨0, N, 0, []⟩ : V))) (by rfl) _ _ HR5.out rfl rfl (v_one _) ?_)
    intro w6 hr6 hf6
    have HR6 : Hid (RowV w6 g ((⟨0, N, 0, []⟩ : V))) := Lib.hid hr6
    have HF6 := Lib.hid (HF5.out.trans hf6 (fun b hb h => by have := HG.out; omega))
    clear e0 e1 e2 e3 d1 f1 hw5
    have d0 := HR6.out.c0
    have d1 := HR6.out.c1
    have d2 := HR6.out.c2
    have d3 := HR6.out.c3
    clear hr6 hf6
    go_wp2_with fail
    refine bodyPost_ret (v := valR ((⟨0, N, 0, []⟩ : V), true)) (by simp [results, valR, valc, d0, d1, d2, d3, Try.results80, go_sem]) rfl ⟨rfl, HF6.out⟩
  · rw [if_neg hok]
    obtain ⟨q, hq⟩ : ∃ q, ((E : Int) != 0) = q := ⟨_, rfl⟩
    have t2 : q = false → ((k : Int) != (n : Int)) = true := by
      intro hqf
      rw [hqf] at hq
      simp at hq ⊢
      omega
    have T2 := Lib.hid t2
    clear t2 hok
    cases q
    all_goals
      (try (have t3 := T2.out rfl))
      go_enter Try.func80, Try.ntmps80
      go_wp2_with fail
      clear hw1 hg ha1
      refine HGET.out.mono ?_
      rintro e w2 ⟨rfl, hf2⟩
      have HR2 := Lib.hid (HR1.out.fr hf2 (fun h => h))
      have HF2 := Lib.hid (HF1.out.trans hf2 (fun _ _ h => h))
      clear hf2
      go_wp2_with (refine store_st vSz rfl (.tmp 4) (.tmp 25) rfl g (by rfl) (vls zeroV) (by rfl) _ _ HR2.out rfl rfl (v_one _) ?_)
      intro w6 hr6 hf6
      have HR6 : Hid (RowV w6 g zeroV) := Lib.hid hr6
      have HF6 := Lib.hid (HF2.out.trans hf6 (fun b hb h => by have := HG.out; omega))
      have d0 := HR6.out.c0
      have d1 := HR6.out.c1
      have d2 := HR6.out.c2
      have d3 := HR6.out.c3
      clear hr6 hf6
      go_wp2_with fail
      refine bodyPost_ret (v := valR (zeroV, false)) (by simp [results, valR, valc, d0, d1, d2, d3, Try.results80, go_sem]) rfl ⟨rfl, HF6.out⟩

set_option maxRecDepth 100000 in
set_option maxHeartbeats 1600000 in
theorem vputS_any (a f : Nat) (v : V) (w : World) (hv : v.ok) (ha : w.cell? ⟨a, 0, none⟩ = some (fnc 50)) (hf : w.cell? ⟨f, 0, none⟩ = some (fnc 67)) :
    Calls Try.prog 81 #[valc v, .pointer (some ⟨a, 0, none⟩), .pointer (some ⟨f, 0, none⟩)] w (TellsN w (s v.n)) := by
  unfold fnc at ha hf
  obtain ⟨g, hg⟩ : ∃ g, w.heap.size = g := ⟨_, rfl⟩
  obtain ⟨w1, hw1⟩ : ∃ w1, w.alloc (.cells #[.int .i64 v.k, .int .u64 (v.u : Int), .int .i64 v.n, .string (txt v.s)] 38) = w1 := ⟨_, rfl⟩
  have hf1 : Fr (fun _ => False) w w1 := by rw [← hw1]; exact (Fr.refl _ _).alloc _
  have hr1 : RowV w1 g v := by rw [← hw1, ← hg]; exact RowV.new w v
  have ha1 := hf1.cell ha (fun h => h)
  have hc1 := hf1.cell hf (fun h => h)
  have d1 := hr1.c2
  have hu := S_any v.n w1.drew hv.2.2.1 hv.2.2.2
  have hfl := fieldN_any g w1.drew
  have HU := Lib.hid hu
  have HFL := Lib.hid hfl
  have HF1 := Lib.hid hf1
  unfold valc
  clear ha hf hf1 hr1 hu hfl
  go_enter Try.func81, Try.ntmps81
  go_upto_region 1 with fail
  clear hw1 hg
  refine wp_region_still_tail 5 (by kernel_rfl) (by kernel_rfl) ?_
  simp only [List.take_succ_cons, List.take_zero, List.drop_succ_cons, List.drop_zero]
  repeat still_step
  still_call (sw14 HFL.out)
  repeat still_step
  refine wpStill_nil ?_
  change wpList _ _ _ _ _ w1.drew
  go_wp2_with fail
  refine HU.out.mono ?_
  intro e w2 h2
  obtain ⟨A, c, rfl, ho, hf2⟩ := h2
  have HO := Lib.hid ho
  have HF2 := Lib.hid (HF1.out.drew.trans hf2 (fun _ _ h => h))
  clear ho hf2
  go_wp2_with fail
  go_ret
  exact ⟨A, c, rfl, HO.out.cap.1, HO.out.rd, HF2.out, fun ad e => Nat.le_trans HF1.out.drew.size (HO.out.lt ad.block (by rw [e]; rfl)).1⟩

set_option maxRecDepth 100000 in
set_option maxHeartbeats 1600000 in
theorem vgetS_any (a f : Nat) (A : Option Addr) (n c : Nat) (B : List UInt8) (w : World) (ha : w.cell? ⟨a, 0, none⟩ = some (fnc 66)) (hf : w.cell? ⟨f, 0, none⟩ = some (fnc 67)) (hr : Rd w A n (B.map bytec)) (hc : n ≤ c) (hn : n ≤ 1000000) :
    Calls Try.prog 82 #[.slice A n c, .pointer (some ⟨a, 0, none⟩), .pointer (some ⟨f, 0, none⟩)] w fun e w' => e = .returned (valR (getC 2 0 B)) ∧ Fr (fun _ => False) w w' := by
  have hBn : B.length = n := by simpa using hr.1
  unfold fnc at ha hf
  obtain ⟨g, hg⟩ : ∃ g, w.heap.size = g := ⟨_, rfl⟩
  have hgf : f < g := by rw [← hg]; exact World.block_lt_of_cell? w _ hf
  have HG := Lib.hid hg
  obtain ⟨w1, hw1⟩ : ∃ w1, w.alloc (.cells #[.int .i64 0, .int .u64 0, .int .i64 0, .string ⟨#[]⟩] 38) = w1 := ⟨_, rfl⟩
  have hf1 : Fr (fun _ => False) w w1 := by rw [← hw1]; exact (Fr.refl _ _).alloc _
  have hr1 : RowV w1 g zeroV := by rw [← hw1, ← hg]; exact RowV.new w zeroV
  have ha1 := hf1.cell ha (fun h => h)
  have hbd := gs_lt B
  obtain ⟨N, hN⟩ : ∃ N, N = (gs B).1 := ⟨_, rfl⟩
  obtain ⟨k, hk⟩ : ∃ k, k = (gs B).2.1 := ⟨_, rfl⟩
  obtain ⟨E, hE⟩ : ∃ E, E = (gs B).2.2 := ⟨_, rfl⟩
  have hget := GetS_any A n c B w1 (hr.fr hf1 (fun _ _ h => h)) hc
  have hG : getC 2 0 B = if (gs B).2.2 = 0 ∧ (gs B).2.1 = B.length then ((⟨0, 0, (gs B).1, []⟩ : V), true) else (zeroV, false) := rfl
  rw [hG]
  rw [← hN, ← hk, ← hE] at hbd hget
  rw [← hN, ← hk, ← hE, hBn]
  rw [hBn] at hbd
  have HGET := Lib.hid hget
  have HF1 := Lib.hid hf1
  have HR1 := Lib.hid hr1
  have HFC := Lib.hid hf
  obtain ⟨hb1, hb2, hb3⟩ := hbd
  have hb1' := hb1.1
  clear hBn ha hf hr hf1 hr1 hN hk hE hget hG
  by_cases hok : E = 0 ∧ k = n
  · rw [if_pos hok]
    obtain ⟨rfl, rfl⟩ := hok
    go_enter Try.func82, Try.ntmps82
    go_wp2_with fail
    clear hw1 hg ha1
    refine HGET.out.mono ?_
    rintro e w2 ⟨rfl, hf2⟩
    have HR2 := Lib.hid (HR1.out.fr hf2 (fun h => h))
    have hf3 := HF1.out.trans hf2 (fun _ _ h => h)
    obtain ⟨p, hp⟩ : ∃ p, w2.heap.size = p := ⟨_, rfl⟩
    have hgp : g < p := by rw [← hp]; exact HR2.out.lt
    obtain ⟨w3, hw3⟩ : ∃ w3, w2.alloc (.cells #[.int .i64 0, .int .u64 0, .int .i64 0, .string ⟨#[]⟩] 38) = w3 := ⟨_, rfl⟩
    have hf4 : Fr (fun _ => False) w2 w3 := by rw [← hw3]; exact (Fr.refl _ _).alloc _
    have hr3 : RowV w3 p zeroV := by rw [← hw3, ← hp]; exact RowV.new w2 zeroV
    have hc3 := (hf3.trans hf4 (fun _ _ h => h)).cell HFC.out (fun h => h)
    have HR3 := Lib.hid (HR2.out.fr hf4 (fun h => h))
    have HP3 := Lib.hid hr3
    have HF3 := Lib.hid (hf3.trans hf4 (fun _ _ h => h))
    have hfl := fieldN_any p w3
    have HFL := Lib.hid hfl
    have d1 := hr3.c2
    have f1 : w3.frozen? ⟨p, 2, none⟩ = false := Row.free hr3 2
    clear hf2 hf3 hf4 hr3 hfl
    go_wp2_with fail
    clear hw3 hp
    refine HFL.out.mono ?_
    rintro e w4 ⟨rfl, rfl⟩
    have h4 := Row.set HP3.out 2 (.int .i64 N)
    obtain ⟨w5, hw5⟩ : ∃ w5, w3.setCell ⟨p, 2, none⟩ (.int .i64 N) = w5 := ⟨_, rfl⟩
    rw [hw5] at h4
    have h5 : RowV w5 p ((⟨0, 0, N, []⟩ : V)) := h4
    have hf5 : Fr (fun b => b = p) w3 w5 := by rw [← hw5]; exact Fr.set1 _ _ _ _
    have HR5 := Lib.hid (HR3.out.fr hf5 (by omega))
    have HF5 := Lib.hid (HF3.out.trans hf5 (fun b hb h => by have := HG.out; omega))
    have e0 := h5.c0
    have e1 := h5.c1
    have e2 := h5.c2
    have e3 := h5.c3
    simp only at e0 e1 e2 e3
    clear h4 h5 hf5
    go_wp2_with (refine store_st vSz rfl (.tmp 4) (.tmp 30) rfl g (by rfl) (vls ((⟨0, 0, N, []⟩ : V))) (by rfl) _ _ HR5.out rfl rfl (v_one _) ?_)
    intro w6 hr6 hf6
    have HR6 : Hid (RowV w6 g ((⟨0, 0, N, []⟩ : V))) := Lib.hid hr6
    have HF6 := Lib.hid (HF5.out.trans hf6 (fun b hb h => by have := HG.out; omega))
    clear e0 e1 e2 e3 d1 f1 hw5
    have d0 := HR6.out.c0
    have d1 := HR6.out.c1
    have d2 := HR6.out.c2
    have d3 := HR6.out.c3
    clear hr6 hf6
    go_wp2_with fail
    refine bodyPost_ret (v := valR ((⟨0, 0, N, []⟩ : V), true)) (by simp [results, valR, valc, d0, d1, d2, d3, Try.results82, go_sem]) rfl ⟨rfl, HF6.out⟩
  · rw [if_neg hok]
    obtain ⟨q, hq⟩ : ∃ q, ((E : Int) != 0) = q := ⟨_, rfl⟩
    have t2 : q = false → ((k : Int) != (n : Int)) = true := by
      intro hqf
      rw [hqf] at hq
      simp at hq ⊢
      omega
    have T2 := Lib.hid t2
    clear t2 hok
    cases q
    all_goals
      (try (have t3 := T2.out rfl))
      go_enter Try.func82, Try.ntmps82
      go_wp2_with fail
      clear hw1 hg ha1
      refine HGET.out.mono ?_
      rintro e w2 ⟨rfl, hf2⟩
      have HR2 := Lib.hid (HR1.out.fr hf2 (fun h => h))
      have HF2 := Lib.hid (HF1.out.trans hf2 (fun _ _ h => h))
      clear hf2
      go_wp2_with (refine store_st vSz rfl (.tmp 4) (.tmp 25) rfl g (by rfl) (vls zeroV) (by rfl) _ _ HR2.out rfl rfl (v_one _) ?_)
      intro w6 hr6 hf6
      have HR6 : Hid (RowV w6 g zeroV) := Lib.hid hr6
      have HF6 := Lib.hid (HF2.out.trans hf6 (fun b hb h => by have := HG.out; omega))
      have d0 := HR6.out.c0
      have d1 := HR6.out.c1
      have d2 := HR6.out.c2
      have d3 := HR6.out.c3
      clear hr6 hf6
      go_wp2_with fail
      refine bodyPost_ret (v := valR (zeroV, false)) (by simp [results, valR, valc, d0, d1, d2, d3, Try.results82, go_sem]) rfl ⟨rfl, HF6.out⟩
end Go.Proofs.Ytohbcepbodcapaa
