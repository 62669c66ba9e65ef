/-
  Layer 14, the program: the closures of texts and of numbers (written by gen_clos.py).
-/
import Derived.Test.YtmiofhoojahpjaaVaA
import Derived.Test.YtmiofhoojahpjaaLebD
import Derived.StillTailTactics
namespace Go.Proofs.Ytmiofhoojahpjaa
open Go.RowKit Mem Go.Lib VaM LebM UtfM
attribute [local go_sem ↓] Go.wp_at_zero Go.wp_at_succ
set_option linter.unusedVariables false

def vls (v : V) : List Value := [.int .i64 v.k, .int .u64 (v.u : Int), .int .i64 v.n, .string (txt v.s)]
theorem v_one (v : V) : (vls v).toArray.all (·.oneCell') = true := by simp [vls, Value.oneCell']
theorem valc_eq (v : V) : valc v = .agg (vls v).toArray := rfl
/-- block g holds a value -/
def RowV (w : World) (g : Nat) (v : V) : Prop := Row w g 30 (vls v)
theorem RowV.fr {w w' : World} {g : Nat} {v : V} {S : Nat → Prop} (h : RowV w g v) (hf : Fr S w w') (hg : ¬ S g) : RowV w' g v := Row.fr h hf hg
theorem RowV.new (w : World) (v : V) : RowV (w.alloc (.cells (vls v).toArray 30)) w.heap.size v := Row.new w _ _
theorem RowV.c0 {w : World} {g : Nat} {v : V} (h : RowV w g v) : w.cell? ⟨g, 0, none⟩ = some (.int .i64 v.k) := Row.cell h rfl
theorem RowV.c1 {w : World} {g : Nat} {v : V} (h : RowV w g v) : w.cell? ⟨g, 1, none⟩ = some (.int .u64 (v.u : Int)) := Row.cell h rfl
theorem RowV.c2 {w : World} {g : Nat} {v : V} (h : RowV w g v) : w.cell? ⟨g, 2, none⟩ = some (.int .i64 v.n) := Row.cell h rfl
theorem RowV.c3 {w : World} {g : Nat} {v : V} (h : RowV w g v) : w.cell? ⟨g, 3, none⟩ = some (.string (txt v.s)) := Row.cell h rfl
theorem RowV.lt {w : World} {g : Nat} {v : V} (h : RowV w g v) : g < w.heap.size := Row.lt h
theorem tells_of {w w' : World} {B : List UInt8} {A : Option Addr} {c : Nat} (hc : B.length ≤ c) (hr : Rd w' A B.length (B.map bytec)) (hf : Fr (fun _ => False) w w') : Tells w B (.returned (.slice A B.length c)) w' := ⟨A, c, rfl, hc, hr, hf⟩

set_option maxRecDepth 100000 in
set_option maxHeartbeats 1600000 in
theorem vgetT_any (p : Nat) (A : Option Addr) (n c : Nat) (B : List UInt8) (w : World) (hp : w.cell? ⟨p, 0, none⟩ = some (fnc 59)) (hr : Rd w A n (B.map bytec)) (hc : n ≤ c) (hn : n ≤ 1000000) :
    Calls Try.prog 72 #[.slice A n c, .pointer (some ⟨p, 0, none⟩)] w fun e w' => e = .returned (valR (getC 3 0 B)) ∧ Fr (fun _ => False) w w' := by
  have hBn : B.length = n := by simpa using hr.1
  have hpl : p < w.heap.size := World.block_lt_of_cell? w _ hp
  unfold fnc at hp
  obtain ⟨g, hg⟩ : ∃ g, w.heap.size = g := ⟨_, rfl⟩
  have HG := Lib.hid hg
  by_cases h4 : 4000 < n
  · rw [show getC 3 0 B = (zeroV, false) from if_neg (fun h => by have h2 : B.length ≤ 4000 := h.1; omega)]
    have t : decide ((4000 : Int) < (n : Int)) = true := by simp; omega
    have t' : decide (4000 < n) = true := by simp; omega
    clear hBn hr hp hg
    go_enter Try.func72, Try.ntmps72
    go_wp2_with (refine store_st vSz rfl (.tmp 3) (.tmp 9) rfl w.heap.size (by rfl) (vls zeroV) (by rfl) _ _ (RowV.new w zeroV) rfl rfl (v_one _) ?_)
    intro w2 hr2 hf2
    have HR2 : Hid (RowV w2 w.heap.size zeroV) := Lib.hid hr2
    have HF2 := Lib.hid (((Fr.refl (fun _ => False) w).alloc _).trans hf2 (fun b hb h => by omega))
    have d0 := HR2.out.c0
    have d1 := HR2.out.c1
    have d2 := HR2.out.c2
    have d3 := HR2.out.c3
    clear hr2 hf2
    go_wp2_with fail
    refine bodyPost_ret (v := valR (zeroV, false)) (by simp [results, valR, valc, d0, d1, d2, d3, Try.results72, go_sem]) rfl ⟨rfl, HF2.out⟩
  · have t : decide ((4000 : Int) < (n : Int)) = false := by simp; omega
    have t' : decide (4000 < n) = false := by simp; omega
    have hs : ∀ w', Fr (fun _ => False) w w' → (convert 61 9 (.slice A n c)).run Try.prog w' = .ok (.string (txt B)) w' := fun w' hf => str_rd (hr.fr hf (fun _ _ h => h)) c
    obtain ⟨w1, hw1⟩ : ∃ w1, w.alloc (.cells #[.int .i64 0, .int .u64 0, .int .i64 0, .string ⟨#[]⟩] 30) = w1 := ⟨_, rfl⟩
    have hf1 : Fr (fun _ => False) w w1 := by rw [← hw1]; exact (Fr.refl _ _).alloc _
    have hr1 : RowV w1 g zeroV := by rw [← hw1, ← hg]; exact RowV.new w zeroV
    have hp1 := hf1.cell hp (fun h => h)
    have hs1 := hs w1 hf1
    have HF1 := Lib.hid hf1
    have HR1 := Lib.hid hr1
    obtain ⟨q, hq⟩ : ∃ q, (wh B == B.length) = q := ⟨_, rfl⟩
    have hcall : ∀ w', Calls Try.prog 59 #[.string (txt B)] w' fun e w'' => e = .returned (.bool q) ∧ Fr (fun _ => False) w' w'' := fun w' => by
      rw [← hq]
      exact vmayT_any B w' (by omega)
    have hget : getC 3 0 B = if q = true then (⟨0, 0, 0, B⟩, true) else (zeroV, false) := by
      have h4 : B.length ≤ 4000 := by omega
      have h := show getC 3 0 B = (if B.length ≤ 4000 ∧ wh B = B.length then (⟨0, 0, 0, B⟩, true) else (zeroV, false)) from rfl
      rw [h, ← hq]
      simp [h4]
    rw [hget]
    have HC := Lib.hid hcall
    clear hBn hr hp hs hf1 hr1 hcall hq hget
    cases q
    · simp only [Bool.false_eq_true, if_false]
      go_enter Try.func72, Try.ntmps72
      go_wp2_with fail
      clear hw1 hg
      refine (HC.out _).mono ?_
      rintro e w2 ⟨rfl, hf2⟩
      have HR2 := Lib.hid (HR1.out.fr hf2 (fun h => h))
      have HF2 := Lib.hid (HF1.out.trans hf2 (fun _ _ h => h))
      clear hf2
      go_wp2_with (refine store_st vSz rfl (.tmp 3) (.tmp 16) rfl g (by rfl) (vls zeroV) (by rfl) _ _ HR2.out rfl rfl (v_one _) ?_)
      intro w3 hr3 hf3
      have HR3 : Hid (RowV w3 g zeroV) := Lib.hid hr3
      have HF3 := Lib.hid (HF2.out.trans hf3 (fun b hb h => by have := HG.out; omega))
      have d0 := HR3.out.c0
      have d1 := HR3.out.c1
      have d2 := HR3.out.c2
      have d3 := HR3.out.c3
      clear hr3 hf3
      go_wp2_with fail
      refine bodyPost_ret (v := valR (zeroV, false)) (by simp [results, valR, valc, d0, d1, d2, d3, Try.results72, go_sem]) rfl ⟨rfl, HF3.out⟩
    · simp only [if_true]
      go_enter Try.func72, Try.ntmps72
      go_wp2_with fail
      clear hw1 hg
      refine (HC.out _).mono ?_
      rintro e w2 ⟨rfl, hf2⟩
      have HR2 := Lib.hid (HR1.out.fr hf2 (fun h => h))
      have HF2 := Lib.hid (HF1.out.trans hf2 (fun _ _ h => h))
      clear hf2
      go_wp2_with (refine store_st vSz rfl (.tmp 3) (.tmp 18) rfl g (by rfl) (vls ⟨0, 0, 0, B⟩) (by rfl) _ _ HR2.out rfl rfl (v_one _) ?_)
      intro w3 hr3 hf3
      have HR3 : Hid (RowV w3 g ⟨0, 0, 0, B⟩) := Lib.hid hr3
      have HF3 := Lib.hid (HF2.out.trans hf3 (fun b hb h => by have := HG.out; omega))
      have d0 := HR3.out.c0
      have d1 := HR3.out.c1
      have d2 := HR3.out.c2
      have d3 := HR3.out.c3
      clear hr3 hf3
      go_wp2_with fail
      refine bodyPost_ret (v := valR (⟨0, 0, 0, B⟩, true)) (by simp [results, valR, valc, d0, d1, d2, d3, Try.results72, go_sem]) rfl ⟨rfl, HF3.out⟩

set_option maxRecDepth 100000 in
set_option maxHeartbeats 1600000 in
theorem vgetB_any (p : Nat) (A : Option Addr) (n c : Nat) (B : List UInt8) (w : World) (hp : w.cell? ⟨p, 0, none⟩ = some (fnc 60)) (hr : Rd w A n (B.map bytec)) (hc : n ≤ c) (hn : n ≤ 1000000) :
    Calls Try.prog 72 #[.slice A n c, .pointer (some ⟨p, 0, none⟩)] w fun e w' => e = .returned (valR (getC 4 0 B)) ∧ Fr (fun _ => False) w w' := by
  have hBn : B.length = n := by simpa using hr.1
  have hpl : p < w.heap.size := World.block_lt_of_cell? w _ hp
  unfold fnc at hp
  obtain ⟨g, hg⟩ : ∃ g, w.heap.size = g := ⟨_, rfl⟩
  have HG := Lib.hid hg
  by_cases h4 : 4000 < n
  · rw [show getC 4 0 B = (zeroV, false) from if_neg (fun h => by have h2 : B.length ≤ 4000 := h; omega)]
    have t : decide ((4000 : Int) < (n : Int)) = true := by simp; omega
    have t' : decide (4000 < n) = true := by simp; omega
    clear hBn hr hp hg
    go_enter Try.func72, Try.ntmps72
    go_wp2_with (refine store_st vSz rfl (.tmp 3) (.tmp 9) rfl w.heap.size (by rfl) (vls zeroV) (by rfl) _ _ (RowV.new w zeroV) rfl rfl (v_one _) ?_)
    intro w2 hr2 hf2
    have HR2 : Hid (RowV w2 w.heap.size zeroV) := Lib.hid hr2
    have HF2 := Lib.hid (((Fr.refl (fun _ => False) w).alloc _).trans hf2 (fun b hb h => by omega))
    have d0 := HR2.out.c0
    have d1 := HR2.out.c1
    have d2 := HR2.out.c2
    have d3 := HR2.out.c3
    clear hr2 hf2
    go_wp2_with fail
    refine bodyPost_ret (v := valR (zeroV, false)) (by simp [results, valR, valc, d0, d1, d2, d3, Try.results72, go_sem]) rfl ⟨rfl, HF2.out⟩
  · have t : decide ((4000 : Int) < (n : Int)) = false := by simp; omega
    have t' : decide (4000 < n) = false := by simp; omega
    have hs : ∀ w', Fr (fun _ => False) w w' → (convert 61 9 (.slice A n c)).run Try.prog w' = .ok (.string (txt B)) w' := fun w' hf => str_rd (hr.fr hf (fun _ _ h => h)) c
    obtain ⟨w1, hw1⟩ : ∃ w1, w.alloc (.cells #[.int .i64 0, .int .u64 0, .int .i64 0, .string ⟨#[]⟩] 30) = w1 := ⟨_, rfl⟩
    have hf1 : Fr (fun _ => False) w w1 := by rw [← hw1]; exact (Fr.refl _ _).alloc _
    have hr1 : RowV w1 g zeroV := by rw [← hw1, ← hg]; exact RowV.new w zeroV
    have hp1 := hf1.cell hp (fun h => h)
    have hs1 := hs w1 hf1
    have HF1 := Lib.hid hf1
    have HR1 := Lib.hid hr1
    obtain ⟨q, hq⟩ : ∃ q, true = q := ⟨_, rfl⟩
    have hcall : ∀ w', Calls Try.prog 60 #[.string (txt B)] w' fun e w'' => e = .returned (.bool q) ∧ Fr (fun _ => False) w' w'' := fun w' => by
      rw [← hq]
      exact (vmayB_any B w').mono (fun e w2 h => ⟨h.1, by rw [← h.2]; exact Fr.refl _ _⟩)
    have hget : getC 4 0 B = if q = true then (⟨0, 0, 0, B⟩, true) else (zeroV, false) := by
      have h4 : B.length ≤ 4000 := by omega
      have h := show getC 4 0 B = (if B.length ≤ 4000 then (⟨0, 0, 0, B⟩, true) else (zeroV, false)) from rfl
      rw [h, ← hq]
      simp [h4]
    rw [hget]
    have HC := Lib.hid hcall
    clear hBn hr hp hs hf1 hr1 hcall hq hget
    cases q
    · simp only [Bool.false_eq_true, if_false]
      go_enter Try.func72, Try.ntmps72
      go_wp2_with fail
      clear hw1 hg
      refine (HC.out _).mono ?_
      rintro e w2 ⟨rfl, hf2⟩
      have HR2 := Lib.hid (HR1.out.fr hf2 (fun h => h))
      have HF2 := Lib.hid (HF1.out.trans hf2 (fun _ _ h => h))
      clear hf2
      go_wp2_with (refine store_st vSz rfl (.tmp 3) (.tmp 16) rfl g (by rfl) (vls zeroV) (by rfl) _ _ HR2.out rfl rfl (v_one _) ?_)
      intro w3 hr3 hf3
      have HR3 : Hid (RowV w3 g zeroV) := Lib.hid hr3
      have HF3 := Lib.hid (HF2.out.trans hf3 (fun b hb h => by have := HG.out; omega))
      have d0 := HR3.out.c0
      have d1 := HR3.out.c1
      have d2 := HR3.out.c2
      have d3 := HR3.out.c3
      clear hr3 hf3
      go_wp2_with fail
      refine bodyPost_ret (v := valR (zeroV, false)) (by simp [results, valR, valc, d0, d1, d2, d3, Try.results72, go_sem]) rfl ⟨rfl, HF3.out⟩
    · simp only [if_true]
      go_enter Try.func72, Try.ntmps72
      go_wp2_with fail
      clear hw1 hg
      refine (HC.out _).mono ?_
      rintro e w2 ⟨rfl, hf2⟩
      have HR2 := Lib.hid (HR1.out.fr hf2 (fun h => h))
      have HF2 := Lib.hid (HF1.out.trans hf2 (fun _ _ h => h))
      clear hf2
      go_wp2_with (refine store_st vSz rfl (.tmp 3) (.tmp 18) rfl g (by rfl) (vls ⟨0, 0, 0, B⟩) (by rfl) _ _ HR2.out rfl rfl (v_one _) ?_)
      intro w3 hr3 hf3
      have HR3 : Hid (RowV w3 g ⟨0, 0, 0, B⟩) := Lib.hid hr3
      have HF3 := Lib.hid (HF2.out.trans hf3 (fun b hb h => by have := HG.out; omega))
      have d0 := HR3.out.c0
      have d1 := HR3.out.c1
      have d2 := HR3.out.c2
      have d3 := HR3.out.c3
      clear hr3 hf3
      go_wp2_with fail
      refine bodyPost_ret (v := valR (⟨0, 0, 0, B⟩, true)) (by simp [results, valR, valc, d0, d1, d2, d3, Try.results72, go_sem]) rfl ⟨rfl, HF3.out⟩
end Go.Proofs.Ytmiofhoojahpjaa
