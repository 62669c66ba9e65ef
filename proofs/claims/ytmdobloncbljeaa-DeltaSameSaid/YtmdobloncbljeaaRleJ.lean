/-
  Layer 11, the program: take, of cells (written by gen11.py out of rleJ.src).
-/
import Derived.Test.YtmdobloncbljeaaRleH
namespace Go.Proofs.Ytmdobloncbljeaa
open Go.RowKit Mem Go.Lib RleM LebM
attribute [local go_sem ↓] Go.wp_at_zero Go.wp_at_succ
set_option linter.unusedVariables false

set_option maxRecDepth 100000 in
set_option maxHeartbeats 1600000 in
theorem takeS_any (base g : Nat) (t : TypeId) (fp fg sg cn mo : Value) (A : Option Addr) (n c : Nat) (B : List UInt8) (w : World) (hR : Row w g t [fp, fg, .slice A n c, sg, cn, mo]) (hr : Rd w A n (B.map bytec)) (hc : n ≤ c) (hA : 0 < n → ∀ ad, A = some ad → ad.block < base) (hg : base ≤ g) (hn : n ≤ 1000000) :
    Calls Try.prog 48 #[.pointer (some ⟨g, 2, none⟩), .func (.func 31) #[] #[]] w fun e w' => e = .returned (.tuple #[.agg #[.bool (kS.get B).1.1, (.int .i64 (kS.get B).1.2)], .int .i64 ((kS.get B).2.2 : Int)]) ∧
      (∃ A' c', Row w' g t [fp, fg, .slice A' (n - (kS.get B).2.1) c', sg, cn, mo] ∧ Rd w' A' (n - (kS.get B).2.1) ((B.drop (kS.get B).2.1).map bytec) ∧ n - (kS.get B).2.1 ≤ c' ∧ (0 < n - (kS.get B).2.1 → ∀ ad, A' = some ad → ad.block < base)) ∧ Fr (fun b => b = g) w w' := by
  have hBn : B.length = n := by simpa using hr.1
  have hbd := getS_bd B
  obtain ⟨i, hi⟩ : ∃ i, i = (kS.get B).1.1 := ⟨_, rfl⟩
  obtain ⟨x, hx⟩ : ∃ x, x = (kS.get B).1.2 := ⟨_, rfl⟩
  obtain ⟨k, hk⟩ : ∃ k, k = (kS.get B).2.1 := ⟨_, rfl⟩
  obtain ⟨E, hE⟩ : ∃ E, E = (kS.get B).2.2 := ⟨_, rfl⟩
  obtain ⟨w1, hw1⟩ : ∃ w1, w.alloc (.cells #[.bool false, (.int .i64 0)] 30) = w1 := ⟨_, rfl⟩
  obtain ⟨q, hq⟩ : ∃ q, w.heap.size = q := ⟨_, rfl⟩
  have hf1 : Fr (fun _ => False) w w1 := by rw [← hw1]; exact (Fr.refl _ _).alloc _
  have hqb : Row w1 q 30 [.bool false, (.int .i64 0)] := by rw [← hw1, ← hq]; exact Row.new w _ _
  have hqg : q ≠ g := by have := hR.lt; omega
  have hR1 := hR.fr hf1 (fun h => h)
  have hr1 := hr.fr hf1 (fun _ _ h => h)
  have hgt := getS_any A n c B w1 hr1 hc hn
  obtain ⟨-, hbd1, -⟩ := hbd
  rw [← hk] at hbd1
  rw [← hi, ← hx, ← hk, ← hE] at hgt
  rw [← hi, ← hx, ← hk, ← hE]
  have hkn : k ≤ n := by omega
  have c2 : w1.cell? ⟨g, 2, none⟩ = some (.slice A n c) := hR1.cell rfl
  obtain ⟨A2, hA2⟩ : ∃ A2, A2 = (if c = k then A else A.map (·.add k)) := ⟨_, rfl⟩
  have hsl : ∀ w : World, (Instr.sliceAt 25 (.slice A n c) (some (.int .i64 (k : Int))) none none).run Try.prog w = .ok (.slice A2 (n - k) (c - k)) w := by
    intro w
    rw [hA2]
    exact from_u8 A n c k hkn hc _ rfl w
  have hrC : Rd w1 A2 (n - k) ((B.drop k).map bytec) := by
    have h := hr1.cut (k := k) (m := n) (cap := c) hkn (Nat.le_refl _) hc
    rw [← hA2] at h
    rw [List.map_drop]
    rw [List.take_of_length_le (by simp; omega)] at h
    exact h
  have hAb : 0 < n - k → ∀ ad, A2 = some ad → ad.block < base := by
    intro h0 ad e
    rw [hA2] at e
    split at e
    · exact hA (by omega) ad e
    · cases A with
      | none => cases e
      | some a =>
        injection e with e
        rw [← e, add_block]
        exact hA (by omega) a rfl
  obtain ⟨n2, hn2⟩ : ∃ n2, n2 = n - k := ⟨_, rfl⟩
  obtain ⟨c3, hc3⟩ : ∃ c3, c3 = c - k := ⟨_, rfl⟩
  have hnc : n2 ≤ c3 := by omega
  rw [← hn2, ← hc3] at hsl
  rw [← hn2] at hrC hAb ⊢
  have HGT := Lib.hid hgt
  have HR := Lib.hid hR1
  have HRC := Lib.hid hrC
  have HAB := Lib.hid hAb
  have HG := Lib.hid hg
  have HNC := Lib.hid hnc
  have HQB := Lib.hid hqb
  have HQG := Lib.hid hqg
  have HQ := Lib.hid hq
  have HF1 := Lib.hid hf1
  have HHG := Lib.hid hR.lt
  clear hi hx hk hE hgt hR hr hBn hrC hAb hA2 hn2 hc3 hg hnc hA hqb hqg hf1 hR1 hr1 hbd1
  go_enter Try.func48, Try.ntmps48
  go_wp2_with fail
  clear hw1 hq
  refine HGT.out.mono ?_
  rintro e w2 ⟨rfl, hf2⟩
  obtain ⟨w3, hw3⟩ : ∃ w3, w2.alloc (.cells #[.bool i, (.int .i64 x)] 30) = w3 := ⟨_, rfl⟩
  obtain ⟨p, hp⟩ : ∃ p, w2.heap.size = p := ⟨_, rfl⟩
  have hf3 : Fr (fun _ => False) w2 w3 := by rw [← hw3]; exact (Fr.refl _ _).alloc _
  have hpb : Row w3 p 30 [.bool i, (.int .i64 x)] := by rw [← hw3, ← hp]; exact Row.new w2 _ _
  have hf13 := hf2.trans hf3 (fun _ _ h => h)
  have hr3 := HR.out.fr hf13 (fun h => h)
  have hq3 := HQB.out.fr hf13 (fun h => h)
  have hpg : p ≠ g := by have := HR.out.lt; have := hf2.size; omega
  have hpq : p ≠ q := by have := HQB.out.lt; have := hf2.size; omega
  have a2 : w3.cell? ⟨g, 2, none⟩ = some (.slice A n c) := hr3.cell rfl
  have f2 : w3.frozen? ⟨g, 2, none⟩ = false := hr3.free 2
  have HR3 := Lib.hid hr3
  have HQ3 := Lib.hid hq3
  have HPB := Lib.hid hpb
  have HPG := Lib.hid hpg
  have HPQ := Lib.hid hpq
  have HF3 := Lib.hid (HF1.out.trans hf13 (fun _ _ h => h))
  have HRC3 := Lib.hid (HRC.out.fr hf13 (fun _ _ h => h))
  clear hf2 hf3 hpb hf13 hr3 hq3 hpg hpq c2 HGT
  go_upto_region 3 with fail
  clear hw3 hp a2 f2
  obtain ⟨w4, hw4⟩ : ∃ w4, w4 = w3.setCell ⟨g, 2, none⟩ (.slice A2 n2 c3) := ⟨_, rfl⟩
  rw [← hw4]
  have hr4 : Row w4 g t [fp, fg, .slice A2 n2 c3, sg, cn, mo] := by rw [hw4]; exact HR3.out.set 2 _
  have hq4 : Row w4 q 30 [.bool false, (.int .i64 0)] := by rw [hw4]; exact HQ3.out.other HQG.out _
  have hp4 : Row w4 p 30 [.bool i, (.int .i64 x)] := by rw [hw4]; exact HPB.out.other HPG.out _
  have hf4 : Fr (fun b => b = g) w w4 := by rw [hw4]; exact (HF3.out.mono (fun _ _ h => h.elim)).trans (Fr.set1 w3 g 2 _) (fun _ _ h => h)
  have hrd4 : Rd w4 A2 n2 ((B.drop k).map bytec) := by rw [hw4]; exact HRC3.out.frp (Fr.set1 w3 g 2 _) (fun h0 ad e h => by have h1 := HAB.out h0 ad e; have h2 := HG.out; omega)
  have p0 : w4.cell? ⟨p, 0, none⟩ = some (.bool i) := hp4.cell rfl
  have p1 : w4.cell? ⟨p, 1, none⟩ = some (.int .i64 x) := hp4.cell rfl
  have q0 : w4.cell? ⟨q, 0, none⟩ = some (.bool false) := hq4.cell rfl
  have q1 : w4.cell? ⟨q, 1, none⟩ = some (.int .i64 0) := hq4.cell rfl
  have z0 : w4.frozen? ⟨q, 0, none⟩ = false := hq4.free 0
  have z1 : w4.frozen? ⟨q, 1, none⟩ = false := hq4.free 1
  have HR4 := Lib.hid hr4
  have HQ4 := Lib.hid hq4
  have HF4 := Lib.hid hf4
  have HRD4 := Lib.hid hrd4
  clear hw4 hr4 hq4 hp4 hf4 hrd4
  go_wp2_with fail
  clear p0 p1 q0 q1 z0 z1
  obtain ⟨w5, hw5⟩ : ∃ w5, w5 = (w4.setCell ⟨q, 0, none⟩ (.bool i)).setCell ⟨q, 1, none⟩ (.int .i64 x) := ⟨_, rfl⟩
  rw [← hw5]
  have hq5 : Row w5 q 30 [.bool i, (.int .i64 x)] := by rw [hw5]; exact (HQ4.out.set 0 _).set 1 _
  have hf5 : Fr (fun b => b = q) w4 w5 := by rw [hw5]; exact (Fr.set1 w4 q 0 _).trans (Fr.set1 _ q 1 _) (fun _ _ h => h)
  have d0 : w5.cell? ⟨q, 0, none⟩ = some (.bool i) := hq5.cell rfl
  have d1 : w5.cell? ⟨q, 1, none⟩ = some (.int .i64 x) := hq5.cell rfl
  have HF5 := Lib.hid hf5
  clear hq5 hf5 hw5
  refine bodyPost_ret (v := .tuple #[.agg #[.bool i, (.int .i64 x)], .int .i64 (E : Int)]) (by simp [results, Try.results48, go_sem, d0, d1]) rfl ⟨rfl, ⟨A2, c3, ?_, ?_, HNC.out, HAB.out⟩, ?_⟩
  · exact HR4.out.fr HF5.out (fun h => HQG.out h.symm)
  · exact HRD4.out.frp HF5.out (fun h0 ad e h => by have h1 := HAB.out h0 ad e; have h2 := HG.out; have h3 := HQ.out; have h4 := HHG.out; omega)
  · exact HF4.out.trans HF5.out (fun b hb h => by have h3 := HQ.out; omega)

end Go.Proofs.Ytmdobloncbljeaa
