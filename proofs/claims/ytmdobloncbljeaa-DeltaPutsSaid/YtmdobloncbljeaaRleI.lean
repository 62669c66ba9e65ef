/-
  Layer 11, the program: take, of numbers (written by gen11.py out of rleI.src).
-/
import Derived.Test.YtmdobloncbljeaaRleH
namespace Go.Proofs.Ytmdobloncbljeaa
open Go.RowKit Mem Go.Lib RleM LebM
attribute [local go_sem ↓] Go.wp_at_zero Go.wp_at_succ
set_option linter.unusedVariables false

set_option maxRecDepth 100000 in
set_option maxHeartbeats 1600000 in
theorem takeI_any (base g : Nat) (t : TypeId) (fp fg sg cn mo : Value) (A : Option Addr) (n c : Nat) (B : List UInt8) (w : World) (hR : Row w g t [fp, fg, .slice A n c, sg, cn, mo]) (hr : Rd w A n (B.map bytec)) (hc : n ≤ c) (hA : 0 < n → ∀ ad, A = some ad → ad.block < base) (hg : base ≤ g) (hn : n ≤ 1000000) :
    Calls Try.prog 40 #[.pointer (some ⟨g, 2, none⟩), .func (.func 32) #[] #[]] w fun e w' => e = .returned (.tuple #[.int .i64 ((gs B).1 : Int), .int .i64 ((gs B).2.2 : Int)]) ∧
      (∃ A' c', Row w' g t [fp, fg, .slice A' (n - (gs B).2.1) c', sg, cn, mo] ∧ Rd w' A' (n - (gs B).2.1) ((B.drop (gs B).2.1).map bytec) ∧ n - (gs B).2.1 ≤ c' ∧ (0 < n - (gs B).2.1 → ∀ ad, A' = some ad → ad.block < base)) ∧ Fr (fun b => b = g) w w' := by
  have hBn : B.length = n := by simpa using hr.1
  have hbd := gs_bd B
  obtain ⟨N, hN⟩ : ∃ N, N = (gs B).1 := ⟨_, rfl⟩
  obtain ⟨k, hk⟩ : ∃ k, k = (gs B).2.1 := ⟨_, rfl⟩
  obtain ⟨E, hE⟩ : ∃ E, E = (gs B).2.2 := ⟨_, rfl⟩
  have hgt := GetS_any A n c B w hr hc
  rw [← hN, ← hk, ← hE] at hbd
  rw [← hN, ← hk, ← hE] at hgt
  rw [← hN, ← hk, ← hE]
  have hkn : k ≤ n := by omega
  have c2 : w.cell? ⟨g, 2, none⟩ = some (.slice A n c) := hR.cell rfl
  obtain ⟨A2, hA2⟩ : ∃ A2, A2 = (if c = k then A else A.map (·.add k)) := ⟨_, rfl⟩
  have hsl : ∀ w : World, (Instr.sliceAt 25 (.slice A n c) (some (.int .i64 (k : Int))) none none).run Try.prog w = .ok (.slice A2 (n - k) (c - k)) w := by
    intro w
    rw [hA2]
    exact from_u8 A n c k hkn hc _ rfl w
  have hrC : Rd w A2 (n - k) ((B.drop k).map bytec) := by
    have h := hr.cut (k := k) (m := n) (cap := c) hkn (Nat.le_refl _) hc
    rw [← hA2] at h
    rw [List.map_drop]
    rw [List.take_of_length_le (by simp; omega)] at h
    exact h
  have hAb : 0 < n - k → ∀ ad, A2 = some ad → ad.block < base := by
    intro h0 ad e
    rw [hA2] at e
    split at e
    · exact hA (by omega) ad e
    · cases A with
      | none => cases e
      | some a =>
        injection e with e
        rw [← e, add_block]
        exact hA (by omega) a rfl
  obtain ⟨n2, hn2⟩ : ∃ n2, n2 = n - k := ⟨_, rfl⟩
  obtain ⟨c3, hc3⟩ : ∃ c3, c3 = c - k := ⟨_, rfl⟩
  have hnc : n2 ≤ c3 := by omega
  rw [← hn2, ← hc3] at hsl
  rw [← hn2] at hrC hAb ⊢
  have HGT := Lib.hid hgt
  have HR := Lib.hid hR
  have HRC := Lib.hid hrC
  have HAB := Lib.hid hAb
  have HG := Lib.hid hg
  have HNC := Lib.hid hnc
  clear hN hk hE hgt hR hr hBn hrC hAb hA2 hn2 hc3 hg hnc hA
  go_enter Try.func40, Try.ntmps40
  go_wp2_with fail
  refine HGT.out.mono ?_
  rintro e w2 ⟨rfl, hf2⟩
  have hr2 := HR.out.fr hf2 (fun h => h)
  have a2 : w2.cell? ⟨g, 2, none⟩ = some (.slice A n c) := hr2.cell rfl
  have f2 : w2.frozen? ⟨g, 2, none⟩ = false := hr2.free 2
  have HR2 := Lib.hid hr2
  have HF2 := Lib.hid hf2
  clear hr2 hf2 c2 HGT
  go_wp2_with fail
  refine bodyPost_ret (v := .tuple #[.int .i64 (N : Int), .int .i64 (E : Int)]) (by simp [results, Try.results40, go_sem]) rfl ⟨rfl, ⟨A2, c3, ?_, ?_, HNC.out, HAB.out⟩, ?_⟩
  · exact HR2.out.set 2 _
  · exact (HRC.out.fr HF2.out (fun _ _ h => h)).frp (Fr.set1 w2 g 2 _) (fun h0 ad e h => by have h1 := HAB.out h0 ad e; have h2 := HG.out; omega)
  · exact (HF2.out.mono (fun _ _ h => h.elim)).trans (Fr.set1 w2 g 2 _) (fun _ _ h => h)

set_option maxRecDepth 100000 in
set_option maxHeartbeats 1600000 in
theorem takeN_any (base g : Nat) (t : TypeId) (fp fg sg cn mo : Value) (A : Option Addr) (n c : Nat) (B : List UInt8) (w : World) (hR : Row w g t [fp, fg, .slice A n c, sg, cn, mo]) (hr : Rd w A n (B.map bytec)) (hc : n ≤ c) (hA : 0 < n → ∀ ad, A = some ad → ad.block < base) (hg : base ≤ g) (hn : n ≤ 1000000) :
    Calls Try.prog 44 #[.pointer (some ⟨g, 2, none⟩), .func (.func 45) #[] #[]] w fun e w' => e = .returned (.tuple #[.int .u64 ((gu B).1 : Int), .int .i64 ((gu B).2.2 : Int)]) ∧
      (∃ A' c', Row w' g t [fp, fg, .slice A' (n - (gu B).2.1) c', sg, cn, mo] ∧ Rd w' A' (n - (gu B).2.1) ((B.drop (gu B).2.1).map bytec) ∧ n - (gu B).2.1 ≤ c' ∧ (0 < n - (gu B).2.1 → ∀ ad, A' = some ad → ad.block < base)) ∧ Fr (fun b => b = g) w w' := by
  have hBn : B.length = n := by simpa using hr.1
  have hbd := gu_bd B
  obtain ⟨N, hN⟩ : ∃ N, N = (gu B).1 := ⟨_, rfl⟩
  obtain ⟨k, hk⟩ : ∃ k, k = (gu B).2.1 := ⟨_, rfl⟩
  obtain ⟨E, hE⟩ : ∃ E, E = (gu B).2.2 := ⟨_, rfl⟩
  have hgt := GetU_any A n c B w hr hc
  rw [← hN, ← hk, ← hE] at hbd
  rw [← hN, ← hk, ← hE] at hgt
  rw [← hN, ← hk, ← hE]
  have hkn : k ≤ n := by omega
  have c2 : w.cell? ⟨g, 2, none⟩ = some (.slice A n c) := hR.cell rfl
  obtain ⟨A2, hA2⟩ : ∃ A2, A2 = (if c = k then A else A.map (·.add k)) := ⟨_, rfl⟩
  have hsl : ∀ w : World, (Instr.sliceAt 25 (.slice A n c) (some (.int .i64 (k : Int))) none none).run Try.prog w = .ok (.slice A2 (n - k) (c - k)) w := by
    intro w
    rw [hA2]
    exact from_u8 A n c k hkn hc _ rfl w
  have hrC : Rd w A2 (n - k) ((B.drop k).map bytec) := by
    have h := hr.cut (k := k) (m := n) (cap := c) hkn (Nat.le_refl _) hc
    rw [← hA2] at h
    rw [List.map_drop]
    rw [List.take_of_length_le (by simp; omega)] at h
    exact h
  have hAb : 0 < n - k → ∀ ad, A2 = some ad → ad.block < base := by
    intro h0 ad e
    rw [hA2] at e
    split at e
    · exact hA (by omega) ad e
    · cases A with
      | none => cases e
      | some a =>
        injection e with e
        rw [← e, add_block]
        exact hA (by omega) a rfl
  obtain ⟨n2, hn2⟩ : ∃ n2, n2 = n - k := ⟨_, rfl⟩
  obtain ⟨c3, hc3⟩ : ∃ c3, c3 = c - k := ⟨_, rfl⟩
  have hnc : n2 ≤ c3 := by omega
  rw [← hn2, ← hc3] at hsl
  rw [← hn2] at hrC hAb ⊢
  have HGT := Lib.hid hgt
  have HR := Lib.hid hR
  have HRC := Lib.hid hrC
  have HAB := Lib.hid hAb
  have HG := Lib.hid hg
  have HNC := Lib.hid hnc
  clear hN hk hE hgt hR hr hBn hrC hAb hA2 hn2 hc3 hg hnc hA
  go_enter Try.func44, Try.ntmps44
  go_wp2_with fail
  refine HGT.out.mono ?_
  rintro e w2 ⟨rfl, hf2⟩
  have hr2 := HR.out.fr hf2 (fun h => h)
  have a2 : w2.cell? ⟨g, 2, none⟩ = some (.slice A n c) := hr2.cell rfl
  have f2 : w2.frozen? ⟨g, 2, none⟩ = false := hr2.free 2
  have HR2 := Lib.hid hr2
  have HF2 := Lib.hid hf2
  clear hr2 hf2 c2 HGT
  go_wp2_with fail
  refine bodyPost_ret (v := .tuple #[.int .u64 (N : Int), .int .i64 (E : Int)]) (by simp [results, Try.results44, go_sem]) rfl ⟨rfl, ⟨A2, c3, ?_, ?_, HNC.out, HAB.out⟩, ?_⟩
  · exact HR2.out.set 2 _
  · exact (HRC.out.fr HF2.out (fun _ _ h => h)).frp (Fr.set1 w2 g 2 _) (fun h0 ad e h => by have h1 := HAB.out h0 ad e; have h2 := HG.out; omega)
  · exact (HF2.out.mono (fun _ _ h => h.elim)).trans (Fr.set1 w2 g 2 _) (fun _ _ h => h)

end Go.Proofs.Ytmdobloncbljeaa
