/-
  The law HuffLengths, out of the contracts of the program's Lengths and of the reference's; awake, out of the program's Lengths and Codes.
-/
import Derived.Test.YtphalcpmeblkgaaHuffK
import Derived.Test.YtphalcpmeblkgaaHuffS
import Derived.Deep.DrawnRows
namespace Go.Proofs.Ytphalcpmeblkgaa
open Go.RowKit HuffM Mem Go.Lib
attribute [local go_sem ↓] Go.wp_at_zero Go.wp_at_succ

/-- a function answers the lengths by weights -/
def LensC (f : FuncId) : Prop := ∀ (A : Option Addr) (n c m : Nat) (W : List Nat) (w : World), Rd w A n (W.map natc) → n ≤ c → n ≤ 1000 → (∀ ad, A = some ad → ad.block < w.heap.size) → (∀ x ∈ W, x ≤ 1073741824) → 1 ≤ m → m ≤ 15 → cnt W ≤ 2 ^ m →
    Calls Try.prog f #[.int .i64 (m : Int), .slice A n c] w fun e w' => ∃ A' c', e = .returned (.slice A' n c') ∧ n ≤ c' ∧ Rd w' A' n ((lens m W).map natc) ∧ Fr (fun _ => False) w w' ∧ ∀ ad, A' = some ad → ad.block < w'.heap.size
theorem natc_int (L : List Nat) : ∀ v ∈ L.map natc, ∃ x : Int, v = .int .i64 x := by
  intro v hv
  obtain ⟨x, _, rfl⟩ := List.mem_map.1 hv
  exact ⟨x, rfl⟩
set_option maxRecDepth 100000 in
theorem lens_ex : lens 15 [1, 1, 2] = [2, 2, 1] := by decide
theorem codes_ex : rightB [2, 2, 1] = true ∧ codesL [2, 2, 1] = [2, 3, 0] := by constructor <;> decide

set_option maxRecDepth 100000 in
set_option maxHeartbeats 1600000 in
theorem awake5_any (hl : LensC 11) (K : HuffC) : Awake5 := by
  intro w
  have hr0 : Rd (w.alloc (.cells #[.int .i64 1, .int .i64 1, .int .i64 2] 3)) (some ⟨w.heap.size, 0, none⟩) 3 ([1, 1, 2].map natc) := Rd.cells rfl [.int .i64 1, .int .i64 1, .int .i64 2] _
  have h1 := hl (some ⟨w.heap.size, 0, none⟩) 3 3 15 [1, 1, 2] _ hr0 (by omega) (by omega) (fun ad h => by injection h with h; subst h; simp) (by decide) (by omega) (by omega) (by decide)
  rw [lens_ex] at h1
  have H1 : Hid (Calls Try.prog 11 #[.int .i64 15, .slice (some ⟨w.heap.size, 0, none⟩) 3 3] (w.alloc (.cells #[.int .i64 1, .int .i64 1, .int .i64 2] 3)) fun e w' => ∃ A' c', e = .returned (.slice A' 3 c') ∧ 3 ≤ c' ∧ Rd w' A' 3 ([2, 2, 1].map natc) ∧ Fr (fun _ => False) (w.alloc (.cells #[.int .i64 1, .int .i64 1, .int .i64 2] 3)) w' ∧ ∀ ad, A' = some ad → ad.block < w'.heap.size) := Lib.hid h1
  clear h1 hr0
  go_enter Try.func8, Try.ntmps8
  go_wp2_with fail
  refine H1.out.mono ?_
  rintro e w1 ⟨A1, c1, rfl, hc1, hr1, hf1, hb1⟩
  have HR1 := Lib.hid hr1
  have HF1 := Lib.hid (((Fr.refl (fun _ => False) w).alloc _).trans hf1 (fun _ _ h => h))
  have h2 := K.codes A1 3 c1 [2, 2, 1] w1 hr1 hc1 (by omega) hb1 codes_ex.1
  rw [codes_ex.2] at h2
  have H2 := Lib.hid h2
  clear hr1 hf1 h2 H1
  go_wp2_with fail
  refine H2.out.mono ?_
  rintro e w2 ⟨A2, c2, rfl, hc2, hr2, hf2⟩
  have HF2 := Lib.hid (HF1.out.trans hf2 (fun _ _ h => h))
  have hr1 := HR1.out.fr hf2 (fun _ _ h => h)
  obtain ⟨ad, hA1, hcs⟩ := hr1.2 (by omega)
  obtain ⟨ad2, hA2, hcs2⟩ := hr2.2 (by omega)
  subst hA1 hA2
  have a0 : w2.cell? ad = some (.int .i64 2) := by have := hcs 0 _ rfl; simpa [Addr.add, natc] using this
  have a1 : w2.cell? ⟨ad.block, ad.off + 1, none⟩ = some (.int .i64 2) := by have := hcs 1 _ rfl; simpa [Addr.add, natc] using this
  have a2 : w2.cell? ⟨ad.block, ad.off + 2, none⟩ = some (.int .i64 1) := by have := hcs 2 _ rfl; simpa [Addr.add, natc] using this
  have b0 : w2.cell? ad2 = some (.int .u64 2) := by have := hcs2 0 _ rfl; simpa [Addr.add, numc] using this
  have b1 : w2.cell? ⟨ad2.block, ad2.off + 1, none⟩ = some (.int .u64 3) := by have := hcs2 1 _ rfl; simpa [Addr.add, numc] using this
  have b2 : w2.cell? ⟨ad2.block, ad2.off + 2, none⟩ = some (.int .u64 0) := by have := hcs2 2 _ rfl; simpa [Addr.add, numc] using this
  clear hcs hcs2 hr1 hr2 hf2 HR1 H2 hb1
  go_wp2
  go_ret
  exact ⟨rfl, HF2.out⟩

set_option maxRecDepth 100000 in
set_option maxHeartbeats 1600000 in
theorem lengths_law (hl : LensC 11) (hr : LensC 12) (hw : Awake5) (most : Int) (A : Option Addr) (n c : Nat) (W : List Int) (w : World) (hrd : Rd w A n (W.map intc)) (hc : n ≤ c) (hA : ∀ ad, A = some ad → ad.block < w.heap.size) :
    Calls Try.prog 3 #[.int .i64 most, .slice A n c] w fun e w' => e = .returned (.bool true) ∧ Fr (fun _ => False) w w' := by
  have HR := Lib.hid hrd
  have HA := Lib.hid hA
  have HFi := Lib.hid (fun (w' : World) (hf : Fr (fun _ => False) w w') => fits_any most A n c W w' (HR.out.fr hf (fun _ _ h => h)))
  have hln : W.length = n := by simpa using HR.out.1
  obtain ⟨v, hv⟩ : ∃ v, v = fitsW most W := ⟨_, rfl⟩
  rw [← hv] at HFi
  clear hrd hA
  cases v with
  | false =>
    clear hv
    go_enter Try.func3, Try.ntmps3
    go_wp2_with fail
    refine (hw _).mono ?_
    rintro e w1 ⟨rfl, hf1⟩
    have HF1 := Lib.hid hf1
    go_wp2_with fail
    refine (HFi.out _ HF1.out).mono ?_
    rintro e w2 ⟨rfl, rfl⟩
    go_wp2_with fail
    refine (hw _).mono ?_
    rintro e w2 ⟨rfl, hf2⟩
    go_wp2
    go_ret
    exact ⟨rfl, hf1.trans hf2 (fun _ _ h => h)⟩
  | true =>
    obtain ⟨m, N, rfl, hm1, hm15, hNl, hW3, hWN, hNb, hcn⟩ := fitsW_nat hv.symm
    have HLl := Lib.hid (fun (w' : World) (hf : Fr (fun _ => False) w w') => hl A n c m N w' (hWN ▸ HR.out.fr hf (fun _ _ h => h)) hc (by omega) (fun ad h => Nat.lt_of_lt_of_le (HA.out ad h) hf.size) hNb hm1 hm15 hcn)
    have HLr := Lib.hid (fun (w' : World) (hf : Fr (fun _ => False) w w') => hr A n c m N w' (hWN ▸ HR.out.fr hf (fun _ _ h => h)) hc (by omega) (fun ad h => Nat.lt_of_lt_of_le (HA.out ad h) hf.size) hNb hm1 hm15 hcn)
    have hn3 : n ≤ 300 := by omega
    clear hv hl hr hWN hNb hNl hcn hln
    go_enter Try.func3, Try.ntmps3
    go_wp2_with fail
    refine (hw _).mono ?_
    rintro e w1 ⟨rfl, hf1⟩
    have HF1 := Lib.hid hf1
    clear hf1
    go_wp2_with fail
    refine (HFi.out _ HF1.out).mono ?_
    rintro e w2 ⟨rfl, rfl⟩
    go_wp2_with fail
    refine (HLl.out _ HF1.out).mono ?_
    rintro e w2 ⟨A2, c2, rfl, hc2, hr2, hf2, _⟩
    have HR2 := Lib.hid hr2
    have HF2 := Lib.hid (HF1.out.trans hf2 (fun _ _ h => h))
    clear hr2 hf2
    go_wp2_with fail
    refine (HLr.out _ HF2.out).mono ?_
    rintro e w3 ⟨A3, c3, rfl, hc3, hr3, hf3, _⟩
    have HR3 := Lib.hid hr3
    have HR23 := Lib.hid (HR2.out.fr hf3 (fun _ _ h => h))
    have HF3 := Lib.hid (HF2.out.trans hf3 (fun _ _ h => h))
    clear hr3 hf3
    go_wp2_with fail
    refine (same_eq A2 A3 n c2 c3 (by omega) _ (natc_int _) w3 HR23.out HR3.out).mono ?_
    rintro e w4 ⟨rfl, hf4⟩
    go_wp2
    go_ret
    exact ⟨rfl, HF3.out.trans hf4 (fun _ _ h => h)⟩
end Go.Proofs.Ytphalcpmeblkgaa
