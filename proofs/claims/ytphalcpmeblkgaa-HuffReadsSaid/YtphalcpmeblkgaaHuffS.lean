/-
  Contracts of layer 5's laws' own functions: fits, same.
-/
import Derived.Test.YtphalcpmeblkgaaHuffC
import Derived.Test.YtphalcpmeblkgaaPl
namespace Go.Proofs.Ytphalcpmeblkgaa
open Go.RowKit HuffM Mem Go.Lib

def natc (x : Nat) : Value := .int .i64 (x : Int)
def inW (x : Int) : Bool := decide (0 ≤ x) && decide (x ≤ 1073741824)
/-- such weights as the chapter speaks of -/
def fitsW (most : Int) (W : List Int) : Bool := decide (1 ≤ most) && decide (most ≤ 15) && decide (W.length ≤ 300) && W.all inW && decide (many W ≤ 2 ^ most.toNat)
theorem fitsW_nat {most : Int} {W : List Int} (h : fitsW most W = true) : ∃ (m : Nat) (N : List Nat), most = (m : Int) ∧ 1 ≤ m ∧ m ≤ 15 ∧ N.length = W.length ∧ W.length ≤ 300 ∧ W.map intc = N.map natc ∧ (∀ x ∈ N, x ≤ 1073741824) ∧ cnt N ≤ 2 ^ m := by
  simp only [fitsW, Bool.and_eq_true, decide_eq_true_eq] at h
  obtain ⟨⟨⟨⟨h1, h2⟩, h3⟩, h4⟩, h5⟩ := h
  have h6 : ∀ x ∈ W, 0 ≤ x ∧ x ≤ 1073741824 := fun x hx => by simpa [inW] using List.all_eq_true.1 h4 x hx
  refine ⟨most.toNat, W.map Int.toNat, by omega, by omega, by omega, by simp, h3, ?_, ?_, ?_⟩
  · rw [List.map_map]
    apply List.map_congr_left
    intro x hx
    have := h6 x hx
    simp only [Function.comp_def, natc, intc]
    congr 1
    omega
  · intro x hx
    obtain ⟨y, hy, rfl⟩ := List.mem_map.1 hx
    have := h6 y hy
    omega
  · have e : cnt (W.map Int.toNat) = many W := by
      unfold cnt many
      rw [List.countP_map]
      congr 1
      funext x
      rw [Bool.eq_iff_iff]
      simp
    rw [e]; exact h5

set_option maxRecDepth 100000 in
set_option maxHeartbeats 1600000 in
theorem fits_any (most : Int) (A : Option Addr) (n c : Nat) (W : List Int) (w : World) (hr : Rd w A n (W.map intc)) :
    Calls Try.prog 9 #[.int .i64 most, .slice A n c] w fun e w' => e = .returned (.bool (fitsW most W)) ∧ w = w' := by
  have hln : W.length = n := by simpa using hr.1
  have HR := Lib.hid hr
  have HLN := Lib.hid hln
  clear hr hln
  by_cases h1 : most < 1 ∨ 15 < most ∨ 300 < n
  · have hno : fitsW most W = false := by
      have := HLN.out
      rcases h1 with h | h | h
      · have : decide (1 ≤ most) = false := by simp; omega
        simp [fitsW, this]
      · have : decide (most ≤ 15) = false := by simp; omega
        simp [fitsW, this]
      · have : decide (W.length ≤ 300) = false := by simp; omega
        simp [fitsW, this]
    have HNO := Lib.hid hno
    clear hno
    rcases (show most < 1 ∨ 15 < most ∨ (1 ≤ most ∧ most ≤ 15 ∧ 300 < n) by omega) with h | h | ⟨h, h', h''⟩
    · have t : decide (most < 1) = true := by simp; omega
      clear h1
      go_enter Try.func9, Try.ntmps9
      go_wp2
      go_ret
      rw [HNO.out]
      exact ⟨rfl, rfl⟩
    · have t : decide (most < 1) = false := by simp; omega
      have t2 : decide (15 < most) = true := by simp; omega
      clear h1
      go_enter Try.func9, Try.ntmps9
      go_wp2
      go_ret
      rw [HNO.out]
      exact ⟨rfl, rfl⟩
    · have t : decide (most < 1) = false := by simp; omega
      have t2 : decide (15 < most) = false := by simp; omega
      have t3 : decide (300 < (n : Int)) = true := by simp; omega
      clear h1
      go_enter Try.func9, Try.ntmps9
      go_wp2
      go_ret
      rw [HNO.out]
      exact ⟨rfl, rfl⟩
  · have t : decide (most < 1) = false := by simp; omega
    have t2 : decide (15 < most) = false := by simp; omega
    have t3 : decide (300 < (n : Int)) = false := by simp; omega
    have b1 : 1 ≤ most := by omega
    have b2 : most ≤ 15 := by omega
    have b3 : n ≤ 300 := by omega
    clear h1
    go_enter Try.func9, Try.ntmps9
    go_wp2
    go_loop [5, 6] (fun a i => ∃ k m : Nat, k ≤ n ∧ i = .int .i64 (k : Int) ∧ a = .int .i64 (m : Int) ∧ m ≤ k ∧ Hid (m = many (W.take k)) ∧ Hid ((W.take k).all inW = true)) (fun _ i => n - (intOf i).toNat)
    case atStart => exact ⟨0, 0, by omega, rfl, rfl, by omega, rfl, rfl⟩
    case round =>
      obtain ⟨k, m, hk, rfl, rfl, hm, Hm, Ha⟩ := hrel
      by_cases hlt : k < n
      · obtain ⟨ad, u, rfl, hu, hcell⟩ := HR.out.at_ hlt
        obtain ⟨x, hx⟩ : ∃ x, W[k]? = some x := ⟨_, List.getElem?_eq_getElem (by have := HLN.out; omega)⟩
        obtain rfl : intc x = u := by simpa [hx] using hu
        unfold intc at hcell
        have HX := Lib.hid hx
        clear hu hx
        rcases (show (x < 0 ∨ 1073741824 < x) ∨ x = 0 ∨ (0 < x ∧ x ≤ 1073741824) by omega) with h | h | ⟨h, h'⟩
        · have hno : fitsW most W = false := by
            have h1 : W.all inW = false := by
              rw [List.all_eq_false]
              exact ⟨x, List.mem_of_getElem? HX.out, by simp [inW]; omega⟩
            simp [fitsW, h1]
          have HNO := Lib.hid hno
          rcases h with h | h
          · have u1 : decide (x < 0) = true := by simpa using h
            clear hno
            go_wp2
            go_ret
            rw [HNO.out]
            exact ⟨rfl, rfl⟩
          · have u1 : decide (x < 0) = false := by simp; omega
            have u2 : decide (1073741824 < x) = true := by simpa using h
            clear hno
            go_wp2
            go_ret
            rw [HNO.out]
            exact ⟨rfl, rfl⟩
        · subst h
          have h1 := take_snoc HX.out
          have e1 : m = many (W.take (k + 1)) := by rw [h1, many_snoc, ← Hm.out]; rfl
          have e2 : (W.take (k + 1)).all inW = true := by rw [h1, List.all_append, Ha.out]; rfl
          have E := Lib.hid (And.intro e1 e2)
          clear h1 e1 e2
          go_wp2
          go_round
          case rel => exact ⟨k + 1, m, by omega, by go_num, rfl, by omega, E.out.1, E.out.2⟩
          case measure => simp [intOf] <;> omega
        · have h1 := take_snoc HX.out
          have e1 : m + 1 = many (W.take (k + 1)) := by rw [h1, many_snoc, ← Hm.out, if_pos h]
          have e2 : (W.take (k + 1)).all inW = true := by
            rw [h1, List.all_append, Ha.out]
            simp [inW]
            omega
          have E := Lib.hid (And.intro e1 e2)
          have u1 : decide (x < 0) = false := by simp; omega
          have u2 : decide (1073741824 < x) = false := by simp; omega
          have u3 : decide (0 < x) = true := by simpa using h
          clear h1 e1 e2
          go_wp2
          go_round
          case rel => exact ⟨k + 1, m + 1, by omega, by go_num, by go_num, by omega, E.out.1, E.out.2⟩
          case measure => simp [intOf] <;> omega
      · obtain rfl : k = n := by omega
        have e : W.take k = W := List.take_of_length_le (by have := HLN.out; omega)
        obtain ⟨v, hv⟩ : ∃ v, v = decide (m ≤ 2 ^ most.toNat) := ⟨_, rfl⟩
        have hres : fitsW most W = v := by
          have h1 := Ha.out
          rw [e] at h1
          have h2 := Hm.out
          rw [e] at h2
          have h3 : decide (1 ≤ most) = true := by simpa using b1
          have h4 : decide (most ≤ 15) = true := by simpa using b2
          have h5 : decide (W.length ≤ 300) = true := by have := HLN.out; simp; omega
          simp only [fitsW, h1, h3, h4, h5, Bool.true_and, hv, h2]
        obtain ⟨M, hM⟩ : ∃ M : Nat, M = 2 ^ most.toNat := ⟨_, rfl⟩
        have hMI : (2 : Int) ^ most.toNat = (M : Int) := by rw [hM]; simp
        rw [← hM] at hv
        have hM2 : M ≤ 32768 := by rw [hM]; exact Nat.pow_le_pow_right (by omega) (show most.toNat ≤ 15 by omega)
        have HRES := Lib.hid hres
        have HV := Lib.hid hv
        clear hres e hM hv
        go_wp2
        go_ret
        refine ⟨?_, rfl⟩
        rw [HRES.out, HV.out]
        rfl

set_option maxRecDepth 100000 in
set_option maxHeartbeats 800000 in
/-- two slices of the same numbers -/
theorem same_eq (A A2 : Option Addr) (n c c2 : Nat) (hn : n ≤ 1000) (L : List Value) (hL : ∀ v ∈ L, ∃ x : Int, v = .int .i64 x) (w : World) (hr : Rd w A n L) (hr2 : Rd w A2 n L) :
    Calls Try.prog 10 #[.slice A n c, .slice A2 n c2] w fun e w' => e = .returned (.bool true) ∧ Fr (fun _ => False) w w' := by
  have HR := Lib.hid hr
  have HR2 := Lib.hid hr2
  have HL := Lib.hid hL
  clear hr hr2 hL
  go_enter Try.func10, Try.ntmps10
  go_wp2
  go_loopw [5] (fun i wr => ∃ s : Nat, s ≤ n ∧ i = .int .i64 (s : Int) ∧ Fr (fun _ => False) w wr) (fun i _ => n - (intOf i).toNat)
  case atStart => exact ⟨0, by omega, rfl, Fr.refl _ _⟩
  case round =>
    obtain ⟨s, hs, rfl, hfr⟩ := hrel
    by_cases hlt : s < n
    · obtain ⟨ad, u, rfl, hu, hcell⟩ := (HR.out.fr hfr (fun _ _ h => h)).at_ hlt
      obtain ⟨ad2, u2, rfl, hu2, hcell2⟩ := (HR2.out.fr hfr (fun _ _ h => h)).at_ hlt
      obtain rfl : u = u2 := by rw [hu] at hu2; injection hu2
      obtain ⟨x, rfl⟩ := HL.out u (List.mem_of_getElem? hu)
      clear hu hu2
      go_wp2_with fail
      go_still (by kernel_rfl)
      go_wp2
      go_roundw
      case rel => exact ⟨s + 1, by omega, by go_num, hfr.drew⟩
      case measure => simp [intOf] <;> omega
    · obtain rfl : s = n := by omega
      go_wp2
      go_ret
      exact ⟨rfl, hfr⟩
end Go.Proofs.Ytphalcpmeblkgaa
