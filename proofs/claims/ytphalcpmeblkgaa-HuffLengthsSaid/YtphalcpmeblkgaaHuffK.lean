/-
  What layer 5's laws want of the program, as far as the codes go: the contracts of Right, Codes, New; the law HuffCodes out of them (awake is a premise: it speaks of Lengths too).
-/
import Derived.Test.YtphalcpmeblkgaaHuffC
namespace Go.Proofs.Ytphalcpmeblkgaa
open Go.RowKit HuffM Mem Go.Lib

structure HuffC : Prop where
  right : ∀ (A : Option Addr) (n c : Nat) (L : List Int) (w : World), Rd w A n (L.map intc) → n ≤ c → n ≤ 1000 → (∀ ad, A = some ad → ad.block < w.heap.size) →
    Calls Try.prog 14 #[.slice A n c] w fun e w' => e = .returned (.bool (rightB L)) ∧ Fr (fun _ => False) w w'
  codes : ∀ (A : Option Addr) (n c : Nat) (L : List Int) (w : World), Rd w A n (L.map intc) → n ≤ c → n ≤ 1000 → (∀ ad, A = some ad → ad.block < w.heap.size) → rightB L = true →
    Calls Try.prog 16 #[.slice A n c] w fun e w' => ∃ A' c', e = .returned (.slice A' n c') ∧ n ≤ c' ∧ Rd w' A' n ((codesL L).map numc) ∧ Fr (fun _ => False) w w'
  new : ∀ (A : Option Addr) (n c : Nat) (L : List Int) (w : World), Rd w A n (L.map intc) → n ≤ c → n ≤ 1000 → (∀ ad, A = some ad → ad.block < w.heap.size) →
    Calls Try.prog 13 #[.slice A n c] w fun e w' => ∃ p : Option Addr, e = .returned (.tuple #[.pointer p, .bool (rightB L)]) ∧ p.isSome = rightB L ∧ Fr (fun _ => False) w w'
def Awake5 : Prop := ∀ w : World, Calls Try.prog 8 #[] w fun e w' => e = .returned (.bool true) ∧ Fr (fun _ => False) w w'

set_option maxRecDepth 100000 in
set_option maxHeartbeats 1600000 in
theorem codes_law (K : HuffC) (hw : Awake5) (A : Option Addr) (n c : Nat) (L : List Int) (w : World) (hr : Rd w A n (L.map intc)) (hc : n ≤ c) (hA : ∀ ad, A = some ad → ad.block < w.heap.size) :
    Calls Try.prog 4 #[.slice A n c] w fun e w' => e = .returned (.bool true) ∧ Fr (fun _ => False) w w' := by
  have HR := Lib.hid hr
  have HA := Lib.hid hA
  clear hr hA
  by_cases hlong : 300 < n
  · have t : decide (300 < (n : Int)) = true := by simp; omega
    go_enter Try.func4, Try.ntmps4
    go_wp2_with fail
    refine (hw _).mono ?_
    rintro e w1 ⟨rfl, hf1⟩
    go_wp2_with fail
    refine (hw _).mono ?_
    rintro e w2 ⟨rfl, hf2⟩
    go_wp2
    go_ret
    exact ⟨rfl, hf1.trans hf2 (fun _ _ h => h)⟩
  · have t : decide (300 < (n : Int)) = false := by simp; omega
    have hln : L.length = n := by simpa using HR.out.1
    have HLN := Lib.hid hln
    have HRr := Lib.hid (fun (w' : World) (hf : Fr (fun _ => False) w w') => K.right A n c L w' (HR.out.fr hf (fun _ _ h => h)) hc (by omega) (fun ad h => Nat.lt_of_lt_of_le (HA.out ad h) hf.size))
    have HRf := Lib.hid (fun (w' : World) (hf : Fr (fun _ => False) w w') => rRight_any A n c L w' (HR.out.fr hf (fun _ _ h => h)) (by omega))
    have HNw := Lib.hid (fun (w' : World) (hf : Fr (fun _ => False) w w') => K.new A n c L w' (HR.out.fr hf (fun _ _ h => h)) hc (by omega) (fun ad h => Nat.lt_of_lt_of_le (HA.out ad h) hf.size))
    have HCd := Lib.hid (fun (w' : World) (hf : Fr (fun _ => False) w w') => K.codes A n c L w' (HR.out.fr hf (fun _ _ h => h)) hc (by omega) (fun ad h => Nat.lt_of_lt_of_le (HA.out ad h) hf.size))
    have HCr := Lib.hid (fun (w' : World) (hf : Fr (fun _ => False) w w') => rCodes_any A n c L w' (HR.out.fr hf (fun _ _ h => h)) (by omega) (fun ad h => Nat.lt_of_lt_of_le (HA.out ad h) hf.size))
    obtain ⟨v, hv⟩ : ∃ v, v = rightB L := ⟨_, rfl⟩
    rw [← hv] at HRr HRf HNw HCd
    clear hln hv HR HA K
    cases v with
    | false =>
      go_enter Try.func4, Try.ntmps4
      go_wp2_with fail
      refine (hw _).mono ?_
      rintro e w1 ⟨rfl, hf1⟩
      have HF1 := Lib.hid hf1
      clear hf1
      go_wp2_with fail
      refine (HNw.out _ HF1.out).mono ?_
      rintro e w2 ⟨p, rfl, hp, hf2⟩
      have HF2 := Lib.hid (HF1.out.trans hf2 (fun _ _ h => h))
      obtain rfl : p = none := by cases p with | none => rfl | some a => simp at hp
      clear hp hf2
      go_wp2_with fail
      refine (HRr.out _ HF2.out).mono ?_
      rintro e w3 ⟨rfl, hf3⟩
      have HF3 := Lib.hid (HF2.out.trans hf3 (fun _ _ h => h))
      clear hf3
      go_wp2_with fail
      refine (HRf.out _ HF3.out).mono ?_
      rintro e w4 ⟨rfl, rfl⟩
      go_wp2_with fail
      refine (HRf.out _ HF3.out).mono ?_
      rintro e w4 ⟨rfl, rfl⟩
      go_wp2
      go_ret
      exact ⟨rfl, HF3.out⟩
    | true =>
      go_enter Try.func4, Try.ntmps4
      go_wp2_with fail
      refine (hw _).mono ?_
      rintro e w1 ⟨rfl, hf1⟩
      have HF1 := Lib.hid hf1
      clear hf1
      go_wp2_with fail
      refine (HNw.out _ HF1.out).mono ?_
      rintro e w2 ⟨p, rfl, hp, hf2⟩
      have HF2 := Lib.hid (HF1.out.trans hf2 (fun _ _ h => h))
      obtain ⟨pa, rfl⟩ : ∃ pa, p = some pa := by cases p with | none => simp at hp | some a => exact ⟨a, rfl⟩
      clear hp hf2
      go_wp2_with fail
      refine (HRr.out _ HF2.out).mono ?_
      rintro e w3 ⟨rfl, hf3⟩
      have HF3 := Lib.hid (HF2.out.trans hf3 (fun _ _ h => h))
      clear hf3
      go_wp2_with fail
      refine (HRf.out _ HF3.out).mono ?_
      rintro e w4 ⟨rfl, rfl⟩
      go_wp2_with fail
      refine (HRf.out _ HF3.out).mono ?_
      rintro e w4 ⟨rfl, rfl⟩
      go_wp2_with fail
      refine (HCd.out _ HF3.out trivial).mono ?_
      rintro e w4 ⟨A4, c4, rfl, hc4, hr4, hf4⟩
      have HF4 := Lib.hid (HF3.out.trans hf4 (fun _ _ h => h))
      have HR4 := Lib.hid hr4
      clear hf4 hr4
      go_wp2_with fail
      refine (HCr.out _ HF4.out).mono ?_
      rintro e w5 ⟨rfl, hn5, hf5⟩
      have HF5 := Lib.hid (HF4.out.trans hf5 (fun _ _ h => h))
      have HR5 := Lib.hid (HR4.out.fr hf5 (fun _ _ h => h))
      have hrc : Rd w5 (some ⟨w4.heap.size, 0, none⟩) n ((codesL L).map numc) := by
        have h := hn5.rd
        rw [codes_len, HLN.out] at h
        exact h
      have HRC := Lib.hid hrc
      obtain ⟨g, hg⟩ : ∃ g, g = w4.heap.size := ⟨_, rfl⟩
      rw [← hg] at HRC ⊢
      clear hf5 hn5 hrc hg HR4 HF4 HF3 HF2 HF1 HRr HRf HNw HCd HCr
      go_wp2_with fail
      go_loopw [7] (fun i wr => ∃ s : Nat, s ≤ n ∧ i = .int .i64 (s : Int) ∧ Fr (fun _ => False) w5 wr) (fun i _ => n - (intOf i).toNat)
      case atStart => exact ⟨0, by omega, rfl, Fr.refl _ _⟩
      case round =>
        obtain ⟨s, hs, rfl, hfr⟩ := hrel
        by_cases hlt : s < n
        · obtain ⟨q, hq⟩ : ∃ q, (codesL L)[s]? = some q := ⟨_, List.getElem?_eq_getElem (by rw [codes_len]; have := HLN.out; omega)⟩
          obtain ⟨ad, u, rfl, hu, hcell⟩ := (HR5.out.fr hfr (fun _ _ h => h)).at_ hlt
          obtain rfl : numc q = u := by simpa [hq] using hu
          have hqc : wr.cell? ⟨g, s, none⟩ = some (.int .u64 (q : Int)) := by
            obtain ⟨ad', e, h⟩ := (HRC.out.fr hfr (fun _ _ h => h)).2 (by omega)
            injection e with e
            subst e
            have := h s (numc q) (by rw [List.getElem?_map, hq]; rfl)
            rwa [show (⟨g, 0, none⟩ : Addr).add s = ⟨g, s, none⟩ from by unfold Addr.add; split <;> simp_all] at this
          unfold numc at hcell
          clear hq hu
          go_wp2_with fail
          go_still (by kernel_rfl)
          go_wp2
          go_roundw
          case rel => exact ⟨s + 1, by omega, by go_num, hfr.drew⟩
          case measure => simp [intOf] <;> omega
        · obtain rfl : s = n := by omega
          go_wp2
          go_ret
          exact ⟨rfl, HF5.out.trans hfr (fun _ _ h => h)⟩
end Go.Proofs.Ytphalcpmeblkgaa
