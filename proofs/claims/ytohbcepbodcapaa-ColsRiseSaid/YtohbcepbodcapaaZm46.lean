/-
  Layer 13, the program: read.
  Layer 13, the program: Put, Get.
-/
import Derived.Test.YtohbcepbodcapaaZm45
namespace Go.Proofs.Ytohbcepbodcapaa
open Go.RowKit Mem Go.Lib BooM LebM
attribute [local go_sem ↓] Go.wp_at_zero Go.wp_at_succ
set_option linter.unusedVariables false

def bslen : Value → Nat
  | .slice _ n _ => n
  | _ => 0
theorem scan_end {most : Int} {f : Nat} {l : List Nat} {c : Nat} {B : List UInt8} (h : B = []) : scan most f l c B = (l, c, 0) := by subst h; exact scan_nil most f l c
theorem scan_bad {most : Int} {f : Nat} {l : List Nat} {c : Nat} {B : List UInt8} (hB : B ≠ []) (hf : B.length ≤ f) (he : (gu B).2.2 ≠ 0) : scan most f l c B = ([], 0, (gu B).2.2) := by
  cases f with
  | zero => exact absurd (List.length_eq_zero_iff.1 (by omega)) hB
  | succ f => rw [scan, if_neg hB, if_pos he]
theorem scan_over {most : Int} {f : Nat} {l : List Nat} {c : Nat} {B : List UInt8} (hB : B ≠ []) (hf : B.length ≤ f) (he : (gu B).2.2 = 0) (hm : most < (c : Int) + ((gu B).1 : Nat)) : scan most f l c B = ([], 0, 4) := by
  cases f with
  | zero => exact absurd (List.length_eq_zero_iff.1 (by omega)) hB
  | succ f => rw [scan, if_neg hB, if_neg (by omega), if_pos hm]
theorem scan_more {most : Int} {f : Nat} {l : List Nat} {c : Nat} {B : List UInt8} (hB : B ≠ []) (hf : B.length ≤ f) (he : (gu B).2.2 = 0) (hm : ¬ most < (c : Int) + ((gu B).1 : Nat)) :
    scan most f l c B = scan most (f - 1) (l ++ [(gu B).1]) (c + (gu B).1) (B.drop (gu B).2.1) := by
  cases f with
  | zero => exact absurd (List.length_eq_zero_iff.1 (by omega)) hB
  | succ f => rw [scan, if_neg hB, if_neg (by omega), if_neg hm]; rfl

end Go.Proofs.Ytohbcepbodcapaa
namespace Go.Proofs.Ytohbcepbodcapaa
open Go.RowKit Mem Go.Lib BooM LebM
attribute [local go_sem ↓] Go.wp_at_zero Go.wp_at_succ
set_option linter.unusedVariables false

set_option maxRecDepth 100000 in
set_option maxHeartbeats 1600000 in
theorem bPut_any (A : Option Addr) (n c : Nat) (L : List Bool) (w : World) (hL : Rd w A n (L.map boc)) (hn : n ≤ 100000) : Calls Try.prog 26 #[.slice A n c] w (Gives w (putB L)) := by
  have hln : L.length = n := by simpa using hL.1
  have hN := numbers_any A n c L w hL (by omega)
  have hle := nums_le L
  have hlen := nums_len L
  unfold putB
  obtain ⟨N, hNe⟩ : ∃ N, N = numsB L := ⟨_, rfl⟩
  rw [← hNe] at hN hle hlen ⊢
  obtain ⟨p, hp⟩ : ∃ p, p = N.length := ⟨_, rfl⟩
  rw [← hp] at hN ⊢
  have HN := Lib.hid hN
  have HP := Lib.hid hp
  have HLE := Lib.hid hle
  have hpn : p ≤ 1000000 := by omega
  clear hL hN hNe hp hle hlen
  by_cases h1 : p = 1
  · rw [if_pos h1]
    subst h1
    clear hln
    go_enter Try.func26, Try.ntmps26
    go_wp2_with fail
    refine HN.out.mono ?_
    rintro e w2 ⟨A2, c2, rfl, hO, hf⟩
    have HF := Lib.hid hf
    clear hO hf
    go_wp2_with fail
    go_ret
    exact ⟨none, 0, rfl, Own.nil _ _, HF.out⟩
  · rw [if_neg h1]
    have t1 : ((p : Int) == 1) = false := by simp; omega
    have t1' : (p == 1) = false := by simp; omega
    have HLN := Lib.hid hln
    obtain ⟨D, hD⟩ : ∃ D, D = N.flatMap u := ⟨_, rfl⟩
    rw [← hD]
    have HD := Lib.hid hD
    clear hln hD
    go_enter Try.func26, Try.ntmps26
    go_wp2_with fail
    refine HN.out.mono ?_
    rintro e w2 ⟨A2, c2, rfl, hO, hf⟩
    have hrd := hO.rd
    rw [← HP.out] at hrd
    have hall := All_any A2 p c2 N w2 hrd (fun x hx => by have := HLE.out x hx; have := HLN.out; omega) hpn
    rw [← HD.out] at hall
    have HA := Lib.hid hall
    have HF := Lib.hid hf
    clear hO hf hrd hall
    go_wp2_with fail
    refine HA.out.mono ?_
    rintro e w3 ⟨A3, c3, rfl, hO3, hf3⟩
    have HO3 := Lib.hid (hO3.base HF.out.size)
    have HF3 := Lib.hid (HF.out.trans hf3 (fun _ _ h => h))
    clear hO3 hf3
    go_wp2_with fail
    go_ret
    exact ⟨A3, c3, rfl, HO3.out, HF3.out⟩

end Go.Proofs.Ytohbcepbodcapaa
