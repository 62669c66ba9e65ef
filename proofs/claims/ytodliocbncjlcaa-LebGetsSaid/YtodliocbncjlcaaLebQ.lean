/-
  The law LebGets, whole.
-/
import Derived.Test.YtodliocbncjlcaaLebJ
import Derived.Test.YtodliocbncjlcaaLebK
import Derived.Test.YtodliocbncjlcaaLebL
import Derived.Test.YtodliocbncjlcaaLebO
namespace Go.Proofs.Ytodliocbncjlcaa
open Go.RowKit LebM Mem Go.Lib

theorem gets_law (A : Option Addr) (n c : Nat) (B : List UInt8) (w : World) (hr : Rd w A n (B.map bytec)) (hmc : n ≤ c) (hcm : c ≤ maxLen) :
    Calls Try.prog 4 #[.slice A n c] w fun e w' => e = .returned (.bool true) ∧ Fr (fun _ => False) w w' := by
  by_cases h : 500 < n ∨ spanE B ≠ 0
  · exact gets_short A n c B w hr hmc hcm h
  · obtain ⟨p, L, N, M, v, a, hS⟩ := seen (B := B) (by omega)
    have hbig : ¬ 500 < n := by omega
    by_cases bu : u N = L
    · by_cases bs : s M = L
      · exact gets_tt A n c B w hr hmc hcm hbig p L N M v a hS bu bs
      · exact gets_tf A n c B w hr hmc hcm hbig p L N M v a hS bu bs
    · by_cases bs : s M = L
      · exact gets_ft A n c B w hr hmc hcm hbig p L N M v a hS bu bs
      · exact gets_ff A n c B w hr hmc hcm hbig p L N M v a hS bu bs
end Go.Proofs.Ytodliocbncjlcaa
