/-
  What layer 5's laws want of the program, given: Right, Codes, New, Next, Lengths.
-/
import Derived.Test.YtphalcpmeblkgaaHxK
import Derived.Test.YtphalcpmeblkgaaHxR
import Derived.Test.YtphalcpmeblkgaaHyE
import Derived.Test.YtphalcpmeblkgaaHuffAc
import Derived.Test.YtphalcpmeblkgaaHuffT
namespace Go.Proofs.Ytphalcpmeblkgaa
open Go.RowKit HuffM BitsM Mem Go.Lib

theorem huffC : HuffC where
  right := fun A n c L w hr _ hn _ => (pRight_any A n c L w hr hn).mono fun e w' ⟨he, hw⟩ => ⟨he, hw ▸ Fr.refl _ _⟩
  codes := fun A n c L w hr _ hn hA hR => pCodes_any A n c L w hr hn hA hR
  new := fun A n c L w hr _ hn hA => by
    cases h : rightB L with
    | true => exact (pNew_yes A n c L w hr hn hA h).mono fun e w' ⟨pa, he, _, hf⟩ => ⟨some pa, he, rfl, hf⟩
    | false => exact (pNew_no A n c L w hr hn h).mono fun e w' ⟨he, hf⟩ => ⟨none, he, rfl, hf⟩
theorem ca_fr {S : Nat → Prop} {w w' : World} {hi : Nat} {pa : Addr} {L : List Int} (h : CA w hi pa L) (hf : Fr S w w') (hS : ∀ b, S b → hi ≤ b) : CA w' hi pa L := by
  obtain ⟨p, gs, m, cs, h1, h2, h3, h4, h5, h6, h7, h8⟩ := h
  exact ⟨p, gs, m, cs, h1, h2, h3, h4, h5, h6, h7.fr hf (fun h => by have := hS p h; omega), h8.fr hf (fun h => by have := hS gs h; omega)⟩
theorem huffR : HuffR CA where
  new := fun A n c L w hr _ hn hA hR => pNew_yes A n c L w hr hn hA hR
  fr := ca_fr
  next := fun hca hR hre hr hA hB => pNext_any hca hR hre hr hA hB
theorem awake5 : Awake5 := awake5_any pLengths_any huffC
theorem refLens : LensC 12 := rLengths_any onceC
end Go.Proofs.Ytphalcpmeblkgaa
