/-
  The library's heap over the program's nodes: sifting up.
-/
import Derived.Test.YtphalcpmeblkgaaHxU
namespace Go.Proofs.Ytphalcpmeblkgaa
open Go.RowKit HuffM Mem Go.Lib
attribute [local go_sem ↓] Go.wp_at_zero Go.wp_at_succ
set_option linter.unusedVariables false

set_option maxRecDepth 100000 in
set_option maxHeartbeats 3200000 in
theorem up_any (b j0 : Nat) (G : Nat → Prop) (l : List Nd) (w : World) (hs : Hs w b G l) (hl : l.length ≤ 1000) (hj : j0 < l.length) (hp : Up l l.length j0) :
    Calls Try.prog 40 #[.iface 61 (.pointer (some ⟨b, 0, none⟩)), .int .i64 (j0 : Int)] w fun e w' =>
      ∃ l', e = .returned (.tuple #[]) ∧ l'.Perm l ∧ Hp l' l'.length 0 ∧ Hs w' b G l' ∧ Fr (G) w w' := by
  have HS := Lib.hid hs
  have HP := Lib.hid hp
  clear hs hp
  go_enter Try.func40, Try.ntmps40
  go_wp2_with fail
  go_loopw [1] (fun v wr => ∃ (j : Nat) (d : List Nd), v = .int .i64 (j : Int) ∧ j < l.length ∧ Hid (d.Perm l ∧ d.length = l.length) ∧ Hid (Up d d.length j) ∧ Hid (Hs wr b G d) ∧ Fr (G) w wr)
    (fun v _ => (intOf v).toNat)
  case atStart => exact ⟨j0, l, rfl, hj, ⟨List.Perm.refl _, rfl⟩, HP, HS, Fr.refl _ _⟩
  case round =>
    clear HS HP hj
    obtain ⟨j, d, rfl, hjl, HD, HU, HSd, hfr⟩ := hrel
    by_cases hj0 : j = 0
    · subst hj0
      have HPP := Lib.hid HU.out.top
      have HF := Lib.hid hfr
      clear hfr
      go_wp2
      go_end0
      exact ⟨d, rfl, HD.out.1, HPP.out, HSd.out, HF.out⟩
    · obtain ⟨g, c, hg, hbg, hblk, hnod⟩ := HSd.out.row (by have := HD.out.2; omega)
      have hcs : wr.cell? ⟨b, 0, none⟩ = some (.slice (some ⟨g, 0, none⟩) d.length c) := by rw [cell_of hblk 0]; rfl
      have ml := fun fuel => meth_val fuel "Less" _ i_less b _ _ _ wr hcs
      have HH := Lib.hid (And.intro hblk hnod)
      have HF := Lib.hid hfr
      obtain ⟨jp, hjp⟩ : ∃ jp, jp = j - 1 := ⟨_, rfl⟩
      obtain ⟨i, hi⟩ : ∃ i, i = jp / 2 := ⟨_, rfl⟩
      have e1 : (j : Int) - 1 = (jp : Int) := by omega
      have e2 : (jp : Int) / 2 = (i : Int) := by omega
      have hij : i < j := by omega
      have tij : ((i : Int) == (j : Int)) = false := by simp; omega
      have hii : (j - 1) / 2 = i := by omega
      have HI := Lib.hid hii
      clear hblk hnod hcs hfr hi hjp hii
      cases hu : ltb (gn d j) (gn d i) with
      | false =>
        have hl2 := less_any g d.length c j i d wr HH.out.2 rfl (by have := HD.out.2; omega) (by have := HD.out.2; omega)
        rw [hu] at hl2
        have HL2 := Lib.hid hl2
        have hpp := HU.out.stop (by rw [HI.out]; exact (ltb_no _ _).1 hu)
        have HPP := Lib.hid hpp
        clear hl2 hu hpp
        go_wp2_with fail
        refine HL2.out.mono ?_
        rintro e w3x ⟨rfl, q3, hq⟩
        subst hq
        have HS3 : Hid (Hs (wr.drewN q3) b G d) := HSd
        have HF3 := Lib.hid (HF.out.drewN q3)
        generalize wr.drewN q3 = w3 at HS3 HF3 ⊢
        clear ml
        go_wp2
        go_end0
        exact ⟨d, rfl, HD.out.1, HPP.out, HS3.out, HF3.out⟩
      | true =>
        have hl2 := less_any g d.length c j i d wr HH.out.2 rfl (by have := HD.out.2; omega) (by have := HD.out.2; omega)
        rw [hu] at hl2
        have HL2 := Lib.hid hl2
        have hgo := HU.out.go (by omega) (by have := HD.out.2; omega) (by rw [HI.out]; exact (ltb_iff _ _).1 hu) (Nat.le_refl _)
        rw [HI.out] at hgo
        have HGO := Lib.hid hgo
        clear hl2 hu hgo
        go_wp2_with fail
        refine HL2.out.mono ?_
        rintro e w3x ⟨rfl, q3, hq⟩
        subst hq
        obtain ⟨w3, hw3⟩ : ∃ x, x = wr.drewN q3 := ⟨_, rfl⟩
        rw [← hw3]
        have HH3 : Hid (w3.heap[b]? = some (.cells #[.slice (some ⟨g, 0, none⟩) d.length c] 56 (0, 0)) ∧ Nods w3 g c d) := by rw [hw3]; exact HH
        have HS3 : Hid (Hs w3 b G d) := by rw [hw3]; exact HSd
        have HF3 : Hid (Fr (G) w w3) := by rw [hw3]; exact HF.out.drewN q3
        have hcs3 : w3.cell? ⟨b, 0, none⟩ = some (.slice (some ⟨g, 0, none⟩) d.length c) := by rw [cell_of HH3.out.1 0]; rfl
        have ms := fun fuel => meth_val fuel "Swap" _ i_swap b _ _ _ w3 hcs3
        have hsw := swap_any g d.length c i j d w3 HH3.out.2 rfl (by have := HD.out.2; omega) (by have := HD.out.2; omega)
        have HSW := Lib.hid hsw
        clear hsw hcs3 hw3 ml HH HF HSd
        go_wp2_with fail
        refine HSW.out.mono ?_
        rintro e w4 ⟨rfl, hn4, hf4⟩
        have HS4 : Hid (Hs w4 b G (swn d i j)) := Hs.mk hg HS3.out.1 (swn_len d i j).symm (hf4.blk HH3.out.1 hbg) hn4
        have HF4 := Lib.hid (HF3.out.trans hf4 (fun k _ h => by rw [h]; exact hg))
        clear hn4 hf4 HSW ms
        go_wp2
        go_roundw
        case rel =>
          refine ⟨i, swn d i j, rfl, by omega, ⟨?_, by rw [swn_len]; exact HD.out.2⟩, by rw [swn_len]; exact HGO, HS4, HF4.out⟩
          exact (swn_perm d (by have := HD.out.2; omega) (by have := HD.out.2; omega)).trans HD.out.1
        case measure => simp [intOf]; omega
end Go.Proofs.Ytphalcpmeblkgaa
