/-
  The law BitsAligns: whatever was put, or read, Align goes on to the next whole byte, and no farther.
-/
import Derived.Test.YtfhhhgmabfdacaaF
import Derived.Deep.DeepMust
namespace Go.Proofs.Ytfhhhgmabfdacaa
open Go.RowKit BitsM Mem

set_option maxHeartbeats 1600000 in
theorem aligns_law (A : Option Addr) (n c m : Nat) (l : List ActD) (w : World) (hl : Acts w A n l) (hc : n ≤ c) (hm : c ≤ maxLen) (hm8 : m < 256) :
    Calls Try.prog 7 #[.slice A n c, .int .u8 (m : Int)] w fun e w' => e = .returned (.bool true) ∧ Fr (fun _ => False) w w' := by
  have HL := Lib.hid hl
  have HM := Lib.hid hm
  clear hl hm
  by_cases hlong : longB l = true
  · go_enter Try.func7, Try.ntmps7
    go_wp2_with fail
    refine (awake_any _).mono ?_
    rintro e w1 ⟨rfl, hfr1⟩
    go_wp2_with fail
    refine (long_any A n c l _ (HL.out.fr hfr1) hc HM.out).mono ?_
    rintro e w2 ⟨rfl, rfl⟩
    rw [hlong]
    go_wp2_with fail
    refine (awake_any _).mono ?_
    rintro e w3 ⟨rfl, hfr3⟩
    go_wp2
    go_ret
    exact ⟨rfl, hfr1.trans hfr3 (fun _ _ h => h)⟩
  · have hlong : longB l = false := by simpa using hlong
    have hn300 : n ≤ 300 := by have := longB_len hlong; have := HL.out.1; omega
    go_enter Try.func7, Try.ntmps7
    go_wp2_with fail
    refine (awake_any _).mono ?_
    rintro e w1 ⟨rfl, hfr1⟩
    go_wp2_with fail
    refine (long_any A n c l _ (HL.out.fr hfr1) hc HM.out).mono ?_
    rintro e w2 ⟨rfl, rfl⟩
    rw [hlong]
    have HLo := Lib.hid hlong
    clear hlong
    have hg0 := wr_zero w1
    have hfr2 : Fr (fun _ => False) w (w1.alloc (.cells #[.slice none 0 0, .int .i64 0] 27)) := hfr1.alloc _
    have hsz1 := hfr1.size
    obtain ⟨g, hg⟩ : ∃ g, g = w1.heap.size := ⟨_, rfl⟩
    have hi0 : Hi w.heap.size g none := Hi.none_ (by omega)
    go_wp2_with fail
    rw [← hg] at hg0 ⊢
    have HG0 := Lib.hid hg0
    have HF0 := Lib.hid hfr2
    clear hg hg0 hfr1 hfr2 hsz1
    go_loopw [6] (fun i wr => ∃ (k : Nat) (A' : Option Addr) (c' : Nat) (bs : List Bool), k ≤ n ∧ i = .int .i64 k ∧ Wr wr g A' c' bs ∧ bs.length ≤ 72 * k ∧ Fr (fun _ => False) w wr ∧ Hi w.heap.size g A')
      (fun i _ => n - (intOf i).toNat)
    case atStart => exact ⟨0, none, 0, [], by omega, rfl, HG0.out, by simp, HF0.out, hi0⟩
    case round =>
      obtain ⟨k, A', c', bs, hk, rfl, hw, hbl, hfr, hhi⟩ := hrel
      have HW := Lib.hid hw
      have hsz := hfr.size
      clear hw
      by_cases hlt : k < n
      · obtain ⟨b, o, x, rfl, hx, hat0⟩ := HL.out.at_ hlt
        have hat := hat0.fr hfr
        have HAT := Lib.hid hat0
        clear hat0
        have h0 := hat.c0
        have h1 := hat.c1
        have h2 := hat.c2
        have hd := hat.d
        have hN0 := hat.N0
        have hN1 := hat.N1
        have hX := hat.X
        have hat1 := (hat.fr ((Fr.refl _ wr).alloc (.cells #[.int .u64 (x.X : Int)] 28))).c1
        clear hx hat
        go_wp2_with fail
        go_region_with (first
          | (go_at_call 10
             go_must (refine (put_any g c' A' (some ⟨wr.heap.size, 0, none⟩) 1 1 x.N bs [x.X] _ (HW.out.drew.alloc _) (by omega) (Rd.one' rfl _ _) (by simpa using hX) (by omega) (new_ft HW.out (Nat.le_refl _))).mono ?_
                      rintro e w3 ⟨rfl, A2, c2, hw3, hfr3, hnx3⟩
                      obtain ⟨bs2, hbs2, hbl2⟩ : ∃ bs2, bs2 = bs ++ List.flatMap (fun y => low y (min x.N.toNat 64)) [x.X] ∧ bs2.length ≤ 72 * k + 64 := ⟨_, rfl, by simp [low_length]; omega⟩
                      rw [← hbs2] at hw3
                      have HW3 := Lib.hid hw3
                      have hfw3 := hhi.fr ((hfr.drew).alloc _) hfr3
                      have hhi3 := hhi.next hnx3 (by simp; omega)
                      clear hw3 hfr3 hnx3 hbs2))
          | fail)
        all_goals
          obtain ⟨L, hL⟩ : ∃ L, L = bs2.length := ⟨_, rfl⟩
          have hlen := len_any g c2 A2 bs2 w3 HW3.out
          have halign := walign_any g c2 A2 bs2 w3 HW3.out (by omega)
          have h03 := (HAT.out.fr hfw3).c0
          rw [← hL] at hlen hbl2
          have HLen := Lib.hid hlen
          have HAl := Lib.hid halign
          have HLL := Lib.hid hL
          clear hlen halign hL h0 h1 h2 hat1 HW hfr
          go_wp2_with fail
          refine HLen.out.mono ?_
          rintro e w4 ⟨rfl, rfl⟩
          by_cases hev : x.d % 2 = 0
          · have hev1 : ((x.d : Int) % 2 == 0) = true := by simp; omega
            go_wp2_with fail
            refine HAl.out.mono ?_
            rintro e w4 ⟨rfl, hw4, hfr4⟩
            obtain ⟨L', hL'⟩ : ∃ L', L' = (full bs2).length := ⟨_, rfl⟩
            have e1 : L' % 8 = 0 := by rw [hL']; exact full_mod _
            have e2 : L ≤ L' := by rw [hL', HLL.out, full_length]; omega
            have e3 : L' ≤ L + 7 := by rw [hL', HLL.out, full_length]; have := lack_lt bs2.length; omega
            have hlen := len_any g c2 A2 _ w4 hw4
            rw [← hL'] at hlen
            have HLen4 := Lib.hid hlen
            have HL4 := Lib.hid hL'
            have HW4 := Lib.hid hw4
            have hfw4 := hhi3.fr hfw3 hfr4
            clear hlen hL' hw4
            go_wp2_with fail
            refine HLen4.out.mono ?_
            rintro e w5 ⟨rfl, rfl⟩
            go_wp2_with fail
            refine HLen4.out.mono ?_
            rintro e w5 ⟨rfl, rfl⟩
            go_wp2_with fail
            refine HLen4.out.mono ?_
            rintro e w5 ⟨rfl, rfl⟩
            go_wp2_with fail
            go_roundw
            case rel => exact ⟨k + 1, A2, c2, full bs2, by omega, by go_num, HW4.out, by have := HL4.out; omega, hfw4, hhi3⟩
            case measure => simp [intOf] <;> omega
          · have hev1 : ((x.d : Int) % 2 == 0) = false := by simp; omega
            go_wp2_with fail
            go_roundw
            case rel => exact ⟨k + 1, A2, c2, bs2, by omega, by go_num, HW3.out, by have := HLL.out; omega, hfw3, hhi3⟩
            case measure => simp [intOf] <;> omega
      · have hPl : (pack bs).length ≤ 1099511627776 := by rw [pack_length]; omega
        obtain ⟨P, hP⟩ : ∃ P, P = pack bs := ⟨_, rfl⟩
        have hby := wbytes_any g c' A' bs wr HW.out (by omega)
        rw [← hP] at hby hPl
        have HBy := Lib.hid hby
        have HP := Lib.hid hP
        clear hby hP
        go_wp2_with fail
        refine HBy.out.mono ?_
        rintro e w3 ⟨A3, c3, rfl, hown3, hfr3⟩
        have hnew := new_any A3 P.length c3 P w3 (Rd.of_own hown3) hPl
        have HW3 := Lib.hid (HW.out.fr hfr3 (fun h => h) (fun _ _ h => h))
        have hfw3 := hfr.trans hfr3 (fun _ _ h => h)
        have HNew := Lib.hid hnew
        clear hnew hown3 hfr3
        go_wp2_with fail
        refine HNew.out.mono ?_
        rintro e w4 ⟨r, A4, c4, rfl, hre, hrsz, hA4, hfr4⟩
        have hwlt := HW3.out.lt
        have hrg : r ≠ g := by have := hwlt.1; omega
        have hrA : bl A' ≠ some r := fun e => by have := hwlt.2 r e; omega
        have HW4 := Lib.hid (HW3.out.fr hfr4 (fun h => h) (fun _ _ h => h))
        have hfw4 := hfw3.trans hfr4 (fun _ _ h => h)
        have hrW : w.heap.size ≤ r := by have := hfw3.size; omega
        obtain ⟨T, hT⟩ : ∃ T, T = 8 * P.length := ⟨_, rfl⟩
        have hleft := left_any r c4 0 A4 P w4 hre hPl
        rw [Nat.sub_zero, ← hT] at hleft
        have HLe := Lib.hid hleft
        have HRE := Lib.hid hre
        have HT := Lib.hid hT
        have hTl : T ≤ 8796093022208 := by omega
        clear hleft hre hA4 hfr4 hrsz hwlt hT HNew HBy HW3 HW hfw3 hfr
        go_wp2_with fail
        refine HLe.out.mono ?_
        rintro e w5 ⟨rfl, rfl⟩
        obtain ⟨K, hK⟩ : ∃ K, K = min (m % 65) T := ⟨_, rfl⟩
        have hKT : K ≤ T := by omega
        have hK64 : K ≤ 64 := by omega
        have eT : T < m % 65 → (T : Int) = (K : Int) := fun h => by omega
        have eM : ¬ T < m % 65 → ((m : Int) % 65) = (K : Int) := fun h => by omega
        have HeT := Lib.hid eT
        have HeM := Lib.hid eM
        have hok := bits_ok r c4 0 A4 P K w4.drew HRE.out.drew hPl hK64 (by have := HT.out; omega)
        rw [Nat.zero_add] at hok
        have HOK := Lib.hid hok
        obtain ⟨E, hE⟩ : ∃ E, E = ends K := ⟨_, rfl⟩
        have hE1 : E % 8 = 0 := by rw [hE]; exact ends_mod K
        have hE2 : K ≤ E := by rw [hE]; unfold ends; omega
        have hE3 : E < K + 8 := by rw [hE]; unfold ends; have := lack_lt K; omega
        have hE4 : E ≤ T := by rw [hE, HT.out]; exact ends_le _ _ (by have := HT.out; omega)
        have HE := Lib.hid hE
        clear hK eT eM hok hE
        rcases Nat.lt_or_ge T (m % 65) with hTm | hTm
        · have hTm1 : (T : Int) < (m : Int) % 65 := by omega
          have eT := HeT.out hTm
          have HX := Lib.hid eT
          clear eT
          go_wp2_with fail
          rw [HX.out]
          refine HOK.out.mono ?_
          rintro e w6 ⟨rfl, hre6, hfr6⟩
          have hal := ralign_any r c4 K A4 P w6 hre6 hPl
          rw [← HE.out] at hal
          have HAl := Lib.hid hal
          have hfw6 := hfw4.drew.trans hfr6 (fun b hb h => by omega)
          have HW6 := Lib.hid (HW4.out.drew.fr hfr6 (fun h => hrg h.symm) (fun k hk h => hrA (h ▸ hk)))
          clear hal hre6 hfr6
          go_wp2_with fail
          refine HAl.out.mono ?_
          rintro e w7 ⟨rfl, hre7, hfr7⟩
          have hfw7 := hfw6.trans hfr7 (fun b hb h => by omega)
          have HW7 := Lib.hid (HW6.out.fr hfr7 (fun h => hrg h.symm) (fun k hk h => hrA (h ▸ hk)))
          obtain ⟨D, hD⟩ : ∃ D, D = 8 * P.length - E := ⟨_, rfl⟩
          have hat := at_any r c4 E A4 P w7 hre7
          have hleft := left_any r c4 E A4 P w7 hre7 hPl
          rw [← hD] at hleft
          have hby := wbytes_any g c' A' bs w7.drew HW7.out.drew (by omega)
          rw [← HP.out] at hby
          have hs1 : E + D ≤ 8 * P.length := by have := HT.out; omega
          have hs2 : 8 * P.length ≤ E + D := by have := HT.out; omega
          have HAt := Lib.hid hat
          have HLeft := Lib.hid hleft
          have HBy7 := Lib.hid hby
          clear hre7 hfr7 hat hleft hby hD HAl HOK HRE HLe HX HeT HeM HW6 HW7 HW4
          go_wp2_with fail
          refine HAt.out.mono ?_
          rintro e w8 ⟨rfl, rfl⟩
          go_wp2_with fail
          refine HAt.out.mono ?_
          rintro e w8 ⟨rfl, rfl⟩
          go_wp2_with fail
          refine HAt.out.mono ?_
          rintro e w8 ⟨rfl, rfl⟩
          go_wp2_with fail
          refine HAt.out.mono ?_
          rintro e w8 ⟨rfl, rfl⟩
          go_wp2_with fail
          refine HLeft.out.mono ?_
          rintro e w8 ⟨rfl, rfl⟩
          go_wp2_with fail
          refine HBy7.out.mono ?_
          rintro e w8 ⟨A8, c8, rfl, _, hfr8⟩
          go_wp2_with fail
          go_ret
          refine ⟨?_, hfw7.drew.trans hfr8 (fun _ _ h => h)⟩
          have hfin : ((E : Int) + (D : Int) == 8 * (P.length : Int)) = true := by simp; omega
          show Ending.returned (.bool ((E : Int) + (D : Int) == 8 * (P.length : Int))) = _
          rw [hfin]
        · have hTm1 : ¬ (T : Int) < (m : Int) % 65 := by omega
          have eT := HeM.out (by omega)
          have HX := Lib.hid eT
          clear eT
          go_wp2_with fail
          rw [HX.out]
          refine HOK.out.mono ?_
          rintro e w6 ⟨rfl, hre6, hfr6⟩
          have hal := ralign_any r c4 K A4 P w6 hre6 hPl
          rw [← HE.out] at hal
          have HAl := Lib.hid hal
          have hfw6 := hfw4.drew.trans hfr6 (fun b hb h => by omega)
          have HW6 := Lib.hid (HW4.out.drew.fr hfr6 (fun h => hrg h.symm) (fun k hk h => hrA (h ▸ hk)))
          clear hal hre6 hfr6
          go_wp2_with fail
          refine HAl.out.mono ?_
          rintro e w7 ⟨rfl, hre7, hfr7⟩
          have hfw7 := hfw6.trans hfr7 (fun b hb h => by omega)
          have HW7 := Lib.hid (HW6.out.fr hfr7 (fun h => hrg h.symm) (fun k hk h => hrA (h ▸ hk)))
          obtain ⟨D, hD⟩ : ∃ D, D = 8 * P.length - E := ⟨_, rfl⟩
          have hat := at_any r c4 E A4 P w7 hre7
          have hleft := left_any r c4 E A4 P w7 hre7 hPl
          rw [← hD] at hleft
          have hby := wbytes_any g c' A' bs w7.drew HW7.out.drew (by omega)
          rw [← HP.out] at hby
          have hs1 : E + D ≤ 8 * P.length := by have := HT.out; omega
          have hs2 : 8 * P.length ≤ E + D := by have := HT.out; omega
          have HAt := Lib.hid hat
          have HLeft := Lib.hid hleft
          have HBy7 := Lib.hid hby
          clear hre7 hfr7 hat hleft hby hD HAl HOK HRE HLe HX HeT HeM HW6 HW7 HW4
          go_wp2_with fail
          refine HAt.out.mono ?_
          rintro e w8 ⟨rfl, rfl⟩
          go_wp2_with fail
          refine HAt.out.mono ?_
          rintro e w8 ⟨rfl, rfl⟩
          go_wp2_with fail
          refine HAt.out.mono ?_
          rintro e w8 ⟨rfl, rfl⟩
          go_wp2_with fail
          refine HAt.out.mono ?_
          rintro e w8 ⟨rfl, rfl⟩
          go_wp2_with fail
          refine HLeft.out.mono ?_
          rintro e w8 ⟨rfl, rfl⟩
          go_wp2_with fail
          refine HBy7.out.mono ?_
          rintro e w8 ⟨A8, c8, rfl, _, hfr8⟩
          go_wp2_with fail
          go_ret
          refine ⟨?_, hfw7.drew.trans hfr8 (fun _ _ h => h)⟩
          have hfin : ((E : Int) + (D : Int) == 8 * (P.length : Int)) = true := by simp; omega
          show Ending.returned (.bool ((E : Int) + (D : Int) == 8 * (P.length : Int))) = _
          rw [hfin]
end Go.Proofs.Ytfhhhgmabfdacaa
