/-
  The law BitsBack: what is put is read as it was.
-/
import Derived.Test.YtgoijbolokdbmaaH
import Derived.Deep.DeepMust
import Derived.Deep.RegionHeld3
import Derived.Deep.CutRange
import Derived.Deep.DeepCutAuto
import Derived.Test.YtgoijbolokdbmaaReg
namespace Go.Proofs.Ytgoijbolokdbmaa
open Go.RowKit BitsM Mem
set_option linter.unusedVariables false
attribute [local go_sem ↓] Go.wp_at_zero Go.wp_at_succ

/-- the text of a number's lowest bits -/
def ltxt (X K : Nat) : ByteArray := ⟨((low X K).map fun b => UInt8.ofNat b.toNat).toArray⟩
theorem low_str {w : World} {base K c X : Nat} {A : Option Addr} (h : w.ownsRow base 5 1 (.slice A K c) K ((low X K).map bitc)) : (convert 25 9 (.slice A K c)).run Try.prog w = .ok (.string (ltxt X K)) w :=
  run_str (bits_bytes _ ▸ Rd.of_own h) 25 9 5 Try.underlying25 Try.underlying5 Try.underlying9 c
theorem step_len (bs : List Bool) (x : ActD) (hx : x.B.length ≤ 100) : (step bs x).length ≤ bs.length + 900 := by
  have h := kk_le x
  unfold step
  split
  · rw [List.length_append, full_length, bitsOf_length, List.length_append, low_length]
    have := lack_lt (bs.length + kk x)
    omega
  · rw [List.length_append, low_length]
    omega

set_option maxRecDepth 100000 in
set_option maxHeartbeats 16000000 in
theorem back_law (A : Option Addr) (n c : Nat) (l : List ActD) (w : World) (hl : Acts w A n l) (hc : n ≤ c) (hm : c ≤ maxLen) :
    Calls Try.prog 5 #[.slice A n c] w fun e w' => e = .returned (.bool true) ∧ Fr (fun _ => False) w w' := by
  have HL := Lib.hid hl
  have HM := Lib.hid hm
  clear hl hm
  by_cases hlong : longB l = true
  · go_enter Try.func5, Try.ntmps5
    go_wp2_with fail
    refine (awake_any _).mono ?_
    rintro e w1 ⟨rfl, hfr1⟩
    go_wp2_with fail
    refine (long_any A n c l _ (HL.out.fr hfr1) hc HM.out).mono ?_
    rintro e w2 ⟨rfl, rfl⟩
    rw [hlong]
    go_wp2_with fail
    refine (awake_any _).mono ?_
    rintro e w3 ⟨rfl, hfr3⟩
    go_wp2
    go_ret
    exact ⟨rfl, hfr1.trans hfr3 (fun _ _ h => h)⟩
  · have hlong : longB l = false := by simpa using hlong
    have hn300 : n ≤ 300 := by have := longB_len hlong; have := HL.out.1; omega
    have hln : l.length = n := HL.out.1
    have HLN := Lib.hid hln
    clear hln
    go_enter Try.func5, Try.ntmps5
    go_wp2_with fail
    refine (awake_any _).mono ?_
    rintro e w1 ⟨rfl, hfr1⟩
    go_wp2_with fail
    refine (long_any A n c l _ (HL.out.fr hfr1) hc HM.out).mono ?_
    rintro e w2 ⟨rfl, rfl⟩
    rw [hlong]
    have HLo := Lib.hid hlong
    clear hlong
    have hg0 := wr_zero w1
    have hfr2 : Fr (fun _ => False) w (w1.alloc (.cells #[.slice none 0 0, .int .i64 0] 27)) := hfr1.alloc _
    have hsz1 := hfr1.size
    obtain ⟨g, hg⟩ : ∃ g, g = w1.heap.size := ⟨_, rfl⟩
    have hi0 : Hi w.heap.size g none := Hi.none_ (by omega)
    go_wp2_with fail
    rw [← hg] at hg0 ⊢
    have HG0 := Lib.hid hg0
    have HF0 := Lib.hid hfr2
    clear hg hg0 hfr1 hfr2 hsz1
    go_loopw [4] (fun i wr => ∃ (k : Nat) (A' : Option Addr) (c' : Nat), k ≤ n ∧ i = .int .i64 k ∧ Wr wr g A' c' (lay (l.take k)) ∧ (lay (l.take k)).length ≤ 900 * k ∧ Fr (fun _ => False) w wr ∧ Hi w.heap.size g A')
      (fun i _ => n - (intOf i).toNat)
    case atStart => exact ⟨0, none, 0, by omega, rfl, HG0.out, by simp [lay], HF0.out, hi0⟩
    case round =>
      obtain ⟨k, A', c', hk, rfl, hw, hbl, hfr, hhi⟩ := hrel
      have HW := Lib.hid hw
      have hsz := hfr.size
      clear hw
      by_cases hlt : k < n
      · obtain ⟨b, o, x, rfl, hx, hat0⟩ := HL.out.at_ hlt
        have hat := hat0.fr hfr
        have HAT := Lib.hid hat0
        clear hat0
        have h0 := hat.c0
        have h1 := hat.c1
        have h2 := hat.c2
        have h3 := hat.c3
        have hd := hat.d
        have hN0 := hat.N0
        have hN1 := hat.N1
        have hX := hat.X
        have hx100 := longB_at HLo.out hx
        obtain ⟨K, hK⟩ : ∃ K, K = kk x := ⟨_, rfl⟩
        have hK64 : K ≤ 64 := by rw [hK]; exact kk_le x
        have hK1 : ((x.N.tmod 65 + 64) % 65) = (K : Int) := by rw [hK]; unfold kk; omega
        have HK := Lib.hid hK
        have HX := Lib.hid hx
        have hxB : x.B.length = x.n := by simpa using HAT.out.r.1
        have HXB := Lib.hid hxB
        have hstep := step_len (lay (l.take k)) x (by omega)
        rw [← lay_take hx] at hstep
        obtain ⟨M, hM⟩ : ∃ M, M = lay (l.take k) := ⟨_, rfl⟩
        rw [← hM] at HW hbl hstep
        have HMM := Lib.hid hM
        have HST := Lib.hid hstep
        have hKw : (wrap64 (x.N.tmod 65 + 64)).tmod 65 = (K : Int) := by
          have h1 := Int.tmod_lt_of_pos x.N (show (0 : Int) < 65 by omega)
          have h2 : -65 < x.N.tmod 65 := by have := Int.lt_tmod_of_pos x.N (show (0 : Int) < 65 by omega); omega
          have hw : wrap64 (x.N.tmod 65 + 64) = x.N.tmod 65 + 64 := by
            unfold wrap64
            omega
          rw [hw, Int.tmod_eq_emod_of_nonneg (by omega)]
          exact hK1
        have HKW := Lib.hid hKw
        clear hx hat hK hxB hstep hM hK1 hKw
        go_wp2_with fail
        rw [HKW.out]
        refine (put_any g c' A' (some ⟨wr.heap.size, 0, none⟩) 1 1 (K : Int) M [x.X] _ (HW.out.alloc _) (by omega) (Rd.one' rfl _ _) (by simpa using hX) (by omega) (new_ft HW.out (Nat.le_refl _))).mono ?_
        rintro e w3 ⟨rfl, A3, c3, hw3, hfr3, hnx3⟩
        have hM3 : M ++ List.flatMap (low · (min (K : Int).toNat 64)) [x.X] = M ++ low x.X K := by rw [show min (K : Int).toNat 64 = K from by omega]; simp
        rw [hM3] at hw3
        have HW3 := Lib.hid hw3
        have hfw3 := hhi.fr (hfr.alloc _) hfr3
        have hhi3 := hhi.next hnx3 (by simp; omega)
        have h03 := (HAT.out.fr hfw3).c0
        have h33 := (HAT.out.fr hfw3).c3
        have hxA : 0 < x.n → ∀ ad, x.A = some ad → ¬ Ft g A3 ad.block := by
          intro hn ad hA
          obtain ⟨ad', e1, e2⟩ := (HAT.out.r).2 hn
          rw [hA] at e1
          injection e1 with e1
          subst e1
          have hl : 0 < (x.B.map bytec).length := by rw [HAT.out.r.1]; exact hn
          have hlt : ad.block < w.heap.size := by
            have := World.block_lt_of_cell? w _ (e2 0 _ (List.getElem?_eq_getElem hl))
            rwa [add_block] at this
          rintro (h | h)
          · have := hhi3.1; omega
          · have := hhi3.2 _ h; omega
        have hr3 := (HAT.out.fr hfw3).r
        have HR3 := Lib.hid hr3
        clear hw3 hfr3 hnx3 hM3 h0 h1 h2 h3 hfr hr3
        by_cases hd3 : x.d % 4 = 3
        · have hb3 : ((x.d : Int) % 4 == 3) = true := by simp; omega
          go_wp2_with fail
          refine (wraw_any' g c3 A3 x.A x.n x.c _ x.B _ HW3.out (by rw [List.length_append, low_length]; omega) HR3.out hxA).mono ?_
          rintro e w4 ⟨rfl, A4, c4, hw4, hfr4, hnx4⟩
          have hlay : lay (l.take (k + 1)) = full (M ++ low x.X K) ++ bitsOf x.B := by rw [lay_take HX.out, ← HMM.out]; unfold step; rw [if_pos hd3, ← HK.out]
          rw [← hlay] at hw4
          have HW4 := Lib.hid hw4
          have hfw4 := hhi3.fr hfw3 hfr4
          have hhi4 := hhi3.next hnx4 hfw3.size
          clear hw4 hfr4 hnx4 hlay
          go_wp2_with fail
          go_roundw
          case rel => exact ⟨k + 1, A4, c4, by omega, by go_num, HW4.out, by have := HST.out; omega, hfw4, hhi4⟩
          case measure => simp [intOf] <;> omega
        · have hb3 : ((x.d : Int) % 4 == 3) = false := by simp; omega
          have hlay : lay (l.take (k + 1)) = M ++ low x.X K := by rw [lay_take HX.out, ← HMM.out]; unfold step; rw [if_neg hd3, ← HK.out]
          have HLAY := Lib.hid hlay
          clear hlay
          go_wp2_with fail
          go_roundw
          case rel => exact ⟨k + 1, A3, c3, by omega, by go_num, by rw [HLAY.out]; exact HW3.out, by have := HST.out; omega, hfw3, hhi3⟩
          case measure => simp [intOf] <;> omega
      · obtain rfl : k = n := by omega
        have hLk : lay (l.take k) = lay l := by rw [List.take_of_length_le (by have := HLN.out; omega)]
        rw [hLk] at HW hbl
        obtain ⟨L, hL⟩ : ∃ L, L = lay l := ⟨_, rfl⟩
        rw [← hL] at HW hbl
        have HLL := Lib.hid hL
        obtain ⟨P, hP⟩ : ∃ P, P = pack L := ⟨_, rfl⟩
        have hPl : P.length ≤ 1099511627776 := by rw [hP, pack_length]; omega
        have hby := wbytes_any g c' A' L wr HW.out (by omega)
        rw [← hP] at hby
        have HBy := Lib.hid hby
        have HP := Lib.hid hP
        have hL8 : L.length ≤ 8 * P.length := by rw [hP, pack_length]; omega
        have hL9 : 8 * P.length ≤ L.length + lack L.length := by rw [hP, pack_length]; have := lack_ceil L.length; omega
        clear hby hP hLk hL
        go_wp2_with fail
        refine HBy.out.mono ?_
        rintro e w3 ⟨A3, c3, rfl, hown3, hfr3⟩
        have hnew := new_any A3 P.length c3 P w3 (Rd.of_own hown3) hPl
        have hfw3 := hfr.trans hfr3 (fun _ _ h => h)
        have HNew := Lib.hid hnew
        clear hnew hown3 hfr3
        go_wp2_with fail
        refine HNew.out.mono ?_
        rintro e w4 ⟨r, A4, c4, rfl, hre, hrsz, hA4, hfr4⟩
        have hfw4 := hfw3.trans hfr4 (fun _ _ h => h)
        have hrW : w.heap.size ≤ r := by have := hfw3.size; omega
        have HRE4 := Lib.hid hre
        clear hre hA4 hfr4 hrsz HNew HBy hfw3
        go_wp2_with fail
        go_loopw [7] (fun i wr => ∃ j p : Nat, j ≤ k ∧ i = .int .i64 j ∧ Re wr r A4 c4 P p ∧ Hid (p = (lay (l.take j)).length) ∧ Fr (fun b => b = r) w4 wr)
          (fun i _ => k - (intOf i).toNat)
        case atStart => exact ⟨0, 0, by omega, rfl, HRE4.out, by simp [Hid, lay], Fr.refl _ _⟩
        case round =>
          obtain ⟨j, p, hj, rfl, hre, Hp, hfr5⟩ := hrel
          have HRE := Lib.hid hre
          have hfw5 := hfw4.trans hfr5 (fun b hb h => by omega)
          clear hre
          by_cases hlt2 : j < k
          · obtain ⟨b, o, x, rfl, hx, hat0⟩ := HL.out.at_ hlt2
            have hat := hat0.fr hfw5
            have HAT := Lib.hid hat0
            clear hat0
            have h1 := hat.c1
            have hd := hat.d
            have hN0 := hat.N0
            have hN1 := hat.N1
            have hX := hat.X
            have hx100 := longB_at HLo.out hx
            obtain ⟨K, hK⟩ : ∃ K, K = kk x := ⟨_, rfl⟩
            have hK64 : K ≤ 64 := by rw [hK]; exact kk_le x
            have hK1 : ((x.N.tmod 65 + 64) % 65) = (K : Int) := by rw [hK]; unfold kk; omega
            have hKw : (wrap64 (x.N.tmod 65 + 64)).tmod 65 = (K : Int) := by
              have h1 := Int.tmod_lt_of_pos x.N (show (0 : Int) < 65 by omega)
              have h2 : -65 < x.N.tmod 65 := by have := Int.lt_tmod_of_pos x.N (show (0 : Int) < 65 by omega); omega
              have hw : wrap64 (x.N.tmod 65 + 64) = x.N.tmod 65 + 64 := by
                unfold wrap64
                omega
              rw [hw, Int.tmod_eq_emod_of_nonneg (by omega)]
              exact hK1
            have HKW := Lib.hid hKw
            have hpre : lay (l.take j) ++ low x.X K <+: L := by
              rw [HLL.out]
              refine List.IsPrefix.trans ?_ (lay_pre l (j + 1))
              rw [lay_take hx, hK]
              exact step_pre _ _
            have hplen : p + K ≤ L.length := by
              have := hpre.length_le
              rw [List.length_append, low_length, ← Hp.out] at this
              exact this
            have hcut : cut P p K = low x.X K := by
              have := cut_lay hpre
              rw [low_length, ← Hp.out, ← HP.out] at this
              exact this
            have hxB : x.B.length = x.n := by simpa using HAT.out.r.1
            have HXB := Lib.hid hxB
            have HK := Lib.hid hK
            have HX := Lib.hid hx
            have HPRE := Lib.hid hpre
            have hok := bits_ok r c4 p A4 P K wr HRE.out hPl hK64 (by omega)
            rw [hcut, num_low] at hok
            obtain ⟨z, hz⟩ : ∃ z, z = x.X % 2 ^ K := ⟨_, rfl⟩
            rw [← hz] at hok
            have hz64 : z < 18446744073709551616 := by rw [hz]; exact Nat.lt_of_le_of_lt (Nat.mod_le _ _) hX
            have hzl : low z K = low x.X K := by rw [hz]; exact low_mod _ _
            have hzs : ((z : Int) / 2 ^ K) = 0 := by
              have hd : z / 2 ^ K = 0 := by rw [hz]; exact Nat.div_eq_of_lt (Nat.mod_lt _ (Nat.two_pow_pos K))
              have e : ((z : Int) / 2 ^ K) = ((z / 2 ^ K : Nat) : Int) := by simp
              rw [e, hd]; rfl
            have HOK := Lib.hid hok
            have HZL := Lib.hid hzl
            have HZ := Lib.hid hz
            clear hx hat hK hxB hK1 hKw hok hz hzl hpre hcut
            go_wp2_with fail
            rw [HKW.out]
            refine HOK.out.mono ?_
            rintro e w6 ⟨rfl, hre6, hfr6⟩
            have HRE6 := Lib.hid hre6
            have hfr46 := hfr5.trans hfr6 (fun _ _ h => h)
            have hfw6 := hfw4.trans hfr46 (fun b hb h => by omega)
            have h26 := (HAT.out.fr hfw6).c2
            have hm64 : min (K : Int).toNat 64 = K := by omega
            have hlow1 := low_any z (K : Int) w6.drew hz64 (by omega) (by omega)
            rw [hm64, HZL.out] at hlow1
            have HLOW1 := Lib.hid hlow1
            have HM64 := Lib.hid hm64
            clear hre6 hfr6 hlow1 hm64
            have hj0 : (0 : Int) ≤ (j : Int) := by omega
            have hjk : (j : Int) < (k : Int) := by omega
            have hKd : decide ((K : Int) < 64) = true ∨ decide ((K : Int) < 64) = false := by cases decide ((K : Int) < 64) <;> simp
            go_upto_region 17 with fail
            go_cut [103] from 57 to 134 (fun v wx => v = .bool false ∧ Re wx r A4 c4 P (p + K) ∧ Fr (fun b => b = r) w4 wx)
            case first =>
              rcases hKd with hKd | hKd
              · refine wp_region_noPanic ?_
                refine wp_region_held_drew (S := (fun w' => w'.cell? ⟨b, o + j * 4 + 2, none⟩ = some (.int .u64 (x.X : Int)))) (by kernel_rfl) ?_ (fun hHeld => ?_)
                · exact h26
                refine wpAnyH_take (i := 0) (v := ?va0) rfl (by kernel_rfl) (by kernel_rfl) (by kernel_rfl) (fun _ _ _ h => h) (Or.inl ⟨by rfl, ?hya0⟩) hHeld ?resta0
                case hya0 => intro w hSw; (try dsimp only at hSw); go_simp; try (with_reducible rfl)
                (try simp only [Act.put, List.setIfInBounds_toArray, List.set_cons_zero, List.set_cons_succ, List.getElem_toArray, List.getElem_cons_zero])
                refine wpAnyH_take (i := 1) (v := ?va1) rfl (by kernel_rfl) (by kernel_rfl) (by kernel_rfl) (fun _ _ _ h => h) (Or.inl ⟨by rfl, ?hya1⟩) hHeld ?resta1
                case hya1 => intro w hSw; (try dsimp only at hSw); go_simp; try (with_reducible rfl)
                (try simp only [Act.put, List.setIfInBounds_toArray, List.set_cons_zero, List.set_cons_succ, List.getElem_toArray, List.getElem_cons_zero, List.getElem_cons_succ])
                refine wpAnyH_take (i := 2) (v := ?va2) rfl (by kernel_rfl) (by kernel_rfl) (by kernel_rfl) (fun _ _ _ h => h) (Or.inl ⟨by rfl, ?hya2⟩) hHeld ?resta2
                case hya2 => intro w hSw; (try dsimp only at hSw); go_simp; try (with_reducible rfl)
                (try simp only [Act.put, List.setIfInBounds_toArray, List.set_cons_zero, List.set_cons_succ, List.getElem_toArray, List.getElem_cons_zero, List.getElem_cons_succ])
                refine wpAnyH_take (i := 3) (v := ?va3) rfl (by kernel_rfl) (by kernel_rfl) (by kernel_rfl) (fun _ _ _ h => h) (Or.inl ⟨by rfl, ?hya3⟩) hHeld ?resta3
                case hya3 => intro w hSw; (try dsimp only at hSw); go_simp; try (with_reducible rfl)
                (try simp only [Act.put, List.setIfInBounds_toArray, List.set_cons_zero, List.set_cons_succ, List.getElem_toArray, List.getElem_cons_zero, List.getElem_cons_succ])
                refine wpAnyH_take (i := 4) (v := ?va4) rfl (by kernel_rfl) (by kernel_rfl) (by kernel_rfl) (fun _ _ _ h => h) (Or.inl ⟨by rfl, ?hya4⟩) hHeld ?resta4
                case hya4 => intro w hSw; (try dsimp only at hSw); go_simp; try (with_reducible rfl)
                (try simp only [Act.put, List.setIfInBounds_toArray, List.set_cons_zero, List.set_cons_succ, List.getElem_toArray, List.getElem_cons_zero, List.getElem_cons_succ])
                refine wpAnyH_take (i := 7) (v := ?va7) rfl (by kernel_rfl) (by kernel_rfl) (by kernel_rfl) (fun _ _ _ h => h) (Or.inl ⟨by rfl, ?hya7⟩) hHeld ?resta7
                case hya7 => intro w hSw; (try dsimp only at hSw); go_simp; try (with_reducible rfl)
                (try simp only [Act.put, List.setIfInBounds_toArray, List.set_cons_zero, List.set_cons_succ, List.getElem_toArray, List.getElem_cons_zero, List.getElem_cons_succ])
                refine wpAnyH_take (i := 8) (v := ?va8) rfl (by kernel_rfl) (by kernel_rfl) (by kernel_rfl) (fun _ _ _ h => h) (Or.inl ⟨by rfl, ?hya8⟩) hHeld ?resta8
                case hya8 => intro w hSw; (try dsimp only at hSw); go_simp; try (with_reducible rfl)
                (try simp only [Act.put, List.setIfInBounds_toArray, List.set_cons_zero, List.set_cons_succ, List.getElem_toArray, List.getElem_cons_zero, List.getElem_cons_succ])
                refine wpAnyH_take (i := 9) (v := ?va9) rfl (by kernel_rfl) (by kernel_rfl) (by kernel_rfl) (fun _ _ _ h => h) (Or.inl ⟨by rfl, ?hya9⟩) hHeld ?resta9
                case hya9 => intro w hSw; (try dsimp only at hSw); go_simp; try (with_reducible rfl)
                (try simp only [Act.put, List.setIfInBounds_toArray, List.set_cons_zero, List.set_cons_succ, List.getElem_toArray, List.getElem_cons_zero, List.getElem_cons_succ])
                refine wpAnyH_take (i := 10) (v := ?va10) rfl (by kernel_rfl) (by kernel_rfl) (by kernel_rfl) (fun _ _ _ h => h) (Or.inl ⟨by rfl, ?hya10⟩) hHeld ?resta10
                case hya10 => intro w hSw; (try dsimp only at hSw); go_simp; try (with_reducible rfl)
                (try simp only [Act.put, List.setIfInBounds_toArray, List.set_cons_zero, List.set_cons_succ, List.getElem_toArray, List.getElem_cons_zero, List.getElem_cons_succ])
                refine wpAnyH_take (i := 11) (v := ?va11) rfl (by kernel_rfl) (by kernel_rfl) (by kernel_rfl) (fun _ _ _ h => h) (Or.inl ⟨by rfl, ?hya11⟩) hHeld ?resta11
                case hya11 => intro w hSw; (try dsimp only at hSw); go_simp; try (with_reducible rfl)
                (try simp only [Act.put, List.setIfInBounds_toArray, List.set_cons_zero, List.set_cons_succ, List.getElem_toArray, List.getElem_cons_zero, List.getElem_cons_succ])
                refine wpAnyH_take (i := 12) (v := ?va12) rfl (by kernel_rfl) (by kernel_rfl) (by kernel_rfl) (fun _ _ _ h => h) (Or.inl ⟨by rfl, ?hya12⟩) hHeld ?resta12
                case hya12 => intro w hSw; (try dsimp only at hSw); go_simp; try (with_reducible rfl)
                (try simp only [Act.put, List.setIfInBounds_toArray, List.set_cons_zero, List.set_cons_succ, List.getElem_toArray, List.getElem_cons_zero, List.getElem_cons_succ])
                refine wpAnyH_ready (rs := [5]) (by kernel_rfl) (by simp) ?_
                refine AllReadyH.cons rfl (fun Kx hKx => ?_) AllReadyH.nil
                go_simp
                refine HLOW1.out.mono ?_
                rintro e w7 ⟨A7, c7, rfl, hown7, hfr7⟩
                have hk7 : w7.cell? ⟨b, o + j * 4 + 2, none⟩ = some (.int .u64 (x.X : Int)) := hfr7.cell (w := w6.drew) h26 (fun h => h)
                have HRE7 := Lib.hid (HRE6.out.drew.fr hfr7 (fun h => h) (fun _ _ h => h))
                have HF7 := Lib.hid (hfr46.drew.trans hfr7 (fun _ _ h => h.elim))
                have hs7 := low_str hown7
                have hlow2 := low_any x.X (K : Int) w7 hX (by omega) (by omega)
                rw [HM64.out] at hlow2
                have HLOW2 := Lib.hid hlow2
                have HOW7 := Lib.hid hown7
                clear hown7 hfr7 hlow2
                refine hKx.out _ _ ?_ (fun hHeld => ?_)
                · exact hk7
                clear hKx Kx
                (try simp only [Act.put, List.setIfInBounds_toArray, List.set_cons_zero, List.set_cons_succ, List.getElem_toArray, List.getElem_cons_zero, List.getElem_cons_succ])
                refine wpAnyH_more (fun w' => w'.cell? ⟨b, o + j * 4 + 2, none⟩ = some (.int .u64 (x.X : Int)) ∧ (convert 25 9 (.slice A7 K c7)).run Try.prog w' = .ok (.string (ltxt x.X K)) w') (fun _ h => h.1) ?_ (fun hHeld => ?_)
                · exact ⟨hk7, hs7⟩
                refine wpAnyH_take (i := 6) (v := ?va6) rfl (by kernel_rfl) (by kernel_rfl) (by kernel_rfl) (fun _ _ _ h => h) (Or.inl ⟨by rfl, ?hya6⟩) hHeld ?resta6
                case hya6 => intro w hSw; (try dsimp only at hSw); go_simp; try (with_reducible rfl)
                (try simp only [Act.put, List.setIfInBounds_toArray, List.set_cons_zero, List.set_cons_succ, List.getElem_toArray, List.getElem_cons_zero, List.getElem_cons_succ])
                refine wpAnyH_ready (rs := [13]) (by kernel_rfl) (by simp) ?_
                refine AllReadyH.cons rfl (fun Kx hKx => ?_) AllReadyH.nil
                go_simp
                refine HLOW2.out.mono ?_
                rintro e w8 ⟨A8, c8, rfl, hown8, hfr8⟩
                have hk8 : w8.cell? ⟨b, o + j * 4 + 2, none⟩ = some (.int .u64 (x.X : Int)) := hfr8.cell hk7 (fun h => h)
                have HRE8 := Lib.hid (HRE7.out.fr hfr8 (fun h => h) (fun _ _ h => h))
                have HF8 := Lib.hid (HF7.out.trans hfr8 (fun _ _ h => h.elim))
                have hs8 := low_str hown8
                have hs9 := low_str (hfr8.own HOW7.out (fun _ _ h => h))
                clear hown8 hfr8
                refine hKx.out _ _ ?_ (fun hHeld => ?_)
                · exact ⟨hk8, hs9⟩
                clear hKx Kx
                (try simp only [Act.put, List.setIfInBounds_toArray, List.set_cons_zero, List.set_cons_succ, List.getElem_toArray, List.getElem_cons_zero, List.getElem_cons_succ])
                refine wpAnyH_ready (rs := [14]) (by kernel_rfl) (by simp) ?_
                refine AllReadyH.cons rfl (fun Kx hKx => ?_) AllReadyH.nil
                go_simp
                refine hKx.out _ _ ?_ (fun hHeld => ?_)
                · exact ⟨hk8, hs9⟩
                clear hKx Kx
                (try simp only [Act.put, List.setIfInBounds_toArray, List.set_cons_zero, List.set_cons_succ, List.getElem_toArray, List.getElem_cons_zero, List.getElem_cons_succ])
                refine wpAnyH_take (i := 15) (v := ?va15) rfl (by kernel_rfl) (by kernel_rfl) (by kernel_rfl) (fun _ _ _ h => h) (Or.inl ⟨by rfl, ?hya15⟩) hHeld ?resta15
                case hya15 => intro w hSw; (try dsimp only at hSw); go_simp; try (with_reducible rfl)
                (try simp only [Act.put, List.setIfInBounds_toArray, List.set_cons_zero, List.set_cons_succ, List.getElem_toArray, List.getElem_cons_zero, List.getElem_cons_succ])
                refine wpAnyH_take (i := 16) (v := ?va16) rfl (by kernel_rfl) (by kernel_rfl) (by kernel_rfl) (fun _ _ _ h => h) (Or.inl ⟨by rfl, ?hya16⟩) hHeld ?resta16
                case hya16 => intro w hSw; (try dsimp only at hSw); go_simp; try (with_reducible rfl)
                (try simp only [Act.put, List.setIfInBounds_toArray, List.set_cons_zero, List.set_cons_succ, List.getElem_toArray, List.getElem_cons_zero, List.getElem_cons_succ])
                refine wpAnyH_take (i := 17) (v := ?va17) rfl (by kernel_rfl) (by kernel_rfl) (by kernel_rfl) (fun _ _ _ h => h) (Or.inl ⟨by rfl, ?hya17⟩) hHeld ?resta17
                case hya17 => intro w hSw; (try dsimp only at hSw); go_simp; try (with_reducible rfl)
                (try simp only [Act.put, List.setIfInBounds_toArray, List.set_cons_zero, List.set_cons_succ, List.getElem_toArray, List.getElem_cons_zero, List.getElem_cons_succ])
                refine wpAnyH_take (i := 18) (v := ?va18) rfl (by kernel_rfl) (by kernel_rfl) (by kernel_rfl) (fun _ _ _ h => h) (Or.inl ⟨by rfl, ?hya18⟩) hHeld ?resta18
                case hya18 => intro w hSw; (try dsimp only at hSw); go_simp; try (with_reducible rfl)
                (try simp only [Act.put, List.setIfInBounds_toArray, List.set_cons_zero, List.set_cons_succ, List.getElem_toArray, List.getElem_cons_zero, List.getElem_cons_succ])
                refine wpAnyH_take (i := 19) (v := ?va19) rfl (by kernel_rfl) (by kernel_rfl) (by kernel_rfl) (fun _ _ _ h => h) (Or.inl ⟨by rfl, ?hya19⟩) hHeld ?resta19
                case hya19 => intro w hSw; (try dsimp only at hSw); go_simp; try (with_reducible rfl)
                (try simp only [Act.put, List.setIfInBounds_toArray, List.set_cons_zero, List.set_cons_succ, List.getElem_toArray, List.getElem_cons_zero, List.getElem_cons_succ])
                refine wpAnyH_take (i := 20) (v := ?va20) rfl (by kernel_rfl) (by kernel_rfl) (by kernel_rfl) (fun _ _ _ h => h) (Or.inl ⟨by rfl, ?hya20⟩) hHeld ?resta20
                case hya20 => intro w hSw; (try dsimp only at hSw); go_simp; try (with_reducible rfl)
                (try simp only [Act.put, List.setIfInBounds_toArray, List.set_cons_zero, List.set_cons_succ, List.getElem_toArray, List.getElem_cons_zero, List.getElem_cons_succ])
                refine wpAnyH_take (i := 21) (v := ?va21) rfl (by kernel_rfl) (by kernel_rfl) (by kernel_rfl) (fun _ _ _ h => h) (Or.inl ⟨by rfl, ?hya21⟩) hHeld ?resta21
                case hya21 => intro w hSw; (try dsimp only at hSw); go_simp; try (with_reducible rfl)
                (try simp only [Act.put, List.setIfInBounds_toArray, List.set_cons_zero, List.set_cons_succ, List.getElem_toArray, List.getElem_cons_zero, List.getElem_cons_succ])
                refine wpAnyH_take (i := 22) (v := ?va22) rfl (by kernel_rfl) (by kernel_rfl) (by kernel_rfl) (fun _ _ _ h => h) (Or.inl ⟨by rfl, ?hya22⟩) hHeld ?resta22
                case hya22 => intro w hSw; (try dsimp only at hSw); go_simp; try (with_reducible rfl)
                (try simp only [Act.put, List.setIfInBounds_toArray, List.set_cons_zero, List.set_cons_succ, List.getElem_toArray, List.getElem_cons_zero, List.getElem_cons_succ])
                refine wpAnyH_take (i := 23) (v := ?va23) rfl (by kernel_rfl) (by kernel_rfl) (by kernel_rfl) (fun _ _ _ h => h) (Or.inl ⟨by rfl, ?hya23⟩) hHeld ?resta23
                case hya23 => intro w hSw; (try dsimp only at hSw); go_simp; try (with_reducible rfl)
                (try simp only [Act.put, List.setIfInBounds_toArray, List.set_cons_zero, List.set_cons_succ, List.getElem_toArray, List.getElem_cons_zero, List.getElem_cons_succ])
                refine wpAnyH_take (i := 24) (v := ?va24) rfl (by kernel_rfl) (by kernel_rfl) (by kernel_rfl) (fun _ _ _ h => h) (Or.inl ⟨by rfl, ?hya24⟩) hHeld ?resta24
                case hya24 => intro w hSw; (try dsimp only at hSw); go_simp; try (with_reducible rfl)
                (try simp only [Act.put, List.setIfInBounds_toArray, List.set_cons_zero, List.set_cons_succ, List.getElem_toArray, List.getElem_cons_zero, List.getElem_cons_succ])
                refine wpAnyH_take (i := 25) (v := ?va25) rfl (by kernel_rfl) (by kernel_rfl) (by kernel_rfl) (fun _ _ _ h => h) (Or.inl ⟨by rfl, ?hya25⟩) hHeld ?resta25
                case hya25 => intro w hSw; (try dsimp only at hSw); go_simp; try (with_reducible rfl)
                (try simp only [Act.put, List.setIfInBounds_toArray, List.set_cons_zero, List.set_cons_succ, List.getElem_toArray, List.getElem_cons_zero, List.getElem_cons_succ])
                refine wpAnyH_take (i := 26) (v := ?va26) rfl (by kernel_rfl) (by kernel_rfl) (by kernel_rfl) (fun _ _ _ h => h) (Or.inl ⟨by rfl, ?hya26⟩) hHeld ?resta26
                case hya26 => intro w hSw; (try dsimp only at hSw); go_simp; try (with_reducible rfl)
                (try simp only [Act.put, List.setIfInBounds_toArray, List.set_cons_zero, List.set_cons_succ, List.getElem_toArray, List.getElem_cons_zero, List.getElem_cons_succ])
                refine wpAnyH_done (by kernel_rfl) ?_ _
                refine NoPanic.normal ?_
                go_wp2_with fail
                go_meet
                exact ⟨rfl, HRE8.out, HF8.out⟩

              · refine wp_region_noPanic ?_
                refine wp_region_held_drew (S := (fun w' => w'.cell? ⟨b, o + j * 4 + 2, none⟩ = some (.int .u64 (x.X : Int)))) (by kernel_rfl) ?_ (fun hHeld => ?_)
                · exact h26
                refine wpAnyH_take (i := 0) (v := ?vb0) rfl (by kernel_rfl) (by kernel_rfl) (by kernel_rfl) (fun _ _ _ h => h) (Or.inl ⟨by rfl, ?hyb0⟩) hHeld ?restb0
                case hyb0 => intro w hSw; (try dsimp only at hSw); go_simp; try (with_reducible rfl)
                (try simp only [Act.put, List.setIfInBounds_toArray, List.set_cons_zero, List.set_cons_succ, List.getElem_toArray, List.getElem_cons_zero])
                refine wpAnyH_take (i := 1) (v := ?vb1) rfl (by kernel_rfl) (by kernel_rfl) (by kernel_rfl) (fun _ _ _ h => h) (Or.inl ⟨by rfl, ?hyb1⟩) hHeld ?restb1
                case hyb1 => intro w hSw; (try dsimp only at hSw); go_simp; try (with_reducible rfl)
                (try simp only [Act.put, List.setIfInBounds_toArray, List.set_cons_zero, List.set_cons_succ, List.getElem_toArray, List.getElem_cons_zero, List.getElem_cons_succ])
                refine wpAnyH_take (i := 2) (v := ?vb2) rfl (by kernel_rfl) (by kernel_rfl) (by kernel_rfl) (fun _ _ _ h => h) (Or.inl ⟨by rfl, ?hyb2⟩) hHeld ?restb2
                case hyb2 => intro w hSw; (try dsimp only at hSw); go_simp; try (with_reducible rfl)
                (try simp only [Act.put, List.setIfInBounds_toArray, List.set_cons_zero, List.set_cons_succ, List.getElem_toArray, List.getElem_cons_zero, List.getElem_cons_succ])
                refine wpAnyH_take (i := 3) (v := ?vb3) rfl (by kernel_rfl) (by kernel_rfl) (by kernel_rfl) (fun _ _ _ h => h) (Or.inl ⟨by rfl, ?hyb3⟩) hHeld ?restb3
                case hyb3 => intro w hSw; (try dsimp only at hSw); go_simp; try (with_reducible rfl)
                (try simp only [Act.put, List.setIfInBounds_toArray, List.set_cons_zero, List.set_cons_succ, List.getElem_toArray, List.getElem_cons_zero, List.getElem_cons_succ])
                refine wpAnyH_take (i := 4) (v := ?vb4) rfl (by kernel_rfl) (by kernel_rfl) (by kernel_rfl) (fun _ _ _ h => h) (Or.inl ⟨by rfl, ?hyb4⟩) hHeld ?restb4
                case hyb4 => intro w hSw; (try dsimp only at hSw); go_simp; try (with_reducible rfl)
                (try simp only [Act.put, List.setIfInBounds_toArray, List.set_cons_zero, List.set_cons_succ, List.getElem_toArray, List.getElem_cons_zero, List.getElem_cons_succ])
                refine wpAnyH_take (i := 7) (v := ?vb7) rfl (by kernel_rfl) (by kernel_rfl) (by kernel_rfl) (fun _ _ _ h => h) (Or.inl ⟨by rfl, ?hyb7⟩) hHeld ?restb7
                case hyb7 => intro w hSw; (try dsimp only at hSw); go_simp; try (with_reducible rfl)
                (try simp only [Act.put, List.setIfInBounds_toArray, List.set_cons_zero, List.set_cons_succ, List.getElem_toArray, List.getElem_cons_zero, List.getElem_cons_succ])
                refine wpAnyH_take (i := 8) (v := ?vb8) rfl (by kernel_rfl) (by kernel_rfl) (by kernel_rfl) (fun _ _ _ h => h) (Or.inl ⟨by rfl, ?hyb8⟩) hHeld ?restb8
                case hyb8 => intro w hSw; (try dsimp only at hSw); go_simp; try (with_reducible rfl)
                (try simp only [Act.put, List.setIfInBounds_toArray, List.set_cons_zero, List.set_cons_succ, List.getElem_toArray, List.getElem_cons_zero, List.getElem_cons_succ])
                refine wpAnyH_take (i := 9) (v := ?vb9) rfl (by kernel_rfl) (by kernel_rfl) (by kernel_rfl) (fun _ _ _ h => h) (Or.inl ⟨by rfl, ?hyb9⟩) hHeld ?restb9
                case hyb9 => intro w hSw; (try dsimp only at hSw); go_simp; try (with_reducible rfl)
                (try simp only [Act.put, List.setIfInBounds_toArray, List.set_cons_zero, List.set_cons_succ, List.getElem_toArray, List.getElem_cons_zero, List.getElem_cons_succ])
                refine wpAnyH_take (i := 10) (v := ?vb10) rfl (by kernel_rfl) (by kernel_rfl) (by kernel_rfl) (fun _ _ _ h => h) (Or.inl ⟨by rfl, ?hyb10⟩) hHeld ?restb10
                case hyb10 => intro w hSw; (try dsimp only at hSw); go_simp; try (with_reducible rfl)
                (try simp only [Act.put, List.setIfInBounds_toArray, List.set_cons_zero, List.set_cons_succ, List.getElem_toArray, List.getElem_cons_zero, List.getElem_cons_succ])
                refine wpAnyH_take (i := 11) (v := ?vb11) rfl (by kernel_rfl) (by kernel_rfl) (by kernel_rfl) (fun _ _ _ h => h) (Or.inl ⟨by rfl, ?hyb11⟩) hHeld ?restb11
                case hyb11 => intro w hSw; (try dsimp only at hSw); go_simp; try (with_reducible rfl)
                (try simp only [Act.put, List.setIfInBounds_toArray, List.set_cons_zero, List.set_cons_succ, List.getElem_toArray, List.getElem_cons_zero, List.getElem_cons_succ])
                refine wpAnyH_take (i := 12) (v := ?vb12) rfl (by kernel_rfl) (by kernel_rfl) (by kernel_rfl) (fun _ _ _ h => h) (Or.inl ⟨by rfl, ?hyb12⟩) hHeld ?restb12
                case hyb12 => intro w hSw; (try dsimp only at hSw); go_simp; try (with_reducible rfl)
                (try simp only [Act.put, List.setIfInBounds_toArray, List.set_cons_zero, List.set_cons_succ, List.getElem_toArray, List.getElem_cons_zero, List.getElem_cons_succ])
                refine wpAnyH_ready (rs := [5]) (by kernel_rfl) (by simp) ?_
                refine AllReadyH.cons rfl (fun Kx hKx => ?_) AllReadyH.nil
                go_simp
                refine HLOW1.out.mono ?_
                rintro e w7 ⟨A7, c7, rfl, hown7, hfr7⟩
                have hk7 : w7.cell? ⟨b, o + j * 4 + 2, none⟩ = some (.int .u64 (x.X : Int)) := hfr7.cell (w := w6.drew) h26 (fun h => h)
                have HRE7 := Lib.hid (HRE6.out.drew.fr hfr7 (fun h => h) (fun _ _ h => h))
                have HF7 := Lib.hid (hfr46.drew.trans hfr7 (fun _ _ h => h.elim))
                have hs7 := low_str hown7
                have hlow2 := low_any x.X (K : Int) w7 hX (by omega) (by omega)
                rw [HM64.out] at hlow2
                have HLOW2 := Lib.hid hlow2
                have HOW7 := Lib.hid hown7
                clear hown7 hfr7 hlow2
                refine hKx.out _ _ ?_ (fun hHeld => ?_)
                · exact hk7
                clear hKx Kx
                (try simp only [Act.put, List.setIfInBounds_toArray, List.set_cons_zero, List.set_cons_succ, List.getElem_toArray, List.getElem_cons_zero, List.getElem_cons_succ])
                refine wpAnyH_more (fun w' => w'.cell? ⟨b, o + j * 4 + 2, none⟩ = some (.int .u64 (x.X : Int)) ∧ (convert 25 9 (.slice A7 K c7)).run Try.prog w' = .ok (.string (ltxt x.X K)) w') (fun _ h => h.1) ?_ (fun hHeld => ?_)
                · exact ⟨hk7, hs7⟩
                refine wpAnyH_take (i := 6) (v := ?vb6) rfl (by kernel_rfl) (by kernel_rfl) (by kernel_rfl) (fun _ _ _ h => h) (Or.inl ⟨by rfl, ?hyb6⟩) hHeld ?restb6
                case hyb6 => intro w hSw; (try dsimp only at hSw); go_simp; try (with_reducible rfl)
                (try simp only [Act.put, List.setIfInBounds_toArray, List.set_cons_zero, List.set_cons_succ, List.getElem_toArray, List.getElem_cons_zero, List.getElem_cons_succ])
                refine wpAnyH_ready (rs := [13]) (by kernel_rfl) (by simp) ?_
                refine AllReadyH.cons rfl (fun Kx hKx => ?_) AllReadyH.nil
                go_simp
                refine HLOW2.out.mono ?_
                rintro e w8 ⟨A8, c8, rfl, hown8, hfr8⟩
                have hk8 : w8.cell? ⟨b, o + j * 4 + 2, none⟩ = some (.int .u64 (x.X : Int)) := hfr8.cell hk7 (fun h => h)
                have HRE8 := Lib.hid (HRE7.out.fr hfr8 (fun h => h) (fun _ _ h => h))
                have HF8 := Lib.hid (HF7.out.trans hfr8 (fun _ _ h => h.elim))
                have hs8 := low_str hown8
                have hs9 := low_str (hfr8.own HOW7.out (fun _ _ h => h))
                clear hown8 hfr8
                refine hKx.out _ _ ?_ (fun hHeld => ?_)
                · exact ⟨hk8, hs9⟩
                clear hKx Kx
                (try simp only [Act.put, List.setIfInBounds_toArray, List.set_cons_zero, List.set_cons_succ, List.getElem_toArray, List.getElem_cons_zero, List.getElem_cons_succ])
                refine wpAnyH_ready (rs := [14]) (by kernel_rfl) (by simp) ?_
                refine AllReadyH.cons rfl (fun Kx hKx => ?_) AllReadyH.nil
                go_simp
                refine hKx.out _ _ ?_ (fun hHeld => ?_)
                · exact ⟨hk8, hs9⟩
                clear hKx Kx
                (try simp only [Act.put, List.setIfInBounds_toArray, List.set_cons_zero, List.set_cons_succ, List.getElem_toArray, List.getElem_cons_zero, List.getElem_cons_succ])
                refine wpAnyH_take (i := 15) (v := ?vb15) rfl (by kernel_rfl) (by kernel_rfl) (by kernel_rfl) (fun _ _ _ h => h) (Or.inl ⟨by rfl, ?hyb15⟩) hHeld ?restb15
                case hyb15 => intro w hSw; (try dsimp only at hSw); go_simp; try (with_reducible rfl)
                (try simp only [Act.put, List.setIfInBounds_toArray, List.set_cons_zero, List.set_cons_succ, List.getElem_toArray, List.getElem_cons_zero, List.getElem_cons_succ])
                refine wpAnyH_take (i := 16) (v := ?vb16) rfl (by kernel_rfl) (by kernel_rfl) (by kernel_rfl) (fun _ _ _ h => h) (Or.inl ⟨by rfl, ?hyb16⟩) hHeld ?restb16
                case hyb16 => intro w hSw; (try dsimp only at hSw); go_simp; try (with_reducible rfl)
                (try simp only [Act.put, List.setIfInBounds_toArray, List.set_cons_zero, List.set_cons_succ, List.getElem_toArray, List.getElem_cons_zero, List.getElem_cons_succ])
                refine wpAnyH_take (i := 17) (v := ?vb17) rfl (by kernel_rfl) (by kernel_rfl) (by kernel_rfl) (fun _ _ _ h => h) (Or.inl ⟨by rfl, ?hyb17⟩) hHeld ?restb17
                case hyb17 => intro w hSw; (try dsimp only at hSw); go_simp; try (with_reducible rfl)
                (try simp only [Act.put, List.setIfInBounds_toArray, List.set_cons_zero, List.set_cons_succ, List.getElem_toArray, List.getElem_cons_zero, List.getElem_cons_succ])
                refine wpAnyH_take (i := 18) (v := ?vb18) rfl (by kernel_rfl) (by kernel_rfl) (by kernel_rfl) (fun _ _ _ h => h) (Or.inl ⟨by rfl, ?hyb18⟩) hHeld ?restb18
                case hyb18 => intro w hSw; (try dsimp only at hSw); go_simp; try (with_reducible rfl)
                (try simp only [Act.put, List.setIfInBounds_toArray, List.set_cons_zero, List.set_cons_succ, List.getElem_toArray, List.getElem_cons_zero, List.getElem_cons_succ])
                refine wpAnyH_take (i := 19) (v := ?vb19) rfl (by kernel_rfl) (by kernel_rfl) (by kernel_rfl) (fun _ _ _ h => h) (Or.inl ⟨by rfl, ?hyb19⟩) hHeld ?restb19
                case hyb19 => intro w hSw; (try dsimp only at hSw); go_simp; try (with_reducible rfl)
                (try simp only [Act.put, List.setIfInBounds_toArray, List.set_cons_zero, List.set_cons_succ, List.getElem_toArray, List.getElem_cons_zero, List.getElem_cons_succ])
                refine wpAnyH_take (i := 20) (v := ?vb20) rfl (by kernel_rfl) (by kernel_rfl) (by kernel_rfl) (fun _ _ _ h => h) (Or.inl ⟨by rfl, ?hyb20⟩) hHeld ?restb20
                case hyb20 => intro w hSw; (try dsimp only at hSw); go_simp; try (with_reducible rfl)
                (try simp only [Act.put, List.setIfInBounds_toArray, List.set_cons_zero, List.set_cons_succ, List.getElem_toArray, List.getElem_cons_zero, List.getElem_cons_succ])
                refine wpAnyH_take (i := 21) (v := undef) rfl (by kernel_rfl) (by kernel_rfl) (by kernel_rfl) (fun _ _ _ h => h) (Or.inr ⟨by rfl, rfl⟩) hHeld ?_
                (try simp only [Act.put, List.setIfInBounds_toArray, List.set_cons_zero, List.set_cons_succ, List.getElem_toArray, List.getElem_cons_zero, List.getElem_cons_succ])
                refine wpAnyH_take (i := 22) (v := undef) rfl (by kernel_rfl) (by kernel_rfl) (by kernel_rfl) (fun _ _ _ h => h) (Or.inr ⟨by rfl, rfl⟩) hHeld ?_
                (try simp only [Act.put, List.setIfInBounds_toArray, List.set_cons_zero, List.set_cons_succ, List.getElem_toArray, List.getElem_cons_zero, List.getElem_cons_succ])
                refine wpAnyH_take (i := 23) (v := undef) rfl (by kernel_rfl) (by kernel_rfl) (by kernel_rfl) (fun _ _ _ h => h) (Or.inr ⟨by rfl, rfl⟩) hHeld ?_
                (try simp only [Act.put, List.setIfInBounds_toArray, List.set_cons_zero, List.set_cons_succ, List.getElem_toArray, List.getElem_cons_zero, List.getElem_cons_succ])
                refine wpAnyH_take (i := 24) (v := undef) rfl (by kernel_rfl) (by kernel_rfl) (by kernel_rfl) (fun _ _ _ h => h) (Or.inr ⟨by rfl, rfl⟩) hHeld ?_
                (try simp only [Act.put, List.setIfInBounds_toArray, List.set_cons_zero, List.set_cons_succ, List.getElem_toArray, List.getElem_cons_zero, List.getElem_cons_succ])
                refine wpAnyH_take (i := 25) (v := ?vb25) rfl (by kernel_rfl) (by kernel_rfl) (by kernel_rfl) (fun _ _ _ h => h) (Or.inl ⟨by rfl, ?hyb25⟩) hHeld ?restb25
                case hyb25 => intro w hSw; (try dsimp only at hSw); go_simp; try (with_reducible rfl)
                (try simp only [Act.put, List.setIfInBounds_toArray, List.set_cons_zero, List.set_cons_succ, List.getElem_toArray, List.getElem_cons_zero, List.getElem_cons_succ])
                refine wpAnyH_take (i := 26) (v := ?vb26) rfl (by kernel_rfl) (by kernel_rfl) (by kernel_rfl) (fun _ _ _ h => h) (Or.inl ⟨by rfl, ?hyb26⟩) hHeld ?restb26
                case hyb26 => intro w hSw; (try dsimp only at hSw); go_simp; try (with_reducible rfl)
                (try simp only [Act.put, List.setIfInBounds_toArray, List.set_cons_zero, List.set_cons_succ, List.getElem_toArray, List.getElem_cons_zero, List.getElem_cons_succ])
                refine wpAnyH_done (by kernel_rfl) ?_ _
                refine NoPanic.normal ?_
                go_wp2_with fail
                go_meet
                exact ⟨rfl, HRE8.out, HF8.out⟩

            case rest =>
              obtain ⟨rfl, hre8, hf8⟩ := hcut
              have HRE8 := Lib.hid hre8
              have HF8 := Lib.hid hf8
              have hfw8 := hfw4.trans hf8 (fun b hb h => by omega)
              have h08 := (HAT.out.fr hfw8).c0
              have h38 := (HAT.out.fr hfw8).c3
              clear hre8 hf8 hfr46 hfw6 h26
              by_cases hd3 : x.d % 4 = 3
              · have hb3 : ((x.d : Int) % 4 == 3) = true := by simp; omega
                obtain ⟨Mx, hMx⟩ : ∃ Mx, Mx = lay (l.take j) ++ low x.X K := ⟨_, rfl⟩
                have hMl : Mx.length = p + K := by rw [hMx, List.length_append, low_length, ← Hp.out]
                have hstepj : lay (l.take (j + 1)) = full Mx ++ bitsOf x.B := by rw [lay_take HX.out, hMx]; unfold step; rw [if_pos hd3, ← HK.out]
                have hpre2 : full Mx ++ bitsOf x.B <+: L := by rw [← hstepj, HLL.out]; exact lay_pre l (j + 1)
                have hfl : (full Mx).length = ends (p + K) := by rw [full_length, hMl]; rfl
                have hlen2 := hpre2.length_le
                rw [List.length_append, bitsOf_length, hfl, HXB.out] at hlen2
                have hraw := raw_lay (full_mod Mx) hpre2
                rw [hfl, ← HP.out, HXB.out] at hraw
                have hok2 := rraw_ok r c4 (p + K) A4 P x.n _ HRE8.out hPl (by omega)
                rw [hraw] at hok2
                have hnl : ends (p + K) + 8 * x.n = (lay (l.take (j + 1))).length := by rw [hstepj, List.length_append, bitsOf_length, hfl, HXB.out]
                obtain ⟨q, hq⟩ : ∃ q, q = ends (p + K) + 8 * x.n := ⟨_, rfl⟩
                rw [← hq] at hok2 hnl
                have HOK2 := Lib.hid hok2
                have HNL := Lib.hid hnl
                clear hMx hMl hstepj hpre2 hfl hlen2 hraw hok2 hnl hq
                have hxnc := HAT.out.nc
                have hxcm := HAT.out.cm
                unfold maxLen at hxcm
                go_wp2_with fail
                refine HOK2.out.mono ?_
                rintro e w9 ⟨A9, c9, rfl, hown9, hre9, hfr9⟩
                have HRE9 := Lib.hid hre9
                have hf9 := HF8.out.trans hfr9 (fun _ _ h => h)
                have hfw9 := hfw4.trans hf9 (fun b hb h => by omega)
                have h39 := (HAT.out.fr hfw9).c3
                have hr9 := (HAT.out.fr hfw9).r
                have HF9 := Lib.hid hf9
                have hcv1 : (convert 25 9 (.slice A9 x.n c9)).run Try.prog w9.drew = .ok (.string ⟨x.B.toArray⟩) w9.drew := run_str (Rd.of_own hown9).drew 25 9 5 Try.underlying25 Try.underlying5 Try.underlying9 c9
                have hcv2 : (convert 25 9 (.slice x.A x.n x.c)).run Try.prog w9.drew = .ok (.string ⟨x.B.toArray⟩) w9.drew := run_str hr9.drew 25 9 5 Try.underlying25 Try.underlying5 Try.underlying9 x.c
                obtain ⟨T, hT⟩ : ∃ T : ByteArray, T = ⟨x.B.toArray⟩ := ⟨_, rfl⟩
                rw [← hT] at hcv1 hcv2
                clear hre9 hfr9 hown9 hr9 hf9 hfw9 h08 h38 hT HOK2
                go_wp2_with fail
                go_still (by kernel_rfl)
                go_wp2_with fail
                go_roundw
                case rel => exact ⟨j + 1, q, by omega, by go_num, HRE9.out.drew, HNL.out, HF9.out.drew⟩
                case measure => simp [intOf] <;> omega
              · have hb3 : ((x.d : Int) % 4 == 3) = false := by simp; omega
                have hnl : p + K = (lay (l.take (j + 1))).length := by rw [lay_take HX.out]; unfold step; rw [if_neg hd3, ← HK.out, List.length_append, low_length, ← Hp.out]
                have HNL := Lib.hid hnl
                clear hnl
                go_wp2_with fail
                go_roundw
                case rel => exact ⟨j + 1, p + K, by omega, by go_num, HRE8.out, HNL.out, HF8.out⟩
                case measure => simp [intOf] <;> omega
          · obtain rfl : j = k := by omega
            have hpL : p = L.length := by rw [Hp.out, HLL.out, List.take_of_length_le (by have := HLN.out; omega)]
            have hal := ralign_any r c4 p A4 P _ HRE.out hPl
            have hends : ends p = 8 * P.length := by rw [ends_eq, hpL, HP.out, pack_length]; omega
            have hcut0 : num (cut P p (lack p)) = 0 := by
              unfold cut
              rw [HP.out, bitsOf_pack, hpL]
              unfold full
              rw [List.drop_left, List.take_replicate, num_replicate]
            rw [hcut0, hends] at hal
            have HAL := Lib.hid hal
            clear hpL hal hends hcut0
            go_wp2_with fail
            refine HAL.out.mono ?_
            rintro e w6 ⟨rfl, hre6, hfr6⟩
            have hfw6 := hfw5.trans hfr6 (fun b hb h => by omega)
            have hle := left_any r c4 (8 * P.length) A4 P _ hre6 hPl
            rw [Nat.sub_self] at hle
            have HLE := Lib.hid hle
            clear hle hre6
            go_wp2_with fail
            refine HLE.out.mono ?_
            rintro e w7 ⟨rfl, rfl⟩
            go_wp2
            go_ret
            exact ⟨rfl, hfw6.drew⟩
end Go.Proofs.Ytgoijbolokdbmaa
