/-
  Layer 11, the program: a reader's run of unlike cells (written by gen11.py out of rleO.src).
-/
import Derived.Test.YtmdobloncbljeaaRleN
namespace Go.Proofs.Ytmdobloncbljeaa
open Go.RowKit Mem Go.Lib RleM LebM
attribute [local go_sem ↓] Go.wp_at_zero Go.wp_at_succ
set_option linter.unusedVariables false

set_option maxRecDepth 100000 in
set_option maxHeartbeats 1600000 in
theorem unlikeS_any (base g : Nat) (most : Int) (n : Nat) (r : Rs (Bool × Int)) (w : World) (hR : RdS w base g most r) (hI : Inv okS r) (hn : n < 18446744073709551616) (hm0 : -9223372036854775808 ≤ most) (hm1 : most ≤ 1000000) :
    Calls Try.prog 43 #[.pointer (some ⟨g, 0, none⟩), .int .u64 (n : Int)] w fun e w' => Fr (fun k => base ≤ k) w w' ∧ EndsS base g most (unlikeG kS most n r) e w' := by
  have hlen := hI.len
  have hcnt := hI.cnt
  have hbg := hR.base
  have HBG := Lib.hid hbg
  have hft := fitsC_any g r.count n most w hR.cells.1 hR.cells.2.1 (by omega) hm0 (by omega) (by omega)
  obtain ⟨RES, hRES⟩ : ∃ R, R = unlikeG kS most n r := ⟨_, rfl⟩
  rw [← hRES]
  unfold unlikeG at hRES
  obtain ⟨Q, hQ⟩ : ∃ Q, decide ((r.count : Int) + (n : Nat) ≤ most) = Q := ⟨_, rfl⟩
  rw [hQ] at hft
  have HFT := Lib.hid hft
  have HR := Lib.hid hR
  have HI := Lib.hid hI
  have HQ := Lib.hid hQ
  clear hft hR hI hQ hbg
  cases Q with
  | false =>
    have hfit : ¬ (r.count : Int) + (n : Nat) ≤ most := of_decide_eq_false HQ.out
    rw [if_neg hfit] at hRES
    have HRES := Lib.hid hRES
    clear hRES hfit
    go_enter Try.func43, Try.ntmps43
    go_wp2_with fail
    refine HFT.out.mono ?_
    rintro e w3 ⟨rfl, hf3⟩
    have HF3 : Hid (Fr (fun k => base ≤ k) w w3) := Lib.hid (Fr.up0 hf3)
    clear hf3 HFT
    go_wp2_with fail
    go_ret
    rw [HRES.out]
    exact ⟨HF3.out, rfl, by decide⟩
  | true =>
    have hfit : (r.count : Int) + (n : Nat) ≤ most := of_decide_eq_true HQ.out
    rw [if_pos hfit] at hRES
    have hN6 : r.count + n ≤ 1000000 := by omega
    have hn6 : n ≤ 1000000 := by omega
    have HRES := Lib.hid hRES
    have HN6 := Lib.hid hN6
    clear hRES hfit hN6 hlen hcnt
    go_enter Try.func43, Try.ntmps43
    go_wp2_with fail
    refine HFT.out.mono ?_
    rintro e w2 ⟨rfl, hf2⟩
    have HR2 := Lib.hid (HR.out.fr hf2)
    have HF2 : Hid (Fr (fun k => base ≤ k) w w2) := Lib.hid (Fr.up0 hf2)
    clear hf2 HFT
    go_wp2_with fail
    go_loopw [12] (fun v wr => ∃ (j : Nat) (r' : Rs (Bool × Int)), j ≤ n ∧ v = .int .u64 (j : Int) ∧ Hid (RdS wr base g most r') ∧ Hid (Inv okS r') ∧ Hid (manyG kS (n - j) r' = RES) ∧ Hid (r'.count + (n - j) ≤ 1000000) ∧ Hid (Fr (fun k => base ≤ k) w wr)) (fun v _ => n - (intOf v).toNat)
    case atStart => exact ⟨0, r, Nat.zero_le _, rfl, HR2.out, HI.out, HRES.out.symm, HN6.out, HF2.out⟩
    case round =>
      obtain ⟨j, ⟨left, gs, cnt⟩, hj, rfl, HR3, HI3, HE3, HN3, HF3⟩ := hrel
      rename World => w3
      by_cases hlt : j < n
      · have hlen := HI3.out.len
        have hcnt := HI3.out.cnt
        have hN3 := HN3.out
        have hres := HE3.out
        obtain ⟨m, hm⟩ : ∃ m, m = n - (j + 1) := ⟨_, rfl⟩
        rw [show n - j = m + 1 by omega] at hres hN3
        rw [manyG] at hres
        simp only at hlen hcnt hN3 hres
        have hbd := getS_bd left
        have hpos := getS_pos (B := left)
        obtain ⟨i, hi⟩ : ∃ i, i = (kS.get left).1.1 := ⟨_, rfl⟩
        obtain ⟨x, hx⟩ : ∃ x, x = (kS.get left).1.2 := ⟨_, rfl⟩
        obtain ⟨k, hk⟩ : ∃ k, k = (kS.get left).2.1 := ⟨_, rfl⟩
        obtain ⟨E, hE⟩ : ∃ E, E = (kS.get left).2.2 := ⟨_, rfl⟩
        have hix : (kS.get left).1 = (i, x) := by rw [hi, hx]
        rw [hix, ← hk, ← hE] at hres
        rw [hix, ← hk, ← hE] at hbd
        rw [← hk, ← hE] at hpos
        have htk : ∀ w', RdS w' base g most ⟨left, gs, cnt⟩ → Calls Try.prog 48 #[.pointer (some ⟨g, 2, none⟩), .func (.func 31) #[] #[]] w' fun e w'' => e = .returned (.tuple #[.agg #[.bool i, (.int .i64 x)], .int .i64 (E : Int)]) ∧ RdS w'' base g most ⟨left.drop k, gs, cnt⟩ ∧ Fr (fun b => b = g) w' w'' := by
          intro w' h'
          have h := tookS_any base g most left gs cnt w' h' (by omega)
          rw [← hi, ← hx, ← hk, ← hE] at h
          exact h
        have HTK := Lib.hid htk
        have HRES2 := Lib.hid hres
        have HPOS := Lib.hid hpos
        have HBD := Lib.hid hbd
        have HM := Lib.hid hm
        have HC3 := Lib.hid (And.intro hlen (And.intro hcnt hN3))
        have j1 : w3.cell? ⟨g, 1, none⟩ = some fgS := HR3.out.cells.2.2.2
        unfold fgS at j1
        clear hi hx hk hE hix hres hpos hbd htk hm hlen hcnt hN3
        go_upto_region 5 with fail
        go_cut [5, 6] (fun a b wx => ∃ pb, a = .pointer (some ⟨pb, 0, none⟩) ∧ b = .int .i64 (E : Int) ∧ Row wx pb 30 [.bool i, (.int .i64 x)] ∧ RdS wx base g most ⟨left.drop k, gs, cnt⟩ ∧ Fr (fun k => base ≤ k) w wx)
        case first =>
          refine wp_region_noPanic ?_
          refine wp_region_held_drew (S := fun w' => w'.cell? ⟨g, 1, none⟩ = some (.func (.func 31) #[] #[])) (by kernel_rfl) ?_ (fun hHeld => ?_)
          · exact j1
          refine wpAnyH_take (i := 0) (v := ?vb10) rfl (by kernel_rfl) (by kernel_rfl) (by kernel_rfl) (fun _ _ _ h => h) (Or.inl ⟨by rfl, ?hyb10⟩) hHeld ?restb10
          case hyb10 => intro w hSw; (try dsimp only at hSw); go_simp; try (with_reducible rfl)
          (try simp only [Act.put, List.setIfInBounds_toArray, List.set_cons_zero, List.set_cons_succ, List.getElem_toArray, List.getElem_cons_zero])
          refine wpAnyH_take (i := 1) (v := ?vb11) rfl (by kernel_rfl) (by kernel_rfl) (by kernel_rfl) (fun _ _ _ h => h) (Or.inl ⟨by rfl, ?hyb11⟩) hHeld ?restb11
          case hyb11 => intro w hSw; (try dsimp only at hSw); go_simp; try (with_reducible rfl)
          (try simp only [Act.put, List.setIfInBounds_toArray, List.set_cons_zero, List.set_cons_succ, List.getElem_toArray, List.getElem_cons_zero, List.getElem_cons_succ])
          refine wpAnyH_take (i := 2) (v := ?vb12) rfl (by kernel_rfl) (by kernel_rfl) (by kernel_rfl) (fun _ _ _ h => h) (Or.inl ⟨by rfl, ?hyb12⟩) hHeld ?restb12
          case hyb12 => intro w hSw; (try dsimp only at hSw); go_simp; try (with_reducible rfl)
          (try simp only [Act.put, List.setIfInBounds_toArray, List.set_cons_zero, List.set_cons_succ, List.getElem_toArray, List.getElem_cons_zero, List.getElem_cons_succ])
          refine wpAnyH_take (i := 3) (v := ?vb13) rfl (by kernel_rfl) (by kernel_rfl) (by kernel_rfl) (fun _ _ _ h => h) (Or.inl ⟨by rfl, ?hyb13⟩) hHeld ?restb13
          case hyb13 => intro w hSw; (try dsimp only at hSw); go_simp; try (with_reducible rfl)
          (try simp only [Act.put, List.setIfInBounds_toArray, List.set_cons_zero, List.set_cons_succ, List.getElem_toArray, List.getElem_cons_zero, List.getElem_cons_succ])
          refine wpAnyH_take (i := 4) (v := ?vb14) rfl (by kernel_rfl) (by kernel_rfl) (by kernel_rfl) (fun _ _ _ h => h) (Or.inl ⟨by rfl, ?hyb14⟩) hHeld ?restb14
          case hyb14 => intro w hSw; (try dsimp only at hSw); go_simp; try (with_reducible rfl)
          (try simp only [Act.put, List.setIfInBounds_toArray, List.set_cons_zero, List.set_cons_succ, List.getElem_toArray, List.getElem_cons_zero, List.getElem_cons_succ])
          refine wpAnyH_take (i := 5) (v := ?vb15) rfl (by kernel_rfl) (by kernel_rfl) (by kernel_rfl) (fun _ _ _ h => h) (Or.inl ⟨by rfl, ?hyb15⟩) hHeld ?restb15
          case hyb15 => intro w hSw; (try dsimp only at hSw); go_simp; try (with_reducible rfl)
          (try simp only [Act.put, List.setIfInBounds_toArray, List.set_cons_zero, List.set_cons_succ, List.getElem_toArray, List.getElem_cons_zero, List.getElem_cons_succ])
          refine wpAnyH_take (i := 6) (v := ?vb16) rfl (by kernel_rfl) (by kernel_rfl) (by kernel_rfl) (fun _ _ _ h => h) (Or.inl ⟨by rfl, ?hyb16⟩) hHeld ?restb16
          case hyb16 => intro w hSw; (try dsimp only at hSw); go_simp; try (with_reducible rfl)
          (try simp only [Act.put, List.setIfInBounds_toArray, List.set_cons_zero, List.set_cons_succ, List.getElem_toArray, List.getElem_cons_zero, List.getElem_cons_succ])
          refine wpAnyH_take (i := 7) (v := ?vb17) rfl (by kernel_rfl) (by kernel_rfl) (by kernel_rfl) (fun _ _ _ h => h) (Or.inl ⟨by rfl, ?hyb17⟩) hHeld ?restb17
          case hyb17 => intro w hSw; (try dsimp only at hSw); go_simp; try (with_reducible rfl)
          (try simp only [Act.put, List.setIfInBounds_toArray, List.set_cons_zero, List.set_cons_succ, List.getElem_toArray, List.getElem_cons_zero, List.getElem_cons_succ])
          refine wpAnyH_ready (rs := [8, 12]) (by kernel_rfl) (by simp) ?_
          refine AllReadyH.cons rfl (fun Kx hKx => ?_) ?_
          · go_simp
            refine (HTK.out w3.drew (HR3.out.fr (Fr.refl _ _).drew)).mono ?_
            rintro e w5 ⟨rfl, hR5, hf5⟩
            have HR5 := Lib.hid hR5
            have HF5 := Lib.hid (HF3.out.drew.trans (Fr.up hf5 HBG.out) (fun _ _ h => h))
            clear hR5 hf5
            refine hKx.out _ _ ?_ (fun hHeld => ?_)
            · exact HR5.out.cells.2.2.2
            clear hKx Kx
            (try simp only [Act.put, List.setIfInBounds_toArray, List.set_cons_zero, List.set_cons_succ, List.getElem_toArray, List.getElem_cons_zero, List.getElem_cons_succ])
            refine wpAnyH_take (i := 9) (v := ?vc19) rfl (by kernel_rfl) (by kernel_rfl) (by kernel_rfl) (fun _ _ _ h => h) (Or.inl ⟨by rfl, ?hyc19⟩) hHeld ?restc19
            case hyc19 => intro w hSw; (try dsimp only at hSw); go_simp; try (with_reducible rfl)
            (try simp only [Act.put, List.setIfInBounds_toArray, List.set_cons_zero, List.set_cons_succ, List.getElem_toArray, List.getElem_cons_zero, List.getElem_cons_succ])
            refine wpAnyH_take (i := 10) (v := ?vc110) rfl (by kernel_rfl) (by kernel_rfl) (by kernel_rfl) (fun _ _ _ h => h) (Or.inl ⟨by rfl, ?hyc110⟩) hHeld ?restc110
            case hyc110 => intro w hSw; (try dsimp only at hSw); go_simp; try (with_reducible rfl)
            (try simp only [Act.put, List.setIfInBounds_toArray, List.set_cons_zero, List.set_cons_succ, List.getElem_toArray, List.getElem_cons_zero, List.getElem_cons_succ])
            refine wpAnyH_take (i := 11) (v := ?vc111) rfl (by kernel_rfl) (by kernel_rfl) (by kernel_rfl) (fun _ _ _ h => h) (Or.inl ⟨by rfl, ?hyc111⟩) hHeld ?restc111
            case hyc111 => intro w hSw; (try dsimp only at hSw); go_simp; try (with_reducible rfl)
            (try simp only [Act.put, List.setIfInBounds_toArray, List.set_cons_zero, List.set_cons_succ, List.getElem_toArray, List.getElem_cons_zero, List.getElem_cons_succ])
            refine wpAnyH_ready (rs := [12]) (by kernel_rfl) (by simp) ?_
            refine AllReadyH.cons rfl (fun Kx hKx => ?_) AllReadyH.nil
            go_simp
            obtain ⟨w4, hwa⟩ : ∃ y, (w5.alloc (.cells #[.bool false, (.int .i64 0)] 30)) = y := ⟨_, rfl⟩
            rw [hwa]
            obtain ⟨pb, hpb⟩ : ∃ p, w5.heap.size = p := ⟨_, rfl⟩
            try rw [hpb]
            have hfa : Fr (fun _ => False) w5 w4 := by rw [← hwa]; exact (Fr.refl _ _).alloc _
            have hpa : Row w4 pb 30 [.bool false, (.int .i64 0)] := by rw [← hwa, ← hpb]; exact Row.new w5 _ _
            have HPG : Hid (base ≤ pb ∧ pb ≠ g) := Lib.hid (by have h1 := HR5.out.lt; have h2 := HBG.out; omega)
            have HRa := Lib.hid (HR5.out.fr hfa)
            have HFa := Lib.hid (HF5.out.trans (Fr.up0 hfa) (fun _ _ h => h))
            have HPa := Lib.hid hpa
            clear hwa hpb hfa hpa
            have HR4 := HRa
            have HF4 := HFa
            have HP4 := HPa
            have z0 : w4.frozen? ⟨pb, 0, none⟩ = false := HPa.out.free 0
            have z1 : w4.frozen? ⟨pb, 1, none⟩ = false := HPa.out.free 1
            have y0 : w4.cell? ⟨pb, 0, none⟩ = some (.bool false) := HPa.out.cell rfl
            have y1 : w4.cell? ⟨pb, 1, none⟩ = some (.int .i64 0) := HPa.out.cell rfl
            refine hKx.out _ _ ?_ (fun hHeld => ?_)
            · exact HR4.out.cells.2.2.2
            clear hKx Kx
            (try simp only [Act.put, List.setIfInBounds_toArray, List.set_cons_zero, List.set_cons_succ, List.getElem_toArray, List.getElem_cons_zero, List.getElem_cons_succ])
            refine wpAnyH_ready (rs := [13]) (by kernel_rfl) (by simp) ?_
            refine AllReadyH.cons rfl (fun Kx hKx => ?_) AllReadyH.nil
            go_simp
            refine hKx.out _ _ ?_ (fun hHeld => ?_)
            · exact (HR4.out.other2 HP4.out HPG.out (by decide)).cells.2.2.2
            clear hKx Kx
            (try simp only [Act.put, List.setIfInBounds_toArray, List.set_cons_zero, List.set_cons_succ, List.getElem_toArray, List.getElem_cons_zero, List.getElem_cons_succ])
            refine wpAnyH_ready (rs := [14]) (by kernel_rfl) (by simp) ?_
            refine AllReadyH.cons rfl (fun Kx hKx => ?_) AllReadyH.nil
            go_simp
            refine hKx.out _ _ ?_ (fun hHeld => ?_)
            · exact (HR4.out.other2 HP4.out HPG.out (by decide)).cells.2.2.2
            clear hKx Kx
            (try simp only [Act.put, List.setIfInBounds_toArray, List.set_cons_zero, List.set_cons_succ, List.getElem_toArray, List.getElem_cons_zero, List.getElem_cons_succ])
            refine wpAnyH_done (by kernel_rfl) ?_ _
            refine NoPanic.normal ?_
            all_goals (go_wp2_with fail; go_meet; exact ⟨pb, rfl, rfl, (HP4.out.set 0 _).set 1 _, HR4.out.other2 HP4.out HPG.out (by decide), HF4.out.trans ((Fr.set1 w4 pb 0 _).trans (Fr.set1 _ pb 1 _) (fun _ _ h => h)) (fun b _ h => by have := HPG.out.1; omega)⟩)
          refine AllReadyH.cons rfl (fun Kx hKx => ?_) AllReadyH.nil
          go_simp
          obtain ⟨wa, hwa⟩ : ∃ y, (w3.alloc (.cells #[.bool false, (.int .i64 0)] 30)).drew = y := ⟨_, rfl⟩
          rw [hwa]
          obtain ⟨pb, hpb⟩ : ∃ p, w3.heap.size = p := ⟨_, rfl⟩
          try rw [hpb]
          have hfa : Fr (fun _ => False) w3 wa := by rw [← hwa]; exact ((Fr.refl _ _).alloc _).drew
          have hpa : Row wa pb 30 [.bool false, (.int .i64 0)] := by rw [← hwa, ← hpb]; exact Row.new w3 _ _
          have HPG : Hid (base ≤ pb ∧ pb ≠ g) := Lib.hid (by have h1 := HR3.out.lt; have h2 := HBG.out; omega)
          have HRa := Lib.hid (HR3.out.fr hfa)
          have HFa := Lib.hid (HF3.out.trans (Fr.up0 hfa) (fun _ _ h => h))
          have HPa := Lib.hid hpa
          clear hwa hpb hfa hpa
          refine hKx.out _ _ ?_ (fun hHeld => ?_)
          · exact HRa.out.cells.2.2.2
          clear hKx Kx
          (try simp only [Act.put, List.setIfInBounds_toArray, List.set_cons_zero, List.set_cons_succ, List.getElem_toArray, List.getElem_cons_zero, List.getElem_cons_succ])
          refine wpAnyH_ready (rs := [8]) (by kernel_rfl) (by simp) ?_
          refine AllReadyH.cons rfl (fun Kx hKx => ?_) AllReadyH.nil
          go_simp
          refine (HTK.out wa HRa.out).mono ?_
          rintro e w4 ⟨rfl, hR4, hf4⟩
          have HR4 := Lib.hid hR4
          have HP4 := Lib.hid (HPa.out.fr hf4 HPG.out.2)
          have HF4 := Lib.hid (HFa.out.trans (Fr.up hf4 HBG.out) (fun _ _ h => h))
          clear hR4 hf4 HRa HFa HPa
          have z0 : w4.frozen? ⟨pb, 0, none⟩ = false := HP4.out.free 0
          have z1 : w4.frozen? ⟨pb, 1, none⟩ = false := HP4.out.free 1
          have y0 : w4.cell? ⟨pb, 0, none⟩ = some (.bool false) := HP4.out.cell rfl
          have y1 : w4.cell? ⟨pb, 1, none⟩ = some (.int .i64 0) := HP4.out.cell rfl
          refine hKx.out _ _ ?_ (fun hHeld => ?_)
          · exact HR4.out.cells.2.2.2
          clear hKx Kx
          (try simp only [Act.put, List.setIfInBounds_toArray, List.set_cons_zero, List.set_cons_succ, List.getElem_toArray, List.getElem_cons_zero, List.getElem_cons_succ])
          refine wpAnyH_take (i := 9) (v := ?vd19) rfl (by kernel_rfl) (by kernel_rfl) (by kernel_rfl) (fun _ _ _ h => h) (Or.inl ⟨by rfl, ?hyd19⟩) hHeld ?restd19
          case hyd19 => intro w hSw; (try dsimp only at hSw); go_simp; try (with_reducible rfl)
          (try simp only [Act.put, List.setIfInBounds_toArray, List.set_cons_zero, List.set_cons_succ, List.getElem_toArray, List.getElem_cons_zero, List.getElem_cons_succ])
          refine wpAnyH_take (i := 10) (v := ?vd110) rfl (by kernel_rfl) (by kernel_rfl) (by kernel_rfl) (fun _ _ _ h => h) (Or.inl ⟨by rfl, ?hyd110⟩) hHeld ?restd110
          case hyd110 => intro w hSw; (try dsimp only at hSw); go_simp; try (with_reducible rfl)
          (try simp only [Act.put, List.setIfInBounds_toArray, List.set_cons_zero, List.set_cons_succ, List.getElem_toArray, List.getElem_cons_zero, List.getElem_cons_succ])
          refine wpAnyH_take (i := 11) (v := ?vd111) rfl (by kernel_rfl) (by kernel_rfl) (by kernel_rfl) (fun _ _ _ h => h) (Or.inl ⟨by rfl, ?hyd111⟩) hHeld ?restd111
          case hyd111 => intro w hSw; (try dsimp only at hSw); go_simp; try (with_reducible rfl)
          (try simp only [Act.put, List.setIfInBounds_toArray, List.set_cons_zero, List.set_cons_succ, List.getElem_toArray, List.getElem_cons_zero, List.getElem_cons_succ])
          refine wpAnyH_ready (rs := [13]) (by kernel_rfl) (by simp) ?_
          refine AllReadyH.cons rfl (fun Kx hKx => ?_) AllReadyH.nil
          go_simp
          refine hKx.out _ _ ?_ (fun hHeld => ?_)
          · exact (HR4.out.other2 HP4.out HPG.out (by decide)).cells.2.2.2
          clear hKx Kx
          (try simp only [Act.put, List.setIfInBounds_toArray, List.set_cons_zero, List.set_cons_succ, List.getElem_toArray, List.getElem_cons_zero, List.getElem_cons_succ])
          refine wpAnyH_ready (rs := [14]) (by kernel_rfl) (by simp) ?_
          refine AllReadyH.cons rfl (fun Kx hKx => ?_) AllReadyH.nil
          go_simp
          refine hKx.out _ _ ?_ (fun hHeld => ?_)
          · exact (HR4.out.other2 HP4.out HPG.out (by decide)).cells.2.2.2
          clear hKx Kx
          (try simp only [Act.put, List.setIfInBounds_toArray, List.set_cons_zero, List.set_cons_succ, List.getElem_toArray, List.getElem_cons_zero, List.getElem_cons_succ])
          refine wpAnyH_done (by kernel_rfl) ?_ _
          refine NoPanic.normal ?_
          go_wp2_with fail
          go_meet
          exact ⟨pb, rfl, rfl, (HP4.out.set 0 _).set 1 _, HR4.out.other2 HP4.out HPG.out (by decide), HF4.out.trans ((Fr.set1 w4 pb 0 _).trans (Fr.set1 _ pb 1 _) (fun _ _ h => h)) (fun b _ h => by have := HPG.out.1; omega)⟩
        case rest =>
          obtain ⟨pb, rfl, rfl, hpb, hR4, hf4⟩ := hcut
          rename World => w4
          have p0 : w4.cell? ⟨pb, 0, none⟩ = some (.bool i) := hpb.cell rfl
          have p1 : w4.cell? ⟨pb, 1, none⟩ = some (.int .i64 x) := hpb.cell rfl
          have HR4 := Lib.hid hR4
          have HF4 := Lib.hid hf4
          have hres := HRES2.out
          clear hpb hR4 hf4 HTK HR3 HF3 j1
          by_cases he : E = 0
          · have t0 : ((E : Int) != 0) = false := by simp; omega
            have t0' : (E != 0) = false := by simp; omega
            rw [if_neg (by omega)] at hres
            have HX := Lib.hid hres
            have hI4 : Inv okS ⟨left.drop k, addG gs (i, x) 1, cnt + 1⟩ := HI3.out.add (by have h1 := HPOS.out he; have h2 := HBD.out.2.1; rw [List.length_drop]; omega) HBD.out.1 (by have := HC3.out; omega)
            have had := raddC_any fpS fgS base g most (left.drop k) gs cnt 1 i x w4 HR4.out HI3.out.small.1 (fun g hg => HI3.out.small.2 g hg 1 (by omega)) (by have := HC3.out; omega)
            have HAD := Lib.hid had
            have HI4 := Lib.hid hI4
            have HN4 : Hid (cnt + 1 + (n - (j + 1)) ≤ 1000000) := Lib.hid (by have h1 := HC3.out; have h2 := HM.out; omega)
            have HX2 : Hid (manyG kS (n - (j + 1)) ⟨left.drop k, addG gs (i, x) 1, cnt + 1⟩ = RES) := Lib.hid (by rw [← HM.out]; exact HX.out)
            clear he hres had hI4
            go_wp2_with fail
            refine HAD.out.mono ?_
            rintro e w5 ⟨rfl, hR5, hf5⟩
            have HR5 := Lib.hid hR5
            have HF5 := Lib.hid (HF4.out.trans hf5 (fun _ _ h => h))
            clear hR5 hf5 HAD
            go_wp2_with fail
            exact ⟨⟨j + 1, ⟨left.drop k, addG gs (i, x) 1, cnt + 1⟩, by omega, by go_num, HR5.out, HI4.out, HX2.out, HN4.out, HF5.out⟩, by simp [intOf]; omega⟩
          · have t0 : ((E : Int) != 0) = true := by simp; omega
            have t0' : (E != 0) = true := by simp; omega
            rw [if_pos he] at hres
            have HX := Lib.hid hres
            have HE := Lib.hid he
            clear he hres
            go_wp2_with fail
            go_ret
            rw [← HX.out]
            exact ⟨HF4.out, rfl, HE.out⟩
      · obtain rfl : j = n := by omega
        have hX : Except.ok ⟨left, gs, cnt⟩ = RES := by have h := HE3.out; rw [Nat.sub_self] at h; exact h
        have HX := Lib.hid hX
        clear hX
        go_wp2_with fail
        go_ret
        rw [← HX.out]
        exact ⟨HF3.out, rfl, HR3.out⟩

end Go.Proofs.Ytmdobloncbljeaa
