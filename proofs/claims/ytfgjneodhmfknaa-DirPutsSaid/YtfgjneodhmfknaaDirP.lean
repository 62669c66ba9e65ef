/-
  Layer 16's law DirPuts (written by gen_laws16.py).
-/
import Derived.Test.YtfgjneodhmfknaaDirK
import Derived.Test.YtfgjneodhmfknaaReg
import Derived.Deep.DeepCutAuto
import Derived.Deep.CutRange
namespace Go.Proofs.Ytfgjneodhmfknaa
open Go.RowKit Mem Go.Lib LebM DirM
attribute [local go_sem ↓] Go.wp_at_zero Go.wp_at_succ
set_option linter.unusedVariables false

theorem find_drop {W : List Col} {j : Nat} {x : Col} (id : Int) (h : W[j]? = some x) : findC (W.drop j) id = if (x.1 : Int) = id then x.2 else findC (W.drop (j + 1)) id := by
  obtain ⟨h1, h2⟩ := List.getElem?_eq_some_iff.1 h
  rw [List.drop_eq_getElem_cons h1, h2]
  rfl
set_option maxRecDepth 100000 in
set_option maxHeartbeats 6400000 in
theorem puts16_law (A : Option Addr) (n c : Nat) (S : List UInt8) (A' : Option Addr) (n' c' : Nat) (D : List (List UInt8)) (id : Int) (w : World) (hS : Rd w A n (S.map bytec)) (hD : Rd w A' n' (D.map strc)) (hn : n ≤ maxLen) (hn' : n' ≤ maxLen) (hm : ∀ d ∈ D, d.length ≤ maxLen) :
    Calls Try.prog 3 #[.slice A n c, .slice A' n' c', .int .i64 id] w fun e w' => e = .returned (.bool true) ∧ Fr (fun _ => False) w w' := by
  have haw := awake16_any w
  have hco := fun w h1 h2 => lcols_any A n c S A' n' c' D w h1 h2 hn hn' hm
  have hwl := colsW_len S D
  have hwo := colsW_ok S D
  have hpl := putW_len S D
  obtain ⟨W, hW⟩ : ∃ W, W = colsW S D := ⟨_, rfl⟩
  obtain ⟨P, hP⟩ : ∃ P, P = putC W := ⟨_, rfl⟩
  rw [← hW] at hco hwl hwo hpl
  rw [← hP] at hpl
  obtain ⟨np, hnp⟩ : ∃ np, P.length = np := ⟨_, rfl⟩
  obtain ⟨nW, hnW⟩ : ∃ nW, W.length = nW := ⟨_, rfl⟩
  rw [hnW] at hwl hco
  rw [hnp] at hpl
  have HAW := Lib.hid haw
  have HCO := Lib.hid hco
  have HWO := Lib.hid hwo
  have HPL := Lib.hid hpl
  have HNP := Lib.hid hnp
  have HNW := Lib.hid hnW
  have HS := Lib.hid hS
  have HD := Lib.hid hD
  have HP := Lib.hid hP
  clear haw hco hwo hpl hnp hnW hS hD hn hn' hm hW hP
  go_enter Try.func3, Try.ntmps3
  go_wp2_with fail
  refine HAW.out.mono ?_
  rintro e w1 ⟨rfl, hf1⟩
  have HF1 := Lib.hid hf1
  clear hf1
  go_wp2_with fail
  refine (HCO.out w1 (HS.out.fr HF1.out (fun _ _ h => h)) (HD.out.fr HF1.out (fun _ _ h => h))).mono ?_
  rintro e w2 ⟨A1, c1, A2, c2, L, rfl, hL, hcl, hpr, hf2⟩
  have hxo : ∀ x ∈ L, x.id ≤ 15360 ∧ x.B.length ≤ 200 := by
    intro x hx
    have h := HWO.out x.v (by rw [← hL]; exact List.mem_map_of_mem hx)
    have h2 : x.v.1 = x.id := rfl
    have h3 : x.v.2 = x.B := rfl
    rw [h2, h3] at h
    omega
  have HXO := Lib.hid hxo
  have HLV := Lib.hid hL
  have HCL := Lib.hid hcl
  have HPR := Lib.hid hpr
  have HF2 := Lib.hid (HF1.out.trans hf2 (fun _ _ h => h))
  have hpu : ∀ w, Cols w A1 nW L → Calls Try.prog 10 #[.slice A1 nW c1] w (Gives w P) := by
    intro w h
    have h2 := put_any A1 nW c1 L w h (by omega) (fun x hx => by have := HXO.out x hx; omega) (fun x hx => by have := HXO.out x hx; omega)
    rw [HLV.out, ← HP.out] at h2
    exact h2
  have HPU := Lib.hid hpu
  clear hL hcl hpr hf2 hpu hxo
  have r0 : IntKind.i64.wrap ((nW : Int) - 1) = (nW : Int) - 1 := by rw [IntKind.wrap_i64]; omega
  go_wp2_with fail
  go_loopw [9, 10] (fun v i wr => ∃ (x : Int) (T : List UInt8), -1 ≤ x ∧ x < nW ∧ i = .int .i64 x ∧ v = .string (txt T) ∧ Hid (T = findC (W.drop (x + 1).toNat) id) ∧ w2 = wr) (fun _ i _ => (intOf i + 1).toNat)
  case atStart => exact ⟨(nW : Int) - 1, [], by omega, by omega, rfl, rfl, Lib.hid (by rw [show ((nW : Int) - 1 + 1).toNat = nW by omega, List.drop_of_length_le (by have := HNW.out; omega)]; rfl), rfl⟩
  case round =>
    obtain ⟨x, T, hx0, hx1, rfl, rfl, HT, rfl⟩ := hrel
    by_cases h0 : 0 ≤ x
    · obtain ⟨j, rfl⟩ := Int.eq_ofNat_of_zero_le h0
      rw [show ((j : Int) + 1).toNat = j + 1 by omega] at HT
      obtain ⟨⟨id2, T2⟩, hx⟩ : ∃ x, W[j]? = some x := ⟨_, List.getElem?_eq_getElem (by have := HNW.out; omega)⟩
      have hfd := find_drop id hx
      simp only at hfd
      obtain ⟨gx, ox, rfl, _, g0, g1⟩ := HPR.out.2 j _ hx
      have g0' : w2.cell? ⟨gx, ox + j * 2, none⟩ = some (.int .i64 (id2 : Int)) := g0
      have g1' : w2.cell? ⟨gx, ox + j * 2 + 1, none⟩ = some (.string (txt T2)) := g1
      have r5 : IntKind.i64.wrap ((j : Int) - 1) = (j : Int) - 1 := by rw [IntKind.wrap_i64]; omega
      clear hx g0 g1
      by_cases hq : (id2 : Int) = id
      · rw [if_pos hq] at hfd
        have t1 : ((id2 : Int) == id) = true := by simpa using hq
        have HFD := Lib.hid hfd
        have HQ := Lib.hid hq
        clear hfd hq
        go_wp2_with fail
        go_roundw
        case rel => exact ⟨(j : Int) - 1, T2, by omega, by omega, by rfl, by rfl, Lib.hid (by rw [show ((j : Int) - 1 + 1).toNat = j by omega]; exact HFD.out.symm), trivial⟩
        case measure => simp [intOf] <;> omega
      · rw [if_neg hq] at hfd
        have t1 : ((id2 : Int) == id) = false := by simpa using hq
        have HFD := Lib.hid hfd
        clear hfd hq
        go_wp2_with fail
        go_roundw
        case rel => exact ⟨(j : Int) - 1, T, by omega, by omega, by rfl, by rfl, Lib.hid (by rw [show ((j : Int) - 1 + 1).toNat = j by omega, HFD.out]; exact HT.out), trivial⟩
        case measure => simp [intOf] <;> omega
    · obtain rfl : x = -1 := by omega
      have hT : T = findC W id := HT.out
      have hfi : ∀ w, Cols w A1 nW L → Calls Try.prog 12 #[.slice A1 nW c1, .int .i64 id] w (Gives w T) := by
        intro w h
        have h2 := find_any A1 nW c1 L id w h (by omega) (fun x hx => by have := HXO.out x hx; omega)
        rw [HLV.out, ← hT] at h2
        exact h2
      have hrp : ∀ w, Prs ridc rtxt w A2 nW W → Calls Try.prog 11 #[.slice A2 nW c2] w (Gives w P) := by
        intro w h
        have h2 := rput_any A2 nW c2 W w h (by omega) (fun x hx => by have := HWO.out x hx; omega) (fun x hx => by have := HWO.out x hx; omega)
        rw [← HP.out] at h2
        exact h2
      have HFI := Lib.hid hfi
      have HRP := Lib.hid hrp
      clear hT hfi hrp h0 hx0 hx1 HT r0
      go_upto_region 10 with fail
      refine wp_region_held_drew (S := fun w' => Fr (fun _ => False) w2 w') (by kernel_rfl) ?_ (fun hHeld => ?_)
      · exact (Fr.refl _ _).drew
      refine wpAnyH_take (i := 0) (v := ?vz10) rfl (by kernel_rfl) (by kernel_rfl) (by kernel_rfl) (fun _ _ _ h => h) (Or.inl ⟨by rfl, ?hyz10⟩) hHeld ?restz10
      case hyz10 => intro w hSw; (try dsimp only at hSw); go_simp; try (with_reducible rfl)
      (try simp only [Act.put, List.setIfInBounds_toArray, List.set_cons_zero, List.set_cons_succ, List.getElem_toArray, List.getElem_cons_zero])
      refine wpAnyH_take (i := 3) (v := ?vz13) rfl (by kernel_rfl) (by kernel_rfl) (by kernel_rfl) (fun _ _ _ h => h) (Or.inl ⟨by rfl, ?hyz13⟩) hHeld ?restz13
      case hyz13 => intro w hSw; (try dsimp only at hSw); go_simp; try (with_reducible rfl)
      (try simp only [Act.put, List.setIfInBounds_toArray, List.set_cons_zero, List.set_cons_succ, List.getElem_toArray, List.getElem_cons_zero, List.getElem_cons_succ])
      refine wpAnyH_ready (rs := [1]) (by kernel_rfl) (by simp) ?_
      refine AllReadyH.cons rfl (fun Kx hKx => ?_) AllReadyH.nil
      go_simp
      have hcon := HPU.out w2.drew (HCL.out.fr (Fr.refl _ _).drew)
      with_reducible refine hcon.mono ?_
      clear hcon
      rintro e' wp ⟨A4, c4, rfl, ho4, hff⟩
      have HFwp : Hid (Fr (fun _ => False) w2 wp) := Lib.hid ((Fr.refl _ _).drew.trans hff (fun _ _ h => h))
      have HO4 := Lib.hid ho4
      clear ho4
      refine hKx.out _ _ ?_ (fun hHeld => ?_)
      · exact HFwp.out
      clear hKx Kx hff
      (try simp only [Act.put, List.setIfInBounds_toArray, List.set_cons_zero, List.set_cons_succ, List.getElem_toArray, List.getElem_cons_zero, List.getElem_cons_succ])
      refine wpAnyH_more (fun w' => Fr (fun _ => False) wp w') (fun _ h => HFwp.out.trans h (fun _ _ h => h)) ?_ (fun hHeld => ?_)
      · exact Fr.refl _ _
      refine wpAnyH_take (i := 2) (v := ?vz12) rfl (by kernel_rfl) (by kernel_rfl) (by kernel_rfl) (fun _ _ _ h => h) (Or.inl ⟨by rfl, ?hyz12⟩) hHeld ?restz12
      case hyz12 => intro w hSw; (try dsimp only at hSw); have hcv := (HO4.out.fr hSw).str; go_simp; try (with_reducible rfl)
      (try simp only [Act.put, List.setIfInBounds_toArray, List.set_cons_zero, List.set_cons_succ, List.getElem_toArray, List.getElem_cons_zero, List.getElem_cons_succ])
      refine wpAnyH_ready (rs := [4]) (by kernel_rfl) (by simp) ?_
      refine AllReadyH.cons rfl (fun Kx hKx => ?_) AllReadyH.nil
      go_simp
      have hcon := HRP.out wp (HPR.out.fr HFwp.out (fun _ _ h => h))
      with_reducible refine hcon.mono ?_
      clear hcon
      rintro e' wq ⟨A5, c5, rfl, ho5, hff⟩
      have HFwq : Hid (Fr (fun _ => False) wp wq) := Lib.hid (hff)
      have HO5 := Lib.hid ho5
      clear ho5
      refine hKx.out _ _ ?_ (fun hHeld => ?_)
      · exact HFwq.out
      clear hKx Kx hff
      (try simp only [Act.put, List.setIfInBounds_toArray, List.set_cons_zero, List.set_cons_succ, List.getElem_toArray, List.getElem_cons_zero, List.getElem_cons_succ])
      refine wpAnyH_more (fun w' => Fr (fun _ => False) wq w') (fun _ h => HFwq.out.trans h (fun _ _ h => h)) ?_ (fun hHeld => ?_)
      · exact Fr.refl _ _
      refine wpAnyH_take (i := 5) (v := ?vz15) rfl (by kernel_rfl) (by kernel_rfl) (by kernel_rfl) (fun _ _ _ h => h) (Or.inl ⟨by rfl, ?hyz15⟩) hHeld ?restz15
      case hyz15 => intro w hSw; (try dsimp only at hSw); have hcv := (HO5.out.fr hSw).str; go_simp; try (with_reducible rfl)
      (try simp only [Act.put, List.setIfInBounds_toArray, List.set_cons_zero, List.set_cons_succ, List.getElem_toArray, List.getElem_cons_zero, List.getElem_cons_succ])
      refine wpAnyH_take (i := 6) (v := ?vz16) rfl (by kernel_rfl) (by kernel_rfl) (by kernel_rfl) (fun _ _ _ h => h) (Or.inl ⟨by rfl, ?hyz16⟩) hHeld ?restz16
      case hyz16 => intro w hSw; (try dsimp only at hSw); go_simp; try (with_reducible rfl)
      (try simp only [Act.put, List.setIfInBounds_toArray, List.set_cons_zero, List.set_cons_succ, List.getElem_toArray, List.getElem_cons_zero, List.getElem_cons_succ])
      refine wpAnyH_take (i := 7) (v := ?vz17) rfl (by kernel_rfl) (by kernel_rfl) (by kernel_rfl) (fun _ _ _ h => h) (Or.inl ⟨by rfl, ?hyz17⟩) hHeld ?restz17
      case hyz17 => intro w hSw; (try dsimp only at hSw); go_simp; try (with_reducible rfl)
      (try simp only [Act.put, List.setIfInBounds_toArray, List.set_cons_zero, List.set_cons_succ, List.getElem_toArray, List.getElem_cons_zero, List.getElem_cons_succ])
      refine wpAnyH_take (i := 8) (v := ?vz18) rfl (by kernel_rfl) (by kernel_rfl) (by kernel_rfl) (fun _ _ _ h => h) (Or.inl ⟨by rfl, ?hyz18⟩) hHeld ?restz18
      case hyz18 => intro w hSw; (try dsimp only at hSw); go_simp; try (with_reducible rfl)
      (try simp only [Act.put, List.setIfInBounds_toArray, List.set_cons_zero, List.set_cons_succ, List.getElem_toArray, List.getElem_cons_zero, List.getElem_cons_succ])
      refine wpAnyH_take (i := 9) (v := ?vz19) rfl (by kernel_rfl) (by kernel_rfl) (by kernel_rfl) (fun _ _ _ h => h) (Or.inl ⟨by rfl, ?hyz19⟩) hHeld ?restz19
      case hyz19 => intro w hSw; (try dsimp only at hSw); go_simp; try (with_reducible rfl)
      (try simp only [Act.put, List.setIfInBounds_toArray, List.set_cons_zero, List.set_cons_succ, List.getElem_toArray, List.getElem_cons_zero, List.getElem_cons_succ])
      refine wpAnyH_take (i := 12) (v := ?vz112) rfl (by kernel_rfl) (by kernel_rfl) (by kernel_rfl) (fun _ _ _ h => h) (Or.inl ⟨by rfl, ?hyz112⟩) hHeld ?restz112
      case hyz112 => intro w hSw; (try dsimp only at hSw); go_simp; try (with_reducible rfl)
      (try simp only [Act.put, List.setIfInBounds_toArray, List.set_cons_zero, List.set_cons_succ, List.getElem_toArray, List.getElem_cons_zero, List.getElem_cons_succ])
      refine wpAnyH_ready (rs := [10]) (by kernel_rfl) (by simp) ?_
      refine AllReadyH.cons rfl (fun Kx hKx => ?_) AllReadyH.nil
      go_simp
      have hcon := HFI.out wq ((HCL.out.fr HFwp.out).fr HFwq.out)
      with_reducible refine hcon.mono ?_
      clear hcon
      rintro e' wf ⟨A6, c6, rfl, ho6, hff⟩
      have HFwf : Hid (Fr (fun _ => False) wq wf) := Lib.hid (hff)
      have HO6 := Lib.hid ho6
      clear ho6
      refine hKx.out _ _ ?_ (fun hHeld => ?_)
      · exact HFwf.out
      clear hKx Kx hff
      (try simp only [Act.put, List.setIfInBounds_toArray, List.set_cons_zero, List.set_cons_succ, List.getElem_toArray, List.getElem_cons_zero, List.getElem_cons_succ])
      refine wpAnyH_more (fun w' => Fr (fun _ => False) wf w') (fun _ h => HFwf.out.trans h (fun _ _ h => h)) ?_ (fun hHeld => ?_)
      · exact Fr.refl _ _
      refine wpAnyH_take (i := 11) (v := ?vz111) rfl (by kernel_rfl) (by kernel_rfl) (by kernel_rfl) (fun _ _ _ h => h) (Or.inl ⟨by rfl, ?hyz111⟩) hHeld ?restz111
      case hyz111 => intro w hSw; (try dsimp only at hSw); have hcv := (HO6.out.fr hSw).str; go_simp; try (with_reducible rfl)
      (try simp only [Act.put, List.setIfInBounds_toArray, List.set_cons_zero, List.set_cons_succ, List.getElem_toArray, List.getElem_cons_zero, List.getElem_cons_succ])
      refine wpAnyH_take (i := 13) (v := ?vz113) rfl (by kernel_rfl) (by kernel_rfl) (by kernel_rfl) (fun _ _ _ h => h) (Or.inl ⟨by rfl, ?hyz113⟩) hHeld ?restz113
      case hyz113 => intro w hSw; (try dsimp only at hSw); go_simp; try (with_reducible rfl)
      (try simp only [Act.put, List.setIfInBounds_toArray, List.set_cons_zero, List.set_cons_succ, List.getElem_toArray, List.getElem_cons_zero, List.getElem_cons_succ])
      refine wpAnyH_take (i := 14) (v := ?vz114) rfl (by kernel_rfl) (by kernel_rfl) (by kernel_rfl) (fun _ _ _ h => h) (Or.inl ⟨by rfl, ?hyz114⟩) hHeld ?restz114
      case hyz114 => intro w hSw; (try dsimp only at hSw); go_simp; try (with_reducible rfl)
      (try simp only [Act.put, List.setIfInBounds_toArray, List.set_cons_zero, List.set_cons_succ, List.getElem_toArray, List.getElem_cons_zero, List.getElem_cons_succ])
      refine wpAnyH_take (i := 15) (v := ?vz115) rfl (by kernel_rfl) (by kernel_rfl) (by kernel_rfl) (fun _ _ _ h => h) (Or.inl ⟨by rfl, ?hyz115⟩) hHeld ?restz115
      case hyz115 => intro w hSw; (try dsimp only at hSw); go_simp; try (with_reducible rfl)
      (try simp only [Act.put, List.setIfInBounds_toArray, List.set_cons_zero, List.set_cons_succ, List.getElem_toArray, List.getElem_cons_zero, List.getElem_cons_succ])
      refine wpAnyH_done (by kernel_rfl) ?_ _
      go_wp2_with fail
      go_ret
      exact ⟨rfl, ((HF2.out.trans HFwp.out (fun _ _ h => h)).trans HFwq.out (fun _ _ h => h)).trans HFwf.out (fun _ _ h => h)⟩
end Go.Proofs.Ytfgjneodhmfknaa
