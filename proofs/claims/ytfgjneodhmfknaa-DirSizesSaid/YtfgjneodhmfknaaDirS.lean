/-
  Layer 16's law DirSizes (written by gen_laws16.py).
-/
import Derived.Test.YtfgjneodhmfknaaDirK
import Derived.Test.YtfgjneodhmfknaaReg
import Derived.Deep.DeepCutAuto
import Derived.Deep.CutRange
namespace Go.Proofs.Ytfgjneodhmfknaa
open Go.RowKit Mem Go.Lib LebM DirM
attribute [local go_sem ↓] Go.wp_at_zero Go.wp_at_succ
set_option linter.unusedVariables false

set_option maxRecDepth 100000 in
set_option maxHeartbeats 6400000 in
theorem sizes16_law (A : Option Addr) (n c : Nat) (S : List UInt8) (A' : Option Addr) (n' c' : Nat) (D : List (List UInt8)) (w : World) (hS : Rd w A n (S.map bytec)) (hD : Rd w A' n' (D.map strc)) (hn : n ≤ maxLen) (hn' : n' ≤ maxLen) (hm : ∀ d ∈ D, d.length ≤ maxLen) :
    Calls Try.prog 7 #[.slice A n c, .slice A' n' c'] w fun e w' => e = .returned (.bool true) ∧ Fr (fun _ => False) w w' := by
  have haw := awake16_any w
  have hco := fun w h1 h2 => lcols_any A n c S A' n' c' D w h1 h2 hn hn' hm
  have hwl := colsW_len S D
  have hwo := colsW_ok S D
  have hpl := putW_len S D
  obtain ⟨W, hW⟩ : ∃ W, W = colsW S D := ⟨_, rfl⟩
  obtain ⟨P, hP⟩ : ∃ P, P = putC W := ⟨_, rfl⟩
  rw [← hW] at hco hwl hwo hpl
  rw [← hP] at hpl
  obtain ⟨np, hnp⟩ : ∃ np, P.length = np := ⟨_, rfl⟩
  obtain ⟨nW, hnW⟩ : ∃ nW, W.length = nW := ⟨_, rfl⟩
  rw [hnW] at hwl hco
  rw [hnp] at hpl
  have HAW := Lib.hid haw
  have HCO := Lib.hid hco
  have HWO := Lib.hid hwo
  have HPL := Lib.hid hpl
  have HNP := Lib.hid hnp
  have HNW := Lib.hid hnW
  have HS := Lib.hid hS
  have HD := Lib.hid hD
  have HP := Lib.hid hP
  clear haw hco hwo hpl hnp hnW hS hD hn hn' hm hW hP
  go_enter Try.func7, Try.ntmps7
  go_wp2_with fail
  refine HAW.out.mono ?_
  rintro e w1 ⟨rfl, hf1⟩
  have HF1 := Lib.hid hf1
  clear hf1
  go_wp2_with fail
  refine (HCO.out w1 (HS.out.fr HF1.out (fun _ _ h => h)) (HD.out.fr HF1.out (fun _ _ h => h))).mono ?_
  rintro e w2 ⟨A1, c1, A2, c2, L, rfl, hL, hcl, hpr, hf2⟩
  have hxo : ∀ x ∈ L, x.id ≤ 15360 ∧ x.B.length ≤ 200 := by
    intro x hx
    have h := HWO.out x.v (by rw [← hL]; exact List.mem_map_of_mem hx)
    have h2 : x.v.1 = x.id := rfl
    have h3 : x.v.2 = x.B := rfl
    rw [h2, h3] at h
    omega
  have HXO := Lib.hid hxo
  have HLV := Lib.hid hL
  have HCL := Lib.hid hcl
  have HPR := Lib.hid hpr
  have HF2 := Lib.hid (HF1.out.trans hf2 (fun _ _ h => h))
  have hpu : ∀ w, Cols w A1 nW L → Calls Try.prog 10 #[.slice A1 nW c1] w (Gives w P) := by
    intro w h
    have h2 := put_any A1 nW c1 L w h (by omega) (fun x hx => by have := HXO.out x hx; omega) (fun x hx => by have := HXO.out x hx; omega)
    rw [HLV.out, ← HP.out] at h2
    exact h2
  have HPU := Lib.hid hpu
  clear hL hcl hpr hf2 hpu hxo
  have hLl : L.length = nW := HCL.out.1.1
  have HLL := Lib.hid hLl
  obtain ⟨base, hbase⟩ : ∃ base, base = w2.heap.size := ⟨_, rfl⟩
  have HB := Lib.hid hbase
  clear hLl hbase
  go_wp2_with fail
  go_loopw [7, 8, 9] (fun v s i wr => ∃ (k a : Nat) (G : List Cl) (A3 : Option Addr) (c3 : Nat), k ≤ nW ∧ i = .int .i64 (k : Int) ∧ v = .int .i64 (a : Int) ∧ s = .slice A3 G.length c3 ∧ a ≤ 200 * k ∧ G.length ≤ k ∧ Hid (a = (dataC (W.take k)).length) ∧ Hid (G.map Cl.v = full (W.take k)) ∧ Hid (∀ x ∈ G, x ∈ L) ∧
    Hid (OwnP idc dac 45 wr base A3 c3 G) ∧ Hid (Fr (fun _ => False) w2 wr)) (fun _ _ i _ => nW - (intOf i).toNat)
  case atStart => exact ⟨0, 0, [], none, 0, Nat.zero_le _, rfl, rfl, rfl, Nat.zero_le _, Nat.zero_le _, (by simp [dataC] : 0 = (dataC (W.take 0)).length), (by simp [full] : ([] : List Cl).map Cl.v = full (W.take 0)), (fun x hx => by cases hx), OwnP.nil _ _ _, Fr.refl _ _⟩
  case round =>
    obtain ⟨k, a, G, A3, c3, hk, rfl, rfl, rfl, ha, hgk, HA, HG, HGL, HO, HF⟩ := hrel
    rename World => wr
    by_cases hlt : k < nW
    · obtain ⟨x, hx⟩ : ∃ x, L[k]? = some x := ⟨_, List.getElem?_eq_getElem (by have := HLL.out; omega)⟩
      have hwx : W[k]? = some x.v := by rw [← HLV.out, List.getElem?_map, hx]; rfl
      obtain ⟨gx, ox, rfl, _, h0, h1⟩ := (HCL.out.1.fr HF.out (fun _ _ => fun h => h)).2 k x hx
      have hxb := (HXO.out x (List.mem_of_getElem? hx)).2
      have hxm := List.mem_of_getElem? hx
      simp only [idc, dac] at h0 h1
      obtain ⟨z, hz⟩ : ∃ z, x.B.length = z := ⟨_, rfl⟩
      obtain ⟨id, hid⟩ : ∃ id : Int, (x.id : Int) = id := ⟨_, rfl⟩
      rw [hz] at h1 hxb
      rw [hid] at h0
      obtain ⟨a2, ha2⟩ : ∃ a2, a2 = a + z := ⟨_, rfl⟩
      have HA3 := Lib.hid ha2
      have r1 : IntKind.i64.wrap ((a : Int) + (z : Int)) = (a2 : Int) := by rw [IntKind.wrap_i64]; omega
      have HA2 : Hid (a2 = (dataC (W.take (k + 1))).length) := Lib.hid (by
        rw [ha2, HA.out, List.take_add_one, hwx, ← hz]
        unfold dataC
        rw [List.flatMap_append, List.length_append]
        simp [Cl.v])
      have hfs := fullR_step hwx
      have ha2l : a2 ≤ 200 * (k + 1) := by omega
      have HFS := Lib.hid hfs
      have HXM := Lib.hid hxm
      have HZ := Lib.hid hz
      have HID := Lib.hid hid
      clear hx hwx hxb hz hid ha2 hfs hxm
      by_cases hz0 : z = 0
      · subst hz0
        obtain rfl : a2 = a := by have := HA3.out; omega
        have HG2 : Hid (G.map Cl.v = full (W.take (k + 1))) := Lib.hid (by rw [HFS.out, if_neg (by show ¬ 0 < x.B.length; have := HZ.out; omega), List.append_nil]; exact HG.out)
        go_wp2_with fail
        go_roundw
        case rel => exact ⟨k + 1, a2, G, A3, c3, by omega, by go_num, by rfl, by rfl, ha2l, by omega, HA2, HG2, HGL, HO, HF⟩
        case measure => simp [intOf]; omega
      · have t0 : decide ((0 : Int) < (z : Int)) = true := decide_eq_true (by omega)
        have t0' : decide (0 < z) = true := decide_eq_true (by omega)
        have HG2 : Hid ((G ++ [x]).map Cl.v = full (W.take (k + 1))) := Lib.hid (by rw [HFS.out, if_pos (by show 0 < x.B.length; have := HZ.out; omega), List.map_append, HG.out]; rfl)
        obtain ⟨XS, hXS⟩ : ∃ XS, XS = G.flatMap (pcells idc dac) := ⟨_, rfl⟩
        have hOx : wr.ownsRow base 45 2 (.slice A3 G.length c3) G.length XS := by rw [hXS]; exact HO.out
        have HXS := Lib.hid hXS
        have HOX := Lib.hid hOx
        obtain ⟨N1, hN1⟩ : ∃ N1, N1 = G.length + 1 := ⟨_, rfl⟩
        have hN1l : N1 ≤ 61 := by omega
        have HN1 := Lib.hid hN1
        have HBW : Hid (base ≤ wr.heap.size) := Lib.hid (by have h1 := HB.out; have h2 := HF.out.size; omega)
        clear hXS hOx hN1 hz0
        go_wp2_with (at_builtin; refine wpList_appS2 colTS _ rfl _ _ rfl base _ _ _ rfl (HOX.out.alloc _) _ _ [.int .i64 id, .slice x.A z x.c] rfl rfl (new_at (by simp) [.int .i64 id, .slice x.A z x.c] _) (by intro u hu; simp at hu; rcases hu with rfl | rfl <;> rfl) N1 HN1.out (by unfold maxLen; omega) (by omega) (by have h1 := HBW.out; simp; omega) ?_)
        intro A6 c6 w6 hown6 _ hfr6 _
        have hO6 : OwnP idc dac 45 w6 base A6 c6 (G ++ [x]) := OwnP.snoc (p := idc) (q := dac) (N := N1) (t := x) HN1.out (by
          rw [← HXS.out]
          show w6.ownsRow base _ 2 _ N1 (XS ++ [.int .i64 (x.id : Int), .slice x.A x.B.length x.c])
          rw [HID.out, HZ.out]
          exact hown6)
        have HF6 : Hid (Fr (fun _ => False) w2 w6) := Lib.hid ((HF.out.alloc _).trans hfr6 (fun b hb h => by have h1 := (HOX.out.lt _ h).1; have h2 := HB.out; omega))
        have HO6 := Lib.hid hO6
        have HGL6 : Hid (∀ y ∈ G ++ [x], y ∈ L) := Lib.hid (by
          intro y hy
          rcases List.mem_append.1 hy with h | h
          · exact HGL.out y h
          · rw [List.mem_singleton.1 h]; exact HXM.out)
        have hng : N1 = (G ++ [x]).length := by rw [HN1.out]; simp
        have HNG := Lib.hid hng
        clear hown6 hfr6 hO6 h0 h1 hng
        go_wp2_with fail
        go_roundw
        case rel => exact ⟨k + 1, a2, G ++ [x], A6, c6, by omega, by go_num, by rfl, by rw [HNG.out], ha2l, by have := HNG.out; have := HN1.out; omega, HA2, HG2, HGL6, HO6, HF6⟩
        case measure => simp [intOf]; omega
    · obtain rfl : k = nW := by omega
      have hall : W.take k = W := List.take_of_length_le (by have := HNW.out; omega)
      rw [hall] at HA HG
      have hpg : putC (G.map Cl.v) = P := by
        rw [HG.out, HP.out]
        unfold putC
        rw [full_full]
      have hnG : G.length = (full W).length := by rw [← HG.out, List.length_map]
      obtain ⟨nG, hnG2⟩ : ∃ nG, G.length = nG := ⟨_, rfl⟩
      have hpl := HPL.out
      rw [← HA.out, ← hnG, hnG2] at hpl
      have hpg2 : ∀ w', Fr (fun _ => False) wr w' → Calls Try.prog 10 #[.slice A3 nG c3] w' (Gives w' P) := by
        intro w' hf
        have hcg : Cols w' A3 nG G := by
          refine ⟨?_, fun x hx => ?_⟩
          · have h := (HO.out.fr hf).prs
            rw [hnG2] at h
            exact h
          · exact (HCL.out.2 x (HGL.out x hx)).fr (HF.out.trans hf (fun _ _ h => h)) (fun _ _ _ _ h => h)
        have h2 := put_any A3 nG c3 G w' hcg (by omega) (fun x hx => by have := HXO.out x (HGL.out x hx); omega) (fun x hx => by have := HXO.out x (HGL.out x hx); omega)
        rw [hpg] at h2
        exact h2
      have HPG := Lib.hid hpg2
      rw [hnG2] at hgk ⊢
      have t1 : decide ((a : Int) < (np : Int)) = true := decide_eq_true (by omega)
      have t1' : decide (a < np) = true := decide_eq_true (by omega)
      have r1 : IntKind.i64.wrap ((a : Int) + 1) = ((a + 1 : Nat) : Int) := by rw [IntKind.wrap_i64]; omega
      have r2 : IntKind.i64.wrap (6 * (nG : Int)) = ((6 * nG : Nat) : Int) := by rw [IntKind.wrap_i64]; omega
      have r3 : IntKind.i64.wrap (((a + 1 : Nat) : Int) + ((6 * nG : Nat) : Int)) = ((a + 1 + 6 * nG : Nat) : Int) := by rw [IntKind.wrap_i64]; omega
      have r3' : IntKind.i64.wrap ((a : Int) + 1 + 6 * (nG : Int)) = ((a + 1 + 6 * nG : Nat) : Int) := by rw [IntKind.wrap_i64]; omega
      have t2 : decide ((np : Int) ≤ ((a + 1 + 6 * nG : Nat) : Int)) = true := decide_eq_true (by omega)
      have t2' : decide ((np : Int) ≤ (a : Int) + 1 + 6 * (nG : Int)) = true := decide_eq_true (by omega)
      have t2'' : decide (np ≤ a + 1 + 6 * nG) = true := decide_eq_true (by omega)
      have hcw := HPU.out wr (HCL.out.fr HF.out)
      unfold Gives at hcw
      rw [HNP.out] at hcw
      have HCW := Lib.hid hcw
      have HFR := Lib.hid (HF2.out.trans HF.out (fun _ _ h => h))
      clear hall hpg hnG hnG2 hpl hpg2 hcw
      go_wp2_with fail
      refine HCW.out.mono ?_
      rintro e w3 ⟨A4, c4, rfl, ho4, hf4⟩
      have HO4 := Lib.hid ho4
      have HF4 := Lib.hid hf4
      clear ho4 hf4
      go_upto_region 13 with fail
      refine wp_region_held_drew (S := fun w' => Fr (fun _ => False) w3 w') (by kernel_rfl) ?_ (fun hHeld => ?_)
      · exact (Fr.refl _ _).drew
      refine wpAnyH_take (i := 0) (v := ?vz20) rfl (by kernel_rfl) (by kernel_rfl) (by kernel_rfl) (fun _ _ _ h => h) (Or.inl ⟨by rfl, ?hyz20⟩) hHeld ?restz20
      case hyz20 => intro w hSw; (try dsimp only at hSw); go_simp; try (with_reducible rfl)
      (try simp only [Act.put, List.setIfInBounds_toArray, List.set_cons_zero, List.set_cons_succ, List.getElem_toArray, List.getElem_cons_zero])
      refine wpAnyH_take (i := 1) (v := ?vz21) rfl (by kernel_rfl) (by kernel_rfl) (by kernel_rfl) (fun _ _ _ h => h) (Or.inl ⟨by rfl, ?hyz21⟩) hHeld ?restz21
      case hyz21 => intro w hSw; (try dsimp only at hSw); have hcv := (HO4.out.fr hSw).str; rw [HNP.out] at hcv; go_simp; try (with_reducible rfl)
      (try simp only [Act.put, List.setIfInBounds_toArray, List.set_cons_zero, List.set_cons_succ, List.getElem_toArray, List.getElem_cons_zero, List.getElem_cons_succ])
      refine wpAnyH_take (i := 2) (v := ?vz22) rfl (by kernel_rfl) (by kernel_rfl) (by kernel_rfl) (fun _ _ _ h => h) (Or.inl ⟨by rfl, ?hyz22⟩) hHeld ?restz22
      case hyz22 => intro w hSw; (try dsimp only at hSw); go_simp; try (with_reducible rfl)
      (try simp only [Act.put, List.setIfInBounds_toArray, List.set_cons_zero, List.set_cons_succ, List.getElem_toArray, List.getElem_cons_zero, List.getElem_cons_succ])
      refine wpAnyH_ready (rs := [3]) (by kernel_rfl) (by simp) ?_
      refine AllReadyH.cons rfl (fun Kx hKx => ?_) AllReadyH.nil
      go_simp
      have hcon := HPG.out w3.drew (HF4.out.drew)
      with_reducible refine hcon.mono ?_
      clear hcon
      rintro e' wq ⟨A5, c5, rfl, ho5, hff⟩
      have HFwq : Hid (Fr (fun _ => False) w3 wq) := Lib.hid ((Fr.refl _ _).drew.trans hff (fun _ _ h => h))
      have HO5 := Lib.hid ho5
      clear ho5
      refine hKx.out _ _ ?_ (fun hHeld => ?_)
      · exact HFwq.out
      clear hKx Kx hff
      (try simp only [Act.put, List.setIfInBounds_toArray, List.set_cons_zero, List.set_cons_succ, List.getElem_toArray, List.getElem_cons_zero, List.getElem_cons_succ])
      refine wpAnyH_more (fun w' => Fr (fun _ => False) wq w') (fun _ h => HFwq.out.trans h (fun _ _ h => h)) ?_ (fun hHeld => ?_)
      · exact Fr.refl _ _
      refine wpAnyH_take (i := 4) (v := ?vz24) rfl (by kernel_rfl) (by kernel_rfl) (by kernel_rfl) (fun _ _ _ h => h) (Or.inl ⟨by rfl, ?hyz24⟩) hHeld ?restz24
      case hyz24 => intro w hSw; (try dsimp only at hSw); have hcv := (HO5.out.fr hSw).str; go_simp; try (with_reducible rfl)
      (try simp only [Act.put, List.setIfInBounds_toArray, List.set_cons_zero, List.set_cons_succ, List.getElem_toArray, List.getElem_cons_zero, List.getElem_cons_succ])
      refine wpAnyH_take (i := 5) (v := ?vz25) rfl (by kernel_rfl) (by kernel_rfl) (by kernel_rfl) (fun _ _ _ h => h) (Or.inl ⟨by rfl, ?hyz25⟩) hHeld ?restz25
      case hyz25 => intro w hSw; (try dsimp only at hSw); go_simp; try (with_reducible rfl)
      (try simp only [Act.put, List.setIfInBounds_toArray, List.set_cons_zero, List.set_cons_succ, List.getElem_toArray, List.getElem_cons_zero, List.getElem_cons_succ])
      refine wpAnyH_take (i := 6) (v := ?vz26) rfl (by kernel_rfl) (by kernel_rfl) (by kernel_rfl) (fun _ _ _ h => h) (Or.inl ⟨by rfl, ?hyz26⟩) hHeld ?restz26
      case hyz26 => intro w hSw; (try dsimp only at hSw); go_simp; try (with_reducible rfl)
      (try simp only [Act.put, List.setIfInBounds_toArray, List.set_cons_zero, List.set_cons_succ, List.getElem_toArray, List.getElem_cons_zero, List.getElem_cons_succ])
      refine wpAnyH_take (i := 7) (v := ?vz27) rfl (by kernel_rfl) (by kernel_rfl) (by kernel_rfl) (fun _ _ _ h => h) (Or.inl ⟨by rfl, ?hyz27⟩) hHeld ?restz27
      case hyz27 => intro w hSw; (try dsimp only at hSw); go_simp; try (with_reducible rfl)
      (try simp only [Act.put, List.setIfInBounds_toArray, List.set_cons_zero, List.set_cons_succ, List.getElem_toArray, List.getElem_cons_zero, List.getElem_cons_succ])
      refine wpAnyH_take (i := 8) (v := ?vz28) rfl (by kernel_rfl) (by kernel_rfl) (by kernel_rfl) (fun _ _ _ h => h) (Or.inl ⟨by rfl, ?hyz28⟩) hHeld ?restz28
      case hyz28 => intro w hSw; (try dsimp only at hSw); go_simp; try (with_reducible rfl)
      (try simp only [Act.put, List.setIfInBounds_toArray, List.set_cons_zero, List.set_cons_succ, List.getElem_toArray, List.getElem_cons_zero, List.getElem_cons_succ])
      refine wpAnyH_take (i := 9) (v := ?vz29) rfl (by kernel_rfl) (by kernel_rfl) (by kernel_rfl) (fun _ _ _ h => h) (Or.inl ⟨by rfl, ?hyz29⟩) hHeld ?restz29
      case hyz29 => intro w hSw; (try dsimp only at hSw); go_simp; try (with_reducible rfl)
      (try simp only [Act.put, List.setIfInBounds_toArray, List.set_cons_zero, List.set_cons_succ, List.getElem_toArray, List.getElem_cons_zero, List.getElem_cons_succ])
      refine wpAnyH_take (i := 10) (v := ?vz210) rfl (by kernel_rfl) (by kernel_rfl) (by kernel_rfl) (fun _ _ _ h => h) (Or.inl ⟨by rfl, ?hyz210⟩) hHeld ?restz210
      case hyz210 => intro w hSw; (try dsimp only at hSw); go_simp; try (with_reducible rfl)
      (try simp only [Act.put, List.setIfInBounds_toArray, List.set_cons_zero, List.set_cons_succ, List.getElem_toArray, List.getElem_cons_zero, List.getElem_cons_succ])
      refine wpAnyH_take (i := 11) (v := ?vz211) rfl (by kernel_rfl) (by kernel_rfl) (by kernel_rfl) (fun _ _ _ h => h) (Or.inl ⟨by rfl, ?hyz211⟩) hHeld ?restz211
      case hyz211 => intro w hSw; (try dsimp only at hSw); go_simp; try (with_reducible rfl)
      (try simp only [Act.put, List.setIfInBounds_toArray, List.set_cons_zero, List.set_cons_succ, List.getElem_toArray, List.getElem_cons_zero, List.getElem_cons_succ])
      refine wpAnyH_take (i := 12) (v := ?vz212) rfl (by kernel_rfl) (by kernel_rfl) (by kernel_rfl) (fun _ _ _ h => h) (Or.inl ⟨by rfl, ?hyz212⟩) hHeld ?restz212
      case hyz212 => intro w hSw; (try dsimp only at hSw); go_simp; try (with_reducible rfl)
      (try simp only [Act.put, List.setIfInBounds_toArray, List.set_cons_zero, List.set_cons_succ, List.getElem_toArray, List.getElem_cons_zero, List.getElem_cons_succ])
      refine wpAnyH_take (i := 13) (v := ?vz213) rfl (by kernel_rfl) (by kernel_rfl) (by kernel_rfl) (fun _ _ _ h => h) (Or.inl ⟨by rfl, ?hyz213⟩) hHeld ?restz213
      case hyz213 => intro w hSw; (try dsimp only at hSw); go_simp; try (with_reducible rfl)
      (try simp only [Act.put, List.setIfInBounds_toArray, List.set_cons_zero, List.set_cons_succ, List.getElem_toArray, List.getElem_cons_zero, List.getElem_cons_succ])
      refine wpAnyH_take (i := 14) (v := ?vz214) rfl (by kernel_rfl) (by kernel_rfl) (by kernel_rfl) (fun _ _ _ h => h) (Or.inl ⟨by rfl, ?hyz214⟩) hHeld ?restz214
      case hyz214 => intro w hSw; (try dsimp only at hSw); go_simp; try (with_reducible rfl)
      (try simp only [Act.put, List.setIfInBounds_toArray, List.set_cons_zero, List.set_cons_succ, List.getElem_toArray, List.getElem_cons_zero, List.getElem_cons_succ])
      refine wpAnyH_take (i := 15) (v := ?vz215) rfl (by kernel_rfl) (by kernel_rfl) (by kernel_rfl) (fun _ _ _ h => h) (Or.inl ⟨by rfl, ?hyz215⟩) hHeld ?restz215
      case hyz215 => intro w hSw; (try dsimp only at hSw); go_simp; try (with_reducible rfl)
      (try simp only [Act.put, List.setIfInBounds_toArray, List.set_cons_zero, List.set_cons_succ, List.getElem_toArray, List.getElem_cons_zero, List.getElem_cons_succ])
      refine wpAnyH_take (i := 16) (v := ?vz216) rfl (by kernel_rfl) (by kernel_rfl) (by kernel_rfl) (fun _ _ _ h => h) (Or.inl ⟨by rfl, ?hyz216⟩) hHeld ?restz216
      case hyz216 => intro w hSw; (try dsimp only at hSw); go_simp; try (with_reducible rfl)
      (try simp only [Act.put, List.setIfInBounds_toArray, List.set_cons_zero, List.set_cons_succ, List.getElem_toArray, List.getElem_cons_zero, List.getElem_cons_succ])
      refine wpAnyH_take (i := 17) (v := ?vz217) rfl (by kernel_rfl) (by kernel_rfl) (by kernel_rfl) (fun _ _ _ h => h) (Or.inl ⟨by rfl, ?hyz217⟩) hHeld ?restz217
      case hyz217 => intro w hSw; (try dsimp only at hSw); go_simp; try (with_reducible rfl)
      (try simp only [Act.put, List.setIfInBounds_toArray, List.set_cons_zero, List.set_cons_succ, List.getElem_toArray, List.getElem_cons_zero, List.getElem_cons_succ])
      refine wpAnyH_take (i := 18) (v := ?vz218) rfl (by kernel_rfl) (by kernel_rfl) (by kernel_rfl) (fun _ _ _ h => h) (Or.inl ⟨by rfl, ?hyz218⟩) hHeld ?restz218
      case hyz218 => intro w hSw; (try dsimp only at hSw); go_simp; try (with_reducible rfl)
      (try simp only [Act.put, List.setIfInBounds_toArray, List.set_cons_zero, List.set_cons_succ, List.getElem_toArray, List.getElem_cons_zero, List.getElem_cons_succ])
      refine wpAnyH_take (i := 19) (v := ?vz219) rfl (by kernel_rfl) (by kernel_rfl) (by kernel_rfl) (fun _ _ _ h => h) (Or.inl ⟨by rfl, ?hyz219⟩) hHeld ?restz219
      case hyz219 => intro w hSw; (try dsimp only at hSw); go_simp; try (with_reducible rfl)
      (try simp only [Act.put, List.setIfInBounds_toArray, List.set_cons_zero, List.set_cons_succ, List.getElem_toArray, List.getElem_cons_zero, List.getElem_cons_succ])
      refine wpAnyH_take (i := 20) (v := ?vz220) rfl (by kernel_rfl) (by kernel_rfl) (by kernel_rfl) (fun _ _ _ h => h) (Or.inl ⟨by rfl, ?hyz220⟩) hHeld ?restz220
      case hyz220 => intro w hSw; (try dsimp only at hSw); go_simp; try (with_reducible rfl)
      (try simp only [Act.put, List.setIfInBounds_toArray, List.set_cons_zero, List.set_cons_succ, List.getElem_toArray, List.getElem_cons_zero, List.getElem_cons_succ])
      refine wpAnyH_take (i := 21) (v := ?vz221) rfl (by kernel_rfl) (by kernel_rfl) (by kernel_rfl) (fun _ _ _ h => h) (Or.inl ⟨by rfl, ?hyz221⟩) hHeld ?restz221
      case hyz221 => intro w hSw; (try dsimp only at hSw); go_simp; try (with_reducible rfl)
      (try simp only [Act.put, List.setIfInBounds_toArray, List.set_cons_zero, List.set_cons_succ, List.getElem_toArray, List.getElem_cons_zero, List.getElem_cons_succ])
      refine wpAnyH_take (i := 22) (v := ?vz222) rfl (by kernel_rfl) (by kernel_rfl) (by kernel_rfl) (fun _ _ _ h => h) (Or.inl ⟨by rfl, ?hyz222⟩) hHeld ?restz222
      case hyz222 => intro w hSw; (try dsimp only at hSw); go_simp; try (with_reducible rfl)
      (try simp only [Act.put, List.setIfInBounds_toArray, List.set_cons_zero, List.set_cons_succ, List.getElem_toArray, List.getElem_cons_zero, List.getElem_cons_succ])
      refine wpAnyH_take (i := 23) (v := ?vz223) rfl (by kernel_rfl) (by kernel_rfl) (by kernel_rfl) (fun _ _ _ h => h) (Or.inl ⟨by rfl, ?hyz223⟩) hHeld ?restz223
      case hyz223 => intro w hSw; (try dsimp only at hSw); go_simp; try (with_reducible rfl)
      (try simp only [Act.put, List.setIfInBounds_toArray, List.set_cons_zero, List.set_cons_succ, List.getElem_toArray, List.getElem_cons_zero, List.getElem_cons_succ])
      refine wpAnyH_done (by kernel_rfl) ?_ _
      go_wp2_with fail
      go_ret
      exact ⟨rfl, (HFR.out.trans HF4.out (fun _ _ h => h)).trans HFwq.out (fun _ _ h => h)⟩
end Go.Proofs.Ytfgjneodhmfknaa
