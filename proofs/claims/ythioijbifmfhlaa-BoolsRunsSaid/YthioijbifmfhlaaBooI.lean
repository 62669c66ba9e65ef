/-
  The law BoolsRuns, over what Put and Get must keep (written by gen_laws13.py).
-/
import Derived.Test.YthioijbifmfhlaaBooG
import Derived.Test.YthioijbifmfhlaaReg
import Derived.Deep.DeepCutAuto
import Derived.Deep.CutRange
namespace Go.Proofs.Ythioijbifmfhlaa
open Go.RowKit Mem Go.Lib BooM LebM
attribute [local go_sem ↓] Go.wp_at_zero Go.wp_at_succ
set_option linter.unusedVariables false

set_option maxRecDepth 100000 in
set_option maxHeartbeats 6400000 in
theorem own_two {w : World} {base g : Nat} {p q : Nat} (hp : p < 256) (hq : q < 256) (h : w.heap[g]? = some (.cells #[.int .u8 (p : Int), .int .u8 (q : Int)] 5 (0, 0))) (hb : base ≤ g) : Own w base (some ⟨g, 0, none⟩) 2 [UInt8.ofNat p, UInt8.ofNat q] := by
  unfold Own
  rw [List.map_cons, List.map_cons, List.map_nil, bytec_ofNat hp, bytec_ofNat hq]
  exact ⟨rfl, .inr ⟨g, 2, _, rfl, hb, h, Nat.le_refl _, by unfold maxLen; omega, rfl, rfl⟩⟩
set_option maxRecDepth 100000 in
set_option maxHeartbeats 6400000 in
theorem bruns_law (K : BooC) (a b c : Nat) (ha : a < 256) (hb : b < 256) (hc : c < 256) (w : World) :
    Calls Try.prog 5 #[.int .u8 (a : Int), .int .u8 (b : Int), .int .u8 (c : Int)] w fun e w' => e = .returned (.bool true) ∧ Fr (fun _ => False) w w' := by
  obtain ⟨p0, hp0⟩ : ∃ p, p = a % 128 := ⟨_, rfl⟩
  obtain ⟨q1, hq1⟩ : ∃ p, p = b % 127 := ⟨_, rfl⟩
  obtain ⟨q0, hq0⟩ : ∃ q, q = 1 + q1 := ⟨_, rfl⟩
  obtain ⟨r0, hr0⟩ : ∃ p, p = c % 128 := ⟨_, rfl⟩
  have hp128 : p0 < 128 := by omega
  have hq128 : q0 < 128 := by omega
  have hq00 : 0 < q0 := by omega
  have hr128 : r0 < 128 := by omega
  have ra0 : IntKind.i64.wrap (a : Int) = (a : Int) := by rw [IntKind.wrap_i64]; omega
  have ra1 : (a : Int).tmod 128 = (p0 : Int) := by rw [hp0]; rfl
  have ra2 : IntKind.i64.wrap (p0 : Int) = (p0 : Int) := by rw [IntKind.wrap_i64]; omega
  have ra3 : IntKind.u8.wrap (p0 : Int) = (p0 : Int) := by rw [IntKind.wrap_u8]; omega
  have rb0 : IntKind.i64.wrap (b : Int) = (b : Int) := by rw [IntKind.wrap_i64]; omega
  have rb1 : (b : Int).tmod 127 = (q1 : Int) := by rw [hq1]; rfl
  have rb2 : IntKind.i64.wrap (q1 : Int) = (q1 : Int) := by rw [IntKind.wrap_i64]; omega
  have rb3 : IntKind.u8.wrap (q1 : Int) = (q1 : Int) := by rw [IntKind.wrap_u8]; omega
  have rb4 : IntKind.i64.wrap (1 + (q1 : Int)) = (q0 : Int) := by rw [IntKind.wrap_i64]; omega
  have rb5 : IntKind.u8.wrap (1 + (q1 : Int)) = (q0 : Int) := by rw [IntKind.wrap_u8]; omega
  have rc0 : IntKind.i64.wrap (c : Int) = (c : Int) := by rw [IntKind.wrap_i64]; omega
  have rc1 : (c : Int).tmod 128 = (r0 : Int) := by rw [hr0]; rfl
  have rc2 : IntKind.i64.wrap (r0 : Int) = (r0 : Int) := by rw [IntKind.wrap_i64]; omega
  have rc3 : IntKind.u8.wrap (r0 : Int) = (r0 : Int) := by rw [IntKind.wrap_u8]; omega
  clear hp0 hq1 hq0 hr0 ha hb hc
  have hrun := put_runs p0 q0 r0 hp128 hq00 hq128 hr128
  have HRUN := Lib.hid hrun
  clear hrun
  go_enter Try.func5, Try.ntmps5
  go_wp2_with fail
  refine (awake13_any K w).mono ?_
  rintro e w2 ⟨rfl, hf2⟩
  have HF2 := Lib.hid hf2
  clear hf2
  go_wp2_with fail
  go_loopw [7, 8] (fun s v wr => ∃ (j : Nat) (G : List Bool) (p : Nat) (A1 : Option Addr) (c1 : Nat), j ≤ p0 ∧ v = .int .i64 (j : Int) ∧ s = .slice A1 p c1 ∧ p = 0 + j ∧ Hid (G.length = p) ∧ Hid (G = ([] : List Bool) ++ List.replicate j false) ∧ Hid (OwB wr w.heap.size A1 c1 G) ∧ Hid (Fr (fun _ => False) w wr)) (fun _ v _ => p0 - (intOf v).toNat)
  case atStart => exact ⟨0, ([] : List Bool), 0, none, 0, Nat.zero_le _, rfl, rfl, by omega, rfl, (by simp : ([] : List Bool) = ([] : List Bool) ++ List.replicate 0 false), OwB.nil _ _, HF2.out⟩
  case round =>
    obtain ⟨j, G, p, A1, c1, hj, rfl, rfl, hp, HGL, HG, HO, HF⟩ := hrel
    rename World => wr
    by_cases hlt : j < p0
    · have hpn : p ≤ 1000 := by omega
      have hbs : w.heap.size ≤ wr.heap.size := HF.out.size
      obtain ⟨XS, hXS⟩ : ∃ XS, XS = G.map boc := ⟨_, rfl⟩
      have hOx : wr.ownsRow w.heap.size 4 1 (.slice A1 p c1) p XS := by have h := HO.out; unfold OwB at h; rw [HGL.out] at h; rw [hXS]; exact h
      have HXS := Lib.hid hXS
      have HOX := Lib.hid hOx
      have HPJ := Lib.hid hp
      have hjr : IntKind.i64.wrap ((j : Int) + 1) = ((j + 1 : Nat) : Int) := by rw [IntKind.wrap_i64]; omega
      clear hXS hOx hp
      go_wp2_with (at_builtin; refine wpList_app bT13 _ rfl _ _ rfl w.heap.size _ _ _ rfl (HOX.out.alloc _) _ _ _ _ rfl (Rd.one _ _ _) (boc_one [false]) (by unfold maxLen; omega) (by omega) (by simp; omega) ?_)
      intro A' c' w' _ _ hown' hfr' _
      rw [HXS.out] at hown'
      have HO3 : Hid (OwB w' w.heap.size A' c' (G ++ [false])) := Lib.hid (OwB.snoc HGL.out hown')
      have HF3 : Hid (Fr (fun _ => False) w w') := Lib.hid ((HF.out.alloc _).trans hfr' (fun b hb h => by have := (HOX.out.lt _ h).1; omega))
      have HG3 : Hid (G ++ [false] = ([] : List Bool) ++ List.replicate (j + 1) false) := Lib.hid (by rw [HG.out, List.replicate_succ', List.append_assoc])
      have hp := HPJ.out
      clear hown' hfr'
      go_wp2_with fail
      exact ⟨⟨j + 1, G ++ [false], p + 1, A', c', by omega, by go_num, rfl, by omega, (by rw [List.length_append, HGL.out]; rfl : (G ++ [false]).length = p + 1), HG3.out, HO3.out, HF3.out⟩, by simp [intOf]; omega⟩
    · obtain rfl : p0 = j := by omega
      obtain ⟨Ga, hGa⟩ : ∃ Ga, Ga = G := ⟨_, rfl⟩
      obtain ⟨na, hna⟩ : ∃ na, na = p := ⟨_, rfl⟩
      rw [← hGa] at HGL HG HO
      rw [← hna] at HGL ⊢
      rw [← hna] at hp
      rw [Nat.zero_add] at hp
      have HGA := Lib.hid HGL.out
      have HG1 : Hid (Ga = List.replicate p0 false) := Lib.hid (by rw [HG.out]; rfl)
      have HOA := Lib.hid HO.out
      have HFA := Lib.hid HF.out
      have hna1 : na ≤ 127 := by omega
      clear hGa hna HGL HG HO HF hp
      go_wp2_with fail
      go_loopw [7, 9] (fun s v wr => ∃ (j : Nat) (G : List Bool) (p : Nat) (A1 : Option Addr) (c1 : Nat), j ≤ q0 ∧ v = .int .i64 (j : Int) ∧ s = .slice A1 p c1 ∧ p = na + j ∧ Hid (G.length = p) ∧ Hid (G = Ga ++ List.replicate j true) ∧ Hid (OwB wr w.heap.size A1 c1 G) ∧ Hid (Fr (fun _ => False) w wr)) (fun _ v _ => q0 - (intOf v).toNat)
      case atStart => exact ⟨0, Ga, na, A1, c1, Nat.zero_le _, rfl, rfl, by omega, HGA.out, (by simp : Ga = Ga ++ List.replicate 0 true), HOA.out, HFA.out⟩
      case round =>
        obtain ⟨j, G, p, A1, c1, hj, rfl, rfl, hp, HGL, HG, HO, HF⟩ := hrel
        rename World => wr
        by_cases hlt : j < q0
        · have hpn : p ≤ 1000 := by omega
          have hbs : w.heap.size ≤ wr.heap.size := HF.out.size
          obtain ⟨XS, hXS⟩ : ∃ XS, XS = G.map boc := ⟨_, rfl⟩
          have hOx : wr.ownsRow w.heap.size 4 1 (.slice A1 p c1) p XS := by have h := HO.out; unfold OwB at h; rw [HGL.out] at h; rw [hXS]; exact h
          have HXS := Lib.hid hXS
          have HOX := Lib.hid hOx
          have HPJ := Lib.hid hp
          have hjr : IntKind.i64.wrap ((j : Int) + 1) = ((j + 1 : Nat) : Int) := by rw [IntKind.wrap_i64]; omega
          clear hXS hOx hp
          go_wp2_with (at_builtin; refine wpList_app bT13 _ rfl _ _ rfl w.heap.size _ _ _ rfl (HOX.out.alloc _) _ _ _ _ rfl (Rd.one _ _ _) (boc_one [true]) (by unfold maxLen; omega) (by omega) (by simp; omega) ?_)
          intro A' c' w' _ _ hown' hfr' _
          rw [HXS.out] at hown'
          have HO3 : Hid (OwB w' w.heap.size A' c' (G ++ [true])) := Lib.hid (OwB.snoc HGL.out hown')
          have HF3 : Hid (Fr (fun _ => False) w w') := Lib.hid ((HF.out.alloc _).trans hfr' (fun b hb h => by have := (HOX.out.lt _ h).1; omega))
          have HG3 : Hid (G ++ [true] = Ga ++ List.replicate (j + 1) true) := Lib.hid (by rw [HG.out, List.replicate_succ', List.append_assoc])
          have hp := HPJ.out
          clear hown' hfr'
          go_wp2_with fail
          exact ⟨⟨j + 1, G ++ [true], p + 1, A', c', by omega, by go_num, rfl, by omega, (by rw [List.length_append, HGL.out]; rfl : (G ++ [true]).length = p + 1), HG3.out, HO3.out, HF3.out⟩, by simp [intOf]; omega⟩
        · obtain rfl : q0 = j := by omega
          obtain ⟨Gb, hGb⟩ : ∃ Gb, Gb = G := ⟨_, rfl⟩
          obtain ⟨nb, hnb⟩ : ∃ nb, nb = p := ⟨_, rfl⟩
          rw [← hGb] at HGL HG HO
          rw [← hnb] at HGL ⊢
          rw [← hnb] at hp
          have HGB := Lib.hid HGL.out
          have HG2 : Hid (Gb = List.replicate p0 false ++ List.replicate q0 true) := Lib.hid (by rw [HG.out, HG1.out])
          have HOB := Lib.hid HO.out
          have HFB := Lib.hid HF.out
          have hnb1 : nb ≤ 254 := by omega
          clear hGb hnb HGL HG HO HF hp
          by_cases hr : 0 < r0
          · have t1 : decide ((0 : Int) < (r0 : Int)) = true := by simp; omega
            have t1' : decide (0 < r0) = true := by simp; omega
            go_wp2_with fail
            obtain ⟨w5, hw5⟩ : ∃ w5, wr.alloc (.cells #[.int .u8 (p0 : Int), .int .u8 (q0 : Int)] 5) = w5 := ⟨_, rfl⟩
            rw [hw5]
            obtain ⟨gw, hgw⟩ : ∃ g, wr.heap.size = g := ⟨_, rfl⟩
            rw [hgw]
            have hf5 : Fr (fun _ => False) wr w5 := by rw [← hw5]; exact (Fr.refl _ _).alloc _
            have HW0 : Hid (w5.heap[gw]? = some (.cells #[.int .u8 (p0 : Int), .int .u8 (q0 : Int)] 5 (0, 0))) := Lib.hid (by rw [← hw5, ← hgw]; exact heap_alloc_new wr _)
            have HGW : Hid (w.heap.size ≤ gw) := Lib.hid (by rw [← hgw]; exact HFB.out.size)
            have HOB5 := Lib.hid (HOB.out.fr hf5)
            have HFB5 := Lib.hid (HFB.out.trans hf5 (fun _ _ h => h))
            clear hw5 hgw hf5 HOB HFB
            obtain ⟨z, hz⟩ : ∃ z : Nat, z = 2 := ⟨_, rfl⟩
            obtain ⟨V, hV⟩ : ∃ V, V = Value.slice (some ⟨gw, 0, none⟩) 2 2 := ⟨_, rfl⟩
            rw [← hV]
            rw [← hz] at hV
            have HZ := Lib.hid hz
            have HV := Lib.hid hV
            clear hz hV
            go_wp2_with fail
            go_loopw [7, 11] (fun s v wr => ∃ (j : Nat) (G : List Bool) (p : Nat) (A1 : Option Addr) (c1 : Nat), j ≤ r0 ∧ v = .int .i64 (j : Int) ∧ s = .slice A1 p c1 ∧ p = nb + j ∧ Hid (G.length = p) ∧ Hid (G = Gb ++ List.replicate j false) ∧ Hid (OwB wr w.heap.size A1 c1 G) ∧ Hid (Fr (fun _ => False) w wr) ∧ Hid (wr.heap[gw]? = some (.cells #[.int .u8 (p0 : Int), .int .u8 (q0 : Int)] 5 (0, 0)))) (fun _ v _ => r0 - (intOf v).toNat)
            case atStart => exact ⟨0, Gb, nb, A1, c1, Nat.zero_le _, rfl, rfl, by omega, HGB.out, (by simp : Gb = Gb ++ List.replicate 0 false), HOB5.out, HFB5.out, HW0.out⟩
            case round =>
              obtain ⟨j, G, p, A1, c1, hj, rfl, rfl, hp, HGL, HG, HO, HF, HW⟩ := hrel
              rename World => wr
              by_cases hlt : j < r0
              · have hpn : p ≤ 1000 := by omega
                have hbs : w.heap.size ≤ wr.heap.size := HF.out.size
                obtain ⟨XS, hXS⟩ : ∃ XS, XS = G.map boc := ⟨_, rfl⟩
                have hOx : wr.ownsRow w.heap.size 4 1 (.slice A1 p c1) p XS := by have h := HO.out; unfold OwB at h; rw [HGL.out] at h; rw [hXS]; exact h
                have HXS := Lib.hid hXS
                have HOX := Lib.hid hOx
                have HPJ := Lib.hid hp
                have hjr : IntKind.i64.wrap ((j : Int) + 1) = ((j + 1 : Nat) : Int) := by rw [IntKind.wrap_i64]; omega
                clear hXS hOx hp
                go_wp2_with (at_builtin; refine wpList_app bT13 _ rfl _ _ rfl w.heap.size _ _ _ rfl (HOX.out.alloc _) _ _ _ _ rfl (Rd.one _ _ _) (boc_one [false]) (by unfold maxLen; omega) (by omega) (by simp; omega) ?_)
                intro A' c' w' _ _ hown' hfr' _
                rw [HXS.out] at hown'
                have HO3 : Hid (OwB w' w.heap.size A' c' (G ++ [false])) := Lib.hid (OwB.snoc HGL.out hown')
                have HF3 : Hid (Fr (fun _ => False) w w') := Lib.hid ((HF.out.alloc _).trans hfr' (fun b hb h => by have := (HOX.out.lt _ h).1; omega))
                have HG3 : Hid (G ++ [false] = Gb ++ List.replicate (j + 1) false) := Lib.hid (by rw [HG.out, List.replicate_succ', List.append_assoc])
                have HW3 : Hid (w'.heap[gw]? = some (.cells #[.int .u8 (p0 : Int), .int .u8 (q0 : Int)] 5 (0, 0))) := Lib.hid (hfr'.blk (((Fr.refl (fun _ => False) wr).alloc _).blk HW.out (fun h => h)) (own_ne HOX.out HW.out (by decide)))
                have hp := HPJ.out
                clear hown' hfr'
                go_wp2_with fail
                exact ⟨⟨j + 1, G ++ [false], p + 1, A', c', by omega, by go_num, rfl, by omega, (by rw [List.length_append, HGL.out]; rfl : (G ++ [false]).length = p + 1), HG3.out, HO3.out, HF3.out, HW3.out⟩, by simp [intOf]; omega⟩
              · obtain rfl : r0 = j := by omega
                have hp9 : p ≤ 1000 := by omega
                clear hp
                have hOW : Own wr w.heap.size (some ⟨gw, 0, none⟩) 2 [UInt8.ofNat p0, UInt8.ofNat q0] := own_two (by omega) (by omega) HW.out HGW.out
                have hOZ : wr.ownsRow w.heap.size 5 1 V z ([UInt8.ofNat p0, UInt8.ofNat q0].map bytec) := by rw [HV.out, HZ.out]; exact hOW
                obtain ⟨XW, hXW⟩ : ∃ XW, XW = [UInt8.ofNat p0, UInt8.ofNat q0].map bytec := ⟨_, rfl⟩
                rw [← hXW] at hOZ
                have HXW := Lib.hid hXW
                have HOW := Lib.hid hOZ
                have hz4 : z ≤ 4 := by rw [HZ.out]; omega
                have hbs : w.heap.size ≤ wr.heap.size := HF.out.size
                clear hOW hOZ hXW
                go_wp2_with (at_builtin; refine wpList_app u8T _ rfl _ _ rfl w.heap.size _ _ _ rfl (HOW.out.alloc _) _ _ _ _ rfl (Rd.one _ _ _) (one_one _ _) (by unfold maxLen; omega) (by omega) (by simp; omega) ?_)
                intro A' c' w7 _ _ hown7 hfr7 hwh7
                rw [HXW.out] at hown7
                have HW7 : Hid (Own w7 w.heap.size A' c' [UInt8.ofNat p0, UInt8.ofNat q0, UInt8.ofNat r0]) := Lib.hid (Own.snoc (D := [UInt8.ofNat p0, UInt8.ofNat q0]) (by have h := hown7; rw [HZ.out] at h; exact h) (by omega) rfl)
                have HO7 : Hid (OwB w7 w.heap.size A1 c1 G) := Lib.hid (by
                  have hg : wr.heap[gw]? = some (.cells #[.int .u8 (p0 : Int), .int .u8 (q0 : Int)] 5 (0, 0)) := HW.out
                  have h1 := HO.out.alloc (.cells #[.int .u8 (r0 : Int)] 5)
                  exact hfr7.own h1 (fun k hk e => by
                    rw [HV.out] at e
                    have e' : gw = k := by simpa [Value.ownBlock] using e
                    subst e'
                    exact own_ne HO.out hg (by decide) hk))
                have HF7 : Hid (Fr (fun _ => False) w w7) := Lib.hid ((HF.out.alloc _).trans hfr7 (fun b hb h => by have := (HOW.out.lt _ h).1; omega))
                clear hown7 hfr7 hwh7
                obtain ⟨P, hP⟩ : ∃ P, P = [UInt8.ofNat p0, UInt8.ofNat q0, UInt8.ofNat r0] := ⟨_, rfl⟩
                have HPC : Hid (∀ w', Fr (fun _ => False) w7 w' → Calls Try.prog 7 #[.slice A1 p c1] w' (Gives w' P)) := Lib.hid (fun w' hf => by
                  have hrd := (HO7.out.fr hf).rd
                  rw [HGL.out] at hrd
                  have h := K.put A1 p c1 G w' hrd (by omega)
                  have e := HRUN.out
                  rw [if_pos (by omega), ← HG2.out, ← HG.out] at e
                  rw [e] at h
                  rw [hP]
                  exact h)
                have HST : Hid (∀ w', Fr (fun _ => False) w7 w' → (convert 24 9 (.slice A' (z + 1) c')).run Try.prog w' = .ok (.string (txt P)) w') := Lib.hid (fun w' hf => by
                  rw [hP, HZ.out]
                  exact (HW7.out.fr hf).str)
                clear hP
                go_upto_region 19 with fail
                refine wp_region_held_drew (S := fun w' => Fr (fun _ => False) w7 w') (by kernel_rfl) ?_ (fun hHeld => ?_)
                · exact (Fr.refl _ _).drew
                refine wpAnyH_take (i := 0) (v := ?vz30) rfl (by kernel_rfl) (by kernel_rfl) (by kernel_rfl) (fun _ _ _ h => h) (Or.inl ⟨by rfl, ?hyz30⟩) hHeld ?restz30
                case hyz30 => intro w hSw; (try dsimp only at hSw); go_simp; try (with_reducible rfl)
                (try simp only [Act.put, List.setIfInBounds_toArray, List.set_cons_zero, List.set_cons_succ, List.getElem_toArray, List.getElem_cons_zero])
                refine wpAnyH_take (i := 3) (v := ?vz33) rfl (by kernel_rfl) (by kernel_rfl) (by kernel_rfl) (fun _ _ _ h => h) (Or.inl ⟨by rfl, ?hyz33⟩) hHeld ?restz33
                case hyz33 => intro w hSw; (try dsimp only at hSw); go_simp; try (with_reducible rfl)
                (try simp only [Act.put, List.setIfInBounds_toArray, List.set_cons_zero, List.set_cons_succ, List.getElem_toArray, List.getElem_cons_zero, List.getElem_cons_succ])
                refine wpAnyH_take (i := 4) (v := ?vz34) rfl (by kernel_rfl) (by kernel_rfl) (by kernel_rfl) (fun _ _ _ h => h) (Or.inl ⟨by rfl, ?hyz34⟩) hHeld ?restz34
                case hyz34 => intro w hSw; (try dsimp only at hSw); have hcv := HST.out w hSw; go_simp; try (with_reducible rfl)
                (try simp only [Act.put, List.setIfInBounds_toArray, List.set_cons_zero, List.set_cons_succ, List.getElem_toArray, List.getElem_cons_zero, List.getElem_cons_succ])
                refine wpAnyH_ready (rs := [1]) (by kernel_rfl) (by simp) ?_
                refine AllReadyH.cons rfl (fun Kx hKx => ?_) AllReadyH.nil
                go_simp
                have hcon := HPC.out w7.drew (Fr.refl _ _).drew
                with_reducible refine hcon.mono ?_
                clear hcon
                rintro e' x1 ⟨Z1, z1, rfl, ho, hff⟩
                have HFx1 : Hid (Fr (fun _ => False) w7 x1) := Lib.hid ((Fr.refl _ _).drew.trans hff (fun _ _ h => h))
                have HZ1 := Lib.hid ho
                clear ho
                refine hKx.out _ _ ?_ (fun hHeld => ?_)
                · exact HFx1.out
                clear hKx Kx hff
                (try simp only [Act.put, List.setIfInBounds_toArray, List.set_cons_zero, List.set_cons_succ, List.getElem_toArray, List.getElem_cons_zero, List.getElem_cons_succ])
                refine wpAnyH_more (fun w' => Fr (fun _ => False) x1 w') (fun _ h => HFx1.out.trans h (fun _ _ h => h)) ?_ (fun hHeld => ?_)
                · exact Fr.refl _ _
                refine wpAnyH_take (i := 2) (v := ?vz32) rfl (by kernel_rfl) (by kernel_rfl) (by kernel_rfl) (fun _ _ _ h => h) (Or.inl ⟨by rfl, ?hyz32⟩) hHeld ?restz32
                case hyz32 => intro w hSw; (try dsimp only at hSw); have hcv := (HZ1.out.fr hSw).str; go_simp; try (with_reducible rfl)
                (try simp only [Act.put, List.setIfInBounds_toArray, List.set_cons_zero, List.set_cons_succ, List.getElem_toArray, List.getElem_cons_zero, List.getElem_cons_succ])
                refine wpAnyH_take (i := 5) (v := ?vz35) rfl (by kernel_rfl) (by kernel_rfl) (by kernel_rfl) (fun _ _ _ h => h) (Or.inl ⟨by rfl, ?hyz35⟩) hHeld ?restz35
                case hyz35 => intro w hSw; (try dsimp only at hSw); go_simp; try (with_reducible rfl)
                (try simp only [Act.put, List.setIfInBounds_toArray, List.set_cons_zero, List.set_cons_succ, List.getElem_toArray, List.getElem_cons_zero, List.getElem_cons_succ])
                refine wpAnyH_ready (rs := [6]) (by kernel_rfl) (by simp) ?_
                refine AllReadyH.cons rfl (fun Kx hKx => ?_) AllReadyH.nil
                go_simp
                refine hKx.out _ _ ?_ (fun hHeld => ?_)
                · exact Fr.refl _ _
                clear hKx Kx
                (try simp only [Act.put, List.setIfInBounds_toArray, List.set_cons_zero, List.set_cons_succ, List.getElem_toArray, List.getElem_cons_zero, List.getElem_cons_succ])
                refine wpAnyH_done (by kernel_rfl) ?_ _
                have HFE := Lib.hid (HF7.out.trans HFx1.out (fun _ _ h => h))
                go_wp2_with fail
                go_ret
                exact ⟨rfl, HFE.out⟩
          · have t1 : decide ((0 : Int) < (r0 : Int)) = false := by simp; omega
            have t1' : decide (0 < r0) = false := by simp; omega
            go_wp2_with fail
            obtain ⟨w5, hw5⟩ : ∃ w5, wr.alloc (.cells #[.int .u8 (p0 : Int), .int .u8 (q0 : Int)] 5) = w5 := ⟨_, rfl⟩
            rw [hw5]
            obtain ⟨gw, hgw⟩ : ∃ g, wr.heap.size = g := ⟨_, rfl⟩
            rw [hgw]
            have hf5 : Fr (fun _ => False) wr w5 := by rw [← hw5]; exact (Fr.refl _ _).alloc _
            have HW0 : Hid (w5.heap[gw]? = some (.cells #[.int .u8 (p0 : Int), .int .u8 (q0 : Int)] 5 (0, 0))) := Lib.hid (by rw [← hw5, ← hgw]; exact heap_alloc_new wr _)
            have HGW : Hid (w.heap.size ≤ gw) := Lib.hid (by rw [← hgw]; exact HFB.out.size)
            have HOB5 := Lib.hid (HOB.out.fr hf5)
            have HFB5 := Lib.hid (HFB.out.trans hf5 (fun _ _ h => h))
            clear hw5 hgw hf5 HOB HFB
            obtain ⟨P, hP⟩ : ∃ P, P = [UInt8.ofNat p0, UInt8.ofNat q0] := ⟨_, rfl⟩
            have HPC : Hid (∀ w', Fr (fun _ => False) w5 w' → Calls Try.prog 7 #[.slice A1 nb c1] w' (Gives w' P)) := Lib.hid (fun w' hf => by
              have hrd := (HOB5.out.fr hf).rd
              rw [HGB.out] at hrd
              have h := K.put A1 nb c1 Gb w' hrd (by omega)
              have e := HRUN.out
              rw [if_neg (by omega)] at e
              have hz : List.replicate r0 false = [] := by rw [show r0 = 0 by omega]; rfl
              rw [hz, List.append_nil, List.append_nil, ← HG2.out] at e
              rw [e, ← hP] at h
              exact h)
            have HOW0 : Hid (Own w5 w.heap.size (some ⟨gw, 0, none⟩) 2 [UInt8.ofNat p0, UInt8.ofNat q0]) := Lib.hid (own_two (by omega) (by omega) HW0.out HGW.out)
            have HST : Hid (∀ w', Fr (fun _ => False) w5 w' → (convert 24 9 (.slice (some ⟨gw, 0, none⟩) 2 2)).run Try.prog w' = .ok (.string (txt P)) w') := Lib.hid (fun w' hf => by
              rw [hP]
              exact (HOW0.out.fr hf).str)
            clear hP
            go_upto_region 19 with fail
            refine wp_region_held_drew (S := fun w' => Fr (fun _ => False) w5 w') (by kernel_rfl) ?_ (fun hHeld => ?_)
            · exact (Fr.refl _ _).drew
            refine wpAnyH_take (i := 0) (v := ?vz20) rfl (by kernel_rfl) (by kernel_rfl) (by kernel_rfl) (fun _ _ _ h => h) (Or.inl ⟨by rfl, ?hyz20⟩) hHeld ?restz20
            case hyz20 => intro w hSw; (try dsimp only at hSw); go_simp; try (with_reducible rfl)
            (try simp only [Act.put, List.setIfInBounds_toArray, List.set_cons_zero, List.set_cons_succ, List.getElem_toArray, List.getElem_cons_zero])
            refine wpAnyH_take (i := 3) (v := ?vz23) rfl (by kernel_rfl) (by kernel_rfl) (by kernel_rfl) (fun _ _ _ h => h) (Or.inl ⟨by rfl, ?hyz23⟩) hHeld ?restz23
            case hyz23 => intro w hSw; (try dsimp only at hSw); go_simp; try (with_reducible rfl)
            (try simp only [Act.put, List.setIfInBounds_toArray, List.set_cons_zero, List.set_cons_succ, List.getElem_toArray, List.getElem_cons_zero, List.getElem_cons_succ])
            refine wpAnyH_take (i := 4) (v := ?vz24) rfl (by kernel_rfl) (by kernel_rfl) (by kernel_rfl) (fun _ _ _ h => h) (Or.inl ⟨by rfl, ?hyz24⟩) hHeld ?restz24
            case hyz24 => intro w hSw; (try dsimp only at hSw); have hcv := HST.out w hSw; go_simp; try (with_reducible rfl)
            (try simp only [Act.put, List.setIfInBounds_toArray, List.set_cons_zero, List.set_cons_succ, List.getElem_toArray, List.getElem_cons_zero, List.getElem_cons_succ])
            refine wpAnyH_ready (rs := [1]) (by kernel_rfl) (by simp) ?_
            refine AllReadyH.cons rfl (fun Kx hKx => ?_) AllReadyH.nil
            go_simp
            have hcon := HPC.out w5.drew (Fr.refl _ _).drew
            with_reducible refine hcon.mono ?_
            clear hcon
            rintro e' x1 ⟨Z1, z1, rfl, ho, hff⟩
            have HFx1 : Hid (Fr (fun _ => False) w5 x1) := Lib.hid ((Fr.refl _ _).drew.trans hff (fun _ _ h => h))
            have HZ1 := Lib.hid ho
            clear ho
            refine hKx.out _ _ ?_ (fun hHeld => ?_)
            · exact HFx1.out
            clear hKx Kx hff
            (try simp only [Act.put, List.setIfInBounds_toArray, List.set_cons_zero, List.set_cons_succ, List.getElem_toArray, List.getElem_cons_zero, List.getElem_cons_succ])
            refine wpAnyH_more (fun w' => Fr (fun _ => False) x1 w') (fun _ h => HFx1.out.trans h (fun _ _ h => h)) ?_ (fun hHeld => ?_)
            · exact Fr.refl _ _
            refine wpAnyH_take (i := 2) (v := ?vz22) rfl (by kernel_rfl) (by kernel_rfl) (by kernel_rfl) (fun _ _ _ h => h) (Or.inl ⟨by rfl, ?hyz22⟩) hHeld ?restz22
            case hyz22 => intro w hSw; (try dsimp only at hSw); have hcv := (HZ1.out.fr hSw).str; go_simp; try (with_reducible rfl)
            (try simp only [Act.put, List.setIfInBounds_toArray, List.set_cons_zero, List.set_cons_succ, List.getElem_toArray, List.getElem_cons_zero, List.getElem_cons_succ])
            refine wpAnyH_take (i := 5) (v := ?vz25) rfl (by kernel_rfl) (by kernel_rfl) (by kernel_rfl) (fun _ _ _ h => h) (Or.inl ⟨by rfl, ?hyz25⟩) hHeld ?restz25
            case hyz25 => intro w hSw; (try dsimp only at hSw); go_simp; try (with_reducible rfl)
            (try simp only [Act.put, List.setIfInBounds_toArray, List.set_cons_zero, List.set_cons_succ, List.getElem_toArray, List.getElem_cons_zero, List.getElem_cons_succ])
            refine wpAnyH_ready (rs := [6]) (by kernel_rfl) (by simp) ?_
            refine AllReadyH.cons rfl (fun Kx hKx => ?_) AllReadyH.nil
            go_simp
            refine hKx.out _ _ ?_ (fun hHeld => ?_)
            · exact Fr.refl _ _
            clear hKx Kx
            (try simp only [Act.put, List.setIfInBounds_toArray, List.set_cons_zero, List.set_cons_succ, List.getElem_toArray, List.getElem_cons_zero, List.getElem_cons_succ])
            refine wpAnyH_done (by kernel_rfl) ?_ _
            have HFE := Lib.hid (HFB5.out.trans HFx1.out (fun _ _ h => h))
            go_wp2_with fail
            go_ret
            exact ⟨rfl, HFE.out⟩
end Go.Proofs.Ythioijbifmfhlaa
