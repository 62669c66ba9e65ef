/-
  Layer 12, the reference's Steps (written by gen_steps.py).
-/
import Derived.Test.YtedmnkcoflbciaaGreatRleX
import Derived.Test.YtedmnkcoflbciaaGreatZm18
namespace Go.Proofs.YtedmnkcoflbciaaGreat
open Go.RowKit Mem Go.Lib RleM LebM
attribute [local go_sem ↓] Go.wp_at_zero Go.wp_at_succ
set_option linter.unusedVariables false

set_option maxRecDepth 100000 in
set_option maxHeartbeats 3200000 in
theorem rSteps_any (A : Option Addr) (n c : Nat) (L : List (Bool × Int)) (w : World) (hL : Cls nv w A n L) (hn : n ≤ 1000000) (hrng : ∀ x ∈ L, okS x) :
    Calls Tryz.prog 59 #[.slice A n c] w fun e w' => ∃ A' c', e = .returned (.slice A' (stepsF 0 L).length c') ∧ OwnC nv 77 w' w.heap.size A' c' (stepsF 0 L) ∧ Fr (fun _ => False) w w' := by
  have HL := Lib.hid hL
  have hln := hL.1
  have HLN := Lib.hid hln
  clear hL hln
  have HRNG := Lib.hid hrng
  clear hrng
  obtain ⟨base, hbase⟩ : ∃ base, base = w.heap.size := ⟨_, rfl⟩
  have HB := Lib.hid hbase
  rw [← hbase]
  clear hbase
  obtain ⟨R, hR⟩ : ∃ R, R = stepsF 0 L := ⟨_, rfl⟩
  rw [← hR]
  have HR := Lib.hid hR
  clear hR
  go_enter Tryz.func59, Tryz.ntmps59
  go_wp2_with fail
  go_loopw [3, 4] (fun s v wr => ∃ (k : Nat) (G : List (Bool × Int)) (A1 : Option Addr) (c1 : Nat), k ≤ n ∧ v = .int .i64 (k : Int) ∧ s = .slice A1 G.length c1 ∧ Hid (G = stepsF 0 (L.take k)) ∧ Hid (OwnC nv 77 wr base A1 c1 G) ∧ Hid (Fr (fun _ => False) w wr)) (fun _ v _ => n - (intOf v).toNat)
  case atStart => exact ⟨0, [], none, 0, Nat.zero_le _, rfl, rfl, (by simp [stepsF] : ([] : List (Bool × Int)) = stepsF 0 (L.take 0)), OwnC.nil _ _ _, Fr.refl _ _⟩
  case round =>
    obtain ⟨k, G, A1, c1, hk, rfl, rfl, HG, HO, HF⟩ := hrel
    rename World => wr
    by_cases hlt : k < n
    · obtain ⟨t, ht⟩ : ∃ t, L[k]? = some t := ⟨_, List.getElem?_eq_getElem (by have := HLN.out; omega)⟩
      obtain ⟨g, o, rfl, hg, h1, h2⟩ := (HL.out.fr HF.out (fun _ _ => id)).2 k t ht
      obtain ⟨i, x⟩ := t
      have hok : okS (i, x) := HRNG.out _ (List.mem_of_getElem? ht)
      simp only [nv] at h1 h2
      have hgl : G.length ≤ 1000000 := by rw [HG.out, steps_len, List.length_take]; omega
      have HT := Lib.hid ht
      have HOK := Lib.hid hok
      obtain ⟨N1, hN1⟩ : ∃ N1, N1 = G.length + 1 := ⟨_, rfl⟩
      have hN1l : N1 ≤ 1000001 := by omega
      have HN1 := Lib.hid hN1
      obtain ⟨p, hp⟩ : ∃ p, p = lastF 0 (L.take k) := ⟨_, rfl⟩
      have HPE := Lib.hid hp
      obtain ⟨XS, hXS⟩ : ∃ XS, XS = G.flatMap (ccells nv) := ⟨_, rfl⟩
      have hOx : wr.ownsRow base 77 2 (.slice A1 G.length c1) G.length XS := by rw [hXS]; exact HO.out
      have HXS := Lib.hid hXS
      have HOX := Lib.hid hOx
      have HBW : Hid (base ≤ wr.heap.size) := Lib.hid (by have h1 := HB.out; have h2 := HF.out.size; omega)
      clear ht hN1 hXS hOx hok hp
      go_upto_region 6 with fail
      obtain ⟨w1, hw1⟩ : ∃ w1, wr.alloc (.cells #[.bool i, .int .i64 x] 77) = w1 := ⟨_, rfl⟩
      rw [hw1]
      obtain ⟨g1, hg1'⟩ : ∃ g, wr.heap.size = g := ⟨_, rfl⟩
      rw [hg1']
      have hf1 : Fr (fun _ => False) wr w1 := by rw [← hw1]; exact (Fr.refl _ _).alloc _
      have hg1 : Row w1 g1 77 [.bool i, .int .i64 x] := by rw [← hw1, ← hg1']; exact Row.new wr _ _
      have hsz1 : w1.heap.size = g1 + 1 := by rw [← hw1, ← hg1']; simp
      have hgg : g1 = wr.heap.size := hg1'.symm
      have HOX1 := Lib.hid (hf1.own HOX.out (fun _ _ h => h))
      have HF1 := Lib.hid (HF.out.trans hf1 (fun _ _ h => h))
      have HGG := Lib.hid (And.intro hgg hsz1)
      have a0 : w1.cell? ⟨g1, 0, none⟩ = some (.bool i) := hg1.cell rfl
      have a1 : w1.cell? ⟨g1, 1, none⟩ = some (.int .i64 x) := hg1.cell rfl
      have z1 : w1.frozen? ⟨g1, 1, none⟩ = false := hg1.free 1
      have HROW := Lib.hid hg1
      clear h1 h2
      clear hw1 hg1' hf1 hg1 hsz1 hgg
      replace HBW : Hid (base ≤ w1.heap.size) := Lib.hid (by have h1 := HBW.out; have h2 := HGG.out; omega)
      have r6 : IntKind.i64.wrap ((k : Int) - 1) = (k : Int) - 1 := by rw [IntKind.wrap_i64]; omega
      go_wp2_with fail
      go_loopw [6] (fun v wq => ∃ j : Nat, j ≤ k ∧ v = .int .i64 ((j : Int) - 1) ∧ w1 = wq ∧ Hid (lastF 0 (L.take j) = p)) (fun v _ => (intOf v + 1).toNat)
      case atStart => exact ⟨k, Nat.le_refl _, rfl, rfl, HPE.out.symm⟩
      case round =>
        obtain ⟨j, hj, rfl, rfl, HP⟩ := hrel
        match j, hj, HP with
        | 0, _, HP =>
          rw [show ((0 : Nat) : Int) - 1 = -1 from rfl]
          have hp0 : p = 0 := HP.out.symm
          have HCELL : Hid (stepF p (i, x) = (i, x)) := Lib.hid (by
            rw [hp0]
            show (i, if i = true then IntKind.i64.wrap (x - 0) else x) = _
            have h1 := HOK.out.1
            have h2 := HOK.out.2
            simp only at h1 h2
            rw [show IntKind.i64.wrap (x - 0) = x by rw [IntKind.wrap_i64]; omega]
            cases i <;> rfl)
          have HOXW := HOX1
          have HFW := HF1
          clear hp0
          go_wp2_with (at_builtin; refine wpList_appS cellTC _ rfl _ _ rfl base _ _ _ rfl (HOXW.out.alloc _) _ _ [.bool i, .int .i64 x] rfl rfl (new_at (by simp) [.bool i, .int .i64 x] _) (by intro u hu; simp at hu; rcases hu with rfl | rfl <;> rfl) N1 HN1.out (by unfold maxLen; omega) (by omega) (by have h1 := HBW.out; simp; omega) ?_)
          intro A' c' w' hown' _ hfr'
          rw [HXS.out] at hown'
          obtain ⟨G3, hG3⟩ : ∃ G3, G3 = G ++ [(i, x)] := ⟨_, rfl⟩
          have HO3 : Hid (OwnC nv 77 w' base A' c' G3) := Lib.hid (by rw [hG3]; exact OwnC.snoc (f := nv) (t := (i, x)) HN1.out hown')
          have HF3 : Hid (Fr (fun _ => False) w w') := Lib.hid ((HFW.out.alloc _).trans hfr' (fun b hb h => by have h1 := (HOXW.out.lt _ h).1; have h2 := HB.out; omega))
          have hNG : N1 = G3.length := by rw [HN1.out, hG3]; simp
          have HG3 : Hid (G3 = stepsF 0 (L.take (k + 1))) := Lib.hid (by rw [(steps_take 0 L k _ HT.out).1, ← HPE.out, HCELL.out, ← HG.out, hG3])
          have HNG := Lib.hid hNG
          clear hown' hfr' hG3 hNG
          go_wp2
          go_roundw
          case rel => exact ⟨k + 1, G3, A', c', by omega, by go_num, by rw [HNG.out], HG3.out, HO3.out, HF3.out⟩
          case measure => simp [intOf] <;> omega
        | j + 1, hj, HP =>
          rw [show ((j + 1 : Nat) : Int) - 1 = (j : Int) by omega]
          have tj : decide ((0 : Int) ≤ (j : Int)) = true := by simp
          have r7 : IntKind.i64.wrap ((j : Int) - 1) = (j : Int) - 1 := by rw [IntKind.wrap_i64]; omega
          cases i with
          | false =>
            have HCELL : Hid (stepF p (false, x) = (false, x)) := Lib.hid rfl
            have HOXW := HOX1
            have HFW := HF1
            go_wp2_with (at_builtin; refine wpList_appS cellTC _ rfl _ _ rfl base _ _ _ rfl (HOXW.out.alloc _) _ _ [.bool false, .int .i64 x] rfl rfl (new_at (by simp) [.bool false, .int .i64 x] _) (by intro u hu; simp at hu; rcases hu with rfl | rfl <;> rfl) N1 HN1.out (by unfold maxLen; omega) (by omega) (by have h1 := HBW.out; simp; omega) ?_)
            intro A' c' w' hown' _ hfr'
            rw [HXS.out] at hown'
            obtain ⟨G3, hG3⟩ : ∃ G3, G3 = G ++ [(false, x)] := ⟨_, rfl⟩
            have HO3 : Hid (OwnC nv 77 w' base A' c' G3) := Lib.hid (by rw [hG3]; exact OwnC.snoc (f := nv) (t := (false, x)) HN1.out hown')
            have HF3 : Hid (Fr (fun _ => False) w w') := Lib.hid ((HFW.out.alloc _).trans hfr' (fun b hb h => by have h1 := (HOXW.out.lt _ h).1; have h2 := HB.out; omega))
            have hNG : N1 = G3.length := by rw [HN1.out, hG3]; simp
            have HG3 : Hid (G3 = stepsF 0 (L.take (k + 1))) := Lib.hid (by rw [(steps_take 0 L k _ HT.out).1, ← HPE.out, HCELL.out, ← HG.out, hG3])
            have HNG := Lib.hid hNG
            clear hown' hfr' hG3 hNG
            go_wp2
            go_roundw
            case rel => exact ⟨k + 1, G3, A', c', by omega, by go_num, by rw [HNG.out], HG3.out, HO3.out, HF3.out⟩
            case measure => simp [intOf] <;> omega
          | true =>
            obtain ⟨t', ht'⟩ : ∃ t, L[j]? = some t := ⟨_, List.getElem?_eq_getElem (by have := HLN.out; omega)⟩
            obtain ⟨g', o', hA', hg', h1, h2⟩ := (HL.out.fr HF1.out (fun _ _ => id)).2 j t' ht'
            injection hA' with hA'
            injection hA' with hAg hAo
            subst hAg hAo
            have hl := (steps_take 0 L j t' ht').2
            rw [HP.out] at hl
            obtain ⟨i', y⟩ := t'
            simp only [nv] at h1 h2 hl
            clear ht' hg'
            cases i' with
            | false =>
              rw [if_neg (by simp)] at hl
              have HL' := Lib.hid hl
              clear hl
              go_wp2_with fail
              exact ⟨⟨j, by omega, rfl, trivial, HL'.out.symm⟩, by simp [intOf] <;> omega⟩
            | true =>
              rw [if_pos rfl] at hl
              obtain ⟨d, hd⟩ : ∃ d, d = IntKind.i64.wrap (x - y) := ⟨_, rfl⟩
              have HCELL : Hid (stepF p (true, x) = (true, d)) := Lib.hid (by rw [hl, hd]; rfl)
              have rd : IntKind.i64.wrap (IntKind.u64.wrap (IntKind.u64.wrap x - IntKind.u64.wrap y)) = d := by rw [hd, IntKind.wrap_i64, IntKind.wrap_i64, IntKind.wrap_u64, IntKind.wrap_u64, IntKind.wrap_u64]; omega
              have rd' : IntKind.i64.wrap (IntKind.u64.wrap x - IntKind.u64.wrap y) = d := by rw [hd, IntKind.wrap_i64, IntKind.wrap_i64, IntKind.wrap_u64, IntKind.wrap_u64]; omega
              have rd2 : IntKind.i64.wrap (IntKind.u64.wrap (x - y)) = d := by rw [hd, IntKind.wrap_i64, IntKind.wrap_i64, IntKind.wrap_u64]; omega
              clear hd hl
              have hjn : j < n := by omega
              have hjn' : (j : Int) < (n : Int) := by omega
              go_upto_region 10 with fail
              go_still_tail 12, (by kernel_rfl)
              change wpList _ _ _ _ _ w1.drew
              obtain ⟨w2, hw2⟩ : ∃ w2, w2 = w1.drew := ⟨_, rfl⟩
              rw [← hw2]
              have hf2 : Fr (fun _ => False) w1 w2 := by rw [hw2]; exact (Fr.refl _ _).drew
              have hrow2 : Row w2 g1 77 [.bool true, .int .i64 x] := HROW.out.fr hf2 (fun h => h)
              have b0 : w2.cell? ⟨g1, 0, none⟩ = some (.bool true) := hrow2.cell rfl
              have b1 : w2.cell? ⟨g1, 1, none⟩ = some (.int .i64 x) := hrow2.cell rfl
              have z2 : w2.frozen? ⟨g1, 1, none⟩ = false := hrow2.free 1
              have HOX2 := Lib.hid (hf2.own HOX1.out (fun _ _ h => h))
              have HOXW := Lib.hid ((Fr.set1 w2 g1 1 (.int .i64 d)).own HOX2.out (fun b hb e => by have h1 := (HOX.out.lt b hb).2; have h2 := HGG.out; omega))
              have HF2 := Lib.hid (HF1.out.trans hf2 (fun _ _ h => h))
              have HFW : Hid (Fr (fun _ => False) w (w2.setCell ⟨g1, 1, none⟩ (.int .i64 d))) := Lib.hid (HF2.out.setCell (fun h => by have h1 := HGG.out.1; have h2 := HF.out.size; have h3 : g1 < w.heap.size := h; omega) _)
              replace HBW : Hid (base ≤ w2.heap.size) := Lib.hid (by have h1 := HBW.out; have h2 := hf2.size; omega)
              clear hf2 hrow2 hw2 a0 a1 z1 h1 h2
              go_wp2_with (at_builtin; refine wpList_appS cellTC _ rfl _ _ rfl base _ _ _ rfl (HOXW.out.alloc _) _ _ [.bool true, .int .i64 d] rfl rfl (new_at (by simp) [.bool true, .int .i64 d] _) (by intro u hu; simp at hu; rcases hu with rfl | rfl <;> rfl) N1 HN1.out (by unfold maxLen; omega) (by omega) (by have h1 := HBW.out; simp; omega) ?_)
              intro A' c' w' hown' _ hfr'
              rw [HXS.out] at hown'
              obtain ⟨G3, hG3⟩ : ∃ G3, G3 = G ++ [(true, d)] := ⟨_, rfl⟩
              have HO3 : Hid (OwnC nv 77 w' base A' c' G3) := Lib.hid (by rw [hG3]; exact OwnC.snoc (f := nv) (t := (true, d)) HN1.out hown')
              have HF3 : Hid (Fr (fun _ => False) w w') := Lib.hid ((HFW.out.alloc _).trans hfr' (fun b hb h => by have h1 := (HOXW.out.lt _ h).1; have h2 := HB.out; omega))
              have hNG : N1 = G3.length := by rw [HN1.out, hG3]; simp
              have HG3 : Hid (G3 = stepsF 0 (L.take (k + 1))) := Lib.hid (by rw [(steps_take 0 L k _ HT.out).1, ← HPE.out, HCELL.out, ← HG.out, hG3])
              have HNG := Lib.hid hNG
              clear hown' hfr' hG3 hNG
              go_wp2
              go_roundw
              case rel => exact ⟨k + 1, G3, A', c', by omega, by go_num, by rw [HNG.out], HG3.out, HO3.out, HF3.out⟩
              case measure => simp [intOf] <;> omega
    · obtain rfl : k = n := by omega
      have he : R = G := by rw [HG.out, HR.out, List.take_of_length_le (by have := HLN.out; omega)]
      have HE2 := Lib.hid he
      clear he
      go_wp2_with fail
      go_ret
      rw [HE2.out]
      exact ⟨A1, c1, rfl, HO.out, HF.out⟩
end Go.Proofs.YtedmnkcoflbciaaGreat
