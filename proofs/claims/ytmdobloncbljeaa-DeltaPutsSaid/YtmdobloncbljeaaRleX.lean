/-
  Layer 11, the reference: Cells, Texts (written by gen_ref.py).
-/
import Derived.Test.YtmdobloncbljeaaRleW
import Derived.Test.YtmdobloncbljeaaRleE
import Derived.Test.YtmdobloncbljeaaLebB
import Derived.Test.YtmdobloncbljeaaReg
import Derived.Deep.DeepCutAuto
import Derived.Deep.CutRange
namespace Go.Proofs.Ytmdobloncbljeaa
open Go.RowKit Mem Go.Lib RleM LebM
attribute [local go_sem ↓] Go.wp_at_zero Go.wp_at_succ
set_option linter.unusedVariables false

set_option maxRecDepth 100000 in
set_option maxHeartbeats 1600000 in
theorem rCells_any (A : Option Addr) (n c : Nat) (sign : Bool) (L : List (Bool × Int)) (w : World) (hL : Cls nv w A n L) (hn : n ≤ 1000000) (hrng : ∀ (k : Nat) (t : Bool × Int), L[k]? = some t → -9223372036854775808 ≤ t.2 ∧ t.2 < 9223372036854775808) :
    Calls Try.prog 8 #[.slice A n c, .bool sign] w fun e w' => ∃ A' c', e = .returned (.slice A' (L.map (cellS sign)).length c') ∧ OwnC nv 30 w' w.heap.size A' c' (L.map (cellS sign)) ∧ Fr (fun _ => False) w w' := by
  have HL := Lib.hid hL
  have hln := hL.1
  have HLN := Lib.hid hln
  clear hL hln
  have HRNG := Lib.hid hrng
  clear hrng
  obtain ⟨base, hbase⟩ : ∃ base, base = w.heap.size := ⟨_, rfl⟩
  have HB := Lib.hid hbase
  rw [← hbase]
  clear hbase
  obtain ⟨R, hR⟩ : ∃ R, R = L.map (cellS sign) := ⟨_, rfl⟩
  rw [← hR]
  have HR := Lib.hid hR
  clear hR
  go_enter Try.func8, Try.ntmps8
  go_wp2_with fail
  go_loopw [5, 6] (fun s v wr => ∃ (k : Nat) (G : List (Bool × Int)) (A1 : Option Addr) (c1 : Nat), k ≤ n ∧ v = .int .i64 (k : Int) ∧ s = .slice A1 G.length c1 ∧ Hid (G = (L.take k).map (cellS sign)) ∧ Hid (OwnC nv 30 wr base A1 c1 G) ∧ Hid (Fr (fun _ => False) w wr)) (fun _ v _ => n - (intOf v).toNat)
  case atStart => exact ⟨0, [], none, 0, Nat.zero_le _, rfl, rfl, (by simp : ([] : List (Bool × Int)) = (L.take 0).map (cellS sign)), OwnC.nil _ _ _, Fr.refl _ _⟩
  case round =>
    obtain ⟨k, G, A1, c1, hk, rfl, rfl, HG, HO, HF⟩ := hrel
    rename World => wr
    by_cases hlt : k < n
    · obtain ⟨t, ht⟩ : ∃ t, L[k]? = some t := ⟨_, List.getElem?_eq_getElem (by have := HLN.out; omega)⟩
      obtain ⟨g, o, rfl, hg, h1, h2⟩ := (HL.out.fr HF.out (fun _ _ => id)).2 k t ht
      obtain ⟨i, x⟩ := t
      simp only [nv] at h1 h2
      have hgl : G.length ≤ 1000000 := by rw [HG.out, List.length_map, List.length_take]; omega
      have HT := Lib.hid ht
      obtain ⟨N1, hN1⟩ : ∃ N1, N1 = G.length + 1 := ⟨_, rfl⟩
      have hN1l : N1 ≤ 1000001 := by omega
      have HN1 := Lib.hid hN1
      obtain ⟨XS, hXS⟩ : ∃ XS, XS = G.flatMap (ccells nv) := ⟨_, rfl⟩
      have hOx : wr.ownsRow base 30 2 (.slice A1 G.length c1) G.length XS := by rw [hXS]; exact HO.out
      have HXS := Lib.hid hXS
      have HOX := Lib.hid hOx
      have HBW : Hid (base ≤ wr.heap.size) := Lib.hid (by have h1 := HB.out; have h2 := HF.out.size; omega)
      clear ht hN1 hXS hOx
      go_upto_region 6 with fail
      obtain ⟨w1, hw1⟩ : ∃ w1, wr.alloc (.cells #[.bool i, .int .i64 x] 30) = w1 := ⟨_, rfl⟩
      rw [hw1]
      obtain ⟨g1, hg1'⟩ : ∃ g, wr.heap.size = g := ⟨_, rfl⟩
      rw [hg1']
      have hf1 : Fr (fun _ => False) wr w1 := by rw [← hw1]; exact (Fr.refl _ _).alloc _
      have hg1 : Row w1 g1 30 [.bool i, .int .i64 x] := by rw [← hw1, ← hg1']; exact Row.new wr _ _
      have hsz1 : w1.heap.size = g1 + 1 := by rw [← hw1, ← hg1']; simp
      have hgg : g1 = wr.heap.size := hg1'.symm
      have HOX1 := Lib.hid (hf1.own HOX.out (fun _ _ h => h))
      have HF1 := Lib.hid (HF.out.trans hf1 (fun _ _ h => h))
      have HROW := Lib.hid hg1
      have HGG := Lib.hid (And.intro hgg hsz1)
      have h1 := hf1.cell h1 (fun h => h)
      have h2 := hf1.cell h2 (fun h => h)
      have a0 : w1.cell? ⟨g1, 0, none⟩ = some (.bool i) := hg1.cell rfl
      have a1 : w1.cell? ⟨g1, 1, none⟩ = some (.int .i64 x) := hg1.cell rfl
      have z1 : w1.frozen? ⟨g1, 1, none⟩ = false := hg1.free 1
      clear hw1 hg1' hf1 hg1 hsz1 hgg
      replace HBW : Hid (base ≤ w1.heap.size) := Lib.hid (by have h1 := HBW.out; have h2 := HGG.out; omega)
      cases i with
      | false =>
        have HCELL : Hid (cellS sign (false, x) = (false, 0)) := Lib.hid rfl
        have HOX2 := Lib.hid ((Fr.set1 w1 g1 1 (.int .i64 0)).own HOX1.out (fun b hb e => by have h1 := (HOX.out.lt b hb).2; have h2 := HGG.out; omega))
        have HF2 : Hid (Fr (fun _ => False) w (w1.setCell ⟨g1, 1, none⟩ (.int .i64 0))) := Lib.hid (HF1.out.setCell (fun h => by have h1 := HGG.out.1; have h2 := HF.out.size; have h3 : g1 < w.heap.size := h; omega) _)
        go_wp2_with (at_builtin; refine wpList_appS cellTC _ rfl _ _ rfl base _ _ _ rfl (HOX2.out.alloc _) _ _ [.bool false, .int .i64 0] rfl rfl (new_at (by simp) [.bool false, .int .i64 0] _) (by intro u hu; simp at hu; rcases hu with rfl | rfl <;> rfl) N1 HN1.out (by unfold maxLen; omega) (by omega) (by have h1 := HBW.out; simp; omega) ?_)
        intro A' c' w' hown' _ hfr'
        rw [HXS.out] at hown'
        obtain ⟨G3, hG3⟩ : ∃ G3, G3 = G ++ [(false, (0 : Int))] := ⟨_, rfl⟩
        have HO3 : Hid (OwnC nv 30 w' base A' c' G3) := Lib.hid (by rw [hG3]; exact OwnC.snoc (f := nv) (t := (false, (0 : Int))) HN1.out hown')
        have HF3 : Hid (Fr (fun _ => False) w w') := Lib.hid ((HF2.out.alloc _).trans hfr' (fun b hb h => by have h1 := (HOX2.out.lt _ h).1; have h2 := HB.out; omega))
        have hNG : N1 = G3.length := by rw [HN1.out, hG3]; simp
        have HG3 : Hid (G3 = (L.take (k + 1)).map (cellS sign)) := Lib.hid (by rw [hG3, HG.out, List.take_add_one, HT.out]; simp [HCELL.out])
        have HNG := Lib.hid hNG
        clear hown' hfr' hG3 hNG
        go_wp2
        go_roundw
        case rel => exact ⟨k + 1, G3, A', c', by omega, by go_num, by rw [HNG.out], HG3.out, HO3.out, HF3.out⟩
        case measure => simp [intOf] <;> omega
      | true =>
        by_cases hneg : x < 0 ∧ sign = false
        · obtain ⟨hx0, rfl⟩ := hneg
          obtain ⟨y, hy⟩ : ∃ y, y = -(x + 1) := ⟨_, rfl⟩
          have r1 : IntKind.i64.wrap (x + 1) = x + 1 := by rw [IntKind.wrap_i64]; have h1 := (HRNG.out _ _ HT.out).1; omega
          have r2 : IntKind.i64.wrap (-(x + 1)) = y := by rw [IntKind.wrap_i64]; have h1 := (HRNG.out _ _ HT.out).1; omega
          have HCELL : Hid (cellS false (true, x) = (true, y)) := Lib.hid (by unfold cellS; simp only [Bool.true_eq_false, if_false]; rw [if_pos ⟨hx0, trivial⟩, hy])
          have t1 : decide (x < 0) = true := by simp; exact hx0
          clear hy hx0
          have HOX2 := Lib.hid ((Fr.set1 w1 g1 1 (.int .i64 y)).own HOX1.out (fun b hb e => by have h1 := (HOX.out.lt b hb).2; have h2 := HGG.out; omega))
          have HF2 : Hid (Fr (fun _ => False) w (w1.setCell ⟨g1, 1, none⟩ (.int .i64 y))) := Lib.hid (HF1.out.setCell (fun h => by have h1 := HGG.out.1; have h2 := HF.out.size; have h3 : g1 < w.heap.size := h; omega) _)
          go_wp2_with (at_builtin; refine wpList_appS cellTC _ rfl _ _ rfl base _ _ _ rfl (HOX2.out.alloc _) _ _ [.bool true, .int .i64 y] rfl rfl (new_at (by simp) [.bool true, .int .i64 y] _) (by intro u hu; simp at hu; rcases hu with rfl | rfl <;> rfl) N1 HN1.out (by unfold maxLen; omega) (by omega) (by have h1 := HBW.out; simp; omega) ?_)
          intro A' c' w' hown' _ hfr'
          rw [HXS.out] at hown'
          obtain ⟨G3, hG3⟩ : ∃ G3, G3 = G ++ [(true, y)] := ⟨_, rfl⟩
          have HO3 : Hid (OwnC nv 30 w' base A' c' G3) := Lib.hid (by rw [hG3]; exact OwnC.snoc (f := nv) (t := (true, y)) HN1.out hown')
          have HF3 : Hid (Fr (fun _ => False) w w') := Lib.hid ((HF2.out.alloc _).trans hfr' (fun b hb h => by have h1 := (HOX2.out.lt _ h).1; have h2 := HB.out; omega))
          have hNG : N1 = G3.length := by rw [HN1.out, hG3]; simp
          have HG3 : Hid (G3 = (L.take (k + 1)).map (cellS false)) := Lib.hid (by rw [hG3, HG.out, List.take_add_one, HT.out]; simp [HCELL.out])
          have HNG := Lib.hid hNG
          clear hown' hfr' hG3 hNG
          go_wp2
          go_roundw
          case rel => exact ⟨k + 1, G3, A', c', by omega, by go_num, by rw [HNG.out], HG3.out, HO3.out, HF3.out⟩
          case measure => simp [intOf] <;> omega
        · have HCELL : Hid (cellS sign (true, x) = (true, x)) := Lib.hid (by unfold cellS; simp only [Bool.true_eq_false, if_false]; rw [if_neg (by simpa using hneg)])
          rcases (show (decide (x < 0) = false) ∨ (decide (x < 0) = true ∧ sign = true) by
            by_cases hx0 : x < 0
            · exact .inr ⟨by simp; exact hx0, by cases sign with | true => rfl | false => exact absurd ⟨hx0, rfl⟩ hneg⟩
            · exact .inl (by simp; omega)) with t1 | ⟨t1, rfl⟩
          · clear hneg
            go_wp2_with (at_builtin; refine wpList_appS cellTC _ rfl _ _ rfl base _ _ _ rfl (HOX1.out.alloc _) _ _ [.bool true, .int .i64 x] rfl rfl (new_at (by simp) [.bool true, .int .i64 x] _) (by intro u hu; simp at hu; rcases hu with rfl | rfl <;> rfl) N1 HN1.out (by unfold maxLen; omega) (by omega) (by have h1 := HBW.out; simp; omega) ?_)
            intro A' c' w' hown' _ hfr'
            rw [HXS.out] at hown'
            obtain ⟨G3, hG3⟩ : ∃ G3, G3 = G ++ [(true, x)] := ⟨_, rfl⟩
            have HO3 : Hid (OwnC nv 30 w' base A' c' G3) := Lib.hid (by rw [hG3]; exact OwnC.snoc (f := nv) (t := (true, x)) HN1.out hown')
            have HF3 : Hid (Fr (fun _ => False) w w') := Lib.hid ((HF1.out.alloc _).trans hfr' (fun b hb h => by have h1 := (HOX1.out.lt _ h).1; have h2 := HB.out; omega))
            have hNG : N1 = G3.length := by rw [HN1.out, hG3]; simp
            have HG3 : Hid (G3 = (L.take (k + 1)).map (cellS sign)) := Lib.hid (by rw [hG3, HG.out, List.take_add_one, HT.out]; simp [HCELL.out])
            have HNG := Lib.hid hNG
            clear hown' hfr' hG3 hNG
            go_wp2
            go_roundw
            case rel => exact ⟨k + 1, G3, A', c', by omega, by go_num, by rw [HNG.out], HG3.out, HO3.out, HF3.out⟩
            case measure => simp [intOf] <;> omega
          · clear hneg
            go_wp2_with (at_builtin; refine wpList_appS cellTC _ rfl _ _ rfl base _ _ _ rfl (HOX1.out.alloc _) _ _ [.bool true, .int .i64 x] rfl rfl (new_at (by simp) [.bool true, .int .i64 x] _) (by intro u hu; simp at hu; rcases hu with rfl | rfl <;> rfl) N1 HN1.out (by unfold maxLen; omega) (by omega) (by have h1 := HBW.out; simp; omega) ?_)
            intro A' c' w' hown' _ hfr'
            rw [HXS.out] at hown'
            obtain ⟨G3, hG3⟩ : ∃ G3, G3 = G ++ [(true, x)] := ⟨_, rfl⟩
            have HO3 : Hid (OwnC nv 30 w' base A' c' G3) := Lib.hid (by rw [hG3]; exact OwnC.snoc (f := nv) (t := (true, x)) HN1.out hown')
            have HF3 : Hid (Fr (fun _ => False) w w') := Lib.hid ((HF1.out.alloc _).trans hfr' (fun b hb h => by have h1 := (HOX1.out.lt _ h).1; have h2 := HB.out; omega))
            have hNG : N1 = G3.length := by rw [HN1.out, hG3]; simp
            have HG3 : Hid (G3 = (L.take (k + 1)).map (cellS true)) := Lib.hid (by rw [hG3, HG.out, List.take_add_one, HT.out]; simp [HCELL.out])
            have HNG := Lib.hid hNG
            clear hown' hfr' hG3 hNG
            go_wp2
            go_roundw
            case rel => exact ⟨k + 1, G3, A', c', by omega, by go_num, by rw [HNG.out], HG3.out, HO3.out, HF3.out⟩
            case measure => simp [intOf] <;> omega
    · obtain rfl : k = n := by omega
      have he : R = G := by rw [HG.out, HR.out, List.take_of_length_le (by have := HLN.out; omega)]
      have HE2 := Lib.hid he
      clear he
      go_wp2_with fail
      go_ret
      rw [HE2.out]
      exact ⟨A1, c1, rfl, HO.out, HF.out⟩

end Go.Proofs.Ytmdobloncbljeaa
