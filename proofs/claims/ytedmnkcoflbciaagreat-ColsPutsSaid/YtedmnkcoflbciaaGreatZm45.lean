/-
  Layer 11, the reference: Numbers, Words (written by gen_ref.py).
  Layer 11, the reference: SameCells, SameWords (written by gen11.py out of rleY.src).
-/
import Derived.Test.YtedmnkcoflbciaaGreatZm04
import Derived.Test.YtedmnkcoflbciaaGreatRleX
import Derived.Test.YtedmnkcoflbciaaGreatZm19
import Derived.Lib.Hide
import Derived.Deep.QuietTactic
import Derived.BigQuiet
import Derived.StillTailTactics
import Derived.Deep.DrawnRows
namespace Go.Proofs.YtedmnkcoflbciaaGreat
open Go.RowKit Mem Go.Lib RleM LebM
attribute [local go_sem ↓] Go.wp_at_zero Go.wp_at_succ
set_option linter.unusedVariables false

theorem cellTR : ElemTyS Tryz.prog 86 125 (.agg #[.bool false, .string (txt [])]) 2 24 := ⟨Tryz.underlying86, by kernel_rfl, rfl, by decide⟩
set_option maxRecDepth 100000 in
set_option maxHeartbeats 1600000 in
theorem rNumbers_any (A : Option Addr) (n c : Nat) (sign : Bool) (L : List (Bool × Int)) (w : World) (hL : Cls nv w A n L) (hn : n ≤ 1000000) (hrng : ∀ (k : Nat) (t : Bool × Int), L[k]? = some t → -9223372036854775808 ≤ t.2 ∧ t.2 < 9223372036854775808 ∧ (sign = false → 0 ≤ t.2)) :
    Calls Tryz.prog 57 #[.slice A n c, .bool sign] w fun e w' => ∃ A' c', e = .returned (.slice A' (L.map (refS sign)).length c') ∧ OwnC sv 125 w' w.heap.size A' c' (L.map (refS sign)) ∧ Fr (fun _ => False) w w' := by
  have HL := Lib.hid hL
  have hln := hL.1
  have HLN := Lib.hid hln
  clear hL hln
  have HRNG := Lib.hid hrng
  clear hrng
  obtain ⟨base, hbase⟩ : ∃ base, base = w.heap.size := ⟨_, rfl⟩
  have HB := Lib.hid hbase
  rw [← hbase]
  clear hbase
  obtain ⟨R, hR⟩ : ∃ R, R = L.map (refS sign) := ⟨_, rfl⟩
  rw [← hR]
  have HR := Lib.hid hR
  clear hR
  go_enter Tryz.func57, Tryz.ntmps57
  go_wp2_with fail
  go_loopw [5, 6] (fun s v wr => ∃ (k : Nat) (G : List (Bool × List UInt8)) (A1 : Option Addr) (c1 : Nat), k ≤ n ∧ v = .int .i64 (k : Int) ∧ s = .slice A1 G.length c1 ∧ Hid (G = (L.take k).map (refS sign)) ∧ Hid (OwnC sv 125 wr base A1 c1 G) ∧ Hid (Fr (fun _ => False) w wr)) (fun _ v _ => n - (intOf v).toNat)
  case atStart => exact ⟨0, [], none, 0, Nat.zero_le _, rfl, rfl, (by simp : ([] : List (Bool × List UInt8)) = (L.take 0).map (refS sign)), OwnC.nil _ _ _, Fr.refl _ _⟩
  case round =>
    obtain ⟨k, G, A1, c1, hk, rfl, rfl, HG, HO, HF⟩ := hrel
    rename World => wr
    by_cases hlt : k < n
    · obtain ⟨t, ht⟩ : ∃ t, L[k]? = some t := ⟨_, List.getElem?_eq_getElem (by have := HLN.out; omega)⟩
      obtain ⟨g, o, rfl, hg, h1, h2⟩ := (HL.out.fr HF.out (fun _ _ => id)).2 k t ht
      obtain ⟨i, x⟩ := t
      simp only [nv] at h1 h2
      have hgl : G.length ≤ 1000000 := by rw [HG.out, List.length_map, List.length_take]; omega
      have HT := Lib.hid ht
      obtain ⟨N1, hN1⟩ : ∃ N1, N1 = G.length + 1 := ⟨_, rfl⟩
      have hN1l : N1 ≤ 1000001 := by omega
      have HN1 := Lib.hid hN1
      obtain ⟨XS, hXS⟩ : ∃ XS, XS = G.flatMap (ccells sv) := ⟨_, rfl⟩
      have hOx : wr.ownsRow base 125 2 (.slice A1 G.length c1) G.length XS := by rw [hXS]; exact HO.out
      have HXS := Lib.hid hXS
      have HOX := Lib.hid hOx
      have HBW : Hid (base ≤ wr.heap.size) := Lib.hid (by have h1 := HB.out; have h2 := HF.out.size; omega)
      clear ht hN1 hXS hOx
      go_upto_region 6 with fail
      obtain ⟨w1, hw1⟩ : ∃ w1, wr.alloc (.cells #[.bool i, .string ⟨#[]⟩] 125) = w1 := ⟨_, rfl⟩
      rw [hw1]
      obtain ⟨g1, hg1'⟩ : ∃ g, wr.heap.size = g := ⟨_, rfl⟩
      rw [hg1']
      have hf1 : Fr (fun _ => False) wr w1 := by rw [← hw1]; exact (Fr.refl _ _).alloc _
      have hg1 : Row w1 g1 125 [.bool i, .string ⟨#[]⟩] := by rw [← hw1, ← hg1']; exact Row.new wr _ _
      have hsz1 : w1.heap.size = g1 + 1 := by rw [← hw1, ← hg1']; simp
      have hgg : g1 = wr.heap.size := hg1'.symm
      have HOX1 := Lib.hid (hf1.own HOX.out (fun _ _ h => h))
      have HF1 := Lib.hid (HF.out.trans hf1 (fun _ _ h => h))
      have HROW := Lib.hid hg1
      have HGG := Lib.hid (And.intro hgg hsz1)
      have h1 := hf1.cell h1 (fun h => h)
      have h2 := hf1.cell h2 (fun h => h)
      have a0 : w1.cell? ⟨g1, 0, none⟩ = some (.bool i) := hg1.cell rfl
      have a1 : w1.cell? ⟨g1, 1, none⟩ = some (.string ⟨#[]⟩) := hg1.cell rfl
      have z1 : w1.frozen? ⟨g1, 1, none⟩ = false := hg1.free 1
      clear hw1 hg1' hf1 hg1 hsz1 hgg
      replace HBW : Hid (base ≤ w1.heap.size) := Lib.hid (by have h1 := HBW.out; have h2 := HGG.out; omega)
      have hrg := HRNG.out _ _ HT.out
      simp only at hrg
      have HRG := Lib.hid hrg
      cases i with
      | false =>
        have HCELL : Hid (refS sign (false, x) = (false, [])) := Lib.hid rfl
        clear hrg
        go_wp2_with (at_builtin; refine wpList_appS cellTR _ rfl _ _ rfl base _ _ _ rfl (HOX1.out.alloc _) _ _ [.bool false, .string ⟨#[]⟩] rfl rfl (new_at (by simp) [.bool false, .string ⟨#[]⟩] _) (by intro u hu; simp at hu; rcases hu with rfl | rfl <;> rfl) N1 HN1.out (by unfold maxLen; omega) (by omega) (by have h1 := HBW.out; simp; omega) ?_)
        intro A' c' w' hown' _ hfr'
        rw [HXS.out] at hown'
        obtain ⟨G3, hG3⟩ : ∃ G3, G3 = G ++ [(false, ([] : List UInt8))] := ⟨_, rfl⟩
        have HO3 : Hid (OwnC sv 125 w' base A' c' G3) := Lib.hid (by rw [hG3]; exact OwnC.snoc (f := sv) (t := (false, ([] : List UInt8))) HN1.out hown')
        have HF3 : Hid (Fr (fun _ => False) w w') := Lib.hid ((HF1.out.alloc _).trans hfr' (fun b hb h => by have h1 := (HOX1.out.lt _ h).1; have h2 := HB.out; omega))
        have hNG : N1 = G3.length := by rw [HN1.out, hG3]; simp
        have HG3 : Hid (G3 = (L.take (k + 1)).map (refS sign)) := Lib.hid (by rw [hG3, HG.out, List.take_add_one, HT.out]; simp [HCELL.out])
        have HNG := Lib.hid hNG
        clear hown' hfr' hG3 hNG
        go_wp2
        go_roundw
        case rel => exact ⟨k + 1, G3, A', c', by omega, by go_num, by rw [HNG.out], HG3.out, HO3.out, HF3.out⟩
        case measure => simp [intOf] <;> omega
      | true =>
        cases sign with
        | true =>
          clear hrg
          go_wp2_with fail
          refine (rS_any x w1 HRG.out.1 HRG.out.2.1).mono ?_
          rintro e w2 ⟨A4, c4, rfl, hO4, hf4⟩
          have hst := hO4.str
          obtain ⟨Y, hY⟩ : ∃ Y, Y = s x := ⟨_, rfl⟩
          rw [← hY] at hst ⊢
          have HROW2 := Lib.hid (HROW.out.fr hf4 (fun h => h))
          have HOX2 := Lib.hid (hf4.own HOX1.out (fun _ _ h => h))
          have HF2 := Lib.hid (HF1.out.trans hf4 (fun _ _ h => h))
          replace HBW : Hid (base ≤ w2.heap.size) := Lib.hid (by have h1 := HBW.out; have h2 := hf4.size; omega)
          have b0 : w2.cell? ⟨g1, 0, none⟩ = some (.bool true) := HROW2.out.cell rfl
          have b1 : w2.cell? ⟨g1, 1, none⟩ = some (.string ⟨#[]⟩) := HROW2.out.cell rfl
          have y1 : w2.frozen? ⟨g1, 1, none⟩ = false := HROW2.out.free 1
          have h1 := hf4.cell h1 (fun h => h)
          have h2 := hf4.cell h2 (fun h => h)
          have HOX3 := Lib.hid ((Fr.set1 w2 g1 1 (.string (txt Y))).own HOX2.out (fun b hb e => by have h1 := (HOX.out.lt b hb).2; have h2 := HGG.out; omega))
          have HF3' : Hid (Fr (fun _ => False) w (w2.setCell ⟨g1, 1, none⟩ (.string (txt Y)))) := Lib.hid (HF2.out.setCell (fun h => by have h1 := HGG.out.1; have h2 := HF.out.size; have h3 : g1 < w.heap.size := h; omega) _)
          have HY := Lib.hid hY
          clear hO4 hf4 a0 a1 z1 hY
          go_upto_region 8 with fail
          obtain ⟨w3, hw3⟩ : ∃ w3, w3 = w2.setCell ⟨g1, 1, none⟩ (.string (txt Y)) := ⟨_, rfl⟩
          rw [← hw3] at HOX3 HF3' ⊢
          have hr3 : Row w3 g1 125 [.bool true, .string (txt Y)] := by rw [hw3]; exact HROW2.out.set 1 _
          have hgg : ¬ g = g1 := by have h1 := HGG.out.1; omega
          have h1 : w3.cell? ⟨g, o + k * 2, none⟩ = some (.bool true) := by rw [hw3]; exact (Fr.set1 w2 g1 1 _).cell h1 hgg
          have d0 : w3.cell? ⟨g1, 0, none⟩ = some (.bool true) := hr3.cell rfl
          have d1 : w3.cell? ⟨g1, 1, none⟩ = some (.string (txt Y)) := hr3.cell rfl
          replace HBW : Hid (base ≤ w3.heap.size) := Lib.hid (by rw [hw3]; have h1 := HBW.out; simp [World.setCell]; omega)
          clear hw3 hr3 hgg b0 b1 y1 h2
          have HCELL : Hid (refS true (true, x) = (true, Y)) := Lib.hid (by rw [HY.out]; rfl)
          go_wp2_with (at_builtin; refine wpList_appS cellTR _ rfl _ _ rfl base _ _ _ rfl (HOX3.out.alloc _) _ _ [.bool true, .string (txt Y)] rfl rfl (new_at (by simp) [.bool true, .string (txt Y)] _) (by intro u hu; simp at hu; rcases hu with rfl | rfl <;> rfl) N1 HN1.out (by unfold maxLen; omega) (by omega) (by have h1 := HBW.out; simp; omega) ?_)
          intro A' c' w' hown' _ hfr'
          rw [HXS.out] at hown'
          obtain ⟨G3, hG3⟩ : ∃ G3, G3 = G ++ [(true, Y)] := ⟨_, rfl⟩
          have HO3 : Hid (OwnC sv 125 w' base A' c' G3) := Lib.hid (by rw [hG3]; exact OwnC.snoc (f := sv) (t := (true, Y)) HN1.out hown')
          have HF3 : Hid (Fr (fun _ => False) w w') := Lib.hid ((HF3'.out.alloc _).trans hfr' (fun b hb h => by have h1 := (HOX3.out.lt _ h).1; have h2 := HB.out; omega))
          have hNG : N1 = G3.length := by rw [HN1.out, hG3]; simp
          have HG3 : Hid (G3 = (L.take (k + 1)).map (refS true)) := Lib.hid (by rw [hG3, HG.out, List.take_add_one, HT.out]; simp [HCELL.out])
          have HNG := Lib.hid hNG
          clear hown' hfr' hG3 hNG
          go_wp2
          go_roundw
          case rel => exact ⟨k + 1, G3, A', c', by omega, by go_num, by rw [HNG.out], HG3.out, HO3.out, HF3.out⟩
          case measure => simp [intOf] <;> omega
        | false =>
          obtain ⟨m, hm⟩ : ∃ m : Nat, x = (m : Int) := ⟨x.toNat, by have := hrg.2.2 rfl; omega⟩
          subst hm
          have hm2 : m < 18446744073709551616 := by omega
          have r1 : IntKind.u64.wrap (m : Int) = (m : Int) := by rw [IntKind.wrap_u64]; omega
          clear hrg
          go_wp2_with fail
          refine (rU_any m w1 hm2).mono ?_
          rintro e w2 ⟨A4, c4, rfl, hO4, hf4⟩
          have hst := hO4.str
          obtain ⟨Y, hY⟩ : ∃ Y, Y = u m := ⟨_, rfl⟩
          rw [← hY] at hst ⊢
          have HROW2 := Lib.hid (HROW.out.fr hf4 (fun h => h))
          have HOX2 := Lib.hid (hf4.own HOX1.out (fun _ _ h => h))
          have HF2 := Lib.hid (HF1.out.trans hf4 (fun _ _ h => h))
          replace HBW : Hid (base ≤ w2.heap.size) := Lib.hid (by have h1 := HBW.out; have h2 := hf4.size; omega)
          have b0 : w2.cell? ⟨g1, 0, none⟩ = some (.bool true) := HROW2.out.cell rfl
          have b1 : w2.cell? ⟨g1, 1, none⟩ = some (.string ⟨#[]⟩) := HROW2.out.cell rfl
          have y1 : w2.frozen? ⟨g1, 1, none⟩ = false := HROW2.out.free 1
          have h1 := hf4.cell h1 (fun h => h)
          have h2 := hf4.cell h2 (fun h => h)
          have HOX3 := Lib.hid ((Fr.set1 w2 g1 1 (.string (txt Y))).own HOX2.out (fun b hb e => by have h1 := (HOX.out.lt b hb).2; have h2 := HGG.out; omega))
          have HF3' : Hid (Fr (fun _ => False) w (w2.setCell ⟨g1, 1, none⟩ (.string (txt Y)))) := Lib.hid (HF2.out.setCell (fun h => by have h1 := HGG.out.1; have h2 := HF.out.size; have h3 : g1 < w.heap.size := h; omega) _)
          have HY := Lib.hid hY
          clear hO4 hf4 a0 a1 z1 hY
          have HCELL : Hid (refS false (true, (m : Int)) = (true, Y)) := Lib.hid (by rw [HY.out]; rfl)
          go_wp2_with (at_builtin; refine wpList_appS cellTR _ rfl _ _ rfl base _ _ _ rfl (HOX3.out.alloc _) _ _ [.bool true, .string (txt Y)] rfl rfl (new_at (by simp) [.bool true, .string (txt Y)] _) (by intro u hu; simp at hu; rcases hu with rfl | rfl <;> rfl) N1 HN1.out (by unfold maxLen; omega) (by omega) (by have h1 := HBW.out; simp; omega) ?_)
          intro A' c' w' hown' _ hfr'
          rw [HXS.out] at hown'
          obtain ⟨G3, hG3⟩ : ∃ G3, G3 = G ++ [(true, Y)] := ⟨_, rfl⟩
          have HO3 : Hid (OwnC sv 125 w' base A' c' G3) := Lib.hid (by rw [hG3]; exact OwnC.snoc (f := sv) (t := (true, Y)) HN1.out hown')
          have HF3 : Hid (Fr (fun _ => False) w w') := Lib.hid ((HF3'.out.alloc _).trans hfr' (fun b hb h => by have h1 := (HOX3.out.lt _ h).1; have h2 := HB.out; omega))
          have hNG : N1 = G3.length := by rw [HN1.out, hG3]; simp
          have HG3 : Hid (G3 = (L.take (k + 1)).map (refS false)) := Lib.hid (by rw [hG3, HG.out, List.take_add_one, HT.out]; simp [HCELL.out])
          have HNG := Lib.hid hNG
          clear hown' hfr' hG3 hNG
          go_wp2
          go_roundw
          case rel => exact ⟨k + 1, G3, A', c', by omega, by go_num, by rw [HNG.out], HG3.out, HO3.out, HF3.out⟩
          case measure => simp [intOf] <;> omega
    · obtain rfl : k = n := by omega
      have he : R = G := by rw [HG.out, HR.out, List.take_of_length_le (by have := HLN.out; omega)]
      have HE2 := Lib.hid he
      clear he
      go_wp2_with fail
      go_ret
      rw [HE2.out]
      exact ⟨A1, c1, rfl, HO.out, HF.out⟩

theorem cat_txt (a b : List UInt8) : txt a ++ txt b = txt (a ++ b) := by
  unfold txt
  apply ByteArray.ext
  simp
theorem Own.set2 {w : World} {base c g : Nat} {A : Option Addr} {B : List UInt8} (h : Own w base A c B) (hg : g < base) (v : Value) : Own (w.setCell ⟨g, 1, none⟩ v) base A c B := (Fr.set1 w g 1 v).own h (fun b hb e => by have h1 := (h.lt b hb).1; omega)
set_option maxRecDepth 100000 in
set_option maxHeartbeats 1600000 in
theorem rWords_any (A : Option Addr) (n c : Nat)  (L : List (Bool × List UInt8)) (w : World) (hL : Cls sv w A n L) (hn : n ≤ 1000000) (hlen : ∀ (k : Nat) (t : Bool × List UInt8), L[k]? = some t → t.2.length ≤ 1000000) :
    Calls Tryz.prog 28 #[.slice A n c] w fun e w' => ∃ A' c', e = .returned (.slice A' (L.map refW).length c') ∧ OwnC sv 125 w' w.heap.size A' c' (L.map refW) ∧ Fr (fun _ => False) w w' := by
  have HL := Lib.hid hL
  have hln := hL.1
  have HLN := Lib.hid hln
  clear hL hln
  have HLEN := Lib.hid hlen
  clear hlen
  obtain ⟨base, hbase⟩ : ∃ base, base = w.heap.size := ⟨_, rfl⟩
  have HB := Lib.hid hbase
  rw [← hbase]
  clear hbase
  obtain ⟨R, hR⟩ : ∃ R, R = L.map refW := ⟨_, rfl⟩
  rw [← hR]
  have HR := Lib.hid hR
  clear hR
  go_enter Tryz.func28, Tryz.ntmps28
  go_wp2_with fail
  go_loopw [3, 4] (fun s v wr => ∃ (k : Nat) (G : List (Bool × List UInt8)) (A1 : Option Addr) (c1 : Nat), k ≤ n ∧ v = .int .i64 (k : Int) ∧ s = .slice A1 G.length c1 ∧ Hid (G = (L.take k).map refW) ∧ Hid (OwnC sv 125 wr base A1 c1 G) ∧ Hid (Fr (fun _ => False) w wr)) (fun _ v _ => n - (intOf v).toNat)
  case atStart => exact ⟨0, [], none, 0, Nat.zero_le _, rfl, rfl, (by simp : ([] : List (Bool × List UInt8)) = (L.take 0).map refW), OwnC.nil _ _ _, Fr.refl _ _⟩
  case round =>
    obtain ⟨k, G, A1, c1, hk, rfl, rfl, HG, HO, HF⟩ := hrel
    rename World => wr
    by_cases hlt : k < n
    · obtain ⟨t, ht⟩ : ∃ t, L[k]? = some t := ⟨_, List.getElem?_eq_getElem (by have := HLN.out; omega)⟩
      obtain ⟨g, o, rfl, hg, h1, h2⟩ := (HL.out.fr HF.out (fun _ _ => id)).2 k t ht
      obtain ⟨i, x⟩ := t
      simp only [sv] at h1 h2
      have hgl : G.length ≤ 1000000 := by rw [HG.out, List.length_map, List.length_take]; omega
      have HT := Lib.hid ht
      obtain ⟨N1, hN1⟩ : ∃ N1, N1 = G.length + 1 := ⟨_, rfl⟩
      have hN1l : N1 ≤ 1000001 := by omega
      have HN1 := Lib.hid hN1
      obtain ⟨XS, hXS⟩ : ∃ XS, XS = G.flatMap (ccells sv) := ⟨_, rfl⟩
      have hOx : wr.ownsRow base 125 2 (.slice A1 G.length c1) G.length XS := by rw [hXS]; exact HO.out
      have HXS := Lib.hid hXS
      have HOX := Lib.hid hOx
      have HBW : Hid (base ≤ wr.heap.size) := Lib.hid (by have h1 := HB.out; have h2 := HF.out.size; omega)
      clear ht hN1 hXS hOx
      go_upto_region 6 with fail
      obtain ⟨w1, hw1⟩ : ∃ w1, wr.alloc (.cells #[.bool i, .string ⟨#[]⟩] 125) = w1 := ⟨_, rfl⟩
      rw [hw1]
      obtain ⟨g1, hg1'⟩ : ∃ g, wr.heap.size = g := ⟨_, rfl⟩
      rw [hg1']
      have hf1 : Fr (fun _ => False) wr w1 := by rw [← hw1]; exact (Fr.refl _ _).alloc _
      have hg1 : Row w1 g1 125 [.bool i, .string ⟨#[]⟩] := by rw [← hw1, ← hg1']; exact Row.new wr _ _
      have hsz1 : w1.heap.size = g1 + 1 := by rw [← hw1, ← hg1']; simp
      have hgg : g1 = wr.heap.size := hg1'.symm
      have HOX1 := Lib.hid (hf1.own HOX.out (fun _ _ h => h))
      have HF1 := Lib.hid (HF.out.trans hf1 (fun _ _ h => h))
      have HROW := Lib.hid hg1
      have HGG := Lib.hid (And.intro hgg hsz1)
      have h1 := hf1.cell h1 (fun h => h)
      have h2 := hf1.cell h2 (fun h => h)
      have a0 : w1.cell? ⟨g1, 0, none⟩ = some (.bool i) := hg1.cell rfl
      have a1 : w1.cell? ⟨g1, 1, none⟩ = some (.string ⟨#[]⟩) := hg1.cell rfl
      have z1 : w1.frozen? ⟨g1, 1, none⟩ = false := hg1.free 1
      clear hw1 hg1' hf1 hg1 hsz1 hgg
      replace HBW : Hid (base ≤ w1.heap.size) := Lib.hid (by have h1 := HBW.out; have h2 := HGG.out; omega)
      cases i with
      | false =>
        have HCELL : Hid (refW (false, x) = (false, [])) := Lib.hid rfl
        go_wp2_with (at_builtin; refine wpList_appS cellTR _ rfl _ _ rfl base _ _ _ rfl (HOX1.out.alloc _) _ _ [.bool false, .string ⟨#[]⟩] rfl rfl (new_at (by simp) [.bool false, .string ⟨#[]⟩] _) (by intro u hu; simp at hu; rcases hu with rfl | rfl <;> rfl) N1 HN1.out (by unfold maxLen; omega) (by omega) (by have h1 := HBW.out; simp; omega) ?_)
        intro A' c' w' hown' _ hfr'
        rw [HXS.out] at hown'
        obtain ⟨G3, hG3⟩ : ∃ G3, G3 = G ++ [(false, ([] : List UInt8))] := ⟨_, rfl⟩
        have HO3 : Hid (OwnC sv 125 w' base A' c' G3) := Lib.hid (by rw [hG3]; exact OwnC.snoc (f := sv) (t := (false, ([] : List UInt8))) HN1.out hown')
        have HF3 : Hid (Fr (fun _ => False) w w') := Lib.hid ((HF1.out.alloc _).trans hfr' (fun b hb h => by have h1 := (HOX1.out.lt _ h).1; have h2 := HB.out; omega))
        have hNG : N1 = G3.length := by rw [HN1.out, hG3]; simp
        have HG3 : Hid (G3 = (L.take (k + 1)).map refW) := Lib.hid (by rw [hG3, HG.out, List.take_add_one, HT.out]; simp [HCELL.out])
        have HNG := Lib.hid hNG
        clear hown' hfr' hG3 hNG
        go_wp2
        go_roundw
        case rel => exact ⟨k + 1, G3, A', c', by omega, by go_num, by rw [HNG.out], HG3.out, HO3.out, HF3.out⟩
        case measure => simp [intOf] <;> omega
      | true =>
        have hxl := HLEN.out _ _ HT.out
        simp only at hxl
        obtain ⟨m, hm⟩ : ∃ m, m = x.length := ⟨_, rfl⟩
        have hsz : (txt x).size = m := by rw [hm]; rfl
        have hm64 : m < 18446744073709551616 := by omega
        have r1 : IntKind.u64.wrap (m : Int) = (m : Int) := by rw [IntKind.wrap_u64]; omega
        obtain ⟨Y, hY⟩ : ∃ Y, Y = u m ++ x := ⟨_, rfl⟩
        have HCELL : Hid (refW (true, x) = (true, Y)) := Lib.hid (by rw [hY, hm]; rfl)
        have hcat : txt (u m) ++ txt x = txt Y := by rw [hY]; exact cat_txt _ _
        have hnot : (9223372036854775807 < (txt (u m)).size + m) = False := by
          have h1 : (txt (u m)).size = (u m).length := rfl
          have h2 := u_len10 hm64
          exact eq_false (by omega)
        have HJ := Lib.hid h2
        have HGK : Hid (g1 ≠ g) := Lib.hid (by have h1 := HGG.out.1; omega)
        clear hxl hY hm
        go_upto_region 7 with fail
        refine wp_region_held_drew (S := fun w' => w'.cell? ⟨g, o + k * 2 + 1, none⟩ = some (.string (txt x))) (by kernel_rfl) ?_ (fun hHeld => ?_)
        · exact h2
        refine tk 0 hHeld ?_
        refine tk 1 hHeld ?_
        refine tk 2 hHeld ?_
        refine tk 3 hHeld ?_
        refine tk 4 hHeld ?_
        refine tk 5 hHeld ?_
        refine tk 6 hHeld ?_
        refine tk 9 hHeld ?_
        refine tk 10 hHeld ?_
        refine tk 11 hHeld ?_
        refine tk 12 hHeld ?_
        refine tk 13 hHeld ?_
        refine rdo 7 (fun Kx hKx => ?_)
        go_simp
        refine (rU_any m _ hm64).mono ?_
        rintro e w2 ⟨A4, c4, rfl, hO4, hf4⟩
        have HO4 := Lib.hid hO4
        have HROW2 := Lib.hid ((show Row w1.drew g1 _ _ from HROW.out).fr hf4 (fun h => h))
        have HOX2 := Lib.hid (hf4.own (w := w1.drew) HOX1.out (fun _ _ h => h))
        have HF2 := Lib.hid (HF1.out.drew.trans hf4 (fun _ _ h => h))
        replace HBW : Hid (base ≤ w2.heap.size) := Lib.hid (by have h1 := HBW.out; have h2 : w1.heap.size ≤ w2.heap.size := hf4.size; omega)
        have HX2 := Lib.hid (hf4.cell (w := w1.drew) HJ.out (fun h => h))
        have HBK : Hid (g1 < w1.drew.heap.size) := Lib.hid (by have h1 : w1.drew.heap.size = w1.heap.size := rfl; have h2 := HGG.out; omega)
        have b1 : w2.cell? ⟨g1, 1, none⟩ = some (.string ⟨#[]⟩) := HROW2.out.cell rfl
        have y1 : w2.frozen? ⟨g1, 1, none⟩ = false := HROW2.out.free 1
        clear hO4 hf4
        refine hKx.out _ _ ?_ (fun hHeld => ?_)
        · exact HX2.out
        clear hKx Kx
        (try simp only [Act.put, List.setIfInBounds_toArray, List.set_cons_zero, List.set_cons_succ, List.getElem_toArray, List.getElem_cons_zero, List.getElem_cons_succ])
        refine wpAnyH_more (fun w' => w'.cell? ⟨g, o + k * 2 + 1, none⟩ = some (.string (txt x)) ∧ (convert 34 9 (.slice A4 (u m).length c4)).run Tryz.prog w' = .ok (.string (txt (u m))) w') (fun _ h => h.1) ?_ (fun hHeld => ?_)
        · exact ⟨HX2.out, HO4.out.str⟩
        refine tk 8 hHeld ?_
        refine tk 14 hHeld ?_
        refine tk 15 hHeld ?_
        refine rdo 16 (fun Kx hKx => ?_)
        go_simp
        refine hKx.out _ _ ?_ (fun hHeld => ?_)
        · exact ⟨(Fr.set1 w2 g1 1 (.string (txt Y))).cell HX2.out (fun e => HGK.out e.symm), (HO4.out.set2 HBK.out (.string (txt Y))).str⟩
        clear hKx Kx
        (try simp only [Act.put, List.setIfInBounds_toArray, List.set_cons_zero, List.set_cons_succ, List.getElem_toArray, List.getElem_cons_zero, List.getElem_cons_succ])
        refine wpAnyH_done (by kernel_rfl) ?_ _
        obtain ⟨w5, hw5⟩ : ∃ w5, w5 = w2.setCell ⟨g1, 1, none⟩ (.string (txt Y)) := ⟨_, rfl⟩
        rw [← hw5]
        have HOX3 : Hid (w5.ownsRow base 125 2 (.slice A1 G.length c1) G.length XS) := Lib.hid (by rw [hw5]; exact (Fr.set1 w2 g1 1 _).own HOX2.out (fun b hb e => by have h1 := (HOX.out.lt b hb).2; have h2 := HGG.out; omega))
        have HF3' : Hid (Fr (fun _ => False) w w5) := Lib.hid (by rw [hw5]; exact HF2.out.setCell (fun h => by have h1 := HGG.out.1; have h2 := HF.out.size; have h3 : g1 < w.heap.size := h; omega) _)
        have hr5 : Row w5 g1 125 [.bool true, .string (txt Y)] := by rw [hw5]; exact HROW2.out.set 1 _
        have d0 : w5.cell? ⟨g1, 0, none⟩ = some (.bool true) := hr5.cell rfl
        have d1 : w5.cell? ⟨g1, 1, none⟩ = some (.string (txt Y)) := hr5.cell rfl
        replace HBW : Hid (base ≤ w5.heap.size) := Lib.hid (by rw [hw5]; have h1 := HBW.out; simp [World.setCell]; omega)
        clear hw5 hr5 b1 y1 a0 a1 z1
        go_wp2_with (at_builtin; refine wpList_appS cellTR _ rfl _ _ rfl base _ _ _ rfl (HOX3.out.alloc _) _ _ [.bool true, .string (txt Y)] rfl rfl (new_at (by simp) [.bool true, .string (txt Y)] _) (by intro u hu; simp at hu; rcases hu with rfl | rfl <;> rfl) N1 HN1.out (by unfold maxLen; omega) (by omega) (by have h1 := HBW.out; simp; omega) ?_)
        intro A' c' w' hown' _ hfr'
        rw [HXS.out] at hown'
        obtain ⟨G3, hG3⟩ : ∃ G3, G3 = G ++ [(true, Y)] := ⟨_, rfl⟩
        have HO3 : Hid (OwnC sv 125 w' base A' c' G3) := Lib.hid (by rw [hG3]; exact OwnC.snoc (f := sv) (t := (true, Y)) HN1.out hown')
        have HF3 : Hid (Fr (fun _ => False) w w') := Lib.hid ((HF3'.out.alloc _).trans hfr' (fun b hb h => by have h1 := (HOX3.out.lt _ h).1; have h2 := HB.out; omega))
        have hNG : N1 = G3.length := by rw [HN1.out, hG3]; simp
        have HG3 : Hid (G3 = (L.take (k + 1)).map refW) := Lib.hid (by rw [hG3, HG.out, List.take_add_one, HT.out]; simp [HCELL.out])
        have HNG := Lib.hid hNG
        clear hown' hfr' hG3 hNG
        go_wp2
        go_roundw
        case rel => exact ⟨k + 1, G3, A', c', by omega, by go_num, by rw [HNG.out], HG3.out, HO3.out, HF3.out⟩
        case measure => simp [intOf] <;> omega
    · obtain rfl : k = n := by omega
      have he : R = G := by rw [HG.out, HR.out, List.take_of_length_le (by have := HLN.out; omega)]
      have HE2 := Lib.hid he
      clear he
      go_wp2_with fail
      go_ret
      rw [HE2.out]
      exact ⟨A1, c1, rfl, HO.out, HF.out⟩

end Go.Proofs.YtedmnkcoflbciaaGreat
namespace Go.Proofs.YtedmnkcoflbciaaGreat
open Go.RowKit Mem Go.Lib
attribute [local go_sem ↓] Go.wp_at_zero Go.wp_at_succ
set_option linter.unusedVariables false

end Go.Proofs.YtedmnkcoflbciaaGreat
