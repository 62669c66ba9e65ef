/-
  Layer 11, the program: tell (written by gen11.py out of rleS.src).
  Layer 11, the program: spread (written by gen11.py out of rleF.src).
  Layer 11, the program: a reader in memory; fits, add (written by gen11.py out of rleG.src).
-/
import Derived.Test.YtedmnkcoflbciaaGreatRleR
import Derived.Test.YtedmnkcoflbciaaGreatZm20
import Derived.Test.YtedmnkcoflbciaaGreatZm04
import Derived.Test.YtedmnkcoflbciaaGreatZm19
import Derived.Deep.DeepCutAuto
import Derived.Deep.CutRange
namespace Go.Proofs.YtedmnkcoflbciaaGreat
open Go.RowKit Mem Go.Lib RleM LebM
attribute [local go_sem ↓] Go.wp_at_zero Go.wp_at_succ
set_option linter.unusedVariables false

set_option maxRecDepth 1000000 in
set_option maxHeartbeats 3200000 in
theorem tellU_any (A : Option Addr) (n c : Nat) (L : List ((Bool × Int) × Nat)) (w : World) (hL : Grs nv w A n L) (hc : n ≤ c) (hA : ∀ ad, A = some ad → ad.block < w.heap.size) (hn : n ≤ 1000000) (hok : ∀ g ∈ L, okU g.1) (hcn : ∀ g ∈ L, g.2 < 9223372036854775808) :
    Calls Tryz.prog 90 #[.agg #[.func (.func 123) #[] #[], .func (.func 124) #[] #[]], .slice A n c] w (Gives w (tellW kU L)) := by
  have hlen : (tellG kU L).length ≤ 2000000000000 := tell_bound L (fun g hg => putU_len (hok g hg)) hcn (by rw [hL.1]; exact hn)
  have hLl := hL.1
  obtain ⟨base, hbase⟩ : ∃ base, base = w.heap.size := ⟨_, rfl⟩
  obtain ⟨w1, hw1⟩ : ∃ w1, w.alloc (.cells #[.func (.func 123) #[] #[], .func (.func 124) #[] #[]] 165) = w1 := ⟨_, rfl⟩
  obtain ⟨q, hq⟩ : ∃ q, w.heap.size = q := ⟨_, rfl⟩
  have hf1 : Fr (fun _ => False) w w1 := by rw [← hw1]; exact (Fr.refl _ _).alloc _
  have hqb : Row w1 q 165 [.func (.func 123) #[] #[], .func (.func 124) #[] #[]] := by rw [← hw1, ← hq]; exact Row.new w _ _
  have HL := Lib.hid hL
  have HA := Lib.hid hA
  rw [← hbase] at HA
  have HOK := Lib.hid hok
  have HCN := Lib.hid hcn
  have HQB := Lib.hid hqb
  have HF1 := Lib.hid hf1
  have HF1' : Hid (Fr (fun b => base ≤ b) w w1) := Lib.hid (hf1.mono (fun _ _ h => h.elim))
  have HB : Hid (base ≤ w.heap.size) := Lib.hid (by omega)
  have HLEN := Lib.hid hlen
  have HBASE := Lib.hid hbase
  have hloop : ∀ (R : List UInt8), tellW kU L = R → R = tellG kU L → ∀ A' c' w', Own w' base A' c' R → Fr (fun b => base ≤ b) w w' → Gives w (tellW kU L) (.returned (.slice A' R.length c')) w' := by
    intro R h1 h2 A' c' w' hO hF
    rw [h1]
    exact ⟨A', c', rfl, by rw [← hbase]; exact hO, hF.mono (fun b hb h => by omega)⟩
  have HLOOP := Lib.hid hloop
  clear hL hA hok hcn hqb hf1 hlen hbase hloop
  by_cases h1 : n = 1
  · obtain ⟨⟨⟨i, x⟩, m⟩, rfl⟩ : ∃ t, L = [t] := by
      match L, hLl with
      | [t], _ => exact ⟨t, rfl⟩
      | [], h => simp at h; omega
      | _ :: _ :: _, h => simp at h; omega
    obtain ⟨g, o, rfl, hg, k1, k2, k3⟩ := (HL.out.fr HF1.out (fun _ _ => id)).2 0 ((i, x), m) rfl
    rw [Nat.zero_mul] at k1 k2 k3
    rw [Nat.add_zero] at k1 k2 k3
    simp only [nv] at k1 k2 k3
    have t1 : ((n : Int) == 1) = true := by simp; omega
    have t1' : (n == 1) = true := by simp; omega
    have hn0 : 0 < n := by omega
    have hnt := nothingC_any i x (m : Int) w1
    by_cases hz : (i, x) = ((false, 0) : Bool × Int)
    · rw [decide_eq_true hz] at hnt
      have HNT := Lib.hid hnt
      have hres : tellW kU [((i, x), m)] = [] := by show (if (i, x) = kU.zero then _ else _) = _; exact if_pos hz
      rw [hres]
      clear hnt hz h1 hLl hres HLOOP
      go_enter Tryz.func90, Tryz.ntmps90
      go_upto_region 1 with fail
      clear hw1 hq
      go_wp2_with fail
      refine HNT.out.mono ?_
      rintro e w2 ⟨rfl, hf2⟩
      have HF2 := Lib.hid (HF1.out.trans hf2 (fun _ _ h => h))
      clear hf2 HNT
      go_wp2_with fail
      go_ret
      exact ⟨none, 0, rfl, Own.nil _ _, HF2.out⟩
    · rw [decide_eq_false hz] at hnt
      have HNT := Lib.hid hnt
      have hres : tellW kU [((i, x), m)] = tellG kU [((i, x), m)] := by show (if (i, x) = kU.zero then _ else _) = _; exact if_neg hz
      have HRES := Lib.hid hres
      clear hnt hz h1 hLl hres
      go_enter Tryz.func90, Tryz.ntmps90
      go_upto_region 1 with fail
      clear hw1 hq
      go_wp2_with fail
      refine HNT.out.mono ?_
      rintro e w2 ⟨rfl, hf2⟩
      have HF2 : Hid (Fr (fun b => base ≤ b) w w2) := Lib.hid ((HF1.out.trans hf2 (fun _ _ h => h)).mono (fun _ _ h => h.elim))
      have HQ2 := Lib.hid (HQB.out.fr hf2 (fun h => h))
      clear hf2 HNT
      go_wp2_with fail
      refine tell_loopU _ _ _ _ _ _ _ _ _ _ _ _ _ _ _ _ _ _ _ _ _ _ _ _ _ _ _ _ _ _ _ _ _ _ _ _ _ _ _ _ _ _ _ _ _ _ _ _ _ _ _ _ _ _ _ _ _ _ _ _ _ _ _ _ _ _ _ _ _ _ _ _ _ _ _ _ _ _ _ _ _ base q n c (some ⟨g, o, none⟩) [((i, x), m)] _ w w2 HL hc HA HOK HCN HQ2 HF2 HB hn HLEN ?_
      intro A' c' R w3 r1 r6 r8 r18 r19 r20 r21 r22 r23 r24 r25 r26 r27 r28 r29 r30 r31 r32 r33 r34 r35 r36 r37 r38 r39 r40 r41 r42 r43 r44 r45 r46 r47 r48 r49 r50 r51 r52 r53 r54 r55 r56 r57 r58 r59 r60 r61 r62 r63 r64 r65 r66 r67 r68 r69 r70 r71 r72 r73 r74 r75 r76 r77 r78 r79 r80 r81 HR HO HF
      go_wp2_with fail
      go_ret
      exact HLOOP.out R (by rw [HRES.out, HR.out]) HR.out _ _ _ HO.out HF.out
  · have t1 : ((n : Int) == 1) = false := by simp; omega
    have t1' : (n == 1) = false := by simp; omega
    have hres : tellW kU L = tellG kU L := by
      match L, hLl with
      | [t], h => simp at h; omega
      | [], h => rfl
      | _ :: _ :: _, h => rfl
    have HRES := Lib.hid hres
    clear h1 hLl hres
    go_enter Tryz.func90, Tryz.ntmps90
    go_upto_region 1 with fail
    clear hw1 hq
    go_wp2_with fail
    refine tell_loopU _ _ _ _ _ _ _ _ _ _ _ _ _ _ _ _ _ _ _ _ _ _ _ _ _ _ _ _ _ _ _ _ _ _ _ _ _ _ _ _ _ _ _ _ _ _ _ _ _ _ _ _ _ _ _ _ _ _ _ _ _ _ _ _ _ _ _ _ _ _ _ _ _ _ _ _ _ _ _ _ _ base q n c A L _ w w1 HL hc HA HOK HCN HQB HF1' HB hn HLEN ?_
    intro A' c' R w3 r1 r6 r8 r18 r19 r20 r21 r22 r23 r24 r25 r26 r27 r28 r29 r30 r31 r32 r33 r34 r35 r36 r37 r38 r39 r40 r41 r42 r43 r44 r45 r46 r47 r48 r49 r50 r51 r52 r53 r54 r55 r56 r57 r58 r59 r60 r61 r62 r63 r64 r65 r66 r67 r68 r69 r70 r71 r72 r73 r74 r75 r76 r77 r78 r79 r80 r81 HR HO HF
    go_wp2_with fail
    go_ret
    exact HLOOP.out R (by rw [HRES.out, HR.out]) HR.out _ _ _ HO.out HF.out

set_option maxRecDepth 1000000 in
set_option maxHeartbeats 3200000 in
theorem tellS_any (A : Option Addr) (n c : Nat) (L : List ((Bool × Int) × Nat)) (w : World) (hL : Grs nv w A n L) (hc : n ≤ c) (hA : ∀ ad, A = some ad → ad.block < w.heap.size) (hn : n ≤ 1000000) (hok : ∀ g ∈ L, okS g.1) (hcn : ∀ g ∈ L, g.2 < 9223372036854775808) :
    Calls Tryz.prog 90 #[.agg #[.func (.func 156) #[] #[], .func (.func 157) #[] #[]], .slice A n c] w (Gives w (tellW kS L)) := by
  have hlen : (tellG kS L).length ≤ 2000000000000 := tell_bound L (fun g hg => putS_len (hok g hg)) hcn (by rw [hL.1]; exact hn)
  have hLl := hL.1
  obtain ⟨base, hbase⟩ : ∃ base, base = w.heap.size := ⟨_, rfl⟩
  obtain ⟨w1, hw1⟩ : ∃ w1, w.alloc (.cells #[.func (.func 156) #[] #[], .func (.func 157) #[] #[]] 165) = w1 := ⟨_, rfl⟩
  obtain ⟨q, hq⟩ : ∃ q, w.heap.size = q := ⟨_, rfl⟩
  have hf1 : Fr (fun _ => False) w w1 := by rw [← hw1]; exact (Fr.refl _ _).alloc _
  have hqb : Row w1 q 165 [.func (.func 156) #[] #[], .func (.func 157) #[] #[]] := by rw [← hw1, ← hq]; exact Row.new w _ _
  have HL := Lib.hid hL
  have HA := Lib.hid hA
  rw [← hbase] at HA
  have HOK := Lib.hid hok
  have HCN := Lib.hid hcn
  have HQB := Lib.hid hqb
  have HF1 := Lib.hid hf1
  have HF1' : Hid (Fr (fun b => base ≤ b) w w1) := Lib.hid (hf1.mono (fun _ _ h => h.elim))
  have HB : Hid (base ≤ w.heap.size) := Lib.hid (by omega)
  have HLEN := Lib.hid hlen
  have HBASE := Lib.hid hbase
  have hloop : ∀ (R : List UInt8), tellW kS L = R → R = tellG kS L → ∀ A' c' w', Own w' base A' c' R → Fr (fun b => base ≤ b) w w' → Gives w (tellW kS L) (.returned (.slice A' R.length c')) w' := by
    intro R h1 h2 A' c' w' hO hF
    rw [h1]
    exact ⟨A', c', rfl, by rw [← hbase]; exact hO, hF.mono (fun b hb h => by omega)⟩
  have HLOOP := Lib.hid hloop
  clear hL hA hok hcn hqb hf1 hlen hbase hloop
  by_cases h1 : n = 1
  · obtain ⟨⟨⟨i, x⟩, m⟩, rfl⟩ : ∃ t, L = [t] := by
      match L, hLl with
      | [t], _ => exact ⟨t, rfl⟩
      | [], h => simp at h; omega
      | _ :: _ :: _, h => simp at h; omega
    obtain ⟨g, o, rfl, hg, k1, k2, k3⟩ := (HL.out.fr HF1.out (fun _ _ => id)).2 0 ((i, x), m) rfl
    rw [Nat.zero_mul] at k1 k2 k3
    rw [Nat.add_zero] at k1 k2 k3
    simp only [nv] at k1 k2 k3
    have t1 : ((n : Int) == 1) = true := by simp; omega
    have t1' : (n == 1) = true := by simp; omega
    have hn0 : 0 < n := by omega
    have hnt := nothingC_any i x (m : Int) w1
    by_cases hz : (i, x) = ((false, 0) : Bool × Int)
    · rw [decide_eq_true hz] at hnt
      have HNT := Lib.hid hnt
      have hres : tellW kS [((i, x), m)] = [] := by show (if (i, x) = kS.zero then _ else _) = _; exact if_pos hz
      rw [hres]
      clear hnt hz h1 hLl hres HLOOP
      go_enter Tryz.func90, Tryz.ntmps90
      go_upto_region 1 with fail
      clear hw1 hq
      go_wp2_with fail
      refine HNT.out.mono ?_
      rintro e w2 ⟨rfl, hf2⟩
      have HF2 := Lib.hid (HF1.out.trans hf2 (fun _ _ h => h))
      clear hf2 HNT
      go_wp2_with fail
      go_ret
      exact ⟨none, 0, rfl, Own.nil _ _, HF2.out⟩
    · rw [decide_eq_false hz] at hnt
      have HNT := Lib.hid hnt
      have hres : tellW kS [((i, x), m)] = tellG kS [((i, x), m)] := by show (if (i, x) = kS.zero then _ else _) = _; exact if_neg hz
      have HRES := Lib.hid hres
      clear hnt hz h1 hLl hres
      go_enter Tryz.func90, Tryz.ntmps90
      go_upto_region 1 with fail
      clear hw1 hq
      go_wp2_with fail
      refine HNT.out.mono ?_
      rintro e w2 ⟨rfl, hf2⟩
      have HF2 : Hid (Fr (fun b => base ≤ b) w w2) := Lib.hid ((HF1.out.trans hf2 (fun _ _ h => h)).mono (fun _ _ h => h.elim))
      have HQ2 := Lib.hid (HQB.out.fr hf2 (fun h => h))
      clear hf2 HNT
      go_wp2_with fail
      refine tell_loopS _ _ _ _ _ _ _ _ _ _ _ _ _ _ _ _ _ _ _ _ _ _ _ _ _ _ _ _ _ _ _ _ _ _ _ _ _ _ _ _ _ _ _ _ _ _ _ _ _ _ _ _ _ _ _ _ _ _ _ _ _ _ _ _ _ _ _ _ _ _ _ _ _ _ _ _ _ _ _ _ _ base q n c (some ⟨g, o, none⟩) [((i, x), m)] _ w w2 HL hc HA HOK HCN HQ2 HF2 HB hn HLEN ?_
      intro A' c' R w3 r1 r6 r8 r18 r19 r20 r21 r22 r23 r24 r25 r26 r27 r28 r29 r30 r31 r32 r33 r34 r35 r36 r37 r38 r39 r40 r41 r42 r43 r44 r45 r46 r47 r48 r49 r50 r51 r52 r53 r54 r55 r56 r57 r58 r59 r60 r61 r62 r63 r64 r65 r66 r67 r68 r69 r70 r71 r72 r73 r74 r75 r76 r77 r78 r79 r80 r81 HR HO HF
      go_wp2_with fail
      go_ret
      exact HLOOP.out R (by rw [HRES.out, HR.out]) HR.out _ _ _ HO.out HF.out
  · have t1 : ((n : Int) == 1) = false := by simp; omega
    have t1' : (n == 1) = false := by simp; omega
    have hres : tellW kS L = tellG kS L := by
      match L, hLl with
      | [t], h => simp at h; omega
      | [], h => rfl
      | _ :: _ :: _, h => rfl
    have HRES := Lib.hid hres
    clear h1 hLl hres
    go_enter Tryz.func90, Tryz.ntmps90
    go_upto_region 1 with fail
    clear hw1 hq
    go_wp2_with fail
    refine tell_loopS _ _ _ _ _ _ _ _ _ _ _ _ _ _ _ _ _ _ _ _ _ _ _ _ _ _ _ _ _ _ _ _ _ _ _ _ _ _ _ _ _ _ _ _ _ _ _ _ _ _ _ _ _ _ _ _ _ _ _ _ _ _ _ _ _ _ _ _ _ _ _ _ _ _ _ _ _ _ _ _ _ base q n c A L _ w w1 HL hc HA HOK HCN HQB HF1' HB hn HLEN ?_
    intro A' c' R w3 r1 r6 r8 r18 r19 r20 r21 r22 r23 r24 r25 r26 r27 r28 r29 r30 r31 r32 r33 r34 r35 r36 r37 r38 r39 r40 r41 r42 r43 r44 r45 r46 r47 r48 r49 r50 r51 r52 r53 r54 r55 r56 r57 r58 r59 r60 r61 r62 r63 r64 r65 r66 r67 r68 r69 r70 r71 r72 r73 r74 r75 r76 r77 r78 r79 r80 r81 HR HO HF
    go_wp2_with fail
    go_ret
    exact HLOOP.out R (by rw [HRES.out, HR.out]) HR.out _ _ _ HO.out HF.out

set_option maxRecDepth 1000000 in
set_option maxHeartbeats 3200000 in
theorem tellW_any (A : Option Addr) (n c : Nat) (L : List ((Bool × (List UInt8)) × Nat)) (w : World) (hL : Grs sv w A n L) (hc : n ≤ c) (hA : ∀ ad, A = some ad → ad.block < w.heap.size) (hn : n ≤ 1000000) (hok : ∀ g ∈ L, okW g.1) (hcn : ∀ g ∈ L, g.2 < 9223372036854775808) :
    Calls Tryz.prog 95 #[.agg #[.func (.func 130) #[] #[], .func (.func 131) #[] #[]], .slice A n c] w (Gives w (tellW kW L)) := by
  have hlen : (tellG kW L).length ≤ 2000000000000 := tell_bound L (fun g hg => putW_len (hok g hg)) hcn (by rw [hL.1]; exact hn)
  have hLl := hL.1
  obtain ⟨base, hbase⟩ : ∃ base, base = w.heap.size := ⟨_, rfl⟩
  obtain ⟨w1, hw1⟩ : ∃ w1, w.alloc (.cells #[.func (.func 130) #[] #[], .func (.func 131) #[] #[]] 174) = w1 := ⟨_, rfl⟩
  obtain ⟨q, hq⟩ : ∃ q, w.heap.size = q := ⟨_, rfl⟩
  have hf1 : Fr (fun _ => False) w w1 := by rw [← hw1]; exact (Fr.refl _ _).alloc _
  have hqb : Row w1 q 174 [.func (.func 130) #[] #[], .func (.func 131) #[] #[]] := by rw [← hw1, ← hq]; exact Row.new w _ _
  have HL := Lib.hid hL
  have HA := Lib.hid hA
  rw [← hbase] at HA
  have HOK := Lib.hid hok
  have HCN := Lib.hid hcn
  have HQB := Lib.hid hqb
  have HF1 := Lib.hid hf1
  have HF1' : Hid (Fr (fun b => base ≤ b) w w1) := Lib.hid (hf1.mono (fun _ _ h => h.elim))
  have HB : Hid (base ≤ w.heap.size) := Lib.hid (by omega)
  have HLEN := Lib.hid hlen
  have HBASE := Lib.hid hbase
  have hloop : ∀ (R : List UInt8), tellW kW L = R → R = tellG kW L → ∀ A' c' w', Own w' base A' c' R → Fr (fun b => base ≤ b) w w' → Gives w (tellW kW L) (.returned (.slice A' R.length c')) w' := by
    intro R h1 h2 A' c' w' hO hF
    rw [h1]
    exact ⟨A', c', rfl, by rw [← hbase]; exact hO, hF.mono (fun b hb h => by omega)⟩
  have HLOOP := Lib.hid hloop
  clear hL hA hok hcn hqb hf1 hlen hbase hloop
  by_cases h1 : n = 1
  · obtain ⟨⟨⟨i, x⟩, m⟩, rfl⟩ : ∃ t, L = [t] := by
      match L, hLl with
      | [t], _ => exact ⟨t, rfl⟩
      | [], h => simp at h; omega
      | _ :: _ :: _, h => simp at h; omega
    obtain ⟨g, o, rfl, hg, k1, k2, k3⟩ := (HL.out.fr HF1.out (fun _ _ => id)).2 0 ((i, x), m) rfl
    rw [Nat.zero_mul] at k1 k2 k3
    rw [Nat.add_zero] at k1 k2 k3
    simp only [sv] at k1 k2 k3
    have t1 : ((n : Int) == 1) = true := by simp; omega
    have t1' : (n == 1) = true := by simp; omega
    have hn0 : 0 < n := by omega
    have hnt := nothingW_any i x (m : Int) w1
    by_cases hz : (i, x) = ((false, []) : Bool × (List UInt8))
    · rw [decide_eq_true hz] at hnt
      have HNT := Lib.hid hnt
      have hres : tellW kW [((i, x), m)] = [] := by show (if (i, x) = kW.zero then _ else _) = _; exact if_pos hz
      rw [hres]
      clear hnt hz h1 hLl hres HLOOP
      go_enter Tryz.func95, Tryz.ntmps95
      go_upto_region 1 with fail
      clear hw1 hq
      go_wp2_with fail
      refine HNT.out.mono ?_
      rintro e w2 ⟨rfl, hf2⟩
      have HF2 := Lib.hid (HF1.out.trans hf2 (fun _ _ h => h))
      clear hf2 HNT
      go_wp2_with fail
      go_ret
      exact ⟨none, 0, rfl, Own.nil _ _, HF2.out⟩
    · rw [decide_eq_false hz] at hnt
      have HNT := Lib.hid hnt
      have hres : tellW kW [((i, x), m)] = tellG kW [((i, x), m)] := by show (if (i, x) = kW.zero then _ else _) = _; exact if_neg hz
      have HRES := Lib.hid hres
      clear hnt hz h1 hLl hres
      go_enter Tryz.func95, Tryz.ntmps95
      go_upto_region 1 with fail
      clear hw1 hq
      go_wp2_with fail
      refine HNT.out.mono ?_
      rintro e w2 ⟨rfl, hf2⟩
      have HF2 : Hid (Fr (fun b => base ≤ b) w w2) := Lib.hid ((HF1.out.trans hf2 (fun _ _ h => h)).mono (fun _ _ h => h.elim))
      have HQ2 := Lib.hid (HQB.out.fr hf2 (fun h => h))
      clear hf2 HNT
      go_wp2_with fail
      refine tell_loopW _ _ _ _ _ _ _ _ _ _ _ _ _ _ _ _ _ _ _ _ _ _ _ _ _ _ _ _ _ _ _ _ _ _ _ _ _ _ _ _ _ _ _ _ _ _ _ _ _ _ _ _ _ _ _ _ _ _ _ _ _ _ _ _ _ _ _ _ _ _ _ _ _ _ _ _ _ _ _ _ _ base q n c (some ⟨g, o, none⟩) [((i, x), m)] _ w w2 HL hc HA HOK HCN HQ2 HF2 HB hn HLEN ?_
      intro A' c' R w3 r1 r6 r8 r18 r19 r20 r21 r22 r23 r24 r25 r26 r27 r28 r29 r30 r31 r32 r33 r34 r35 r36 r37 r38 r39 r40 r41 r42 r43 r44 r45 r46 r47 r48 r49 r50 r51 r52 r53 r54 r55 r56 r57 r58 r59 r60 r61 r62 r63 r64 r65 r66 r67 r68 r69 r70 r71 r72 r73 r74 r75 r76 r77 r78 r79 r80 r81 HR HO HF
      go_wp2_with fail
      go_ret
      exact HLOOP.out R (by rw [HRES.out, HR.out]) HR.out _ _ _ HO.out HF.out
  · have t1 : ((n : Int) == 1) = false := by simp; omega
    have t1' : (n == 1) = false := by simp; omega
    have hres : tellW kW L = tellG kW L := by
      match L, hLl with
      | [t], h => simp at h; omega
      | [], h => rfl
      | _ :: _ :: _, h => rfl
    have HRES := Lib.hid hres
    clear h1 hLl hres
    go_enter Tryz.func95, Tryz.ntmps95
    go_upto_region 1 with fail
    clear hw1 hq
    go_wp2_with fail
    refine tell_loopW _ _ _ _ _ _ _ _ _ _ _ _ _ _ _ _ _ _ _ _ _ _ _ _ _ _ _ _ _ _ _ _ _ _ _ _ _ _ _ _ _ _ _ _ _ _ _ _ _ _ _ _ _ _ _ _ _ _ _ _ _ _ _ _ _ _ _ _ _ _ _ _ _ _ _ _ _ _ _ _ _ base q n c A L _ w w1 HL hc HA HOK HCN HQB HF1' HB hn HLEN ?_
    intro A' c' R w3 r1 r6 r8 r18 r19 r20 r21 r22 r23 r24 r25 r26 r27 r28 r29 r30 r31 r32 r33 r34 r35 r36 r37 r38 r39 r40 r41 r42 r43 r44 r45 r46 r47 r48 r49 r50 r51 r52 r53 r54 r55 r56 r57 r58 r59 r60 r61 r62 r63 r64 r65 r66 r67 r68 r69 r70 r71 r72 r73 r74 r75 r76 r77 r78 r79 r80 r81 HR HO HF
    go_wp2_with fail
    go_ret
    exact HLOOP.out R (by rw [HRES.out, HR.out]) HR.out _ _ _ HO.out HF.out

end Go.Proofs.YtedmnkcoflbciaaGreat
namespace Go.Proofs.YtedmnkcoflbciaaGreat
open Go.RowKit Mem Go.Lib RleM
attribute [local go_sem ↓] Go.wp_at_zero Go.wp_at_succ
set_option linter.unusedVariables false

end Go.Proofs.YtedmnkcoflbciaaGreat
namespace Go.Proofs.YtedmnkcoflbciaaGreat
open Go.RowKit Mem Go.Lib RleM
attribute [local go_sem ↓] Go.wp_at_zero Go.wp_at_succ
set_option linter.unusedVariables false

/-- a reader lies in block g, all of its own from base on *-/
structure Rdr {β : Type} (f : β → Value) (T G : TypeId) (fp fg : Value) (w : World) (base g : Nat) (most : Int) (r : Rs (Bool × β)) : Prop where
  at_ : ∃ A n c Ag cg, Row w g T [fp, fg, .slice A n c, .slice Ag r.gs.length cg, .int .i64 (r.count : Int), .int .i64 most] ∧ Rd w A n (r.left.map bytec) ∧ n ≤ c ∧ (0 < n → ∀ ad, A = some ad → ad.block < base) ∧ OwnG f G w base Ag cg r.gs
  base : base ≤ g
end Go.Proofs.YtedmnkcoflbciaaGreat
