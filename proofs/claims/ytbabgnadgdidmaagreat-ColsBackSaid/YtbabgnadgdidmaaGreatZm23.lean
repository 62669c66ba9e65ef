import Derived.Test.YtbabgnadgdidmaaGreatZm00
import Derived.Test.YtbabgnadgdidmaaGreatZm22
import Derived.Test.YtbabgnadgdidmaaGreatZm20
set_option linter.unusedVariables false
set_option maxRecDepth 100000
set_option maxHeartbeats 12800000
namespace Go.Proofs.YtbabgnadgdidmaaGreat
section
open Go.RowKit Mem Go.Lib RleM LebM
attribute [local go_sem ↓] Go.wp_at_zero Go.wp_at_succ
set_option maxRecDepth 1000000 in
theorem tellU_any (A : Option Addr) (n c : Nat) (L : List ((Bool × Int) × Nat)) (w : World) (hL : Grs nv w A n L) (hc : n ≤ c) (hA : ∀ ad, A = some ad → ad.block < w.heap.size) (hn : n ≤ 1000000) (hok : ∀ g ∈ L, okU g.1) (hcn : ∀ g ∈ L, g.2 < 9223372036854775808) :
    Calls Tryz.prog 91 #[.agg #[.func (.func 124) #[] #[], .func (.func 125) #[] #[]], .slice A n c] w (Gives w (tellW kU L)) := by
 have hlen : (tellG kU L).length ≤ 2000000000000 := tell_bound L (fun g hg => putU_len (hok g hg)) hcn (by rw [hL.1]; exact hn);have hLl := hL.1;obtain ⟨base, hbase⟩ : ∃ base, base = w.heap.size := ⟨_, rfl⟩
 obtain ⟨w1, hw1⟩ := nm_ (w.alloc (.cells #[.func (.func 124) #[] #[], .func (.func 125) #[] #[]] 166));obtain ⟨q, hq⟩ := nm_ w.heap.size;have hf1 : Fr (fun _ => False) w w1 := by rw [← hw1]; exact (Fr.refl _ _).alloc _
 have hqb : Row w1 q 166 [.func (.func 124) #[] #[], .func (.func 125) #[] #[]] := by rw [← hw1, ← hq]; exact Row.new w _ _
 have HL := hid hL;have HA := hid hA;rw [← hbase] at HA;have HOK := hid hok;have HCN := hid hcn;have HQB := hid hqb;have HF1 := hid hf1;have HF1' : Hid (Fr (fun b => base ≤ b) w w1) := hid (hf1.mono (fun _ _ h => h.elim));have HB : Hid (base ≤ w.heap.size) := hid (by omega);have HLEN := hid hlen;have HBASE := hid hbase;have hloop : ∀ (R : List UInt8), tellW kU L = R → R = tellG kU L → ∀ A' c' w', Own w' base A' c' R → Fr (fun b => base ≤ b) w w' → Gives w (tellW kU L) (.returned (.slice A' R.length c')) w' := by
  intro R h1 h2 A' c' w' hO hF;rw [h1];exact ⟨A', c', rfl, by rw [← hbase]; exact hO, hF.mono (fun b hb h => by omega)⟩
 have HLOOP := hid hloop;clear hL hA hok hcn hqb hf1 hlen hbase hloop;by_cases h1 : n = 1
 · obtain ⟨⟨⟨i, x⟩, m⟩, rfl⟩ : ∃ t, L = [t] := by
    match L, hLl with
    | [t], _ => exact ⟨t, rfl⟩
    | [], h => simp at h; omega
    | _ :: _ :: _, h => simp at h; omega
   obtain ⟨g, o, rfl, hg, k1, k2, k3⟩ := (HL.out.fr HF1.out (fun _ _ => id)).2 0 ((i, x), m) rfl;rw [Nat.zero_mul] at k1 k2 k3;rw [Nat.add_zero] at k1 k2 k3;simp only [nv] at k1 k2 k3;have t1 : ((n : Int) == 1) = true := by simp; omega
   have t1' : (n == 1) = true := by simp; omega
   have hn0 : 0 < n := by omega
   have hnt := nothingC_any i x (m : Int) w1;by_cases hz : (i, x) = ((false, 0) : Bool × Int)
   · rw [decide_eq_true hz] at hnt;have HNT := hid hnt;have hres : tellW kU [((i, x), m)] = [] := by show (if (i, x) = kU.zero then _ else _) = _; exact if_pos hz
     rw [hres];clear hnt hz h1 hLl hres HLOOP;go_enter Tryz.func91, Tryz.ntmps91
     go_upto_region 1 with fail
     clear hw1 hq;go_wp2_with fail;refine HNT.out.mono ?_;rintro e w2 ⟨rfl, hf2⟩;have HF2 := hid (HF1.out.trans hf2 im_);clear hf2 HNT;go_wp2_with fail;go_ret;exact ⟨none, 0, rfl, Own.nil _ _, HF2.out⟩
   · rw [decide_eq_false hz] at hnt;have HNT := hid hnt;have hres : tellW kU [((i, x), m)] = tellG kU [((i, x), m)] := by show (if (i, x) = kU.zero then _ else _) = _; exact if_neg hz
     have HRES := hid hres;clear hnt hz h1 hLl hres;go_enter Tryz.func91, Tryz.ntmps91
     go_upto_region 1 with fail
     clear hw1 hq;go_wp2_with fail;refine HNT.out.mono ?_;rintro e w2 ⟨rfl, hf2⟩;have HF2 : Hid (Fr (fun b => base ≤ b) w w2) := hid ((HF1.out.trans hf2 im_).mono (fun _ _ h => h.elim));have HQ2 := hid (HQB.out.fr hf2 (fun h => h));clear hf2 HNT;go_wp2_with fail;refine tell_loopU _ _ _ _ _ _ _ _ _ _ _ _ _ _ _ _ _ _ _ _ _ _ _ _ _ _ _ _ _ _ _ _ _ _ _ _ _ _ _ _ _ _ _ _ _ _ _ _ _ _ _ _ _ _ _ _ _ _ _ _ _ _ _ _ _ _ _ _ _ _ _ _ _ _ _ _ _ _ _ _ _ base q n c (some ⟨g, o, none⟩) [((i, x), m)] _ w w2 HL hc HA HOK HCN HQ2 HF2 HB hn HLEN ?_;intro A' c' R w3 r1 r6 r8 r18 r19 r20 r21 r22 r23 r24 r25 r26 r27 r28 r29 r30 r31 r32 r33 r34 r35 r36 r37 r38 r39 r40 r41 r42 r43 r44 r45 r46 r47 r48 r49 r50 r51 r52 r53 r54 r55 r56 r57 r58 r59 r60 r61 r62 r63 r64 r65 r66 r67 r68 r69 r70 r71 r72 r73 r74 r75 r76 r77 r78 r79 r80 r81 HR HO HF;go_wp2_with fail;go_ret;exact HLOOP.out R (by rw [HRES.out, HR.out]) HR.out _ _ _ HO.out HF.out
 · have t1 : ((n : Int) == 1) = false := by simp; omega
   have t1' : (n == 1) = false := by simp; omega
   have hres : tellW kU L = tellG kU L := by
    match L, hLl with
    | [t], h => simp at h; omega
    | [], h => rfl
    | _ :: _ :: _, h => rfl
   have HRES := hid hres;clear h1 hLl hres;go_enter Tryz.func91, Tryz.ntmps91
   go_upto_region 1 with fail
   clear hw1 hq;go_wp2_with fail;refine tell_loopU _ _ _ _ _ _ _ _ _ _ _ _ _ _ _ _ _ _ _ _ _ _ _ _ _ _ _ _ _ _ _ _ _ _ _ _ _ _ _ _ _ _ _ _ _ _ _ _ _ _ _ _ _ _ _ _ _ _ _ _ _ _ _ _ _ _ _ _ _ _ _ _ _ _ _ _ _ _ _ _ _ base q n c A L _ w w1 HL hc HA HOK HCN HQB HF1' HB hn HLEN ?_;intro A' c' R w3 r1 r6 r8 r18 r19 r20 r21 r22 r23 r24 r25 r26 r27 r28 r29 r30 r31 r32 r33 r34 r35 r36 r37 r38 r39 r40 r41 r42 r43 r44 r45 r46 r47 r48 r49 r50 r51 r52 r53 r54 r55 r56 r57 r58 r59 r60 r61 r62 r63 r64 r65 r66 r67 r68 r69 r70 r71 r72 r73 r74 r75 r76 r77 r78 r79 r80 r81 HR HO HF;go_wp2_with fail;go_ret;exact HLOOP.out R (by rw [HRES.out, HR.out]) HR.out _ _ _ HO.out HF.out
set_option maxRecDepth 1000000 in
theorem tellS_any (A : Option Addr) (n c : Nat) (L : List ((Bool × Int) × Nat)) (w : World) (hL : Grs nv w A n L) (hc : n ≤ c) (hA : ∀ ad, A = some ad → ad.block < w.heap.size) (hn : n ≤ 1000000) (hok : ∀ g ∈ L, okS g.1) (hcn : ∀ g ∈ L, g.2 < 9223372036854775808) :
    Calls Tryz.prog 91 #[.agg #[.func (.func 157) #[] #[], .func (.func 158) #[] #[]], .slice A n c] w (Gives w (tellW kS L)) := by
 have hlen : (tellG kS L).length ≤ 2000000000000 := tell_bound L (fun g hg => putS_len (hok g hg)) hcn (by rw [hL.1]; exact hn);have hLl := hL.1;obtain ⟨base, hbase⟩ : ∃ base, base = w.heap.size := ⟨_, rfl⟩
 obtain ⟨w1, hw1⟩ := nm_ (w.alloc (.cells #[.func (.func 157) #[] #[], .func (.func 158) #[] #[]] 166));obtain ⟨q, hq⟩ := nm_ w.heap.size;have hf1 : Fr (fun _ => False) w w1 := by rw [← hw1]; exact (Fr.refl _ _).alloc _
 have hqb : Row w1 q 166 [.func (.func 157) #[] #[], .func (.func 158) #[] #[]] := by rw [← hw1, ← hq]; exact Row.new w _ _
 have HL := hid hL;have HA := hid hA;rw [← hbase] at HA;have HOK := hid hok;have HCN := hid hcn;have HQB := hid hqb;have HF1 := hid hf1;have HF1' : Hid (Fr (fun b => base ≤ b) w w1) := hid (hf1.mono (fun _ _ h => h.elim));have HB : Hid (base ≤ w.heap.size) := hid (by omega);have HLEN := hid hlen;have HBASE := hid hbase;have hloop : ∀ (R : List UInt8), tellW kS L = R → R = tellG kS L → ∀ A' c' w', Own w' base A' c' R → Fr (fun b => base ≤ b) w w' → Gives w (tellW kS L) (.returned (.slice A' R.length c')) w' := by
  intro R h1 h2 A' c' w' hO hF;rw [h1];exact ⟨A', c', rfl, by rw [← hbase]; exact hO, hF.mono (fun b hb h => by omega)⟩
 have HLOOP := hid hloop;clear hL hA hok hcn hqb hf1 hlen hbase hloop;by_cases h1 : n = 1
 · obtain ⟨⟨⟨i, x⟩, m⟩, rfl⟩ : ∃ t, L = [t] := by
    match L, hLl with
    | [t], _ => exact ⟨t, rfl⟩
    | [], h => simp at h; omega
    | _ :: _ :: _, h => simp at h; omega
   obtain ⟨g, o, rfl, hg, k1, k2, k3⟩ := (HL.out.fr HF1.out (fun _ _ => id)).2 0 ((i, x), m) rfl;rw [Nat.zero_mul] at k1 k2 k3;rw [Nat.add_zero] at k1 k2 k3;simp only [nv] at k1 k2 k3;have t1 : ((n : Int) == 1) = true := by simp; omega
   have t1' : (n == 1) = true := by simp; omega
   have hn0 : 0 < n := by omega
   have hnt := nothingC_any i x (m : Int) w1;by_cases hz : (i, x) = ((false, 0) : Bool × Int)
   · rw [decide_eq_true hz] at hnt;have HNT := hid hnt;have hres : tellW kS [((i, x), m)] = [] := by show (if (i, x) = kS.zero then _ else _) = _; exact if_pos hz
     rw [hres];clear hnt hz h1 hLl hres HLOOP;go_enter Tryz.func91, Tryz.ntmps91
     go_upto_region 1 with fail
     clear hw1 hq;go_wp2_with fail;refine HNT.out.mono ?_;rintro e w2 ⟨rfl, hf2⟩;have HF2 := hid (HF1.out.trans hf2 im_);clear hf2 HNT;go_wp2_with fail;go_ret;exact ⟨none, 0, rfl, Own.nil _ _, HF2.out⟩
   · rw [decide_eq_false hz] at hnt;have HNT := hid hnt;have hres : tellW kS [((i, x), m)] = tellG kS [((i, x), m)] := by show (if (i, x) = kS.zero then _ else _) = _; exact if_neg hz
     have HRES := hid hres;clear hnt hz h1 hLl hres;go_enter Tryz.func91, Tryz.ntmps91
     go_upto_region 1 with fail
     clear hw1 hq;go_wp2_with fail;refine HNT.out.mono ?_;rintro e w2 ⟨rfl, hf2⟩;have HF2 : Hid (Fr (fun b => base ≤ b) w w2) := hid ((HF1.out.trans hf2 im_).mono (fun _ _ h => h.elim));have HQ2 := hid (HQB.out.fr hf2 (fun h => h));clear hf2 HNT;go_wp2_with fail;refine tell_loopS _ _ _ _ _ _ _ _ _ _ _ _ _ _ _ _ _ _ _ _ _ _ _ _ _ _ _ _ _ _ _ _ _ _ _ _ _ _ _ _ _ _ _ _ _ _ _ _ _ _ _ _ _ _ _ _ _ _ _ _ _ _ _ _ _ _ _ _ _ _ _ _ _ _ _ _ _ _ _ _ _ base q n c (some ⟨g, o, none⟩) [((i, x), m)] _ w w2 HL hc HA HOK HCN HQ2 HF2 HB hn HLEN ?_;intro A' c' R w3 r1 r6 r8 r18 r19 r20 r21 r22 r23 r24 r25 r26 r27 r28 r29 r30 r31 r32 r33 r34 r35 r36 r37 r38 r39 r40 r41 r42 r43 r44 r45 r46 r47 r48 r49 r50 r51 r52 r53 r54 r55 r56 r57 r58 r59 r60 r61 r62 r63 r64 r65 r66 r67 r68 r69 r70 r71 r72 r73 r74 r75 r76 r77 r78 r79 r80 r81 HR HO HF;go_wp2_with fail;go_ret;exact HLOOP.out R (by rw [HRES.out, HR.out]) HR.out _ _ _ HO.out HF.out
 · have t1 : ((n : Int) == 1) = false := by simp; omega
   have t1' : (n == 1) = false := by simp; omega
   have hres : tellW kS L = tellG kS L := by
    match L, hLl with
    | [t], h => simp at h; omega
    | [], h => rfl
    | _ :: _ :: _, h => rfl
   have HRES := hid hres;clear h1 hLl hres;go_enter Tryz.func91, Tryz.ntmps91
   go_upto_region 1 with fail
   clear hw1 hq;go_wp2_with fail;refine tell_loopS _ _ _ _ _ _ _ _ _ _ _ _ _ _ _ _ _ _ _ _ _ _ _ _ _ _ _ _ _ _ _ _ _ _ _ _ _ _ _ _ _ _ _ _ _ _ _ _ _ _ _ _ _ _ _ _ _ _ _ _ _ _ _ _ _ _ _ _ _ _ _ _ _ _ _ _ _ _ _ _ _ base q n c A L _ w w1 HL hc HA HOK HCN HQB HF1' HB hn HLEN ?_;intro A' c' R w3 r1 r6 r8 r18 r19 r20 r21 r22 r23 r24 r25 r26 r27 r28 r29 r30 r31 r32 r33 r34 r35 r36 r37 r38 r39 r40 r41 r42 r43 r44 r45 r46 r47 r48 r49 r50 r51 r52 r53 r54 r55 r56 r57 r58 r59 r60 r61 r62 r63 r64 r65 r66 r67 r68 r69 r70 r71 r72 r73 r74 r75 r76 r77 r78 r79 r80 r81 HR HO HF;go_wp2_with fail;go_ret;exact HLOOP.out R (by rw [HRES.out, HR.out]) HR.out _ _ _ HO.out HF.out
set_option maxRecDepth 1000000 in
theorem tellW_any (A : Option Addr) (n c : Nat) (L : List ((Bool × (List UInt8)) × Nat)) (w : World) (hL : Grs sv w A n L) (hc : n ≤ c) (hA : ∀ ad, A = some ad → ad.block < w.heap.size) (hn : n ≤ 1000000) (hok : ∀ g ∈ L, okW g.1) (hcn : ∀ g ∈ L, g.2 < 9223372036854775808) :
    Calls Tryz.prog 96 #[.agg #[.func (.func 131) #[] #[], .func (.func 132) #[] #[]], .slice A n c] w (Gives w (tellW kW L)) := by
 have hlen : (tellG kW L).length ≤ 2000000000000 := tell_bound L (fun g hg => putW_len (hok g hg)) hcn (by rw [hL.1]; exact hn);have hLl := hL.1;obtain ⟨base, hbase⟩ : ∃ base, base = w.heap.size := ⟨_, rfl⟩
 obtain ⟨w1, hw1⟩ := nm_ (w.alloc (.cells #[.func (.func 131) #[] #[], .func (.func 132) #[] #[]] 175));obtain ⟨q, hq⟩ := nm_ w.heap.size;have hf1 : Fr (fun _ => False) w w1 := by rw [← hw1]; exact (Fr.refl _ _).alloc _
 have hqb : Row w1 q 175 [.func (.func 131) #[] #[], .func (.func 132) #[] #[]] := by rw [← hw1, ← hq]; exact Row.new w _ _
 have HL := hid hL;have HA := hid hA;rw [← hbase] at HA;have HOK := hid hok;have HCN := hid hcn;have HQB := hid hqb;have HF1 := hid hf1;have HF1' : Hid (Fr (fun b => base ≤ b) w w1) := hid (hf1.mono (fun _ _ h => h.elim));have HB : Hid (base ≤ w.heap.size) := hid (by omega);have HLEN := hid hlen;have HBASE := hid hbase;have hloop : ∀ (R : List UInt8), tellW kW L = R → R = tellG kW L → ∀ A' c' w', Own w' base A' c' R → Fr (fun b => base ≤ b) w w' → Gives w (tellW kW L) (.returned (.slice A' R.length c')) w' := by
  intro R h1 h2 A' c' w' hO hF;rw [h1];exact ⟨A', c', rfl, by rw [← hbase]; exact hO, hF.mono (fun b hb h => by omega)⟩
 have HLOOP := hid hloop;clear hL hA hok hcn hqb hf1 hlen hbase hloop;by_cases h1 : n = 1
 · obtain ⟨⟨⟨i, x⟩, m⟩, rfl⟩ : ∃ t, L = [t] := by
    match L, hLl with
    | [t], _ => exact ⟨t, rfl⟩
    | [], h => simp at h; omega
    | _ :: _ :: _, h => simp at h; omega
   obtain ⟨g, o, rfl, hg, k1, k2, k3⟩ := (HL.out.fr HF1.out (fun _ _ => id)).2 0 ((i, x), m) rfl;rw [Nat.zero_mul] at k1 k2 k3;rw [Nat.add_zero] at k1 k2 k3;simp only [sv] at k1 k2 k3;have t1 : ((n : Int) == 1) = true := by simp; omega
   have t1' : (n == 1) = true := by simp; omega
   have hn0 : 0 < n := by omega
   have hnt := nothingW_any i x (m : Int) w1;by_cases hz : (i, x) = ((false, []) : Bool × (List UInt8))
   · rw [decide_eq_true hz] at hnt;have HNT := hid hnt;have hres : tellW kW [((i, x), m)] = [] := by show (if (i, x) = kW.zero then _ else _) = _; exact if_pos hz
     rw [hres];clear hnt hz h1 hLl hres HLOOP;go_enter Tryz.func96, Tryz.ntmps96
     go_upto_region 1 with fail
     clear hw1 hq;go_wp2_with fail;refine HNT.out.mono ?_;rintro e w2 ⟨rfl, hf2⟩;have HF2 := hid (HF1.out.trans hf2 im_);clear hf2 HNT;go_wp2_with fail;go_ret;exact ⟨none, 0, rfl, Own.nil _ _, HF2.out⟩
   · rw [decide_eq_false hz] at hnt;have HNT := hid hnt;have hres : tellW kW [((i, x), m)] = tellG kW [((i, x), m)] := by show (if (i, x) = kW.zero then _ else _) = _; exact if_neg hz
     have HRES := hid hres;clear hnt hz h1 hLl hres;go_enter Tryz.func96, Tryz.ntmps96
     go_upto_region 1 with fail
     clear hw1 hq;go_wp2_with fail;refine HNT.out.mono ?_;rintro e w2 ⟨rfl, hf2⟩;have HF2 : Hid (Fr (fun b => base ≤ b) w w2) := hid ((HF1.out.trans hf2 im_).mono (fun _ _ h => h.elim));have HQ2 := hid (HQB.out.fr hf2 (fun h => h));clear hf2 HNT;go_wp2_with fail;refine tell_loopW _ _ _ _ _ _ _ _ _ _ _ _ _ _ _ _ _ _ _ _ _ _ _ _ _ _ _ _ _ _ _ _ _ _ _ _ _ _ _ _ _ _ _ _ _ _ _ _ _ _ _ _ _ _ _ _ _ _ _ _ _ _ _ _ _ _ _ _ _ _ _ _ _ _ _ _ _ _ _ _ _ base q n c (some ⟨g, o, none⟩) [((i, x), m)] _ w w2 HL hc HA HOK HCN HQ2 HF2 HB hn HLEN ?_;intro A' c' R w3 r1 r6 r8 r18 r19 r20 r21 r22 r23 r24 r25 r26 r27 r28 r29 r30 r31 r32 r33 r34 r35 r36 r37 r38 r39 r40 r41 r42 r43 r44 r45 r46 r47 r48 r49 r50 r51 r52 r53 r54 r55 r56 r57 r58 r59 r60 r61 r62 r63 r64 r65 r66 r67 r68 r69 r70 r71 r72 r73 r74 r75 r76 r77 r78 r79 r80 r81 HR HO HF;go_wp2_with fail;go_ret;exact HLOOP.out R (by rw [HRES.out, HR.out]) HR.out _ _ _ HO.out HF.out
 · have t1 : ((n : Int) == 1) = false := by simp; omega
   have t1' : (n == 1) = false := by simp; omega
   have hres : tellW kW L = tellG kW L := by
    match L, hLl with
    | [t], h => simp at h; omega
    | [], h => rfl
    | _ :: _ :: _, h => rfl
   have HRES := hid hres;clear h1 hLl hres;go_enter Tryz.func96, Tryz.ntmps96
   go_upto_region 1 with fail
   clear hw1 hq;go_wp2_with fail;refine tell_loopW _ _ _ _ _ _ _ _ _ _ _ _ _ _ _ _ _ _ _ _ _ _ _ _ _ _ _ _ _ _ _ _ _ _ _ _ _ _ _ _ _ _ _ _ _ _ _ _ _ _ _ _ _ _ _ _ _ _ _ _ _ _ _ _ _ _ _ _ _ _ _ _ _ _ _ _ _ _ _ _ _ base q n c A L _ w w1 HL hc HA HOK HCN HQB HF1' HB hn HLEN ?_;intro A' c' R w3 r1 r6 r8 r18 r19 r20 r21 r22 r23 r24 r25 r26 r27 r28 r29 r30 r31 r32 r33 r34 r35 r36 r37 r38 r39 r40 r41 r42 r43 r44 r45 r46 r47 r48 r49 r50 r51 r52 r53 r54 r55 r56 r57 r58 r59 r60 r61 r62 r63 r64 r65 r66 r67 r68 r69 r70 r71 r72 r73 r74 r75 r76 r77 r78 r79 r80 r81 HR HO HF;go_wp2_with fail;go_ret;exact HLOOP.out R (by rw [HRES.out, HR.out]) HR.out _ _ _ HO.out HF.out
end
section
open Go.RowKit Mem Go.Lib RleM
attribute [local go_sem ↓] Go.wp_at_zero Go.wp_at_succ
theorem spreadC_any (A : Option Addr) (n c : Nat) (L : List ((Bool × Int) × Nat)) (m : Nat) (w : World) (hL : Grs nv w A n L) (hn : n ≤ 1000000) (hm : m = total L) (hm1 : m ≤ 1000000) :
    Calls Tryz.prog 135 #[.slice A n c, .int .i64 (m : Int)] w fun e w' => ∃ A' c', e = .returned (.slice A' (spreadG L).length c') ∧ OwnC nv 78 w' w.heap.size A' c' (spreadG L) ∧ Fr (fun _ => False) w w' := by
 have HL := hid hL;have hln := hL.1;have HLN := hid hln;clear hL hln;obtain ⟨base, hbase⟩ : ∃ base, base = w.heap.size := ⟨_, rfl⟩
 have HB := hid hbase;rw [← hbase];have htot := hm;have HT := hid htot;obtain ⟨R, hR⟩ : ∃ R, R = spreadG L := ⟨_, rfl⟩
 rw [← hR];have HR := hid hR;obtain ⟨cs, hcs, hmk⟩ := mkC m (by omega) w;have hmade := World.ownsRow_made (base := base) (size := 2) w cs m (e := 78) (by omega) (by unfold maxLen; omega) hcs;have HMD := hid hmade;clear hR hcs hmade hm htot hbase;go_enter Tryz.func135, Tryz.ntmps135;go_wp2_with fail;obtain ⟨w0, hw0⟩ := nm_ (w.alloc (.cells cs 78));rw [hw0] at HMD ⊢;have HF0 : Hid (Fr (fun _ => False) w w0) := hid (by rw [← hw0]; exact (Fr.refl _ _).alloc _);obtain ⟨A0, hA0⟩ : ∃ A0 : Option Addr, some ⟨w.heap.size, 0, none⟩ = A0 := ⟨_, rfl⟩
 rw [hA0] at HMD ⊢;clear hw0 hA0 hmk
 go_loopw [5, 12] (fun s v wr => ∃ (k : Nat) (G : List (Bool × Int)) (A1 : Option Addr) (c1 : Nat), k ≤ n ∧ v = .int .i64 (k : Int) ∧ s = .slice A1 G.length c1 ∧ Hid (G ++ spreadG (L.drop k) = R) ∧ G.length ≤ m ∧ Hid (G.length + total (L.drop k) = m) ∧ Hid (OwnC nv 78 wr base A1 c1 G) ∧ Hid (Fr (fun _ => False) w wr)) (fun _ v _ => n - (intOf v).toNat)
 case atStart => exact ⟨0, [], A0, m, Nat.zero_le _, rfl, rfl, by rw [HR.out]; rfl, by simp, (by rw [HT.out]; simp : ([] : List (Bool × Int)).length + total (L.drop 0) = m), HMD.out, HF0.out⟩
 case round =>
  obtain ⟨k, G, A1, c1, hk, rfl, rfl, HG, hGm, HTG, HO, HF⟩ := hrel
  rename World => wr
  by_cases hlt : k < n
  · obtain ⟨t, ht⟩ : ∃ t, L[k]? = some t := ⟨_, List.getElem?_eq_getElem (by have := HLN.out; omega)⟩
    have hdr : L.drop k = t :: L.drop (k + 1) := by rw [List.drop_eq_getElem_cons (by have := HLN.out; omega)]; congr 1; exact (List.getElem?_eq_some_iff.1 ht).2
    obtain ⟨g, o, rfl, hg, h1, h2, h3⟩ := (HL.out.fr HF.out (fun _ _ => id)).2 k t ht;obtain ⟨⟨i, x⟩, mk⟩ := t;simp only [nv] at h1 h2 h3;have he := HG.out;have htg := HTG.out;rw [hdr] at he htg;rw [spreadG] at he;rw [total] at htg;have hmk : mk ≤ m := by omega
    have HE := hid he;have HTE := hid htg;obtain ⟨GL, hGL⟩ : ∃ GL, GL = G.length := ⟨_, rfl⟩
    have HGL := hid hGL;have hGm2 : GL + mk ≤ m := by omega
    clear ht hdr he htg hGL;go_wp2_with fail;obtain ⟨w1, hw1⟩ := nm_ (wr.alloc (.cells #[.bool i, (.int .i64 x), .int .i64 (mk : Int)] 206));rw [hw1];obtain ⟨g1, hg1'⟩ : ∃ g, wr.heap.size = g := ⟨_, rfl⟩
    rw [hg1'];have hf1 : Fr (fun _ => False) wr w1 := by rw [← hw1]; exact (Fr.refl _ _).alloc _
    have hg1 : w1.heap[g1]? = some (.cells #[.bool i, (.int .i64 x), .int .i64 (mk : Int)] 206 (0, 0)) := by rw [← hw1, ← hg1']; exact heap_alloc_new wr _
    have HO1 := hid (HO.out.fr hf1);have HF1 := hid (HF.out.trans hf1 im_);have HG1 := hid hg1;have k2 : w1.cell? ⟨g1, 2, none⟩ = some (.int .i64 (mk : Int)) := by rw [cell_of hg1 2]; rfl
    clear hw1 hg1' hf1 hg1 h1 h2 h3;go_wp2_with fail
    go_loopw [5, 18] (fun s v wx => ∃ (j : Nat) (G' : List (Bool × Int)) (A2 : Option Addr) (c2 : Nat), j ≤ mk ∧ v = .int .i64 (j : Int) ∧ s = .slice A2 G'.length c2 ∧ Hid (G' = G ++ List.replicate j (i, x)) ∧ Hid (OwnC nv 78 wx base A2 c2 G') ∧ Hid (Fr (fun _ => False) w wx) ∧ Hid (wx.heap[g1]? = some (.cells #[.bool i, (.int .i64 x), .int .i64 (mk : Int)] 206 (0, 0)))) (fun _ v _ => mk - (intOf v).toNat)
    case atStart => exact ⟨0, G, A1, c1, by omega, rfl, rfl, (by simp : G = G ++ List.replicate 0 (i, x)), HO1.out, HF1.out, HG1.out⟩
    case round =>
     obtain ⟨j, G', A2, c2, hj, rfl, rfl, HG', HO2, HF2, HG2⟩ := hrel
     rename World => wx
     have hlen : G'.length = GL + j := by rw [HG'.out, HGL.out]; simp
     have hg'm : G'.length ≤ 1000000 := by omega
     have HLEN := hid hlen;by_cases hjl : j < mk
     · have a0 : wx.cell? ⟨g1, 0, none⟩ = some (.bool i) := by rw [cell_of HG2.out 0]; rfl
       have a1 : wx.cell? ⟨g1, 1, none⟩ = some (.int .i64 x) := by rw [cell_of HG2.out 1]; rfl
       obtain ⟨N1, hN1⟩ : ∃ N1, N1 = G'.length + 1 := ⟨_, rfl⟩
       have hN1l : N1 ≤ 1000001 := by omega
       have HN1 := hid hN1;have hbs : base ≤ wx.heap.size := by have := HB.out; have := HF2.out.size; omega
       obtain ⟨XS, hXS⟩ : ∃ XS, XS = G'.flatMap (ccells nv) := ⟨_, rfl⟩
       have hOx : wx.ownsRow base 78 2 (.slice A2 G'.length c2) G'.length XS := by rw [hXS]; exact HO2.out
       have HXS := hid hXS;have HOX := hid hOx;clear hN1 hlen hXS hOx;go_wp2_with (at_builtin; refine wpList_appS cellTC _ rfl _ _ rfl base _ _ _ rfl (HOX.out.alloc _) _ _ [.bool i, (.int .i64 x)] rfl rfl (new_at rfl [.bool i, (.int .i64 x)] _) (by intro u hu; simp at hu; rcases hu with rfl | rfl <;> rfl) N1 HN1.out (by unfold maxLen; omega) (by omega) (by simp; omega) ?_)
       intro A' c' w' hown' _ hfr';rw [HXS.out] at hown';obtain ⟨G3, hG3⟩ : ∃ G3, G3 = G' ++ [(i, x)] := ⟨_, rfl⟩
       have HO3 : Hid (OwnC nv 78 w' base A' c' G3) := hid (by rw [hG3]; exact OwnC.snoc (f := nv) (t := (i, x)) HN1.out hown');have HF3 : Hid (Fr (fun _ => False) w w') := hid ((HF2.out.alloc _).trans hfr' (fun b hb h => by have := HO2.out.lt _ h; have := HB.out; omega));have HG4 : Hid (w'.heap[g1]? = some (.cells #[.bool i, (.int .i64 x), .int .i64 (mk : Int)] 206 (0, 0))) := hid (hfr'.blk (((Fr.refl (fun _ => False) wx).alloc _).blk HG2.out (fun h => h)) (own_ne HO2.out HG2.out (by decide)));have hNG : N1 = G3.length := by rw [HN1.out, hG3]; simp
       have HG3 : Hid (G3 = G ++ List.replicate (j + 1) (i, x)) := hid (by rw [hG3, HG'.out, List.replicate_succ', List.append_assoc]);have HNG := hid hNG;clear hown' hfr' hG3 hNG a0 a1
       go_wp2
       go_roundw
       case rel => exact ⟨j + 1, G3, A', c', by omega, by go_num, by rw [HNG.out], HG3.out, HO3.out, HF3.out, HG4.out⟩
       case measure => simp [intOf] <;> omega
     · obtain rfl : j = mk := by omega
       have he2 : G' ++ spreadG (L.drop (k + 1)) = R := by rw [HG'.out, List.append_assoc]; exact HE.out
       have ht2 : G'.length + total (L.drop (k + 1)) = m := by have := HTE.out; have := HGL.out; omega
       have HE2 := hid he2;have HT2 := hid ht2;have hgm2 : G'.length ≤ m := by omega
       clear he2 hlen ht2;go_wp2_with fail;exact ⟨⟨k + 1, G', A2, c2, by omega, by go_num, rfl, HE2.out, hgm2, HT2.out, HO2.out, HF2.out⟩, by simp [intOf]; omega⟩
  · obtain rfl : k = n := by omega
    have he : R = G := by have h := HG.out; rw [List.drop_of_length_le (by have := HLN.out; omega)] at h; rw [← h]; simp [spreadG]
    have HE2 := hid he;clear he;go_wp2_with fail;go_ret;rw [HE2.out];exact ⟨A1, c1, rfl, HO.out, HF.out⟩
theorem spreadW_any (A : Option Addr) (n c : Nat) (L : List ((Bool × (List UInt8)) × Nat)) (m : Nat) (w : World) (hL : Grs sv w A n L) (hn : n ≤ 1000000) (hm : m = total L) (hm1 : m ≤ 1000000) :
    Calls Tryz.prog 137 #[.slice A n c, .int .i64 (m : Int)] w fun e w' => ∃ A' c', e = .returned (.slice A' (spreadG L).length c') ∧ OwnC sv 81 w' w.heap.size A' c' (spreadG L) ∧ Fr (fun _ => False) w w' := by
 have HL := hid hL;have hln := hL.1;have HLN := hid hln;clear hL hln;obtain ⟨base, hbase⟩ : ∃ base, base = w.heap.size := ⟨_, rfl⟩
 have HB := hid hbase;rw [← hbase];have htot := hm;have HT := hid htot;obtain ⟨R, hR⟩ : ∃ R, R = spreadG L := ⟨_, rfl⟩
 rw [← hR];have HR := hid hR;obtain ⟨cs, hcs, hmk⟩ := mkW m (by omega) w;have hmade := World.ownsRow_made (base := base) (size := 2) w cs m (e := 81) (by omega) (by unfold maxLen; omega) hcs;have HMD := hid hmade;clear hR hcs hmade hm htot hbase;go_enter Tryz.func137, Tryz.ntmps137;go_wp2_with fail;obtain ⟨w0, hw0⟩ := nm_ (w.alloc (.cells cs 81));rw [hw0] at HMD ⊢;have HF0 : Hid (Fr (fun _ => False) w w0) := hid (by rw [← hw0]; exact (Fr.refl _ _).alloc _);obtain ⟨A0, hA0⟩ : ∃ A0 : Option Addr, some ⟨w.heap.size, 0, none⟩ = A0 := ⟨_, rfl⟩
 rw [hA0] at HMD ⊢;clear hw0 hA0 hmk
 go_loopw [5, 12] (fun s v wr => ∃ (k : Nat) (G : List (Bool × (List UInt8))) (A1 : Option Addr) (c1 : Nat), k ≤ n ∧ v = .int .i64 (k : Int) ∧ s = .slice A1 G.length c1 ∧ Hid (G ++ spreadG (L.drop k) = R) ∧ G.length ≤ m ∧ Hid (G.length + total (L.drop k) = m) ∧ Hid (OwnC sv 81 wr base A1 c1 G) ∧ Hid (Fr (fun _ => False) w wr)) (fun _ v _ => n - (intOf v).toNat)
 case atStart => exact ⟨0, [], A0, m, Nat.zero_le _, rfl, rfl, by rw [HR.out]; rfl, by simp, (by rw [HT.out]; simp : ([] : List (Bool × (List UInt8))).length + total (L.drop 0) = m), HMD.out, HF0.out⟩
 case round =>
  obtain ⟨k, G, A1, c1, hk, rfl, rfl, HG, hGm, HTG, HO, HF⟩ := hrel
  rename World => wr
  by_cases hlt : k < n
  · obtain ⟨t, ht⟩ : ∃ t, L[k]? = some t := ⟨_, List.getElem?_eq_getElem (by have := HLN.out; omega)⟩
    have hdr : L.drop k = t :: L.drop (k + 1) := by rw [List.drop_eq_getElem_cons (by have := HLN.out; omega)]; congr 1; exact (List.getElem?_eq_some_iff.1 ht).2
    obtain ⟨g, o, rfl, hg, h1, h2, h3⟩ := (HL.out.fr HF.out (fun _ _ => id)).2 k t ht;obtain ⟨⟨i, x⟩, mk⟩ := t;simp only [sv] at h1 h2 h3;have he := HG.out;have htg := HTG.out;rw [hdr] at he htg;rw [spreadG] at he;rw [total] at htg;have hmk : mk ≤ m := by omega
    have HE := hid he;have HTE := hid htg;obtain ⟨GL, hGL⟩ : ∃ GL, GL = G.length := ⟨_, rfl⟩
    have HGL := hid hGL;have hGm2 : GL + mk ≤ m := by omega
    clear ht hdr he htg hGL;go_wp2_with fail;obtain ⟨w1, hw1⟩ := nm_ (wr.alloc (.cells #[.bool i, (.string (txt x)), .int .i64 (mk : Int)] 212));rw [hw1];obtain ⟨g1, hg1'⟩ : ∃ g, wr.heap.size = g := ⟨_, rfl⟩
    rw [hg1'];have hf1 : Fr (fun _ => False) wr w1 := by rw [← hw1]; exact (Fr.refl _ _).alloc _
    have hg1 : w1.heap[g1]? = some (.cells #[.bool i, (.string (txt x)), .int .i64 (mk : Int)] 212 (0, 0)) := by rw [← hw1, ← hg1']; exact heap_alloc_new wr _
    have HO1 := hid (HO.out.fr hf1);have HF1 := hid (HF.out.trans hf1 im_);have HG1 := hid hg1;have k2 : w1.cell? ⟨g1, 2, none⟩ = some (.int .i64 (mk : Int)) := by rw [cell_of hg1 2]; rfl
    clear hw1 hg1' hf1 hg1 h1 h2 h3;go_wp2_with fail
    go_loopw [5, 18] (fun s v wx => ∃ (j : Nat) (G' : List (Bool × (List UInt8))) (A2 : Option Addr) (c2 : Nat), j ≤ mk ∧ v = .int .i64 (j : Int) ∧ s = .slice A2 G'.length c2 ∧ Hid (G' = G ++ List.replicate j (i, x)) ∧ Hid (OwnC sv 81 wx base A2 c2 G') ∧ Hid (Fr (fun _ => False) w wx) ∧ Hid (wx.heap[g1]? = some (.cells #[.bool i, (.string (txt x)), .int .i64 (mk : Int)] 212 (0, 0)))) (fun _ v _ => mk - (intOf v).toNat)
    case atStart => exact ⟨0, G, A1, c1, by omega, rfl, rfl, (by simp : G = G ++ List.replicate 0 (i, x)), HO1.out, HF1.out, HG1.out⟩
    case round =>
     obtain ⟨j, G', A2, c2, hj, rfl, rfl, HG', HO2, HF2, HG2⟩ := hrel
     rename World => wx
     have hlen : G'.length = GL + j := by rw [HG'.out, HGL.out]; simp
     have hg'm : G'.length ≤ 1000000 := by omega
     have HLEN := hid hlen;by_cases hjl : j < mk
     · have a0 : wx.cell? ⟨g1, 0, none⟩ = some (.bool i) := by rw [cell_of HG2.out 0]; rfl
       have a1 : wx.cell? ⟨g1, 1, none⟩ = some (.string (txt x)) := by rw [cell_of HG2.out 1]; rfl
       obtain ⟨N1, hN1⟩ : ∃ N1, N1 = G'.length + 1 := ⟨_, rfl⟩
       have hN1l : N1 ≤ 1000001 := by omega
       have HN1 := hid hN1;have hbs : base ≤ wx.heap.size := by have := HB.out; have := HF2.out.size; omega
       obtain ⟨XS, hXS⟩ : ∃ XS, XS = G'.flatMap (ccells sv) := ⟨_, rfl⟩
       have hOx : wx.ownsRow base 81 2 (.slice A2 G'.length c2) G'.length XS := by rw [hXS]; exact HO2.out
       have HXS := hid hXS;have HOX := hid hOx;clear hN1 hlen hXS hOx;go_wp2_with (at_builtin; refine wpList_appS cellTW _ rfl _ _ rfl base _ _ _ rfl (HOX.out.alloc _) _ _ [.bool i, (.string (txt x))] rfl rfl (new_at rfl [.bool i, (.string (txt x))] _) (by intro u hu; simp at hu; rcases hu with rfl | rfl <;> rfl) N1 HN1.out (by unfold maxLen; omega) (by omega) (by simp; omega) ?_)
       intro A' c' w' hown' _ hfr';rw [HXS.out] at hown';obtain ⟨G3, hG3⟩ : ∃ G3, G3 = G' ++ [(i, x)] := ⟨_, rfl⟩
       have HO3 : Hid (OwnC sv 81 w' base A' c' G3) := hid (by rw [hG3]; exact OwnC.snoc (f := sv) (t := (i, x)) HN1.out hown');have HF3 : Hid (Fr (fun _ => False) w w') := hid ((HF2.out.alloc _).trans hfr' (fun b hb h => by have := HO2.out.lt _ h; have := HB.out; omega));have HG4 : Hid (w'.heap[g1]? = some (.cells #[.bool i, (.string (txt x)), .int .i64 (mk : Int)] 212 (0, 0))) := hid (hfr'.blk (((Fr.refl (fun _ => False) wx).alloc _).blk HG2.out (fun h => h)) (own_ne HO2.out HG2.out (by decide)));have hNG : N1 = G3.length := by rw [HN1.out, hG3]; simp
       have HG3 : Hid (G3 = G ++ List.replicate (j + 1) (i, x)) := hid (by rw [hG3, HG'.out, List.replicate_succ', List.append_assoc]);have HNG := hid hNG;clear hown' hfr' hG3 hNG a0 a1
       go_wp2
       go_roundw
       case rel => exact ⟨j + 1, G3, A', c', by omega, by go_num, by rw [HNG.out], HG3.out, HO3.out, HF3.out, HG4.out⟩
       case measure => simp [intOf] <;> omega
     · obtain rfl : j = mk := by omega
       have he2 : G' ++ spreadG (L.drop (k + 1)) = R := by rw [HG'.out, List.append_assoc]; exact HE.out
       have ht2 : G'.length + total (L.drop (k + 1)) = m := by have := HTE.out; have := HGL.out; omega
       have HE2 := hid he2;have HT2 := hid ht2;have hgm2 : G'.length ≤ m := by omega
       clear he2 hlen ht2;go_wp2_with fail;exact ⟨⟨k + 1, G', A2, c2, by omega, by go_num, rfl, HE2.out, hgm2, HT2.out, HO2.out, HF2.out⟩, by simp [intOf]; omega⟩
  · obtain rfl : k = n := by omega
    have he : R = G := by have h := HG.out; rw [List.drop_of_length_le (by have := HLN.out; omega)] at h; rw [← h]; simp [spreadG]
    have HE2 := hid he;clear he;go_wp2_with fail;go_ret;rw [HE2.out];exact ⟨A1, c1, rfl, HO.out, HF.out⟩
end
end Go.Proofs.YtbabgnadgdidmaaGreat
