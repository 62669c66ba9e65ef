import Derived.Test.YtbabgnadgdidmaaGreatZm00
import Derived.Test.YtbabgnadgdidmaaGreatZm06
import Derived.Test.YtbabgnadgdidmaaGreatZm20
import Derived.Test.YtbabgnadgdidmaaGreatZm04
import Derived.Test.YtbabgnadgdidmaaGreatZm05
import Derived.Deep.DeepCutAuto
import Derived.Deep.CutRange
import Derived.Test.YtbabgnadgdidmaaGreatZm21
set_option linter.unusedVariables false
set_option maxRecDepth 100000
set_option maxHeartbeats 12800000
namespace Go.Proofs.YtbabgnadgdidmaaGreat
section
open Go.RowKit Mem Go.Lib RleM
attribute [local go_sem ↓] Go.wp_at_zero Go.wp_at_succ
structure Rdr {β : Type} (f : β → Value) (T G : TypeId) (fp fg : Value) (w : World) (base g : Nat) (most : Int) (r : Rs (Bool × β)) : Prop where
 at_ : ∃ A n c Ag cg, Row w g T [fp, fg, .slice A n c, .slice Ag r.gs.length cg, .int .i64 (r.count : Int), .int .i64 most] ∧ Rd w A n (r.left.map bytec) ∧ n ≤ c ∧ (0 < n → ∀ ad, A = some ad → ad.block < base) ∧ OwnG f G w base Ag cg r.gs
 base : base ≤ g
theorem fitsC_any (g cnt n : Nat) (most : Int) (w : World) (h3 : w.cell? ⟨g, 4, none⟩ = some (.int .i64 (cnt : Int))) (h4 : w.cell? ⟨g, 5, none⟩ = some (.int .i64 most)) (hc : cnt < 9223372036854775808) (hm0 : -9223372036854775808 ≤ most) (hm1 : most < 9223372036854775808) (hn : n < 18446744073709551616) :
    Calls Tryz.prog 180 #[.pointer (some ⟨g, 0, none⟩), .int .u64 (n : Int)] w fun e w' => e = .returned (.bool (decide ((cnt : Int) + n ≤ most))) ∧ Fr (fun _ => False) w w' := by
 by_cases h : (cnt : Int) ≤ most
 · obtain ⟨M, rfl⟩ : ∃ M : Nat, most = (M : Int) := ⟨most.toNat, by omega⟩
   obtain ⟨D, hD⟩ : ∃ D, D = M - cnt := ⟨_, rfl⟩
   have r1 : IntKind.i64.wrap ((M : Int) - (cnt : Int)) = (D : Int) := by rw [IntKind.wrap_i64]; omega
   have r2 : IntKind.u64.wrap (D : Int) = (D : Int) := by rw [IntKind.wrap_u64]; omega
   have t1 : decide ((cnt : Int) ≤ (M : Int)) = true := by simp; omega
   have t2 : decide (cnt ≤ M) = true := by simp; omega
   obtain ⟨q, hq⟩ := nm_ (decide ((cnt : Int) + n ≤ M));have t3 : decide (n ≤ D) = q := by rw [← hq]; congr 1; apply propext; omega
   have t4 : decide ((n : Int) ≤ (D : Int)) = q := by rw [← hq]; congr 1; apply propext; omega
   rw [hq];clear hD hq h hm0 hm1;go_enter Tryz.func180, Tryz.ntmps180;go_wp2_with fail
   go_quiet (fail)
   have HF := hid ((Fr.refl (fun _ => False) w).drewN nq);go_wp2_with fail;go_ret;exact ⟨rfl, HF.out⟩
 · have t1 : decide ((cnt : Int) ≤ most) = false := by simp; omega
   rw [show decide ((cnt : Int) + n ≤ most) = false by simp; omega];clear h;go_enter Tryz.func180, Tryz.ntmps180;go_wp2_with fail
   go_quiet (fail)
   have HF := hid ((Fr.refl (fun _ => False) w).drewN nq);go_wp2_with fail;go_ret;exact ⟨rfl, HF.out⟩
theorem raddC_any (fp fg : Value) (base g : Nat) (most : Int) (left : List UInt8) (G : List ((Bool × Int) × Nat)) (cnt n : Nat) (i : Bool) (x : Int) (w : World) (hR : Rdr nv 216 206 fp fg w base g most ⟨left, G, cnt⟩) (hl : G.length ≤ 1000000)
    (hn : ∀ g ∈ G, g.2 + n < 9223372036854775808) (hn0 : cnt + n < 9223372036854775808) :
    Calls Tryz.prog 181 #[.pointer (some ⟨g, 0, none⟩), .agg #[.bool i, (.int .i64 x)], .int .i64 (n : Int)] w fun e w' => e = .returned (.tuple #[]) ∧
     Rdr nv 216 206 fp fg w' base g most ⟨left, addG G (i, x) n, cnt + n⟩ ∧ Fr (fun k => base ≤ k) w w' := by
 obtain ⟨⟨A, nl, c, Ag, cg, hrow, hrd, hnc, hA, hO⟩, hbg⟩ := hR;simp only at hrow hrd hO;obtain ⟨w1, hw1⟩ := nm_ (w.alloc (.cells #[.bool i, (.int .i64 x)] 78));obtain ⟨q, hq⟩ := nm_ w.heap.size;have hf1 : Fr (fun _ => False) w w1 := by rw [← hw1]; exact (Fr.refl _ _).alloc _
 have hqb : Row w1 q 78 [.bool i, (.int .i64 x)] := by rw [← hw1, ← hq]; exact Row.new w _ _
 have hrow1 := hrow.fr hf1 (fun h => h);have hO1 := hO.fr hf1;have HQG : Hid (q ≠ g) := hid (by have := hrow.lt; omega);obtain ⟨NG, hNG⟩ : ∃ NG, NG = G.length := ⟨_, rfl⟩
 have had := addC_any base Ag cg G i x n w1.drew hO1 (by have := hrow.lt; have := hf1.size; show base ≤ w1.heap.size; omega) (by omega) hn (by omega);rw [← hNG] at had hrow1;have HAD := hid had;have HRW := hid hrow1;have HO1 : Hid (w1.ownsRow base 206 3 (.slice Ag NG cg) NG (G.flatMap (gcells nv))) := hid (by rw [hNG]; exact hO1);have HQB := hid hqb;have HF1 := hid hf1;have HRD := hid (hrd.fr hf1 (fun _ _ h => h));have HA := hid hA;have HNC := hid hnc;have j0 : w1.cell? ⟨q, 0, none⟩ = some (.bool i) := hqb.cell rfl;have j1 : w1.cell? ⟨q, 1, none⟩ = some (.int .i64 x) := hqb.cell rfl;have j2 : w1.cell? ⟨g, 3, none⟩ = some (.slice Ag NG cg) := hrow1.cell rfl;have r1 : IntKind.i64.wrap ((cnt : Int) + (n : Int)) = ((cnt + n : Nat) : Int) := by rw [IntKind.wrap_i64]; omega
 obtain ⟨C2, hC2⟩ : ∃ C2, C2 = cnt + n := ⟨_, rfl⟩
 rw [← hC2] at r1 ⊢;have HBG := hid hbg;clear hrow hrd hO hqb hf1 hrow1 hO1 had hn hNG hA hnc hC2 hbg;go_enter Tryz.func181, Tryz.ntmps181
 go_upto_region 1 with fail
 have HF0 := HF1;clear hw1 hq;refine wp_region_held_drew (S := fun w' => w'.cell? ⟨q, 0, none⟩ = some (.bool i) ∧ w'.cell? ⟨q, 1, none⟩ = some (.int .i64 x)) (by kernel_rfl) ?_ (fun hHeld => ?_)
 · exact ⟨j0, j1⟩
 refine tk 0 hHeld ?_;refine tk 1 hHeld ?_;refine tk 2 hHeld ?_;refine tk 3 hHeld ?_;refine tk 5 hHeld ?_;refine tk 6 hHeld ?_;refine rdo 4 (fun Kx hKx => ?_)
 go_simp
 refine hKx.out _ _ ?_ (fun hHeld => ?_)
 · exact ⟨j0, j1⟩
 clear hKx Kx;refine rdo 7 (fun Kx hKx => ?_)
 go_simp
 refine HAD.out.mono ?_;rintro e w4 ⟨A', c', rfl, hO4, hf4⟩;have hrow4 := HRW.out.drew.fr hf4 (own_ne HO1.out HRW.out (by decide));have hq4 := HQB.out.drew.fr hf4 (own_ne HO1.out HQB.out (by decide));have f4 : w4.frozen? ⟨g, 3, none⟩ = false := Row.free hrow4 3;have g4 : w4.cell? ⟨g, 3, none⟩ = some (.slice Ag NG cg) := Row.cell hrow4 rfl;have HROW4 := hid hrow4;have HQ4 := hid hq4;have HO4 := hid hO4;have HF4 := hid hf4;obtain ⟨N2, hN2⟩ : ∃ N2, N2 = (addG G (i, x) n).length := ⟨_, rfl⟩
 rw [← hN2];have HN2 := hid hN2;clear hO4 hf4 hrow4 hq4 HAD hN2;refine hKx.out _ _ ?_ (fun hHeld => ?_)
 · exact ⟨HQ4.out.cell rfl, HQ4.out.cell rfl⟩
 clear hKx Kx;refine tk 8 hHeld ?_;refine tk 9 hHeld ?_;refine rdo 10 (fun Kx hKx => ?_)
 go_simp
 refine hKx.out _ _ ?_ (fun hHeld => ?_)
 · exact ⟨(HQ4.out.other HQG.out _).cell rfl, (HQ4.out.other HQG.out _).cell rfl⟩
 clear hKx Kx
 (try simp only [Act.put, List.setIfInBounds_toArray, List.set_cons_zero, List.set_cons_succ, List.getElem_toArray, List.getElem_cons_zero, List.getElem_cons_succ])
 refine wpAnyH_done (by kernel_rfl) ?_ _;obtain ⟨w5, hw5⟩ : ∃ w5, w5 = w4.setCell ⟨g, 3, none⟩ (.slice A' N2 c') := ⟨_, rfl⟩
 rw [← hw5];have hf45 : Fr (fun k => base ≤ k) w4 w5 := by rw [hw5]; exact Fr.setCell (S := fun k => base ≤ k) (Fr.refl _ _) (p := ⟨g, 3, none⟩) (fun _ => HBG.out) _
 have hf14 : Fr (fun k => base ≤ k) w1 w4 := ((Fr.refl (fun _ => False) w1).drew.mono (fun _ _ h => h.elim)).trans (HF4.out.mono (fun b _ h => (HO1.out.lt b h).1)) (fun _ _ h => h);have hf15 := hf14.trans hf45 im_;have hr5 : Row w5 g 216 [fp, fg, .slice A nl c, .slice A' N2 c', .int .i64 (cnt : Int), .int .i64 most] := by rw [hw5]; exact HROW4.out.set 3 _
 have hO5 : OwnG nv 206 w5 base A' c' (addG G (i, x) n) := by
  rw [hw5];exact own_fr HO4.out ((Fr.refl (fun b => b = g) w4).setCell (p := ⟨g, 3, none⟩) (fun _ => rfl) _) (fun ad e h => own_ne HO4.out HROW4.out (by decide) (by rw [e, ← h]; rfl))
 have hrd5 := HRD.out.frp hf15 (fun h0 ad e h => by have := HA.out h0 ad e; omega);have hf05 : Fr (fun k => base ≤ k) w w5 := (HF1.out.mono (fun _ _ h => h.elim)).trans hf15 im_;have l4 : w5.cell? ⟨g, 4, none⟩ = some (.int .i64 (cnt : Int)) := hr5.cell rfl;have l4f : w5.frozen? ⟨g, 4, none⟩ = false := hr5.free 4;have HR5 := hid hr5;have HO5 := hid hO5;have HRD5 := hid hrd5;have HF05 := hid hf05;clear hw5 hf45 hf14 hf15 hr5 hO5 hrd5 hf05 j0 j1 j2 HO4 HROW4 HQ4 HF4;go_wp2_with fail
 go_end0
 refine ⟨rfl, ⟨⟨A, nl, c, A', c', ?_, ?_, HNC.out, HA.out, ?_⟩, HBG.out⟩, ?_⟩
 · rw [← HN2.out];exact HR5.out.set 4 _
 · exact HRD5.out.frp (Fr.set1 w5 g 4 _) (fun h0 ad e h => by have := HA.out h0 ad e; have := HBG.out; omega)
 · exact own_fr HO5.out (Fr.set1 w5 g 4 _) (fun ad e h => own_ne HO5.out HR5.out (by decide) (by rw [e, ← h]; rfl))
 · exact HF05.out.trans (Fr.set1 w5 g 4 _) (fun b _ h => by rw [h]; exact HBG.out)
theorem fitsW_any (g cnt n : Nat) (most : Int) (w : World) (h3 : w.cell? ⟨g, 4, none⟩ = some (.int .i64 (cnt : Int))) (h4 : w.cell? ⟨g, 5, none⟩ = some (.int .i64 most)) (hc : cnt < 9223372036854775808) (hm0 : -9223372036854775808 ≤ most) (hm1 : most < 9223372036854775808) (hn : n < 18446744073709551616) :
    Calls Tryz.prog 183 #[.pointer (some ⟨g, 0, none⟩), .int .u64 (n : Int)] w fun e w' => e = .returned (.bool (decide ((cnt : Int) + n ≤ most))) ∧ Fr (fun _ => False) w w' := by
 by_cases h : (cnt : Int) ≤ most
 · obtain ⟨M, rfl⟩ : ∃ M : Nat, most = (M : Int) := ⟨most.toNat, by omega⟩
   obtain ⟨D, hD⟩ : ∃ D, D = M - cnt := ⟨_, rfl⟩
   have r1 : IntKind.i64.wrap ((M : Int) - (cnt : Int)) = (D : Int) := by rw [IntKind.wrap_i64]; omega
   have r2 : IntKind.u64.wrap (D : Int) = (D : Int) := by rw [IntKind.wrap_u64]; omega
   have t1 : decide ((cnt : Int) ≤ (M : Int)) = true := by simp; omega
   have t2 : decide (cnt ≤ M) = true := by simp; omega
   obtain ⟨q, hq⟩ := nm_ (decide ((cnt : Int) + n ≤ M));have t3 : decide (n ≤ D) = q := by rw [← hq]; congr 1; apply propext; omega
   have t4 : decide ((n : Int) ≤ (D : Int)) = q := by rw [← hq]; congr 1; apply propext; omega
   rw [hq];clear hD hq h hm0 hm1;go_enter Tryz.func183, Tryz.ntmps183;go_wp2_with fail
   go_quiet (fail)
   have HF := hid ((Fr.refl (fun _ => False) w).drewN nq);go_wp2_with fail;go_ret;exact ⟨rfl, HF.out⟩
 · have t1 : decide ((cnt : Int) ≤ most) = false := by simp; omega
   rw [show decide ((cnt : Int) + n ≤ most) = false by simp; omega];clear h;go_enter Tryz.func183, Tryz.ntmps183;go_wp2_with fail
   go_quiet (fail)
   have HF := hid ((Fr.refl (fun _ => False) w).drewN nq);go_wp2_with fail;go_ret;exact ⟨rfl, HF.out⟩
theorem raddW_any (fp fg : Value) (base g : Nat) (most : Int) (left : List UInt8) (G : List ((Bool × (List UInt8)) × Nat)) (cnt n : Nat) (i : Bool) (x : (List UInt8)) (w : World) (hR : Rdr sv 220 212 fp fg w base g most ⟨left, G, cnt⟩) (hl : G.length ≤ 1000000)
    (hn : ∀ g ∈ G, g.2 + n < 9223372036854775808) (hn0 : cnt + n < 9223372036854775808) :
    Calls Tryz.prog 184 #[.pointer (some ⟨g, 0, none⟩), .agg #[.bool i, (.string (txt x))], .int .i64 (n : Int)] w fun e w' => e = .returned (.tuple #[]) ∧
     Rdr sv 220 212 fp fg w' base g most ⟨left, addG G (i, x) n, cnt + n⟩ ∧ Fr (fun k => base ≤ k) w w' := by
 obtain ⟨⟨A, nl, c, Ag, cg, hrow, hrd, hnc, hA, hO⟩, hbg⟩ := hR;simp only at hrow hrd hO;obtain ⟨w1, hw1⟩ := nm_ (w.alloc (.cells #[.bool i, (.string (txt x))] 81));obtain ⟨q, hq⟩ := nm_ w.heap.size;have hf1 : Fr (fun _ => False) w w1 := by rw [← hw1]; exact (Fr.refl _ _).alloc _
 have hqb : Row w1 q 81 [.bool i, (.string (txt x))] := by rw [← hw1, ← hq]; exact Row.new w _ _
 have hrow1 := hrow.fr hf1 (fun h => h);have hO1 := hO.fr hf1;have HQG : Hid (q ≠ g) := hid (by have := hrow.lt; omega);obtain ⟨NG, hNG⟩ : ∃ NG, NG = G.length := ⟨_, rfl⟩
 have had := addW_any base Ag cg G i x n w1.drew hO1 (by have := hrow.lt; have := hf1.size; show base ≤ w1.heap.size; omega) (by omega) hn (by omega);rw [← hNG] at had hrow1;have HAD := hid had;have HRW := hid hrow1;have HO1 : Hid (w1.ownsRow base 212 3 (.slice Ag NG cg) NG (G.flatMap (gcells sv))) := hid (by rw [hNG]; exact hO1);have HQB := hid hqb;have HF1 := hid hf1;have HRD := hid (hrd.fr hf1 (fun _ _ h => h));have HA := hid hA;have HNC := hid hnc;have j0 : w1.cell? ⟨q, 0, none⟩ = some (.bool i) := hqb.cell rfl;have j1 : w1.cell? ⟨q, 1, none⟩ = some (.string (txt x)) := hqb.cell rfl;have j2 : w1.cell? ⟨g, 3, none⟩ = some (.slice Ag NG cg) := hrow1.cell rfl;have r1 : IntKind.i64.wrap ((cnt : Int) + (n : Int)) = ((cnt + n : Nat) : Int) := by rw [IntKind.wrap_i64]; omega
 obtain ⟨C2, hC2⟩ : ∃ C2, C2 = cnt + n := ⟨_, rfl⟩
 rw [← hC2] at r1 ⊢;have HBG := hid hbg;clear hrow hrd hO hqb hf1 hrow1 hO1 had hn hNG hA hnc hC2 hbg;go_enter Tryz.func184, Tryz.ntmps184
 go_upto_region 1 with fail
 have HF0 := HF1;clear hw1 hq;refine wp_region_held_drew (S := fun w' => w'.cell? ⟨q, 0, none⟩ = some (.bool i) ∧ w'.cell? ⟨q, 1, none⟩ = some (.string (txt x))) (by kernel_rfl) ?_ (fun hHeld => ?_)
 · exact ⟨j0, j1⟩
 refine tk 0 hHeld ?_;refine tk 1 hHeld ?_;refine tk 2 hHeld ?_;refine tk 3 hHeld ?_;refine tk 5 hHeld ?_;refine tk 6 hHeld ?_;refine rdo 4 (fun Kx hKx => ?_)
 go_simp
 refine hKx.out _ _ ?_ (fun hHeld => ?_)
 · exact ⟨j0, j1⟩
 clear hKx Kx;refine rdo 7 (fun Kx hKx => ?_)
 go_simp
 refine HAD.out.mono ?_;rintro e w4 ⟨A', c', rfl, hO4, hf4⟩;have hrow4 := HRW.out.drew.fr hf4 (own_ne HO1.out HRW.out (by decide));have hq4 := HQB.out.drew.fr hf4 (own_ne HO1.out HQB.out (by decide));have f4 : w4.frozen? ⟨g, 3, none⟩ = false := Row.free hrow4 3;have g4 : w4.cell? ⟨g, 3, none⟩ = some (.slice Ag NG cg) := Row.cell hrow4 rfl;have HROW4 := hid hrow4;have HQ4 := hid hq4;have HO4 := hid hO4;have HF4 := hid hf4;obtain ⟨N2, hN2⟩ : ∃ N2, N2 = (addG G (i, x) n).length := ⟨_, rfl⟩
 rw [← hN2];have HN2 := hid hN2;clear hO4 hf4 hrow4 hq4 HAD hN2;refine hKx.out _ _ ?_ (fun hHeld => ?_)
 · exact ⟨HQ4.out.cell rfl, HQ4.out.cell rfl⟩
 clear hKx Kx;refine tk 8 hHeld ?_;refine tk 9 hHeld ?_;refine rdo 10 (fun Kx hKx => ?_)
 go_simp
 refine hKx.out _ _ ?_ (fun hHeld => ?_)
 · exact ⟨(HQ4.out.other HQG.out _).cell rfl, (HQ4.out.other HQG.out _).cell rfl⟩
 clear hKx Kx
 (try simp only [Act.put, List.setIfInBounds_toArray, List.set_cons_zero, List.set_cons_succ, List.getElem_toArray, List.getElem_cons_zero, List.getElem_cons_succ])
 refine wpAnyH_done (by kernel_rfl) ?_ _;obtain ⟨w5, hw5⟩ : ∃ w5, w5 = w4.setCell ⟨g, 3, none⟩ (.slice A' N2 c') := ⟨_, rfl⟩
 rw [← hw5];have hf45 : Fr (fun k => base ≤ k) w4 w5 := by rw [hw5]; exact Fr.setCell (S := fun k => base ≤ k) (Fr.refl _ _) (p := ⟨g, 3, none⟩) (fun _ => HBG.out) _
 have hf14 : Fr (fun k => base ≤ k) w1 w4 := ((Fr.refl (fun _ => False) w1).drew.mono (fun _ _ h => h.elim)).trans (HF4.out.mono (fun b _ h => (HO1.out.lt b h).1)) (fun _ _ h => h);have hf15 := hf14.trans hf45 im_;have hr5 : Row w5 g 220 [fp, fg, .slice A nl c, .slice A' N2 c', .int .i64 (cnt : Int), .int .i64 most] := by rw [hw5]; exact HROW4.out.set 3 _
 have hO5 : OwnG sv 212 w5 base A' c' (addG G (i, x) n) := by
  rw [hw5];exact own_fr HO4.out ((Fr.refl (fun b => b = g) w4).setCell (p := ⟨g, 3, none⟩) (fun _ => rfl) _) (fun ad e h => own_ne HO4.out HROW4.out (by decide) (by rw [e, ← h]; rfl))
 have hrd5 := HRD.out.frp hf15 (fun h0 ad e h => by have := HA.out h0 ad e; omega);have hf05 : Fr (fun k => base ≤ k) w w5 := (HF1.out.mono (fun _ _ h => h.elim)).trans hf15 im_;have l4 : w5.cell? ⟨g, 4, none⟩ = some (.int .i64 (cnt : Int)) := hr5.cell rfl;have l4f : w5.frozen? ⟨g, 4, none⟩ = false := hr5.free 4;have HR5 := hid hr5;have HO5 := hid hO5;have HRD5 := hid hrd5;have HF05 := hid hf05;clear hw5 hf45 hf14 hf15 hr5 hO5 hrd5 hf05 j0 j1 j2 HO4 HROW4 HQ4 HF4;go_wp2_with fail
 go_end0
 refine ⟨rfl, ⟨⟨A, nl, c, A', c', ?_, ?_, HNC.out, HA.out, ?_⟩, HBG.out⟩, ?_⟩
 · rw [← HN2.out];exact HR5.out.set 4 _
 · exact HRD5.out.frp (Fr.set1 w5 g 4 _) (fun h0 ad e h => by have := HA.out h0 ad e; have := HBG.out; omega)
 · exact own_fr HO5.out (Fr.set1 w5 g 4 _) (fun ad e h => own_ne HO5.out HR5.out (by decide) (by rw [e, ← h]; rfl))
 · exact HF05.out.trans (Fr.set1 w5 g 4 _) (fun b _ h => by rw [h]; exact HBG.out)
end
section
open Go.RowKit Mem Go.Lib RleM LebM
attribute [local go_sem ↓] Go.wp_at_zero Go.wp_at_succ
theorem takeI_any (base g : Nat) (t : TypeId) (fp fg sg cn mo : Value) (A : Option Addr) (n c : Nat) (B : List UInt8) (w : World) (hR : Row w g t [fp, fg, .slice A n c, sg, cn, mo]) (hr : Rd w A n (B.map bytec)) (hc : n ≤ c) (hA : 0 < n → ∀ ad, A = some ad → ad.block < base) (hg : base ≤ g) (hn : n ≤ 1000000) :
    Calls Tryz.prog 159 #[.pointer (some ⟨g, 2, none⟩), .func (.func 150) #[] #[]] w fun e w' => e = .returned (.tuple #[.int .i64 ((gs B).1 : Int), .int .i64 ((gs B).2.2 : Int)]) ∧
     (∃ A' c', Row w' g t [fp, fg, .slice A' (n - (gs B).2.1) c', sg, cn, mo] ∧ Rd w' A' (n - (gs B).2.1) ((B.drop (gs B).2.1).map bytec) ∧ n - (gs B).2.1 ≤ c' ∧ (0 < n - (gs B).2.1 → ∀ ad, A' = some ad → ad.block < base)) ∧ Fr (fun b => b = g) w w' := by
 have hBn : B.length = n := by simpa using hr.1
 have hbd := gs_bd B;obtain ⟨N, hN⟩ : ∃ N, N = (gs B).1 := ⟨_, rfl⟩
 obtain ⟨k, hk⟩ : ∃ k, k = (gs B).2.1 := ⟨_, rfl⟩
 obtain ⟨E, hE⟩ : ∃ E, E = (gs B).2.2 := ⟨_, rfl⟩
 have hgt := GetS_any A n c B w hr hc;rw [← hN, ← hk, ← hE] at hbd;rw [← hN, ← hk, ← hE] at hgt;rw [← hN, ← hk, ← hE];have hkn : k ≤ n := by omega
 have c2 : w.cell? ⟨g, 2, none⟩ = some (.slice A n c) := hR.cell rfl;obtain ⟨A2, hA2⟩ : ∃ A2, A2 = (if c = k then A else A.map (·.add k)) := ⟨_, rfl⟩
 have hsl : ∀ w : World, (Instr.sliceAt 34 (.slice A n c) (some (.int .i64 (k : Int))) none none).run Tryz.prog w = .ok (.slice A2 (n - k) (c - k)) w := by
  intro w;rw [hA2];exact from_u8 A n c k hkn hc _ rfl w
 have hrC : Rd w A2 (n - k) ((B.drop k).map bytec) := by
  have h := hr.cut (k := k) (m := n) (cap := c) hkn (Nat.le_refl _) hc;rw [← hA2] at h;rw [List.map_drop];rw [List.take_of_length_le (by simp; omega)] at h;exact h
 have hAb : 0 < n - k → ∀ ad, A2 = some ad → ad.block < base := by
  intro h0 ad e;rw [hA2] at e;split at e
  · exact hA (by omega) ad e
  · cases A with
    | none => cases e
    | some a =>
     injection e with e
     rw [← e, add_block];exact hA (by omega) a rfl
 obtain ⟨n2, hn2⟩ : ∃ n2, n2 = n - k := ⟨_, rfl⟩
 obtain ⟨c3, hc3⟩ : ∃ c3, c3 = c - k := ⟨_, rfl⟩
 have hnc : n2 ≤ c3 := by omega
 rw [← hn2, ← hc3] at hsl;rw [← hn2] at hrC hAb ⊢;have HGT := hid hgt;have HR := hid hR;have HRC := hid hrC;have HAB := hid hAb;have HG := hid hg;have HNC := hid hnc;clear hN hk hE hgt hR hr hBn hrC hAb hA2 hn2 hc3 hg hnc hA;go_enter Tryz.func159, Tryz.ntmps159;go_wp2_with fail;refine HGT.out.mono ?_;rintro e w2 ⟨rfl, hf2⟩;have hr2 := HR.out.fr hf2 (fun h => h);have a2 : w2.cell? ⟨g, 2, none⟩ = some (.slice A n c) := hr2.cell rfl;have f2 : w2.frozen? ⟨g, 2, none⟩ = false := hr2.free 2;have HR2 := hid hr2;have HF2 := hid hf2;clear hr2 hf2 c2 HGT;go_wp2_with fail;refine bodyPost_ret (v := .tuple #[.int .i64 (N : Int), .int .i64 (E : Int)]) (by simp [results, Tryz.results159, go_sem]) rfl ⟨rfl, ⟨A2, c3, ?_, ?_, HNC.out, HAB.out⟩, ?_⟩
 · exact HR2.out.set 2 _
 · exact (HRC.out.fr HF2.out (fun _ _ h => h)).frp (Fr.set1 w2 g 2 _) (fun h0 ad e h => by have h1 := HAB.out h0 ad e; have h2 := HG.out; omega)
 · exact (HF2.out.mono (fun _ _ h => h.elim)).trans (Fr.set1 w2 g 2 _) (fun _ _ h => h)
theorem takeN_any (base g : Nat) (t : TypeId) (fp fg sg cn mo : Value) (A : Option Addr) (n c : Nat) (B : List UInt8) (w : World) (hR : Row w g t [fp, fg, .slice A n c, sg, cn, mo]) (hr : Rd w A n (B.map bytec)) (hc : n ≤ c) (hA : 0 < n → ∀ ad, A = some ad → ad.block < base) (hg : base ≤ g) (hn : n ≤ 1000000) :
    Calls Tryz.prog 179 #[.pointer (some ⟨g, 2, none⟩), .func (.func 126) #[] #[]] w fun e w' => e = .returned (.tuple #[.int .u64 ((gu B).1 : Int), .int .i64 ((gu B).2.2 : Int)]) ∧
     (∃ A' c', Row w' g t [fp, fg, .slice A' (n - (gu B).2.1) c', sg, cn, mo] ∧ Rd w' A' (n - (gu B).2.1) ((B.drop (gu B).2.1).map bytec) ∧ n - (gu B).2.1 ≤ c' ∧ (0 < n - (gu B).2.1 → ∀ ad, A' = some ad → ad.block < base)) ∧ Fr (fun b => b = g) w w' := by
 have hBn : B.length = n := by simpa using hr.1
 have hbd := gu_bd B;obtain ⟨N, hN⟩ : ∃ N, N = (gu B).1 := ⟨_, rfl⟩
 obtain ⟨k, hk⟩ : ∃ k, k = (gu B).2.1 := ⟨_, rfl⟩
 obtain ⟨E, hE⟩ : ∃ E, E = (gu B).2.2 := ⟨_, rfl⟩
 have hgt := GetU_any A n c B w hr hc;rw [← hN, ← hk, ← hE] at hbd;rw [← hN, ← hk, ← hE] at hgt;rw [← hN, ← hk, ← hE];have hkn : k ≤ n := by omega
 have c2 : w.cell? ⟨g, 2, none⟩ = some (.slice A n c) := hR.cell rfl;obtain ⟨A2, hA2⟩ : ∃ A2, A2 = (if c = k then A else A.map (·.add k)) := ⟨_, rfl⟩
 have hsl : ∀ w : World, (Instr.sliceAt 34 (.slice A n c) (some (.int .i64 (k : Int))) none none).run Tryz.prog w = .ok (.slice A2 (n - k) (c - k)) w := by
  intro w;rw [hA2];exact from_u8 A n c k hkn hc _ rfl w
 have hrC : Rd w A2 (n - k) ((B.drop k).map bytec) := by
  have h := hr.cut (k := k) (m := n) (cap := c) hkn (Nat.le_refl _) hc;rw [← hA2] at h;rw [List.map_drop];rw [List.take_of_length_le (by simp; omega)] at h;exact h
 have hAb : 0 < n - k → ∀ ad, A2 = some ad → ad.block < base := by
  intro h0 ad e;rw [hA2] at e;split at e
  · exact hA (by omega) ad e
  · cases A with
    | none => cases e
    | some a =>
     injection e with e
     rw [← e, add_block];exact hA (by omega) a rfl
 obtain ⟨n2, hn2⟩ : ∃ n2, n2 = n - k := ⟨_, rfl⟩
 obtain ⟨c3, hc3⟩ : ∃ c3, c3 = c - k := ⟨_, rfl⟩
 have hnc : n2 ≤ c3 := by omega
 rw [← hn2, ← hc3] at hsl;rw [← hn2] at hrC hAb ⊢;have HGT := hid hgt;have HR := hid hR;have HRC := hid hrC;have HAB := hid hAb;have HG := hid hg;have HNC := hid hnc;clear hN hk hE hgt hR hr hBn hrC hAb hA2 hn2 hc3 hg hnc hA;go_enter Tryz.func179, Tryz.ntmps179;go_wp2_with fail;refine HGT.out.mono ?_;rintro e w2 ⟨rfl, hf2⟩;have hr2 := HR.out.fr hf2 (fun h => h);have a2 : w2.cell? ⟨g, 2, none⟩ = some (.slice A n c) := hr2.cell rfl;have f2 : w2.frozen? ⟨g, 2, none⟩ = false := hr2.free 2;have HR2 := hid hr2;have HF2 := hid hf2;clear hr2 hf2 c2 HGT;go_wp2_with fail;refine bodyPost_ret (v := .tuple #[.int .u64 (N : Int), .int .i64 (E : Int)]) (by simp [results, Tryz.results179, go_sem]) rfl ⟨rfl, ⟨A2, c3, ?_, ?_, HNC.out, HAB.out⟩, ?_⟩
 · exact HR2.out.set 2 _
 · exact (HRC.out.fr HF2.out (fun _ _ h => h)).frp (Fr.set1 w2 g 2 _) (fun h0 ad e h => by have h1 := HAB.out h0 ad e; have h2 := HG.out; omega)
 · exact (HF2.out.mono (fun _ _ h => h.elim)).trans (Fr.set1 w2 g 2 _) (fun _ _ h => h)
end
end Go.Proofs.YtbabgnadgdidmaaGreat
