import Derived.Test.YtbabgnadgdidmaaGreatZm00
import Derived.Test.YtbabgnadgdidmaaGreatZm49
import Derived.Test.YtbabgnadgdidmaaGreatZm06
import Derived.Test.YtbabgnadgdidmaaGreatZm13
import Derived.Test.YtbabgnadgdidmaaGreatZm05
set_option linter.unusedVariables false
set_option maxRecDepth 100000
set_option maxHeartbeats 12800000
namespace Go.Proofs.YtbabgnadgdidmaaGreat
section
open Go.RowKit Mem Go.Lib LebM UtfM VaM OpM AcM RleM CsM DirM
attribute [local go_sem ↓] Go.wp_at_zero Go.wp_at_succ
theorem same19_any (x y : Cl) (w : World) (hx : Byt w x) (hy : Byt w y) :
    Calls Tryz.prog 35 #[.agg #[.int .i64 (x.id : Int), .slice x.A x.B.length x.c], .agg #[.int .i64 (y.id : Int), .slice y.A y.B.length y.c]] w fun e w' => e = .returned (.bool (decide (x.v = y.v))) ∧ Fr (fun _ => False) w w' := by
 obtain ⟨g1, hg1⟩ := nm_ w.heap.size;obtain ⟨w1, hw1⟩ := nm_ (w.alloc (.cells #[.int .i64 (x.id : Int), .slice x.A x.B.length x.c] 37));obtain ⟨g2, hg2⟩ := nm_ w1.heap.size;obtain ⟨w2, hw2⟩ := nm_ (w1.alloc (.cells #[.int .i64 (y.id : Int), .slice y.A y.B.length y.c] 37));have hf1 : Fr (fun _ => False) w w1 := by rw [← hw1]; exact (Fr.refl _ _).alloc _
 have hf2 : Fr (fun _ => False) w1 w2 := by rw [← hw2]; exact (Fr.refl _ _).alloc _
 have hr1 : Row w1 g1 37 [.int .i64 (x.id : Int), .slice x.A x.B.length x.c] := by rw [← hw1, ← hg1]; exact Row.new w _ _
 have hr2 : Row w2 g2 37 [.int .i64 (y.id : Int), .slice y.A y.B.length y.c] := by rw [← hw2, ← hg2]; exact Row.new w1 _ _
 have hr1 := hr1.fr hf2 (fun h => h);have a0 : w2.cell? ⟨g1, 0, none⟩ = some (.int .i64 (x.id : Int)) := hr1.cell rfl;have a1 : w2.cell? ⟨g1, 1, none⟩ = some (.slice x.A x.B.length x.c) := hr1.cell rfl;have b0 : w2.cell? ⟨g2, 0, none⟩ = some (.int .i64 (y.id : Int)) := hr2.cell rfl;have b1 : w2.cell? ⟨g2, 1, none⟩ = some (.slice y.A y.B.length y.c) := hr2.cell rfl;have hf := hf1.trans hf2 im_;have HEQ := hid (equal_any x.A y.A x.B.length x.c y.B.length y.c x.B y.B w2 (hx.1.fr hf (fun _ _ h => h)) (hy.1.fr hf (fun _ _ h => h)));have HF := hid hf;have t0 : ((x.id : Int) == (y.id : Int)) = decide (x.id = y.id) := Bool.eq_iff_iff.2 (by simp; omega);have hv : decide (x.v = y.v) = (decide (x.id = y.id) && decide (x.B = y.B)) := by
  rw [← Bool.decide_and, decide_eq_decide];unfold Cl.v;rw [Prod.mk.injEq]
 rw [hv];obtain ⟨p, hp⟩ := nm_ (decide (x.id = y.id));obtain ⟨q, hq⟩ := nm_ (decide (x.B = y.B));rw [hq] at HEQ ⊢;rw [hp] at t0 ⊢;have t0n : (x.id == y.id) = p := by rw [← hp]; exact Bool.eq_iff_iff.2 (by simp)
 obtain ⟨lx, hlx⟩ := nm_ x.B.length;obtain ⟨ly, hly⟩ := nm_ y.B.length;rw [hlx] at hw1 a1 HEQ ⊢;rw [hly] at hw2 b1 HEQ ⊢;clear hf1 hf2 hr1 hr2 hf hv hp hq hx hy hlx hly;cases p <;> (
  go_enter Tryz.func35, Tryz.ntmps35
  go_upto_region 1 with fail
  try clear hw1 hw2 hg1 hg2
  go_wp2_with ((with_reducible refine HEQ.out.mono ?_); rintro e w3 ⟨rfl, rfl⟩)
  exact bodyPost_ret (v := .bool _) (by simp [results, Tryz.results35, go_sem] <;> rfl) rfl ⟨by first | rfl | simp, HF.out⟩)
theorem take_eq {α : Type} {l m : List α} {k : Nat} (h : l.take k = m.take k) {x y : α} (hx : l[k]? = some x) (hy : m[k]? = some y) : (x = y → l.take (k + 1) = m.take (k + 1)) ∧ (x ≠ y → l ≠ m) := by
 refine ⟨fun e => ?_, fun hne e => ?_⟩
 · rw [List.take_add_one, List.take_add_one, h, hx, hy, e]
 · subst e;rw [hx] at hy;injection hy with hy
   exact hne hy
theorem eqCols_any (A : Option Addr) (n c : Nat) (L : List Cl) (A2 : Option Addr) (n2 c2 : Nat) (L2 : List Cl) (w : World) (hL : Cols w A n L) (hL2 : Cols w A2 n2 L2) (hn1 : n ≤ 1000000) :
    Calls Tryz.prog 34 #[.slice A n c, .slice A2 n2 c2, .func (.func 35) #[] #[]] w fun e w' => e = .returned (.bool (decide (L.map Cl.v = L2.map Cl.v))) ∧ Fr (fun _ => False) w w' := by
 have hl := hL.1.1;have hl2 := hL2.1.1;obtain ⟨RES, hRES⟩ := nm_ (decide (L.map Cl.v = L2.map Cl.v));rw [hRES];have HRES := hid hRES;have HL := hid hL;have HL2 := hid hL2;have HLL := hid (And.intro hl hl2);clear hRES hL hL2 hl hl2;by_cases hn : n = n2
 · subst hn;have t0 : ((n : Int) != (n : Int)) = false := by simp
   go_enter Tryz.func34, Tryz.ntmps34;go_wp2_with fail
   go_loopw [17] (fun v wr => ∃ k : Nat, k ≤ n ∧ v = .int .i64 (k : Int) ∧ Hid ((L.map Cl.v).take k = (L2.map Cl.v).take k) ∧ Hid (Fr (fun _ => False) w wr)) (fun v _ => n - (intOf v).toNat)
   case atStart => exact ⟨0, Nat.zero_le _, rfl, hid rfl, Fr.refl _ _⟩
   case round =>
    obtain ⟨k, hk, rfl, HT, HF⟩ := hrel
    rename World => wr
    by_cases hlt : k < n
    · obtain ⟨x, hx⟩ : ∃ x, L[k]? = some x := ⟨_, List.getElem?_eq_getElem (by have := HLL.out; omega)⟩
      obtain ⟨y, hy⟩ : ∃ y, L2[k]? = some y := ⟨_, List.getElem?_eq_getElem (by have := HLL.out; omega)⟩
      obtain ⟨gx, ox, rfl, _, a0, a1⟩ := (HL.out.fr HF.out).1.2 k x hx;obtain ⟨gy, oy, rfl, _, b0, b1⟩ := (HL2.out.fr HF.out).1.2 k y hy;have hbx := (HL.out.fr HF.out).2 x (List.mem_of_getElem? hx);have hby := (HL2.out.fr HF.out).2 y (List.mem_of_getElem? hy);simp only [idc, dac] at a0 a1 b0 b1;have hte := take_eq HT.out (x := x.v) (y := y.v) (by rw [List.getElem?_map, hx]; rfl) (by rw [List.getElem?_map, hy]; rfl);have hsm := fun w' (hf : Fr (fun _ => False) wr w') => same19_any x y w' (hbx.fr hf (fun _ _ _ _ h => h)) (hby.fr hf (fun _ _ _ _ h => h));obtain ⟨q, hq⟩ := nm_ (decide (x.v = y.v));simp only [hq] at hsm;obtain ⟨lx, hlx⟩ := nm_ x.B.length;obtain ⟨ly, hly⟩ := nm_ y.B.length;obtain ⟨ix, hix⟩ : ∃ l : Int, (x.id : Int) = l := ⟨_, rfl⟩
      obtain ⟨iy, hiy⟩ : ∃ l : Int, (y.id : Int) = l := ⟨_, rfl⟩
      simp only [hlx, hly, hix, hiy] at a0 a1 b0 b1 hsm;have HSM := hid hsm;have HTE := hid hte;have HQ := hid hq;obtain ⟨p1, hp1⟩ := nm_ wr.heap.size;obtain ⟨w1, hw1⟩ := nm_ (wr.alloc (.cells #[.int .i64 0, .slice none 0 0] 37));have HF1 : Hid (Fr (fun _ => False) wr w1) := hid (by rw [← hw1]; exact (Fr.refl _ _).alloc _);have HR1 : Hid (Row w1 p1 37 [.int .i64 0, .slice none 0 0]) := hid (by rw [← hw1, ← hp1]; exact Row.new wr _ _);have HP1 := hid hp1;have HB := hid (And.intro b0 b1);clear hx hy hbx hby hte hsm hq hlx hly hix hiy b0 b1
      go_upto_region 6 with (refine store_st colSz rfl (.tmp 8) (.tmp 21) rfl p1 (by rfl) [.int .i64 ix, .slice x.A lx x.c] (by rfl) _ _ HR1.out rfl rfl (by simp [Value.oneCell']) ?_)
      intro w2 hr2 hf2;clear hw1 hp1 a0 a1;have HF2 : Hid (Fr (fun _ => False) wr w2) := hid (HF1.out.trans hf2 (fun b hb h => by have := HP1.out; omega));have HR2 := hid hr2;obtain ⟨p2, hp2⟩ := nm_ w2.heap.size;obtain ⟨w3, hw3⟩ := nm_ (w2.alloc (.cells #[.int .i64 0, .slice none 0 0] 37));have HF3 : Hid (Fr (fun _ => False) w2 w3) := hid (by rw [← hw3]; exact (Fr.refl _ _).alloc _);have HR3 : Hid (Row w3 p2 37 [.int .i64 0, .slice none 0 0]) := hid (by rw [← hw3, ← hp2]; exact Row.new w2 _ _);have HP2 := hid hp2;have b0 := HF2.out.cell HB.out.1 (fun h => h);have b1 := HF2.out.cell HB.out.2 (fun h => h);clear hr2 hf2
      go_upto_region 7 with (refine store_st colSz rfl (.tmp 9) (.tmp 25) rfl p2 (by rfl) [.int .i64 iy, .slice y.A ly y.c] (by rfl) _ _ HR3.out rfl rfl (by simp [Value.oneCell']) ?_)
      intro w4 hr4 hf4;clear hw3 hp2 b0 b1;have hf34 : Fr (fun _ => False) w2 w4 := HF3.out.trans hf4 (fun b hb h => by have := HP2.out; omega);have hr24 := HR2.out.fr hf34 (fun h => h);have a0 : w4.cell? ⟨p1, 0, none⟩ = some (.int .i64 ix) := hr24.cell rfl;have a1 : w4.cell? ⟨p1, 1, none⟩ = some (.slice x.A lx x.c) := hr24.cell rfl;have b0 : w4.cell? ⟨p2, 0, none⟩ = some (.int .i64 iy) := hr4.cell rfl;have b1 : w4.cell? ⟨p2, 1, none⟩ = some (.slice y.A ly y.c) := hr4.cell rfl;have HF4 := hid (HF2.out.trans hf34 im_);clear hr4 hf4 hf34 hr24;go_wp2_with fail;refine (HSM.out w4 HF4.out).mono ?_;rintro e w5 ⟨rfl, hf5⟩;have HF5 := hid ((HF.out.trans HF4.out im_).trans hf5 im_);clear hf5 a0 a1 b0 b1;cases q with
      | true =>
       go_wp2_with fail
       go_roundw
       case rel => exact ⟨k + 1, by omega, by go_num, hid (HTE.out.1 (of_decide_eq_true HQ.out)), HF5⟩
       case measure => simp [intOf] <;> omega
      | false =>
       have hr : RES = false := by rw [← HRES.out]; exact decide_eq_false (HTE.out.2 (of_decide_eq_false HQ.out))
       subst hr;go_wp2_with fail;exact bodyPost_ret (v := .bool false) (by simp [results, Tryz.results34, go_sem]) rfl ⟨rfl, HF5.out⟩
    · obtain rfl : k = n := by omega
      have hr : RES = true := by
       rw [← HRES.out];refine decide_eq_true ?_;have h := HT.out;rwa [List.take_of_length_le (by rw [List.length_map]; have := HLL.out; omega), List.take_of_length_le (by rw [List.length_map]; have := HLL.out; omega)] at h
      subst hr;go_wp2_with fail;exact bodyPost_ret (v := .bool true) (by simp [results, Tryz.results34, go_sem]) rfl ⟨rfl, HF.out⟩
 · have t0 : ((n : Int) != (n2 : Int)) = true := by simp; omega
   have t0n : (n != n2) = true := by simpa using hn
   have hr : RES = false := by
    rw [← HRES.out];refine decide_eq_false (fun e => hn ?_);have := congrArg List.length e;rw [List.length_map, List.length_map] at this;have := HLL.out;omega
   subst hr;clear hn;go_enter Tryz.func34, Tryz.ntmps34;go_wp2_with fail;exact bodyPost_ret (v := .bool false) (by simp [results, Tryz.results34, go_sem]) rfl ⟨rfl, Fr.refl _ _⟩
end
section
open Go.RowKit Mem Go.Lib LebM UtfM VaM OpM
attribute [local go_sem ↓] Go.wp_at_zero Go.wp_at_succ
theorem likeO_any (x : Om) (w : World) (hs : x.short) (hpr : Prd w x) : Calls Tryz.prog 78 #[opc x] w fun e w' => ∃ A' c', e = .returned (opc ⟨x.o, A', c'⟩) ∧ OwnN w' w.heap.size A' c' x.o.pr ∧ Fr (fun _ => False) w w' := by
 obtain ⟨g, w1, hg, hw1, hr1, hf1⟩ := new_ols w x;obtain ⟨g2, w2, hg2, hw2, hr2, hf2⟩ := new_zero w1;obtain ⟨b1, b2, b3, b4, b5, b6⟩ := hs;have HGG : Hid (g ≠ g2 ∧ w.heap.size ≤ g2 ∧ w.heap.size ≤ g) := hid (by have := hr1.lt; have := hf1.size; omega);have HX2 := hid (hr1.fr hf2 (fun h => h));have HZ2 := hid hr2;have HF2 := hid (hf1.trans hf2 im_);have hl1 := fun w => like_any x.o.obj w (by omega);have hl2 := fun w => like_any x.o.elem w (by omega);have hl3 := fun w => clone_any x.o.key w (by omega);have hl4 := fun w => clone_any x.o.val.s w (by omega);unfold nmc at hl1 hl2;have HL1 := hid hl1;have HL2 := hid hl2;have HL3 := hid hl3;have HL4 := hid hl4;have HPR := hid hpr;have HB6 := hid b6;obtain ⟨lp, hlp⟩ := nm_ x.o.pr.length;have HLP := hid hlp;rw [hlp] at b5;unfold opc;clear hr1 hr2 hf1 hf2 hl1 hl2 hl3 hl4 b1 b2 b3 b4 b6 hpr hlp;go_enter Tryz.func78, Tryz.ntmps78
 go_upto_region 1 with fail
 clear hw1 hw2 hg hg2;refine wp_region_held_drew (S := fun w' => Fr (fun _ => False) w2 w') (by kernel_rfl) ?_ (fun hHeld => ?_)
 · exact (Fr.refl _ _).drew
 refine tk 0 hHeld ?_;refine tk 1 hHeld ?_ (hy := by intro w hSw; (try dsimp only at hSw); obtain ⟨c0, c1, c2, c3, c4, c5, c6, c7, c8, c9, c10, c11, c12⟩ := (HX2.out.fr hSw (fun h => h)).cells; go_simp; try (with_reducible rfl));refine tk 3 hHeld ?_;refine tk 4 hHeld ?_ (hy := by intro w hSw; (try dsimp only at hSw); obtain ⟨c0, c1, c2, c3, c4, c5, c6, c7, c8, c9, c10, c11, c12⟩ := (HX2.out.fr hSw (fun h => h)).cells; go_simp; try (with_reducible rfl));refine rdo 2 (fun Kx hKx => ?_)
 go_simp
 have hcon := HL1.out (w2.drew)
 with_reducible refine hcon.mono ?_
 clear hcon;rintro e' w3 ⟨rfl, hff⟩;have HFw3 : Hid (Fr (fun _ => False) w2 w3) := hid ((Fr.refl _ _).drew.trans hff im_);have HX3 := hid (HX2.out.fr HFw3.out (fun h => h));have HZ3 := hid (HZ2.out.fr HFw3.out (fun h => h));have HF3 := hid (HF2.out.trans HFw3.out im_);refine hKx.out _ _ ?_ (fun hHeld => ?_)
 · exact HFw3.out
 clear hKx Kx hff
 (try simp only [Act.put, List.setIfInBounds_toArray, List.set_cons_zero, List.set_cons_succ, List.getElem_toArray, List.getElem_cons_zero, List.getElem_cons_succ])
 refine wpAnyH_more (fun w' => Fr (fun _ => False) w3 w') (fun _ h => HFw3.out.trans h im_) ?_ (fun hHeld => ?_)
 · exact Fr.refl _ _
 refine tk 6 hHeld ?_;refine rdo 5 (fun Kx hKx => ?_)
 go_simp
 have hcon := HL2.out (w3)
 with_reducible refine hcon.mono ?_
 clear hcon;rintro e' w4 ⟨rfl, hff⟩;have HFw4 : Hid (Fr (fun _ => False) w3 w4) := hid (hff);have HX4 := hid (HX3.out.fr HFw4.out (fun h => h));have HZ4 := hid (HZ3.out.fr HFw4.out (fun h => h));have HF4 := hid (HF3.out.trans HFw4.out im_);refine hKx.out _ _ ?_ (fun hHeld => ?_)
 · exact HFw4.out
 clear hKx Kx hff
 (try simp only [Act.put, List.setIfInBounds_toArray, List.set_cons_zero, List.set_cons_succ, List.getElem_toArray, List.getElem_cons_zero, List.getElem_cons_succ])
 refine wpAnyH_more (fun w' => Fr (fun _ => False) w4 w') (fun _ h => HFw4.out.trans h im_) ?_ (fun hHeld => ?_)
 · exact Fr.refl _ _
 refine rdo 7 (fun Kx hKx => ?_);obtain ⟨c0, c1, c2, c3, c4, c5, c6, c7, c8, c9, c10, c11, c12⟩ := HX4.out.cells;have fz0 : w4.frozen? ⟨g, 0, none⟩ = false := Row.free HX4.out 0;have sm0 : w4.setCell ⟨g, 0, none⟩ (.int .i64 x.o.obj.c) = w4 := set_same HX4.out rfl;have fz1 : w4.frozen? ⟨g, 1, none⟩ = false := Row.free HX4.out 1;have sm1 : w4.setCell ⟨g, 1, none⟩ (.string (txt x.o.obj.a)) = w4 := set_same HX4.out rfl
 go_simp
 refine hKx.out _ _ ?_ (fun hHeld => ?_)
 · exact Fr.refl _ _
 clear hKx Kx;refine tk 8 hHeld ?_;refine rdo 9 (fun Kx hKx => ?_);have fz4 : w4.frozen? ⟨g, 4, none⟩ = false := Row.free HX4.out 4;have sm4 : w4.setCell ⟨g, 4, none⟩ (.int .i64 x.o.elem.c) = w4 := set_same HX4.out rfl;have fz5 : w4.frozen? ⟨g, 5, none⟩ = false := Row.free HX4.out 5;have sm5 : w4.setCell ⟨g, 5, none⟩ (.string (txt x.o.elem.a)) = w4 := set_same HX4.out rfl
 go_simp
 refine hKx.out _ _ ?_ (fun hHeld => ?_)
 · exact Fr.refl _ _
 clear hKx Kx
 (try simp only [Act.put, List.setIfInBounds_toArray, List.set_cons_zero, List.set_cons_succ, List.getElem_toArray, List.getElem_cons_zero, List.getElem_cons_succ])
 refine wpAnyH_done (by kernel_rfl) ?_ _
 go_upto_region 2 with fail
 clear c0 c1 c2 c3 c4 c5 c6 c7 c8 c9 c10 c11 c12 fz0 fz1 fz4 fz5 sm0 sm1 sm4 sm5;refine wp_region_held_drew (S := fun w' => Fr (fun _ => False) w4 w') (by kernel_rfl) ?_ (fun hHeld => ?_)
 · exact (Fr.refl _ _).drew
 refine tk 0 hHeld ?_;refine tk 1 hHeld ?_ (hy := by intro w hSw; (try dsimp only at hSw); obtain ⟨c0, c1, c2, c3, c4, c5, c6, c7, c8, c9, c10, c11, c12⟩ := (HX4.out.fr hSw (fun h => h)).cells; go_simp; try (with_reducible rfl));refine tk 3 hHeld ?_;refine tk 4 hHeld ?_;refine tk 5 hHeld ?_ (hy := by intro w hSw; (try dsimp only at hSw); obtain ⟨c0, c1, c2, c3, c4, c5, c6, c7, c8, c9, c10, c11, c12⟩ := (HX4.out.fr hSw (fun h => h)).cells; go_simp; try (with_reducible rfl));refine rdo 2 (fun Kx hKx => ?_)
 go_simp
 have hcon := HL3.out (w4.drew)
 with_reducible refine hcon.mono ?_
 clear hcon;rintro e' w5 ⟨rfl, hff⟩;have HFw5 : Hid (Fr (fun _ => False) w4 w5) := hid ((Fr.refl _ _).drew.trans hff im_);have HX5 := hid (HX4.out.fr HFw5.out (fun h => h));have HZ5 := hid (HZ4.out.fr HFw5.out (fun h => h));have HF5 := hid (HF4.out.trans HFw5.out im_);refine hKx.out _ _ ?_ (fun hHeld => ?_)
 · exact HFw5.out
 clear hKx Kx hff
 (try simp only [Act.put, List.setIfInBounds_toArray, List.set_cons_zero, List.set_cons_succ, List.getElem_toArray, List.getElem_cons_zero, List.getElem_cons_succ])
 refine wpAnyH_more (fun w' => Fr (fun _ => False) w5 w') (fun _ h => HFw5.out.trans h im_) ?_ (fun hHeld => ?_)
 · exact Fr.refl _ _
 refine tk 7 hHeld ?_;refine rdo 6 (fun Kx hKx => ?_)
 go_simp
 have hcon := HL4.out (w5)
 with_reducible refine hcon.mono ?_
 clear hcon;rintro e' w6 ⟨rfl, hff⟩;have HFw6 : Hid (Fr (fun _ => False) w5 w6) := hid (hff);have HX6 := hid (HX5.out.fr HFw6.out (fun h => h));have HZ6 := hid (HZ5.out.fr HFw6.out (fun h => h));have HF6 := hid (HF5.out.trans HFw6.out im_);refine hKx.out _ _ ?_ (fun hHeld => ?_)
 · exact HFw6.out
 clear hKx Kx hff
 (try simp only [Act.put, List.setIfInBounds_toArray, List.set_cons_zero, List.set_cons_succ, List.getElem_toArray, List.getElem_cons_zero, List.getElem_cons_succ])
 refine wpAnyH_more (fun w' => Fr (fun _ => False) w6 w') (fun _ h => HFw6.out.trans h im_) ?_ (fun hHeld => ?_)
 · exact Fr.refl _ _
 refine rdo 8 (fun Kx hKx => ?_);obtain ⟨c0, c1, c2, c3, c4, c5, c6, c7, c8, c9, c10, c11, c12⟩ := HX6.out.cells;have fz2 : w6.frozen? ⟨g, 2, none⟩ = false := Row.free HX6.out 2;have sm2 : w6.setCell ⟨g, 2, none⟩ (.string (txt x.o.key)) = w6 := set_same HX6.out rfl
 go_simp
 refine hKx.out _ _ ?_ (fun hHeld => ?_)
 · exact Fr.refl _ _
 clear hKx Kx;refine tk 9 hHeld ?_;refine tk 10 hHeld ?_;refine rdo 11 (fun Kx hKx => ?_);have fz11 : w6.frozen? ⟨g, 11, none⟩ = false := Row.free HX6.out 11;have sm11 : w6.setCell ⟨g, 11, none⟩ (.string (txt x.o.val.s)) = w6 := set_same HX6.out rfl
 go_simp
 refine hKx.out _ _ ?_ (fun hHeld => ?_)
 · exact Fr.refl _ _
 clear hKx Kx
 (try simp only [Act.put, List.setIfInBounds_toArray, List.set_cons_zero, List.set_cons_succ, List.getElem_toArray, List.getElem_cons_zero, List.getElem_cons_succ])
 refine wpAnyH_done (by kernel_rfl) ?_ _;clear c0 c1 c2 c3 c4 c5 c6 c7 c8 c9 c10 c11 c12 fz2 fz11 sm2 sm11;obtain ⟨c0, c1, c2, c3, c4, c5, c6, c7, c8, c9, c10, c11, c12⟩ := HX6.out.cells;obtain ⟨A0, hA0⟩ := nm_ x.A;rw [HLP.out, hA0] at c12;have HA0 := hid hA0;clear hA0;go_wp2_with fail;clear c0 c1 c2 c3 c4 c5 c6 c7 c8 c9 c10 c11 c12
 go_loopw [3, 27] (fun v i wq => ∃ j : Nat, j ≤ lp ∧ i = .int .i64 (j : Int) ∧ ∃ A1 c1 NK, v = .slice A1 NK.length c1 ∧ Hid (x.o.pr.take j = NK) ∧ Hid (OwnN wq w.heap.size A1 c1 NK) ∧ Hid (RowO wq g x) ∧ Hid (RowO wq g2 zeroM) ∧ Hid (Fr (fun _ => False) w wq)) (fun _ i _ => lp - (intOf i).toNat)
 case atStart => exact ⟨0, Nat.zero_le _, rfl, none, 0, [], rfl, (rfl : x.o.pr.take 0 = []), OwnP.nil _ _ _, HX6, HZ6, HF6⟩
 case round =>
  obtain ⟨j, hj, rfl, A3, c3, NK, rfl, HNK, HOK3, HXQ, HZQ, HFQ⟩ := hrel
  rename World => wq
  by_cases hlt2 : j < lp
  · obtain ⟨y, hy⟩ : ∃ y, x.o.pr[j]? = some y := ⟨_, List.getElem?_eq_getElem (by have := HLP.out; omega)⟩
    obtain ⟨gy, oy, hay, hby, n0, n1⟩ := (HPR.out.fr0 HFQ.out).1.2 j y hy;simp only [ncc, nac] at n0 n1;have hyl := HB6.out y (List.mem_of_getElem? hy);obtain ⟨NQ, hNQ⟩ := nm_ (NK ++ [y]);have hstep : x.o.pr.take (j + 1) = NQ := by
     rw [List.take_add_one, hy, HNK.out, ← hNQ];rfl
    have hql : NQ.length ≤ 1000000000 := by
     rw [← hstep, List.length_take];omega
    have hqj : NK.length = j := by rw [← HNK.out, List.length_take]; have := HLP.out; omega
    obtain ⟨p2, hp2⟩ := nm_ wq.heap.size;obtain ⟨v1, hv1⟩ : ∃ v, wq.alloc (.cells #[.int .i64 0, .string ⟨#[]⟩] 50) = v := ⟨_, rfl⟩
    have hg1 : Fr (fun _ => False) wq v1 := by rw [← hv1]; exact (Fr.refl _ _).alloc _
    have hz1 : RowN v1 p2 zeroN := by rw [← hv1, ← hp2]; exact RowN.new wq zeroN
    have hlk := fun w => like_any y w hyl;unfold nmc at hlk;have hay2 := HA0.out.symm.trans hay;subst hay2;have HLK := hid hlk;have HST := hid hstep;have HQL := hid hql;have HNQ := hid hNQ;have HV1 := hid hz1;have HG1 := hid hg1;have HP2 := hid hp2;clear hy hby hyl hstep hg1 hz1 hlk hay hql hqj hNQ;go_wp2_with (refine store_st nSz rfl (.tmp 5) (.tmp 30) rfl p2 (by rfl) (nls y) (by rfl) _ _ HV1.out rfl rfl (n_one _) ?_)
    intro v2 hr2 hf2;have hy2 : RowN v2 p2 y := hr2;obtain ⟨d0, d1⟩ := hy2.cells;have HG2 : Hid (Fr (fun _ => False) wq v2) := hid (HG1.out.trans hf2 (fun b hb h => by have := HP2.out; omega));clear hr2 hf2 hy2 hv1 hp2 n0 n1;go_wp2_with fail;refine (HLK.out _).mono ?_;rintro e v4 ⟨rfl, hf⟩;have HG4 := hid (HG2.out.trans hf im_);obtain ⟨q, hq⟩ := nm_ v4.heap.size;obtain ⟨v5, hv5⟩ := nm_ (v4.alloc (.cells #[.int .i64 y.c, .string (txt y.a)] 50));have hg5 : Fr (fun _ => False) v4 v5 := by rw [← hv5]; exact (Fr.refl _ _).alloc _
    have hr5 : Row v5 q 50 ([y].flatMap nls) := by rw [← hv5, ← hq]; exact Row.new v4 _ _
    have HR5 : Hid (Nms v5 (some ⟨q, 0, none⟩) 1 [y]) := hid (Nms.row hr5);have HG5 := hid (HG4.out.trans hg5 im_);have HO5 := hid (HOK3.out.fr HG5.out);have HX5 := hid (HXQ.out.fr HG5.out (fun h => h));have HZ5 := hid (HZQ.out.fr HG5.out (fun h => h));have HB5 : Hid (w.heap.size ≤ v5.heap.size) := hid (by have := HFQ.out.size; have := HG5.out.size; omega);clear hf d0 d1 hg5 hr5;go_wp2_with (at_builtin; refine wpList_appNm _ rfl _ _ rfl w.heap.size _ _ NK rfl HO5.out _ _ _ [y] rfl HR5.out NQ HNQ.out.symm HQL.out HB5.out ?_)
    intro A6 c6 v6 ho6 hf6 _;have HO6 := hid ho6;have HG6 : Hid (Fr (fun k => (Value.slice A3 NK.length c3).ownBlock = some k) wq v6) := hid ((HG5.out.mono (fun _ _ h => h.elim)).trans hf6 im_);have HX6' : Hid (RowO v6 g x) := hid (HX5.out.fr hf6 (fun h => own_ne HO5.out HX5.out (by decide) h));have HZ6' : Hid (RowO v6 g2 zeroM) := hid (HZ5.out.fr hf6 (fun h => own_ne HO5.out HZ5.out (by decide) h));have HF6' : Hid (Fr (fun _ => False) w v6) := hid (HFQ.out.trans HG6.out (fun b hb h => by
     have := (HOK3.out.lt b h).1;omega))
    clear ho6 hf6 hv5 hq;go_wp2_with fail;exact ⟨⟨j + 1, by omega, by go_num, A6, c6, NQ, rfl, HST, HO6, HX6', HZ6', HF6'⟩, by simp [intOf]; omega⟩
  · obtain rfl : j = lp := by omega
    have hnk : NK = x.o.pr := by rw [← HNK.out, List.take_of_length_le (by have := HLP.out; omega)]
    subst hnk;obtain ⟨c0, c1, c2, c3', c4, c5, c6, c7, c8, c9, c10, c11, c12⟩ := HXQ.out.cells;rw [HLP.out] at c12;have fz : wq.frozen? ⟨g, 12, none⟩ = false := Row.free HXQ.out 12;obtain ⟨v1, hv1⟩ : ∃ v, wq.setCell ⟨g, 12, none⟩ (.slice A3 x.o.pr.length c3) = v := ⟨_, rfl⟩
    have hs := Row.set HXQ.out 12 (.slice A3 x.o.pr.length c3);rw [hv1] at hs;have hx1 : RowO v1 g ⟨x.o, A3, c3⟩ := hs;have hf1 : Fr (fun b => b = g) wq v1 := by rw [← hv1]; exact Fr.set1 _ _ _ _
    have HX1 := hid hx1;have HZ1 := hid (HZQ.out.fr hf1 (fun h => HGG.out.1 h.symm));have HO1 : Hid (OwnN v1 w.heap.size A3 c3 x.o.pr) := hid (hf1.own HOK3.out (fun k hk h => own_ne HOK3.out HXQ.out (by decide) (by rw [hk, h])));have HF1 := hid (HFQ.out.trans hf1 (fun b hb h => by have := HGG.out.2.2; omega));clear hs hx1 hf1 c0 c1 c2 c3' c4 c5 c6 c7 c8 c9 c10 c11
    go_upto_region 10 with fail
    clear hv1 fz c12;obtain ⟨c0, c1, c2, c3', c4, c5, c6, c7, c8, c9, c10, c11, c12⟩ := HX1.out.cells;simp only at c0 c1 c2 c3' c4 c5 c6 c7 c8 c9 c10 c11 c12;go_wp2_with (refine store_st oSz rfl (.tmp 2) (.tmp 39) rfl g2 (by rfl) (ols ⟨x.o, A3, c3⟩) (by rfl) _ _ HZ1.out rfl rfl (o_one _) ?_)
    intro v2 hr2 hf2;have hx2 : RowO v2 g2 ⟨x.o, A3, c3⟩ := hr2;have HO2 : Hid (OwnN v2 w.heap.size A3 c3 x.o.pr) := hid (hf2.own HO1.out (fun k hk h => own_ne HO1.out HZ1.out (by decide) (by rw [hk, h])));have HF2' := hid (HF1.out.trans hf2 (fun b hb h => by have := HGG.out.2.1; omega));clear hf2 hr2 c0 c1 c2 c3' c4 c5 c6 c7 c8 c9 c10 c11 c12;obtain ⟨d0, d1, d2, d3, d4, d5, d6, d7, d8, d9, d10, d11, d12⟩ := hx2.cells;simp only at d0 d1 d2 d3 d4 d5 d6 d7 d8 d9 d10 d11 d12;clear hx2;go_wp2_with fail;exact bodyPost_ret (v := opc ⟨x.o, A3, c3⟩) (by simp [results, opc, d0, d1, d2, d3, d4, d5, d6, d7, d8, d9, d10, d11, d12, Tryz.results78, go_sem]) rfl ⟨A3, c3, rfl, HO2.out, HF2'.out⟩
theorem copy_any (A : Option Addr) (n c : Nat) (L : List Om) (w : World) (hL : Ops w A n L) (hn : n ≤ 1000000) (hok : ∀ x ∈ L, x.short) :
    Calls Tryz.prog 36 #[.slice A n c] w fun e w' => ∃ A' c' M, e = .returned (.slice A' M.length c') ∧ M.map Om.o = L.map Om.o ∧ OwnO w' w.heap.size A' c' M ∧ (∀ x ∈ M, OwnN w' w.heap.size x.A x.c x.o.pr) ∧ Fr (fun _ => False) w w' := by
 have hln := hL.len;have HL := hid hL;have HLN := hid hln;have HOK := hid hok;clear hL hln hok;go_enter Tryz.func36, Tryz.ntmps36;go_wp2_with fail
 go_loopw [3, 8] (fun v i wr => ∃ k : Nat, k ≤ n ∧ i = .int .i64 (k : Int) ∧ ∃ A1 c1 M, v = .slice A1 M.length c1 ∧ Hid (M.map Om.o = (L.take k).map Om.o) ∧ Hid (OwnO wr w.heap.size A1 c1 M) ∧ Hid (∀ x ∈ M, OwnN wr w.heap.size x.A x.c x.o.pr) ∧ Hid (Fr (fun _ => False) w wr)) (fun _ i _ => n - (intOf i).toNat)
 case atStart => exact ⟨0, Nat.zero_le _, rfl, none, 0, [], rfl, (rfl : ([] : List Om).map Om.o = (L.take 0).map Om.o), OwnO.nil _ _, hid (fun x hx => by cases hx), Fr.refl _ _⟩
 case round =>
  obtain ⟨k, hk, rfl, A1, c1, M, rfl, HM, HO, HP0, HF⟩ := hrel
  rename World => wr
  by_cases hlt : k < n
  · obtain ⟨x, hx⟩ : ∃ x, L[k]? = some x := ⟨_, List.getElem?_eq_getElem (by have := HLN.out; omega)⟩
    have hLr := HL.out.fr HF.out;obtain ⟨b, o, rfl, hb, hat⟩ := hLr.1.2 k x hx;obtain ⟨k0, k1, k2, k3, k4, k5, k6, k7, k8, k9, k10, k11, k12⟩ := hat;have hpr := hLr.2 x (List.mem_of_getElem? hx);have hxs := HOK.out x (List.mem_of_getElem? hx);have hml : M.length = k := by
     have := congrArg List.length HM.out;rw [List.length_map, List.length_map, List.length_take] at this;have := HLN.out;omega
    obtain ⟨p, w1, hp, hw1, hr1, hf1⟩ := new_zero wr;have hro := fun w' (hf : Fr (fun _ => False) wr w') => likeO_any x w' hxs (hpr.fr0 hf);simp only [opc] at hro;have HRO := hid hro;have HX := hid hx;have HML := hid hml;have HW1 := hid hr1;have HP := hid hp;have HF1 := hid hf1;clear hx hro hr1 hf1 hxs hpr hLr hml;go_wp2_with (refine store_st oSz rfl (.tmp 5) (.tmp 11) rfl p (by rfl) (ols x) (by rfl) _ _ HW1.out rfl rfl (o_one _) ?_)
    intro w2 hr2 hf2;have hv2 : RowO w2 p x := hr2;clear k0 k1 k2 k3 k4 k5 k6 k7 k8 k9 k10 k11 k12;obtain ⟨d0, d1, d2, d3, d4, d5, d6, d7, d8, d9, d10, d11, d12⟩ := hv2.cells;have HX2 : Hid (Fr (fun _ => False) wr w2) := hid (HF1.out.trans hf2 (fun b hb h => by have := HP.out; omega));clear hr2 hf2 hv2 hw1 hp;go_wp2_with fail;refine (HRO.out w2 HX2.out).mono ?_;intro e w3 h3;obtain ⟨A', c', rfl, hon, hf3⟩ := h3;have HX3 := hid (HX2.out.trans hf3 im_);have HON := hid (hon.base (show w.heap.size ≤ w2.heap.size by have := HF.out.size; have := HX2.out.size; omega));clear hf3 hon d0 d1 d2 d3 d4 d5 d6 d7 d8 d9 d10 d11 d12;obtain ⟨q, w4, hq, hw4, hr4, hf4⟩ := new_ols w3 ⟨x.o, A', c'⟩;simp only at hw4;have hcs : ∀ j u, (ols ⟨x.o, A', c'⟩)[j]? = some u → w4.cell? ((⟨q, 0, none⟩ : Addr).add j) = some u := fun j u hu => by
     rw [mid_add, Nat.zero_add];exact Row.cell hr4 hu
    have HX4 := hid (HX3.out.trans hf4 im_);have HON4 := hid (HON.out.fr hf4);have HO4 := hid (HO.out.fr HX4.out);have HCS := hid hcs;have HB4 : Hid (w.heap.size ≤ w4.heap.size) := hid (by have := HF.out.size; have := HX4.out.size; omega);obtain ⟨N, hN⟩ : ∃ N, N = M.length + 1 := ⟨_, rfl⟩
    have hNk : N ≤ 1000000 := by have := HML.out; omega
    have HN := hid hN;clear hcs hr4 hf4 hN;go_wp2_with (at_builtin; refine wpList_appS opTS _ rfl _ _ rfl w.heap.size _ M.length (M.flatMap ols) rfl HO4.out ⟨q, 0, none⟩ 1 (ols ⟨x.o, A', c'⟩) rfl rfl HCS.out (fun u hu => ocell_one [(⟨x.o, A', c'⟩ : Om)] u (by simpa using hu)) N HN.out (by unfold maxLen; omega) (by omega) HB4.out ?_)
    intro A5 c5 w5 ho5 _ hf5;have HM5 : Hid ((M ++ [(⟨x.o, A', c'⟩ : Om)]).map Om.o = (L.take (k + 1)).map Om.o) := hid (by
     rw [List.take_add_one, HX.out, List.map_append, List.map_append, HM.out];rfl)
    obtain ⟨Q, hQ⟩ : ∃ Q, M ++ [(⟨x.o, A', c'⟩ : Om)] = Q := ⟨_, rfl⟩
    rw [hQ] at HM5;have hQl : N = Q.length := by rw [HN.out, ← hQ]; simp
    have HO5 : Hid (OwnO w5 w.heap.size A5 c5 Q) := hid (by
     unfold OwnO;rw [← hQl, ← hQ, List.flatMap_append, List.flatMap_singleton];exact ho5)
    have hown : ∀ k, (Value.slice A1 M.length c1).ownBlock = some k → ∀ {A : Option Addr} {c : Nat} {l : List Nm}, OwnN w4 w.heap.size A c l → (Value.slice A l.length c).ownBlock ≠ some k := fun k hk {A c l} h2 => own_two HO4.out h2 (by decide) hk;have HP5 : Hid (∀ y ∈ Q, OwnN w5 w.heap.size y.A y.c y.o.pr) := hid (fun y hy => by
     rw [← hQ] at hy;rcases List.mem_append.1 hy with hy | hy
     · have h := (HP0.out y hy).fr HX4.out;exact hf5.own h (fun k hk hS => hown k hS h hk)
     · rw [List.mem_singleton.1 hy];exact hf5.own HON4.out (fun k hk hS => hown k hS HON4.out hk))
    have HF5 : Hid (Fr (fun _ => False) w w5) := hid ((HF.out.trans HX4.out im_).trans hf5 (fun b hb h => by
     have := (HO4.out.lt b h).1;omega))
    subst hQl;clear ho5 hf5 hown hQ hw4 hq;go_wp2_with fail;exact ⟨⟨k + 1, by omega, by go_num, A5, c5, Q, rfl, HM5, HO5, HP5, HF5⟩, by simp [intOf]; omega⟩
  · obtain rfl : k = n := by omega
    have HME : Hid (M.map Om.o = L.map Om.o) := hid (by
     rw [HM.out, List.take_of_length_le (by have := HLN.out; omega)])
    go_wp2_with fail;go_ret;exact ⟨A1, c1, M, rfl, HME.out, HO.out, HP0.out, HF.out⟩
end
end Go.Proofs.YtbabgnadgdidmaaGreat
