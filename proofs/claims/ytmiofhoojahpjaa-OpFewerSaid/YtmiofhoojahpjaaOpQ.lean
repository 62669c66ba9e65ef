/-
  Layer 17, the law OpFewer (written by gen_fewer.py).
-/
import Derived.Test.YtmiofhoojahpjaaOpJ
import Derived.Test.YtmiofhoojahpjaaReg
import Derived.StillTailTactics
namespace Go.Proofs.Ytmiofhoojahpjaa
open Go.RowKit Mem Go.Lib LebM UtfM VaM OpM
attribute [local go_sem ↓] Go.wp_at_zero Go.wp_at_succ
set_option linter.unusedVariables false

theorem cut_zero (A : Option Addr) (c : Nat) : (if c = 0 then A else A.map (·.add 0)) = A := by
  split
  · rfl
  · cases A with
    | none => rfl
    | some ad => obtain ⟨b, o, s⟩ := ad; cases s <;> simp [Addr.add]
theorem run_toN (A : Option Addr) (n c y : Nat) (hy : y ≤ n) (hn : n ≤ c) (yi : Int) (ey : yi = (y : Int)) (w' : World) :
    (Instr.sliceAt 31 (.slice A n c) none (some (.int .i64 yi)) none).run Try.prog w' = .ok (.slice A y c) w' := by
  subst ey
  have h0 := cut_zero A c
  cases A with
  | none =>
    go_simp
    intro h
    omega
  | some ad =>
    go_simp
    intro h
    omega
theorem nms_take {w : World} {A : Option Addr} {n k : Nat} {L : List Nm} (h : Nms w A n L) (hk : k ≤ n) : Nms w A k (L.take k) :=
  ⟨by rw [List.length_take, h.1]; omega, fun i t ht => h.2 i t (by
    rw [List.getElem?_take] at ht
    split at ht
    · exact ht
    · cases ht)⟩
set_option maxRecDepth 100000 in
set_option maxHeartbeats 12800000 in
theorem opfewer_no (x y : Om) (n : Nat) (w : World) (hn : n < 256) (hx : Prd w x) (hy : Prd w y) (lx : x.lens) (ly : y.lens) (vx : x.o.val.ok) (vy : y.o.val.ok) (hb2 : fewB [x, y] = false) :
    Calls Try.prog 8 #[opc x, opc y, .int .u8 (n : Int)] w fun e w' => e = .returned (.bool true) ∧ Fr (fun _ => False) w w' := by
  obtain ⟨g, w1, hg, hw1, hr1, hf1⟩ := new_ols w x
  obtain ⟨g2, w2, hg2, hw2, hr2, hf2⟩ := new_ols w1 y
  have HX2 := Lib.hid (hr1.fr hf2 (fun h => h))
  have HY2 := Lib.hid hr2
  have HF2 := Lib.hid (hf1.trans hf2 (fun _ _ h => h))
  have haw := fun w' => awake17_any w'
  have hfw2 := fun w' (hf : Fr (fun _ => False) w w') => rfew2 x y w' rfl (hx.fr0 hf) (hy.fr0 hf) lx ly
  simp only [hb2] at hfw2
  have HAW := Lib.hid haw
  have HFW2 := Lib.hid hfw2
  have HPX := Lib.hid hx
  have HPY := Lib.hid hy
  unfold opc
  clear haw hfw2 hb2 hx hy lx ly vx vy hr1 hr2 hf1 hf2
  go_enter Try.func8, Try.ntmps8
  go_wp2_with fail
  clear hw1 hw2 hg hg2
  refine (HAW.out _).mono ?_
  rintro e w3 ⟨rfl, hf⟩
  have HF3 := Lib.hid (HF2.out.trans hf (fun _ _ h => h))
  obtain ⟨c0, c1, c2, c3, c4, c5, c6, c7, c8, c9, c10, c11, c12⟩ := (HX2.out.fr hf (fun h => h)).cells
  obtain ⟨d0, d1, d2, d3, d4, d5, d6, d7, d8, d9, d10, d11, d12⟩ := (HY2.out.fr hf (fun h => h)).cells
  clear hf
  go_wp2_with fail
  refine (HFW2.out _ HF3.out).mono ?_
  rintro e w5 ⟨rfl, hf⟩
  have HF5 := Lib.hid (HF3.out.trans hf (fun _ _ h => h))
  clear hf c0 c1 c2 c3 c4 c5 c6 c7 c8 c9 c10 c11 c12 d0 d1 d2 d3 d4 d5 d6 d7 d8 d9 d10 d11 d12
  go_wp2_with fail
  refine (HAW.out _).mono ?_
  rintro e w6 ⟨rfl, hf⟩
  have HF6 := Lib.hid (HF5.out.trans hf (fun _ _ h => h))
  clear hf
  go_wp2_with fail
  go_ret
  exact ⟨rfl, HF6.out⟩
set_option maxRecDepth 100000 in
set_option maxHeartbeats 12800000 in
theorem opfewer_yes (x y : Om) (n : Nat) (w : World) (hn : n < 256) (hx : Prd w x) (hy : Prd w y) (lx : x.lens) (ly : y.lens) (vx : x.o.val.ok) (vy : y.o.val.ok) (hb2 : fewB [x, y] = true) (hq : rightO x.o = true) :
    Calls Try.prog 8 #[opc x, opc y, .int .u8 (n : Int)] w fun e w' => e = .returned (.bool true) ∧ Fr (fun _ => False) w w' := by
  have HQ := Lib.hid hq
  clear hq
  obtain ⟨g, w1, hg, hw1, hr1, hf1⟩ := new_ols w x
  obtain ⟨g2, w2, hg2, hw2, hr2, hf2⟩ := new_ols w1 y
  have HX2 := Lib.hid (hr1.fr hf2 (fun h => h))
  have HY2 := Lib.hid hr2
  have HF2 := Lib.hid (hf1.trans hf2 (fun _ _ h => h))
  have haw := fun w' => awake17_any w'
  have hfw2 := fun w' (hf : Fr (fun _ => False) w w') => rfew2 x y w' rfl (hx.fr0 hf) (hy.fr0 hf) lx ly
  simp only [hb2] at hfw2
  have HAW := Lib.hid haw
  have HFW2 := Lib.hid hfw2
  have HPX := Lib.hid hx
  have HPY := Lib.hid hy
  unfold opc
  have hsx := few_short hb2 x (List.mem_cons_self ..)
  have hsy := few_short hb2 y (List.mem_cons_of_mem _ (List.mem_cons_self ..))
  obtain ⟨lp, hlp⟩ : ∃ l, x.o.pr.length = l := ⟨_, rfl⟩
  have hl40 : lp ≤ 40 := by rw [← hlp]; exact hsx.2
  have HLP := Lib.hid hlp
  have HSX := Lib.hid hsx.1
  have HSY := Lib.hid hsy.1
  have HVX := Lib.hid vx
  have HVY := Lib.hid vy
  clear haw hfw2 hb2 hx hy lx ly vx vy hr1 hr2 hf1 hf2 hsx hsy hlp
  go_enter Try.func8, Try.ntmps8
  go_wp2_with fail
  clear hw1 hw2 hg hg2
  refine (HAW.out _).mono ?_
  rintro e w3 ⟨rfl, hf⟩
  have HF3 := Lib.hid (HF2.out.trans hf (fun _ _ h => h))
  have HX3 := Lib.hid (HX2.out.fr hf (fun h => h))
  have HY3 := Lib.hid (HY2.out.fr hf (fun h => h))
  obtain ⟨c0, c1, c2, c3, c4, c5, c6, c7, c8, c9, c10, c11, c12⟩ := HX3.out.cells
  obtain ⟨d0, d1, d2, d3, d4, d5, d6, d7, d8, d9, d10, d11, d12⟩ := HY3.out.cells
  clear hf
  go_wp2_with fail
  refine (HFW2.out _ HF3.out).mono ?_
  rintro e w5 ⟨rfl, hf⟩
  have HF5 := Lib.hid (HF3.out.trans hf (fun _ _ h => h))
  have HX5 := Lib.hid (HX3.out.fr hf (fun h => h))
  have HY5 := Lib.hid (HY3.out.fr hf (fun h => h))
  clear hf c0 c1 c2 c3 c4 c5 c6 c7 c8 c9 c10 c11 c12 d0 d1 d2 d3 d4 d5 d6 d7 d8 d9 d10 d11 d12
  obtain ⟨g7, w6, hg7, hw6, hr6, hf6⟩ := new_zero w5
  obtain ⟨c0, c1, c2, c3, c4, c5, c6, c7, c8, c9, c10, c11, c12⟩ := HX5.out.cells
  have HGG : Hid (w.heap.size ≤ g7 ∧ g ≠ g7 ∧ g2 ≠ g7) := Lib.hid (by have h1 := HF5.out.size; have h2 := HX5.out.lt; have h3 := HY5.out.lt; omega)
  have HX6 := Lib.hid (HX5.out.fr hf6 (fun h => h))
  have HY6 := Lib.hid (HY5.out.fr hf6 (fun h => h))
  have HZ6 := Lib.hid hr6
  have HF6 := Lib.hid (HF5.out.trans hf6 (fun _ _ h => h))
  clear hr6 hf6
  go_wp2_with (refine store_st oSz rfl (.tmp 7) (.tmp 18) rfl g7 (by rfl) (ols x) (by rfl) _ _ HZ6.out rfl rfl (o_one _) ?_)
  intro w7 hr7 hf7
  have HZ7 : Hid (RowO w7 g7 x) := Lib.hid hr7
  have HX7 := Lib.hid (HX6.out.fr hf7 HGG.out.2.1)
  have HY7 := Lib.hid (HY6.out.fr hf7 HGG.out.2.2)
  have HF7 := Lib.hid (HF6.out.trans hf7 (fun b hb h => by have := HGG.out.1; omega))
  clear hr7 hf7 hw6 hg7 c0 c1 c2 c3 c4 c5 c6 c7 c8 c9 c10 c11 c12
  obtain ⟨c0, c1, c2, c3, c4, c5, c6, c7, c8, c9, c10, c11, c12⟩ := HX7.out.cells
  rw [HLP.out] at c12
  go_upto_if 22 with fail
  go_cut [7] (fun v wx => v = .pointer (some ⟨g7, 0, none⟩) ∧ ∃ z : Om, RowO wx g7 z ∧ RowO wx g x ∧ RowO wx g2 y ∧ Fr (fun _ => False) w wx ∧ z.short ∧ z.o.val.ok ∧ Prd w z ∧ (rightO x.o = true → rightO z.o = true))
  case first =>
    by_cases h0 : 0 < lp
    · have t0 : decide ((0 : Int) < (lp : Int)) = true := decide_eq_true (by omega)
      have t0' : decide (0 < lp) = true := decide_eq_true h0
      obtain ⟨k, hk⟩ : ∃ k, k = n % lp := ⟨_, rfl⟩
      have hkl : k < lp := by rw [hk]; exact Nat.mod_lt _ h0
      have t1 : Int.tmod (n : Int) (lp : Int) = (k : Int) := by rw [hk]; exact Int.ofNat_tmod n lp
      have t2 : ((lp : Int) == 0) = false := by simp; omega
      have t3 : IntKind.i64.wrap (n : Int) = (n : Int) := by rw [IntKind.wrap_i64]; omega
      have t4 : IntKind.i64.wrap (k : Int) = (k : Int) := by rw [IntKind.wrap_i64]; omega
      have t5 : ¬ lp = 0 := by omega
      have hlc : lp ≤ x.c := by rw [← HLP.out]; exact HPX.out.2.1
      have hcut := fun w' => run_toN x.A lp x.c k (by omega) hlc _ rfl w'
      have fz : ∀ q, (w7.drewN q).frozen? ⟨g7, 12, none⟩ = false := fun q => Row.free HZ7.out 12
      have fz' : w7.frozen? ⟨g7, 12, none⟩ = false := Row.free HZ7.out 12
      have HKL := Lib.hid hkl
      clear hk hlc
      go_upto_region 5 with fail
      go_still_tail 10, (by kernel_rfl)
      change wpList _ _ _ _ _ w7.drew
      obtain ⟨v1, hv1⟩ : ∃ v, (w7.drew).setCell ⟨g7, 12, none⟩ (.slice x.A k x.c) = v := ⟨_, rfl⟩
      obtain ⟨z, hz⟩ : ∃ z : Om, z = ⟨⟨x.o.obj, x.o.key, x.o.keyed, x.o.elem, x.o.ins, x.o.act, x.o.val, x.o.pr.take k⟩, x.A, x.c⟩ := ⟨_, rfl⟩
      have hzl : (x.o.pr.take k).length = k := by rw [List.length_take]; have := HLP.out; omega
      have hd : RowO w7.drew g7 x := HZ7.out
      have fd : (w7.drew).frozen? ⟨g7, 12, none⟩ = false := Row.free hd 12
      have ed : (w7.drew).cell? ⟨g7, 12, none⟩ = some (.slice x.A x.o.pr.length x.c) := Row.cell hd rfl
      have hs := Row.set hd 12 (.slice x.A k x.c)
      rw [hv1] at hs
      have hz1 : RowO v1 g7 z := by
        rw [hz]
        unfold RowO ols
        simp only [hzl]
        exact hs
      have hff : Fr (fun b => b = g7) w7 v1 := by rw [← hv1]; exact (Fr.refl _ _).drew.trans (Fr.set1 _ _ _ _) (fun _ _ h => h)
      have HZ8 := Lib.hid hz1
      have HX8 := Lib.hid (HX7.out.fr hff HGG.out.2.1)
      have HY8 := Lib.hid (HY7.out.fr hff HGG.out.2.2)
      have HF8 := Lib.hid (HF7.out.trans hff (fun b hb h => by have := HGG.out.1; omega))
      have HPZ : Hid (z.short ∧ z.o.val.ok ∧ Prd w z ∧ (rightO x.o = true → rightO z.o = true)) := Lib.hid (by
        obtain ⟨s1, s2, s3, s4, s5, s6⟩ := HSX.out
        have hp := HPX.out
        rw [hz]
        refine ⟨⟨s1, s2, s3, s4, by show (x.o.pr.take k).length ≤ _; rw [hzl]; omega, fun u hu => s6 u (List.mem_of_mem_take hu)⟩, HVX.out, ⟨?_, ?_, hp.2.2⟩, fun h => right_fewer h k⟩
        · show Nms w x.A (x.o.pr.take k).length (x.o.pr.take k)
          rw [hzl]
          exact nms_take hp.1 (by have := HLP.out; omega)
        · show (x.o.pr.take k).length ≤ x.c
          rw [hzl]
          have := hp.2.1
          have := HLP.out
          omega)
      clear hs hz1 hff hz hzl hd t1 t2 t3 t4 t5 hcut fz fz'
      go_wp2_with fail
      go_meet
      exact ⟨rfl, z, HZ8.out, HX8.out, HY8.out, HF8.out, HPZ.out.1, HPZ.out.2.1, HPZ.out.2.2.1, HPZ.out.2.2.2⟩
    · have t0 : decide ((0 : Int) < (lp : Int)) = false := decide_eq_false (by omega)
      have t0' : decide (0 < lp) = false := decide_eq_false h0
      go_wp2_with fail
      go_meet
      exact ⟨rfl, x, HZ7.out, HX7.out, HY7.out, HF7.out, HSX.out, HVX.out, HPX.out, fun h => h⟩
  case rest =>
  clear c0 c1 c2 c3 c4 c5 c6 c7 c8 c9 c10 c11 c12
  obtain ⟨rfl, z, hz, hx, hy, hf, hzs, hzv, hzp, hxz⟩ := hcut
  rename World => w9
  have HX := Lib.hid hx
  have HY := Lib.hid hy
  have HZ := Lib.hid hz
  have HF9 := Lib.hid hf
  have hq := HQ.out
  obtain ⟨q2, hq2⟩ : ∃ q, rightO y.o = q := ⟨_, rfl⟩
  obtain ⟨q3, hq3⟩ : ∃ q, rightO z.o = q := ⟨_, rfl⟩
  have hr1 := fun {u : Om} (hs : u.short) (hv : u.o.val.ok) (hp : Prd w u) (w' : World) (hf' : Fr (fun _ => False) w9 w') (qq : Nat) (hB : Row w' qq 33 (ols u)) => oRight_any (some ⟨qq, 0, none⟩) 1 1 [u] w' (ops1 hB (hp.fr0 (hf.trans hf' (fun _ _ h => h)))) (by omega) (fun v hv' => by rw [List.mem_singleton.1 hv']; exact ⟨hs, hv⟩)
  have hr2 := fun {u v : Om} (hs : u.short) (hv : u.o.val.ok) (hp : Prd w u) (hs2 : v.short) (hv2 : v.o.val.ok) (hp2 : Prd w v) (w' : World) (hf' : Fr (fun _ => False) w9 w') (qq : Nat) (hB : Row w' qq 33 (ols u ++ ols v)) => oRight_any (some ⟨qq, 0, none⟩) 2 2 [u, v] w' (ops2 hB (hp.fr0 (hf.trans hf' (fun _ _ h => h))) (hp2.fr0 (hf.trans hf' (fun _ _ h => h)))) (by omega) (fun t ht => by
    rcases List.mem_cons.1 ht with rfl | ht
    · exact ⟨hs, hv⟩
    · rw [List.mem_singleton.1 ht]; exact ⟨hs2, hv2⟩)
  have hrx := hr1 HSX.out HVX.out HPX.out
  have hrz := hr1 hzs hzv hzp
  have hxy := hr2 HSX.out HVX.out HPX.out HSY.out HVY.out HPY.out
  have hyx := hr2 HSY.out HVY.out HPY.out HSX.out HVX.out HPX.out
  simp only [rightsB, List.all_cons, List.all_nil, Bool.and_true, Bool.true_and, hq, hq2, hq3] at hrx hrz hxy hyx
  rw [hq, hq3] at hxz
  have HRX := Lib.hid hrx
  have HRZ := Lib.hid hrz
  have HXY := Lib.hid hxy
  have HYX := Lib.hid hyx
  clear hz hx hy hf hzs hzv hzp hr1 hr2 hrx hrz hxy hyx hq hq2 hq3 HX7 HY7 HZ7 HF7 HX6 HY6 HZ6 HF6
  obtain rfl : q3 = true := hxz rfl
  have tc : (q2 == q2) = true := by simp
  clear hxz
  go_upto_region 6 with fail
  have HGc : Hid (Fr (fun _ => False) w9 w9) := Lib.hid (Fr.refl _ _)
  refine wp_region_held_drew (S := fun w' => Fr (fun _ => False) w9 w') (by kernel_rfl) ?_ (fun hHeld => ?_)
  · exact (Fr.refl _ _).drew
  refine wpAnyH_take (i := 0) (v := ?vt81) rfl (by kernel_rfl) (by kernel_rfl) (by kernel_rfl) (fun _ _ _ h => h) (Or.inl ⟨by rfl, ?hyt81⟩) hHeld ?restt81
  case hyt81 => intro w hSw; (try dsimp only at hSw); obtain ⟨c0, c1, c2, c3, c4, c5, c6, c7, c8, c9, c10, c11, c12⟩ := (HX.out.fr (HGc.out.trans hSw (fun _ _ h => h)) (fun h => h)).cells; go_simp; try (with_reducible rfl)
  (try simp only [Act.put, List.setIfInBounds_toArray, List.set_cons_zero, List.set_cons_succ, List.getElem_toArray, List.getElem_cons_zero])
  refine wpAnyH_ready (rs := [1]) (by kernel_rfl) (by simp) ?_
  refine AllReadyH.cons rfl (fun Kx hKx => ?_) AllReadyH.nil
  go_simp
  obtain ⟨v1, hwm⟩ : ∃ v, (w9.alloc (.cells #[.int .i64 x.o.obj.c, .string (txt x.o.obj.a), .string (txt x.o.key), .bool x.o.keyed, .int .i64 x.o.elem.c, .string (txt x.o.elem.a), .bool x.o.ins, .int .i64 x.o.act, .int .i64 x.o.val.k, .int .u64 (x.o.val.u : Int), .int .i64 x.o.val.n, .string (txt x.o.val.s), .slice x.A x.o.pr.length x.c] 33)).drew = v := ⟨_, rfl⟩
  rw [hwm]
  obtain ⟨q1, hqm⟩ : ∃ q, w9.heap.size = q := ⟨_, rfl⟩
  try rw [hqm]
  have HFn : Hid (Fr (fun _ => False) w9 v1) := Lib.hid (by rw [← hwm]; exact ((Fr.refl _ _).alloc _).drew)
  have hbm : Row v1 q1 33 (ols x) := by rw [← hwm, ← hqm]; exact RowO.new w9 x
  have HB1 := Lib.hid hbm
  clear hwm hqm hbm
  have HGc := Lib.hid (HGc.out.trans HFn.out (fun _ _ h => h))
  refine hKx.out _ _ ?_ (fun hHeld => ?_)
  · exact HFn.out
  clear hKx Kx
  (try simp only [Act.put, List.setIfInBounds_toArray, List.set_cons_zero, List.set_cons_succ, List.getElem_toArray, List.getElem_cons_zero, List.getElem_cons_succ])
  refine wpAnyH_more (fun w' => Fr (fun _ => False) v1 w') (fun _ h => HFn.out.trans h (fun _ _ h => h)) ?_ (fun hHeld => ?_)
  · exact Fr.refl _ _
  clear HFn
  refine wpAnyH_ready (rs := [2]) (by kernel_rfl) (by simp) ?_
  refine AllReadyH.cons rfl (fun Kx hKx => ?_) AllReadyH.nil
  go_simp
  have hcon := HRX.out (v1) HGc.out q1 HB1.out
  with_reducible refine hcon.mono ?_
  clear hcon
  rintro e' v2 ⟨rfl, hff⟩
  have HFn : Hid (Fr (fun _ => False) v1 v2) := Lib.hid (hff)
  clear hff
  have HB1 := Lib.hid (HB1.out.fr HFn.out (fun h => h))
  have HGc := Lib.hid (HGc.out.trans HFn.out (fun _ _ h => h))
  refine hKx.out _ _ ?_ (fun hHeld => ?_)
  · exact HFn.out
  clear hKx Kx
  (try simp only [Act.put, List.setIfInBounds_toArray, List.set_cons_zero, List.set_cons_succ, List.getElem_toArray, List.getElem_cons_zero, List.getElem_cons_succ])
  refine wpAnyH_more (fun w' => Fr (fun _ => False) v2 w') (fun _ h => HFn.out.trans h (fun _ _ h => h)) ?_ (fun hHeld => ?_)
  · exact Fr.refl _ _
  clear HFn
  refine wpAnyH_take (i := 3) (v := ?vt82) rfl (by kernel_rfl) (by kernel_rfl) (by kernel_rfl) (fun _ _ _ h => h) (Or.inl ⟨by rfl, ?hyt82⟩) hHeld ?restt82
  case hyt82 => intro w hSw; (try dsimp only at hSw); go_simp; try (with_reducible rfl)
  (try simp only [Act.put, List.setIfInBounds_toArray, List.set_cons_zero, List.set_cons_succ, List.getElem_toArray, List.getElem_cons_zero, List.getElem_cons_succ])
  refine wpAnyH_take (i := 4) (v := ?vt83) rfl (by kernel_rfl) (by kernel_rfl) (by kernel_rfl) (fun _ _ _ h => h) (Or.inl ⟨by rfl, ?hyt83⟩) hHeld ?restt83
  case hyt83 => intro w hSw; (try dsimp only at hSw); go_simp; try (with_reducible rfl)
  (try simp only [Act.put, List.setIfInBounds_toArray, List.set_cons_zero, List.set_cons_succ, List.getElem_toArray, List.getElem_cons_zero, List.getElem_cons_succ])
  refine wpAnyH_take (i := 5) (v := ?vt84) rfl (by kernel_rfl) (by kernel_rfl) (by kernel_rfl) (fun _ _ _ h => h) (Or.inl ⟨by rfl, ?hyt84⟩) hHeld ?restt84
  case hyt84 => intro w hSw; (try dsimp only at hSw); obtain ⟨c0, c1, c2, c3, c4, c5, c6, c7, c8, c9, c10, c11, c12⟩ := (HZ.out.fr (HGc.out.trans hSw (fun _ _ h => h)) (fun h => h)).cells; go_simp; try (with_reducible rfl)
  (try simp only [Act.put, List.setIfInBounds_toArray, List.set_cons_zero, List.set_cons_succ, List.getElem_toArray, List.getElem_cons_zero, List.getElem_cons_succ])
  refine wpAnyH_ready (rs := [6]) (by kernel_rfl) (by simp) ?_
  refine AllReadyH.cons rfl (fun Kx hKx => ?_) AllReadyH.nil
  go_simp
  obtain ⟨v3, hwm⟩ : ∃ v, (v2.alloc (.cells #[.int .i64 z.o.obj.c, .string (txt z.o.obj.a), .string (txt z.o.key), .bool z.o.keyed, .int .i64 z.o.elem.c, .string (txt z.o.elem.a), .bool z.o.ins, .int .i64 z.o.act, .int .i64 z.o.val.k, .int .u64 (z.o.val.u : Int), .int .i64 z.o.val.n, .string (txt z.o.val.s), .slice z.A z.o.pr.length z.c] 33)) = v := ⟨_, rfl⟩
  rw [hwm]
  obtain ⟨q6, hqm⟩ : ∃ q, v2.heap.size = q := ⟨_, rfl⟩
  try rw [hqm]
  have HFn : Hid (Fr (fun _ => False) v2 v3) := Lib.hid (by rw [← hwm]; exact ((Fr.refl _ _).alloc _))
  have hbm : Row v3 q6 33 (ols z) := by rw [← hwm, ← hqm]; exact RowO.new v2 z
  have HB6 := Lib.hid hbm
  clear hwm hqm hbm
  have HB1 := Lib.hid (HB1.out.fr HFn.out (fun h => h))
  have HGc := Lib.hid (HGc.out.trans HFn.out (fun _ _ h => h))
  refine hKx.out _ _ ?_ (fun hHeld => ?_)
  · exact HFn.out
  clear hKx Kx
  (try simp only [Act.put, List.setIfInBounds_toArray, List.set_cons_zero, List.set_cons_succ, List.getElem_toArray, List.getElem_cons_zero, List.getElem_cons_succ])
  refine wpAnyH_more (fun w' => Fr (fun _ => False) v3 w') (fun _ h => HFn.out.trans h (fun _ _ h => h)) ?_ (fun hHeld => ?_)
  · exact Fr.refl _ _
  clear HFn
  refine wpAnyH_ready (rs := [7]) (by kernel_rfl) (by simp) ?_
  refine AllReadyH.cons rfl (fun Kx hKx => ?_) AllReadyH.nil
  go_simp
  have hcon := HRZ.out (v3) HGc.out q6 HB6.out
  with_reducible refine hcon.mono ?_
  clear hcon
  rintro e' v4 ⟨rfl, hff⟩
  have HFn : Hid (Fr (fun _ => False) v3 v4) := Lib.hid (hff)
  clear hff
  have HB1 := Lib.hid (HB1.out.fr HFn.out (fun h => h))
  have HB6 := Lib.hid (HB6.out.fr HFn.out (fun h => h))
  have HGc := Lib.hid (HGc.out.trans HFn.out (fun _ _ h => h))
  refine hKx.out _ _ ?_ (fun hHeld => ?_)
  · exact HFn.out
  clear hKx Kx
  (try simp only [Act.put, List.setIfInBounds_toArray, List.set_cons_zero, List.set_cons_succ, List.getElem_toArray, List.getElem_cons_zero, List.getElem_cons_succ])
  refine wpAnyH_more (fun w' => Fr (fun _ => False) v4 w') (fun _ h => HFn.out.trans h (fun _ _ h => h)) ?_ (fun hHeld => ?_)
  · exact Fr.refl _ _
  clear HFn
  refine wpAnyH_take (i := 8) (v := ?vt85) rfl (by kernel_rfl) (by kernel_rfl) (by kernel_rfl) (fun _ _ _ h => h) (Or.inl ⟨by rfl, ?hyt85⟩) hHeld ?restt85
  case hyt85 => intro w hSw; (try dsimp only at hSw); go_simp; try (with_reducible rfl)
  (try simp only [Act.put, List.setIfInBounds_toArray, List.set_cons_zero, List.set_cons_succ, List.getElem_toArray, List.getElem_cons_zero, List.getElem_cons_succ])
  refine wpAnyH_take (i := 9) (v := ?vt86) rfl (by kernel_rfl) (by kernel_rfl) (by kernel_rfl) (fun _ _ _ h => h) (Or.inl ⟨by rfl, ?hyt86⟩) hHeld ?restt86
  case hyt86 => intro w hSw; (try dsimp only at hSw); go_simp; try (with_reducible rfl)
  (try simp only [Act.put, List.setIfInBounds_toArray, List.set_cons_zero, List.set_cons_succ, List.getElem_toArray, List.getElem_cons_zero, List.getElem_cons_succ])
  refine wpAnyH_take (i := 10) (v := ?vt87) rfl (by kernel_rfl) (by kernel_rfl) (by kernel_rfl) (fun _ _ _ h => h) (Or.inl ⟨by rfl, ?hyt87⟩) hHeld ?restt87
  case hyt87 => intro w hSw; (try dsimp only at hSw); obtain ⟨c0, c1, c2, c3, c4, c5, c6, c7, c8, c9, c10, c11, c12⟩ := (HX.out.fr (HGc.out.trans hSw (fun _ _ h => h)) (fun h => h)).cells; go_simp; try (with_reducible rfl)
  (try simp only [Act.put, List.setIfInBounds_toArray, List.set_cons_zero, List.set_cons_succ, List.getElem_toArray, List.getElem_cons_zero, List.getElem_cons_succ])
  refine wpAnyH_ready (rs := [11]) (by kernel_rfl) (by simp) ?_
  refine AllReadyH.cons rfl (fun Kx hKx => ?_) AllReadyH.nil
  go_simp
  obtain ⟨v5, hwm⟩ : ∃ v, (v4.alloc (.cells #[.int .i64 x.o.obj.c, .string (txt x.o.obj.a), .string (txt x.o.key), .bool x.o.keyed, .int .i64 x.o.elem.c, .string (txt x.o.elem.a), .bool x.o.ins, .int .i64 x.o.act, .int .i64 x.o.val.k, .int .u64 (x.o.val.u : Int), .int .i64 x.o.val.n, .string (txt x.o.val.s), .slice x.A x.o.pr.length x.c] 33)) = v := ⟨_, rfl⟩
  rw [hwm]
  obtain ⟨q11, hqm⟩ : ∃ q, v4.heap.size = q := ⟨_, rfl⟩
  try rw [hqm]
  have HFn : Hid (Fr (fun _ => False) v4 v5) := Lib.hid (by rw [← hwm]; exact ((Fr.refl _ _).alloc _))
  have hbm : Row v5 q11 33 (ols x) := by rw [← hwm, ← hqm]; exact RowO.new v4 x
  have HB11 := Lib.hid hbm
  clear hwm hqm hbm
  have HB1 := Lib.hid (HB1.out.fr HFn.out (fun h => h))
  have HB6 := Lib.hid (HB6.out.fr HFn.out (fun h => h))
  have HGc := Lib.hid (HGc.out.trans HFn.out (fun _ _ h => h))
  refine hKx.out _ _ ?_ (fun hHeld => ?_)
  · exact HFn.out
  clear hKx Kx
  (try simp only [Act.put, List.setIfInBounds_toArray, List.set_cons_zero, List.set_cons_succ, List.getElem_toArray, List.getElem_cons_zero, List.getElem_cons_succ])
  refine wpAnyH_more (fun w' => Fr (fun _ => False) v5 w') (fun _ h => HFn.out.trans h (fun _ _ h => h)) ?_ (fun hHeld => ?_)
  · exact Fr.refl _ _
  clear HFn
  refine wpAnyH_ready (rs := [12]) (by kernel_rfl) (by simp) ?_
  refine AllReadyH.cons rfl (fun Kx hKx => ?_) AllReadyH.nil
  go_simp
  have hcon := HRX.out (v5) HGc.out q11 HB11.out
  with_reducible refine hcon.mono ?_
  clear hcon
  rintro e' v6 ⟨rfl, hff⟩
  have HFn : Hid (Fr (fun _ => False) v5 v6) := Lib.hid (hff)
  clear hff
  have HB1 := Lib.hid (HB1.out.fr HFn.out (fun h => h))
  have HB6 := Lib.hid (HB6.out.fr HFn.out (fun h => h))
  have HB11 := Lib.hid (HB11.out.fr HFn.out (fun h => h))
  have HGc := Lib.hid (HGc.out.trans HFn.out (fun _ _ h => h))
  refine hKx.out _ _ ?_ (fun hHeld => ?_)
  · exact HFn.out
  clear hKx Kx
  (try simp only [Act.put, List.setIfInBounds_toArray, List.set_cons_zero, List.set_cons_succ, List.getElem_toArray, List.getElem_cons_zero, List.getElem_cons_succ])
  refine wpAnyH_more (fun w' => Fr (fun _ => False) v6 w') (fun _ h => HFn.out.trans h (fun _ _ h => h)) ?_ (fun hHeld => ?_)
  · exact Fr.refl _ _
  clear HFn
  refine wpAnyH_take (i := 13) (v := ?vt88) rfl (by kernel_rfl) (by kernel_rfl) (by kernel_rfl) (fun _ _ _ h => h) (Or.inl ⟨by rfl, ?hyt88⟩) hHeld ?restt88
  case hyt88 => intro w hSw; (try dsimp only at hSw); go_simp; try (with_reducible rfl)
  (try simp only [Act.put, List.setIfInBounds_toArray, List.set_cons_zero, List.set_cons_succ, List.getElem_toArray, List.getElem_cons_zero, List.getElem_cons_succ])
  refine wpAnyH_take (i := 14) (v := undef) rfl (by kernel_rfl) (by kernel_rfl) (by kernel_rfl) (fun _ _ _ h => h) (Or.inr ⟨by rfl, rfl⟩) hHeld ?_
  (try simp only [Act.put, List.setIfInBounds_toArray, List.set_cons_zero, List.set_cons_succ, List.getElem_toArray, List.getElem_cons_zero, List.getElem_cons_succ])
  refine wpAnyH_take (i := 15) (v := undef) rfl (by kernel_rfl) (by kernel_rfl) (by kernel_rfl) (fun _ _ _ h => h) (Or.inr ⟨by rfl, rfl⟩) hHeld ?_
  (try simp only [Act.put, List.setIfInBounds_toArray, List.set_cons_zero, List.set_cons_succ, List.getElem_toArray, List.getElem_cons_zero, List.getElem_cons_succ])
  refine wpAnyH_take (i := 16) (v := undef) rfl (by kernel_rfl) (by kernel_rfl) (by kernel_rfl) (fun _ _ _ h => h) (Or.inr ⟨by rfl, rfl⟩) hHeld ?_
  (try simp only [Act.put, List.setIfInBounds_toArray, List.set_cons_zero, List.set_cons_succ, List.getElem_toArray, List.getElem_cons_zero, List.getElem_cons_succ])
  refine wpAnyH_take (i := 17) (v := undef) rfl (by kernel_rfl) (by kernel_rfl) (by kernel_rfl) (fun _ _ _ h => h) (Or.inr ⟨by rfl, rfl⟩) hHeld ?_
  (try simp only [Act.put, List.setIfInBounds_toArray, List.set_cons_zero, List.set_cons_succ, List.getElem_toArray, List.getElem_cons_zero, List.getElem_cons_succ])
  refine wpAnyH_take (i := 18) (v := undef) rfl (by kernel_rfl) (by kernel_rfl) (by kernel_rfl) (fun _ _ _ h => h) (Or.inr ⟨by rfl, rfl⟩) hHeld ?_
  (try simp only [Act.put, List.setIfInBounds_toArray, List.set_cons_zero, List.set_cons_succ, List.getElem_toArray, List.getElem_cons_zero, List.getElem_cons_succ])
  refine wpAnyH_take (i := 19) (v := ?vt94) rfl (by kernel_rfl) (by kernel_rfl) (by kernel_rfl) (fun _ _ _ h => h) (Or.inl ⟨by rfl, ?hyt94⟩) hHeld ?restt94
  case hyt94 => intro w hSw; (try dsimp only at hSw); go_simp; try (with_reducible rfl)
  (try simp only [Act.put, List.setIfInBounds_toArray, List.set_cons_zero, List.set_cons_succ, List.getElem_toArray, List.getElem_cons_zero, List.getElem_cons_succ])
  refine wpAnyH_take (i := 20) (v := ?vt95) rfl (by kernel_rfl) (by kernel_rfl) (by kernel_rfl) (fun _ _ _ h => h) (Or.inl ⟨by rfl, ?hyt95⟩) hHeld ?restt95
  case hyt95 => intro w hSw; (try dsimp only at hSw); go_simp; try (with_reducible rfl)
  (try simp only [Act.put, List.setIfInBounds_toArray, List.set_cons_zero, List.set_cons_succ, List.getElem_toArray, List.getElem_cons_zero, List.getElem_cons_succ])
  refine wpAnyH_take (i := 21) (v := ?vt96) rfl (by kernel_rfl) (by kernel_rfl) (by kernel_rfl) (fun _ _ _ h => h) (Or.inl ⟨by rfl, ?hyt96⟩) hHeld ?restt96
  case hyt96 => intro w hSw; (try dsimp only at hSw); go_simp; try (with_reducible rfl)
  (try simp only [Act.put, List.setIfInBounds_toArray, List.set_cons_zero, List.set_cons_succ, List.getElem_toArray, List.getElem_cons_zero, List.getElem_cons_succ])
  refine wpAnyH_take (i := 22) (v := ?vt97) rfl (by kernel_rfl) (by kernel_rfl) (by kernel_rfl) (fun _ _ _ h => h) (Or.inl ⟨by rfl, ?hyt97⟩) hHeld ?restt97
  case hyt97 => intro w hSw; (try dsimp only at hSw); obtain ⟨c0, c1, c2, c3, c4, c5, c6, c7, c8, c9, c10, c11, c12⟩ := (HX.out.fr (HGc.out.trans hSw (fun _ _ h => h)) (fun h => h)).cells; go_simp; try (with_reducible rfl)
  (try simp only [Act.put, List.setIfInBounds_toArray, List.set_cons_zero, List.set_cons_succ, List.getElem_toArray, List.getElem_cons_zero, List.getElem_cons_succ])
  refine wpAnyH_take (i := 23) (v := ?vt98) rfl (by kernel_rfl) (by kernel_rfl) (by kernel_rfl) (fun _ _ _ h => h) (Or.inl ⟨by rfl, ?hyt98⟩) hHeld ?restt98
  case hyt98 => intro w hSw; (try dsimp only at hSw); obtain ⟨c0, c1, c2, c3, c4, c5, c6, c7, c8, c9, c10, c11, c12⟩ := (HY.out.fr (HGc.out.trans hSw (fun _ _ h => h)) (fun h => h)).cells; go_simp; try (with_reducible rfl)
  (try simp only [Act.put, List.setIfInBounds_toArray, List.set_cons_zero, List.set_cons_succ, List.getElem_toArray, List.getElem_cons_zero, List.getElem_cons_succ])
  refine wpAnyH_take (i := 26) (v := ?vt99) rfl (by kernel_rfl) (by kernel_rfl) (by kernel_rfl) (fun _ _ _ h => h) (Or.inl ⟨by rfl, ?hyt99⟩) hHeld ?restt99
  case hyt99 => intro w hSw; (try dsimp only at hSw); obtain ⟨c0, c1, c2, c3, c4, c5, c6, c7, c8, c9, c10, c11, c12⟩ := (HY.out.fr (HGc.out.trans hSw (fun _ _ h => h)) (fun h => h)).cells; go_simp; try (with_reducible rfl)
  (try simp only [Act.put, List.setIfInBounds_toArray, List.set_cons_zero, List.set_cons_succ, List.getElem_toArray, List.getElem_cons_zero, List.getElem_cons_succ])
  refine wpAnyH_take (i := 27) (v := ?vt100) rfl (by kernel_rfl) (by kernel_rfl) (by kernel_rfl) (fun _ _ _ h => h) (Or.inl ⟨by rfl, ?hyt100⟩) hHeld ?restt100
  case hyt100 => intro w hSw; (try dsimp only at hSw); obtain ⟨c0, c1, c2, c3, c4, c5, c6, c7, c8, c9, c10, c11, c12⟩ := (HX.out.fr (HGc.out.trans hSw (fun _ _ h => h)) (fun h => h)).cells; go_simp; try (with_reducible rfl)
  (try simp only [Act.put, List.setIfInBounds_toArray, List.set_cons_zero, List.set_cons_succ, List.getElem_toArray, List.getElem_cons_zero, List.getElem_cons_succ])
  refine wpAnyH_ready (rs := [24, 28]) (by kernel_rfl) (by simp) ?_
  refine AllReadyH.cons rfl (fun Kx hKx => ?_) ?_
  · go_simp
    obtain ⟨v7, hwm⟩ : ∃ v, (v6.alloc (.cells #[.int .i64 x.o.obj.c, .string (txt x.o.obj.a), .string (txt x.o.key), .bool x.o.keyed, .int .i64 x.o.elem.c, .string (txt x.o.elem.a), .bool x.o.ins, .int .i64 x.o.act, .int .i64 x.o.val.k, .int .u64 (x.o.val.u : Int), .int .i64 x.o.val.n, .string (txt x.o.val.s), .slice x.A x.o.pr.length x.c, .int .i64 y.o.obj.c, .string (txt y.o.obj.a), .string (txt y.o.key), .bool y.o.keyed, .int .i64 y.o.elem.c, .string (txt y.o.elem.a), .bool y.o.ins, .int .i64 y.o.act, .int .i64 y.o.val.k, .int .u64 (y.o.val.u : Int), .int .i64 y.o.val.n, .string (txt y.o.val.s), .slice y.A y.o.pr.length y.c] 33)) = v := ⟨_, rfl⟩
    rw [hwm]
    obtain ⟨q24, hqm⟩ : ∃ q, v6.heap.size = q := ⟨_, rfl⟩
    try rw [hqm]
    have HFn : Hid (Fr (fun _ => False) v6 v7) := Lib.hid (by rw [← hwm]; exact ((Fr.refl _ _).alloc _))
    have hbm : Row v7 q24 33 (ols x ++ ols y) := by rw [← hwm, ← hqm]; exact Row.new v6 _ _
    have HB24 := Lib.hid hbm
    clear hwm hqm hbm
    have HB1 := Lib.hid (HB1.out.fr HFn.out (fun h => h))
    have HB6 := Lib.hid (HB6.out.fr HFn.out (fun h => h))
    have HB11 := Lib.hid (HB11.out.fr HFn.out (fun h => h))
    have HGc := Lib.hid (HGc.out.trans HFn.out (fun _ _ h => h))
    refine hKx.out _ _ ?_ (fun hHeld => ?_)
    · exact HFn.out
    clear hKx Kx
    (try simp only [Act.put, List.setIfInBounds_toArray, List.set_cons_zero, List.set_cons_succ, List.getElem_toArray, List.getElem_cons_zero, List.getElem_cons_succ])
    refine wpAnyH_more (fun w' => Fr (fun _ => False) v7 w') (fun _ h => HFn.out.trans h (fun _ _ h => h)) ?_ (fun hHeld => ?_)
    · exact Fr.refl _ _
    clear HFn
    refine wpAnyH_ready (rs := [25, 28]) (by kernel_rfl) (by simp) ?_
    refine AllReadyH.cons rfl (fun Kx hKx => ?_) ?_
    · go_simp
      have hcon := HXY.out (v7) HGc.out q24 HB24.out
      with_reducible refine hcon.mono ?_
      clear hcon
      rintro e' v8 ⟨rfl, hff⟩
      have HFn : Hid (Fr (fun _ => False) v7 v8) := Lib.hid (hff)
      clear hff
      have HB1 := Lib.hid (HB1.out.fr HFn.out (fun h => h))
      have HB6 := Lib.hid (HB6.out.fr HFn.out (fun h => h))
      have HB11 := Lib.hid (HB11.out.fr HFn.out (fun h => h))
      have HB24 := Lib.hid (HB24.out.fr HFn.out (fun h => h))
      have HGc := Lib.hid (HGc.out.trans HFn.out (fun _ _ h => h))
      refine hKx.out _ _ ?_ (fun hHeld => ?_)
      · exact HFn.out
      clear hKx Kx
      (try simp only [Act.put, List.setIfInBounds_toArray, List.set_cons_zero, List.set_cons_succ, List.getElem_toArray, List.getElem_cons_zero, List.getElem_cons_succ])
      refine wpAnyH_more (fun w' => Fr (fun _ => False) v8 w') (fun _ h => HFn.out.trans h (fun _ _ h => h)) ?_ (fun hHeld => ?_)
      · exact Fr.refl _ _
      clear HFn
      refine wpAnyH_ready (rs := [28]) (by kernel_rfl) (by simp) ?_
      refine AllReadyH.cons rfl (fun Kx hKx => ?_) AllReadyH.nil
      go_simp
      obtain ⟨v9, hwm⟩ : ∃ v, (v8.alloc (.cells #[.int .i64 y.o.obj.c, .string (txt y.o.obj.a), .string (txt y.o.key), .bool y.o.keyed, .int .i64 y.o.elem.c, .string (txt y.o.elem.a), .bool y.o.ins, .int .i64 y.o.act, .int .i64 y.o.val.k, .int .u64 (y.o.val.u : Int), .int .i64 y.o.val.n, .string (txt y.o.val.s), .slice y.A y.o.pr.length y.c, .int .i64 x.o.obj.c, .string (txt x.o.obj.a), .string (txt x.o.key), .bool x.o.keyed, .int .i64 x.o.elem.c, .string (txt x.o.elem.a), .bool x.o.ins, .int .i64 x.o.act, .int .i64 x.o.val.k, .int .u64 (x.o.val.u : Int), .int .i64 x.o.val.n, .string (txt x.o.val.s), .slice x.A x.o.pr.length x.c] 33)) = v := ⟨_, rfl⟩
      rw [hwm]
      obtain ⟨q28, hqm⟩ : ∃ q, v8.heap.size = q := ⟨_, rfl⟩
      try rw [hqm]
      have HFn : Hid (Fr (fun _ => False) v8 v9) := Lib.hid (by rw [← hwm]; exact ((Fr.refl _ _).alloc _))
      have hbm : Row v9 q28 33 (ols y ++ ols x) := by rw [← hwm, ← hqm]; exact Row.new v8 _ _
      have HB28 := Lib.hid hbm
      clear hwm hqm hbm
      have HB1 := Lib.hid (HB1.out.fr HFn.out (fun h => h))
      have HB6 := Lib.hid (HB6.out.fr HFn.out (fun h => h))
      have HB11 := Lib.hid (HB11.out.fr HFn.out (fun h => h))
      have HB24 := Lib.hid (HB24.out.fr HFn.out (fun h => h))
      have HGc := Lib.hid (HGc.out.trans HFn.out (fun _ _ h => h))
      refine hKx.out _ _ ?_ (fun hHeld => ?_)
      · exact HFn.out
      clear hKx Kx
      (try simp only [Act.put, List.setIfInBounds_toArray, List.set_cons_zero, List.set_cons_succ, List.getElem_toArray, List.getElem_cons_zero, List.getElem_cons_succ])
      refine wpAnyH_more (fun w' => Fr (fun _ => False) v9 w') (fun _ h => HFn.out.trans h (fun _ _ h => h)) ?_ (fun hHeld => ?_)
      · exact Fr.refl _ _
      clear HFn
      refine wpAnyH_ready (rs := [29]) (by kernel_rfl) (by simp) ?_
      refine AllReadyH.cons rfl (fun Kx hKx => ?_) AllReadyH.nil
      go_simp
      have hcon := HYX.out (v9) HGc.out q28 HB28.out
      with_reducible refine hcon.mono ?_
      clear hcon
      rintro e' v10 ⟨rfl, hff⟩
      have HFn : Hid (Fr (fun _ => False) v9 v10) := Lib.hid (hff)
      clear hff
      have HB1 := Lib.hid (HB1.out.fr HFn.out (fun h => h))
      have HB6 := Lib.hid (HB6.out.fr HFn.out (fun h => h))
      have HB11 := Lib.hid (HB11.out.fr HFn.out (fun h => h))
      have HB24 := Lib.hid (HB24.out.fr HFn.out (fun h => h))
      have HB28 := Lib.hid (HB28.out.fr HFn.out (fun h => h))
      have HGc := Lib.hid (HGc.out.trans HFn.out (fun _ _ h => h))
      refine hKx.out _ _ ?_ (fun hHeld => ?_)
      · exact HFn.out
      clear hKx Kx
      (try simp only [Act.put, List.setIfInBounds_toArray, List.set_cons_zero, List.set_cons_succ, List.getElem_toArray, List.getElem_cons_zero, List.getElem_cons_succ])
      refine wpAnyH_more (fun w' => Fr (fun _ => False) v10 w') (fun _ h => HFn.out.trans h (fun _ _ h => h)) ?_ (fun hHeld => ?_)
      · exact Fr.refl _ _
      clear HFn
      refine wpAnyH_take (i := 30) (v := ?vt101) rfl (by kernel_rfl) (by kernel_rfl) (by kernel_rfl) (fun _ _ _ h => h) (Or.inl ⟨by rfl, ?hyt101⟩) hHeld ?restt101
      case hyt101 => intro w hSw; (try dsimp only at hSw); go_simp; try (with_reducible rfl)
      (try simp only [Act.put, List.setIfInBounds_toArray, List.set_cons_zero, List.set_cons_succ, List.getElem_toArray, List.getElem_cons_zero, List.getElem_cons_succ])
      refine wpAnyH_take (i := 31) (v := ?vt102) rfl (by kernel_rfl) (by kernel_rfl) (by kernel_rfl) (fun _ _ _ h => h) (Or.inl ⟨by rfl, ?hyt102⟩) hHeld ?restt102
      case hyt102 => intro w hSw; (try dsimp only at hSw); go_simp; try (with_reducible rfl)
      (try simp only [Act.put, List.setIfInBounds_toArray, List.set_cons_zero, List.set_cons_succ, List.getElem_toArray, List.getElem_cons_zero, List.getElem_cons_succ])
      refine wpAnyH_take (i := 32) (v := ?vt103) rfl (by kernel_rfl) (by kernel_rfl) (by kernel_rfl) (fun _ _ _ h => h) (Or.inl ⟨by rfl, ?hyt103⟩) hHeld ?restt103
      case hyt103 => intro w hSw; (try dsimp only at hSw); go_simp; try (with_reducible rfl)
      (try simp only [Act.put, List.setIfInBounds_toArray, List.set_cons_zero, List.set_cons_succ, List.getElem_toArray, List.getElem_cons_zero, List.getElem_cons_succ])
      refine wpAnyH_done (by kernel_rfl) ?_ _
      go_wp2_with fail
      go_ret
      exact ⟨rfl, HF9.out.trans HGc.out (fun _ _ h => h)⟩
    refine AllReadyH.cons rfl (fun Kx hKx => ?_) AllReadyH.nil
    go_simp
    obtain ⟨v8, hwm⟩ : ∃ v, (v7.alloc (.cells #[.int .i64 y.o.obj.c, .string (txt y.o.obj.a), .string (txt y.o.key), .bool y.o.keyed, .int .i64 y.o.elem.c, .string (txt y.o.elem.a), .bool y.o.ins, .int .i64 y.o.act, .int .i64 y.o.val.k, .int .u64 (y.o.val.u : Int), .int .i64 y.o.val.n, .string (txt y.o.val.s), .slice y.A y.o.pr.length y.c, .int .i64 x.o.obj.c, .string (txt x.o.obj.a), .string (txt x.o.key), .bool x.o.keyed, .int .i64 x.o.elem.c, .string (txt x.o.elem.a), .bool x.o.ins, .int .i64 x.o.act, .int .i64 x.o.val.k, .int .u64 (x.o.val.u : Int), .int .i64 x.o.val.n, .string (txt x.o.val.s), .slice x.A x.o.pr.length x.c] 33)) = v := ⟨_, rfl⟩
    rw [hwm]
    obtain ⟨q28, hqm⟩ : ∃ q, v7.heap.size = q := ⟨_, rfl⟩
    try rw [hqm]
    have HFn : Hid (Fr (fun _ => False) v7 v8) := Lib.hid (by rw [← hwm]; exact ((Fr.refl _ _).alloc _))
    have hbm : Row v8 q28 33 (ols y ++ ols x) := by rw [← hwm, ← hqm]; exact Row.new v7 _ _
    have HB28 := Lib.hid hbm
    clear hwm hqm hbm
    have HB1 := Lib.hid (HB1.out.fr HFn.out (fun h => h))
    have HB6 := Lib.hid (HB6.out.fr HFn.out (fun h => h))
    have HB11 := Lib.hid (HB11.out.fr HFn.out (fun h => h))
    have HB24 := Lib.hid (HB24.out.fr HFn.out (fun h => h))
    have HGc := Lib.hid (HGc.out.trans HFn.out (fun _ _ h => h))
    refine hKx.out _ _ ?_ (fun hHeld => ?_)
    · exact HFn.out
    clear hKx Kx
    (try simp only [Act.put, List.setIfInBounds_toArray, List.set_cons_zero, List.set_cons_succ, List.getElem_toArray, List.getElem_cons_zero, List.getElem_cons_succ])
    refine wpAnyH_more (fun w' => Fr (fun _ => False) v8 w') (fun _ h => HFn.out.trans h (fun _ _ h => h)) ?_ (fun hHeld => ?_)
    · exact Fr.refl _ _
    clear HFn
    refine wpAnyH_ready (rs := [25]) (by kernel_rfl) (by simp) ?_
    refine AllReadyH.cons rfl (fun Kx hKx => ?_) AllReadyH.nil
    go_simp
    have hcon := HXY.out (v8) HGc.out q24 HB24.out
    with_reducible refine hcon.mono ?_
    clear hcon
    rintro e' v9 ⟨rfl, hff⟩
    have HFn : Hid (Fr (fun _ => False) v8 v9) := Lib.hid (hff)
    clear hff
    have HB1 := Lib.hid (HB1.out.fr HFn.out (fun h => h))
    have HB6 := Lib.hid (HB6.out.fr HFn.out (fun h => h))
    have HB11 := Lib.hid (HB11.out.fr HFn.out (fun h => h))
    have HB24 := Lib.hid (HB24.out.fr HFn.out (fun h => h))
    have HB28 := Lib.hid (HB28.out.fr HFn.out (fun h => h))
    have HGc := Lib.hid (HGc.out.trans HFn.out (fun _ _ h => h))
    refine hKx.out _ _ ?_ (fun hHeld => ?_)
    · exact HFn.out
    clear hKx Kx
    (try simp only [Act.put, List.setIfInBounds_toArray, List.set_cons_zero, List.set_cons_succ, List.getElem_toArray, List.getElem_cons_zero, List.getElem_cons_succ])
    refine wpAnyH_more (fun w' => Fr (fun _ => False) v9 w') (fun _ h => HFn.out.trans h (fun _ _ h => h)) ?_ (fun hHeld => ?_)
    · exact Fr.refl _ _
    clear HFn
    refine wpAnyH_ready (rs := [29]) (by kernel_rfl) (by simp) ?_
    refine AllReadyH.cons rfl (fun Kx hKx => ?_) AllReadyH.nil
    go_simp
    have hcon := HYX.out (v9) HGc.out q28 HB28.out
    with_reducible refine hcon.mono ?_
    clear hcon
    rintro e' v10 ⟨rfl, hff⟩
    have HFn : Hid (Fr (fun _ => False) v9 v10) := Lib.hid (hff)
    clear hff
    have HB1 := Lib.hid (HB1.out.fr HFn.out (fun h => h))
    have HB6 := Lib.hid (HB6.out.fr HFn.out (fun h => h))
    have HB11 := Lib.hid (HB11.out.fr HFn.out (fun h => h))
    have HB24 := Lib.hid (HB24.out.fr HFn.out (fun h => h))
    have HB28 := Lib.hid (HB28.out.fr HFn.out (fun h => h))
    have HGc := Lib.hid (HGc.out.trans HFn.out (fun _ _ h => h))
    refine hKx.out _ _ ?_ (fun hHeld => ?_)
    · exact HFn.out
    clear hKx Kx
    (try simp only [Act.put, List.setIfInBounds_toArray, List.set_cons_zero, List.set_cons_succ, List.getElem_toArray, List.getElem_cons_zero, List.getElem_cons_succ])
    refine wpAnyH_more (fun w' => Fr (fun _ => False) v10 w') (fun _ h => HFn.out.trans h (fun _ _ h => h)) ?_ (fun hHeld => ?_)
    · exact Fr.refl _ _
    clear HFn
    refine wpAnyH_take (i := 30) (v := ?vt104) rfl (by kernel_rfl) (by kernel_rfl) (by kernel_rfl) (fun _ _ _ h => h) (Or.inl ⟨by rfl, ?hyt104⟩) hHeld ?restt104
    case hyt104 => intro w hSw; (try dsimp only at hSw); go_simp; try (with_reducible rfl)
    (try simp only [Act.put, List.setIfInBounds_toArray, List.set_cons_zero, List.set_cons_succ, List.getElem_toArray, List.getElem_cons_zero, List.getElem_cons_succ])
    refine wpAnyH_take (i := 31) (v := ?vt105) rfl (by kernel_rfl) (by kernel_rfl) (by kernel_rfl) (fun _ _ _ h => h) (Or.inl ⟨by rfl, ?hyt105⟩) hHeld ?restt105
    case hyt105 => intro w hSw; (try dsimp only at hSw); go_simp; try (with_reducible rfl)
    (try simp only [Act.put, List.setIfInBounds_toArray, List.set_cons_zero, List.set_cons_succ, List.getElem_toArray, List.getElem_cons_zero, List.getElem_cons_succ])
    refine wpAnyH_take (i := 32) (v := ?vt106) rfl (by kernel_rfl) (by kernel_rfl) (by kernel_rfl) (fun _ _ _ h => h) (Or.inl ⟨by rfl, ?hyt106⟩) hHeld ?restt106
    case hyt106 => intro w hSw; (try dsimp only at hSw); go_simp; try (with_reducible rfl)
    (try simp only [Act.put, List.setIfInBounds_toArray, List.set_cons_zero, List.set_cons_succ, List.getElem_toArray, List.getElem_cons_zero, List.getElem_cons_succ])
    refine wpAnyH_done (by kernel_rfl) ?_ _
    go_wp2_with fail
    go_ret
    exact ⟨rfl, HF9.out.trans HGc.out (fun _ _ h => h)⟩
  refine AllReadyH.cons rfl (fun Kx hKx => ?_) AllReadyH.nil
  go_simp
  obtain ⟨v7, hwm⟩ : ∃ v, (v6.alloc (.cells #[.int .i64 y.o.obj.c, .string (txt y.o.obj.a), .string (txt y.o.key), .bool y.o.keyed, .int .i64 y.o.elem.c, .string (txt y.o.elem.a), .bool y.o.ins, .int .i64 y.o.act, .int .i64 y.o.val.k, .int .u64 (y.o.val.u : Int), .int .i64 y.o.val.n, .string (txt y.o.val.s), .slice y.A y.o.pr.length y.c, .int .i64 x.o.obj.c, .string (txt x.o.obj.a), .string (txt x.o.key), .bool x.o.keyed, .int .i64 x.o.elem.c, .string (txt x.o.elem.a), .bool x.o.ins, .int .i64 x.o.act, .int .i64 x.o.val.k, .int .u64 (x.o.val.u : Int), .int .i64 x.o.val.n, .string (txt x.o.val.s), .slice x.A x.o.pr.length x.c] 33)) = v := ⟨_, rfl⟩
  rw [hwm]
  obtain ⟨q28, hqm⟩ : ∃ q, v6.heap.size = q := ⟨_, rfl⟩
  try rw [hqm]
  have HFn : Hid (Fr (fun _ => False) v6 v7) := Lib.hid (by rw [← hwm]; exact ((Fr.refl _ _).alloc _))
  have hbm : Row v7 q28 33 (ols y ++ ols x) := by rw [← hwm, ← hqm]; exact Row.new v6 _ _
  have HB28 := Lib.hid hbm
  clear hwm hqm hbm
  have HB1 := Lib.hid (HB1.out.fr HFn.out (fun h => h))
  have HB6 := Lib.hid (HB6.out.fr HFn.out (fun h => h))
  have HB11 := Lib.hid (HB11.out.fr HFn.out (fun h => h))
  have HGc := Lib.hid (HGc.out.trans HFn.out (fun _ _ h => h))
  refine hKx.out _ _ ?_ (fun hHeld => ?_)
  · exact HFn.out
  clear hKx Kx
  (try simp only [Act.put, List.setIfInBounds_toArray, List.set_cons_zero, List.set_cons_succ, List.getElem_toArray, List.getElem_cons_zero, List.getElem_cons_succ])
  refine wpAnyH_more (fun w' => Fr (fun _ => False) v7 w') (fun _ h => HFn.out.trans h (fun _ _ h => h)) ?_ (fun hHeld => ?_)
  · exact Fr.refl _ _
  clear HFn
  refine wpAnyH_ready (rs := [24]) (by kernel_rfl) (by simp) ?_
  refine AllReadyH.cons rfl (fun Kx hKx => ?_) AllReadyH.nil
  go_simp
  obtain ⟨v8, hwm⟩ : ∃ v, (v7.alloc (.cells #[.int .i64 x.o.obj.c, .string (txt x.o.obj.a), .string (txt x.o.key), .bool x.o.keyed, .int .i64 x.o.elem.c, .string (txt x.o.elem.a), .bool x.o.ins, .int .i64 x.o.act, .int .i64 x.o.val.k, .int .u64 (x.o.val.u : Int), .int .i64 x.o.val.n, .string (txt x.o.val.s), .slice x.A x.o.pr.length x.c, .int .i64 y.o.obj.c, .string (txt y.o.obj.a), .string (txt y.o.key), .bool y.o.keyed, .int .i64 y.o.elem.c, .string (txt y.o.elem.a), .bool y.o.ins, .int .i64 y.o.act, .int .i64 y.o.val.k, .int .u64 (y.o.val.u : Int), .int .i64 y.o.val.n, .string (txt y.o.val.s), .slice y.A y.o.pr.length y.c] 33)) = v := ⟨_, rfl⟩
  rw [hwm]
  obtain ⟨q24, hqm⟩ : ∃ q, v7.heap.size = q := ⟨_, rfl⟩
  try rw [hqm]
  have HFn : Hid (Fr (fun _ => False) v7 v8) := Lib.hid (by rw [← hwm]; exact ((Fr.refl _ _).alloc _))
  have hbm : Row v8 q24 33 (ols x ++ ols y) := by rw [← hwm, ← hqm]; exact Row.new v7 _ _
  have HB24 := Lib.hid hbm
  clear hwm hqm hbm
  have HB1 := Lib.hid (HB1.out.fr HFn.out (fun h => h))
  have HB6 := Lib.hid (HB6.out.fr HFn.out (fun h => h))
  have HB11 := Lib.hid (HB11.out.fr HFn.out (fun h => h))
  have HB28 := Lib.hid (HB28.out.fr HFn.out (fun h => h))
  have HGc := Lib.hid (HGc.out.trans HFn.out (fun _ _ h => h))
  refine hKx.out _ _ ?_ (fun hHeld => ?_)
  · exact HFn.out
  clear hKx Kx
  (try simp only [Act.put, List.setIfInBounds_toArray, List.set_cons_zero, List.set_cons_succ, List.getElem_toArray, List.getElem_cons_zero, List.getElem_cons_succ])
  refine wpAnyH_more (fun w' => Fr (fun _ => False) v8 w') (fun _ h => HFn.out.trans h (fun _ _ h => h)) ?_ (fun hHeld => ?_)
  · exact Fr.refl _ _
  clear HFn
  refine wpAnyH_ready (rs := [25]) (by kernel_rfl) (by simp) ?_
  refine AllReadyH.cons rfl (fun Kx hKx => ?_) AllReadyH.nil
  go_simp
  have hcon := HXY.out (v8) HGc.out q24 HB24.out
  with_reducible refine hcon.mono ?_
  clear hcon
  rintro e' v9 ⟨rfl, hff⟩
  have HFn : Hid (Fr (fun _ => False) v8 v9) := Lib.hid (hff)
  clear hff
  have HB1 := Lib.hid (HB1.out.fr HFn.out (fun h => h))
  have HB6 := Lib.hid (HB6.out.fr HFn.out (fun h => h))
  have HB11 := Lib.hid (HB11.out.fr HFn.out (fun h => h))
  have HB28 := Lib.hid (HB28.out.fr HFn.out (fun h => h))
  have HB24 := Lib.hid (HB24.out.fr HFn.out (fun h => h))
  have HGc := Lib.hid (HGc.out.trans HFn.out (fun _ _ h => h))
  refine hKx.out _ _ ?_ (fun hHeld => ?_)
  · exact HFn.out
  clear hKx Kx
  (try simp only [Act.put, List.setIfInBounds_toArray, List.set_cons_zero, List.set_cons_succ, List.getElem_toArray, List.getElem_cons_zero, List.getElem_cons_succ])
  refine wpAnyH_more (fun w' => Fr (fun _ => False) v9 w') (fun _ h => HFn.out.trans h (fun _ _ h => h)) ?_ (fun hHeld => ?_)
  · exact Fr.refl _ _
  clear HFn
  refine wpAnyH_ready (rs := [29]) (by kernel_rfl) (by simp) ?_
  refine AllReadyH.cons rfl (fun Kx hKx => ?_) AllReadyH.nil
  go_simp
  have hcon := HYX.out (v9) HGc.out q28 HB28.out
  with_reducible refine hcon.mono ?_
  clear hcon
  rintro e' v10 ⟨rfl, hff⟩
  have HFn : Hid (Fr (fun _ => False) v9 v10) := Lib.hid (hff)
  clear hff
  have HB1 := Lib.hid (HB1.out.fr HFn.out (fun h => h))
  have HB6 := Lib.hid (HB6.out.fr HFn.out (fun h => h))
  have HB11 := Lib.hid (HB11.out.fr HFn.out (fun h => h))
  have HB28 := Lib.hid (HB28.out.fr HFn.out (fun h => h))
  have HB24 := Lib.hid (HB24.out.fr HFn.out (fun h => h))
  have HGc := Lib.hid (HGc.out.trans HFn.out (fun _ _ h => h))
  refine hKx.out _ _ ?_ (fun hHeld => ?_)
  · exact HFn.out
  clear hKx Kx
  (try simp only [Act.put, List.setIfInBounds_toArray, List.set_cons_zero, List.set_cons_succ, List.getElem_toArray, List.getElem_cons_zero, List.getElem_cons_succ])
  refine wpAnyH_more (fun w' => Fr (fun _ => False) v10 w') (fun _ h => HFn.out.trans h (fun _ _ h => h)) ?_ (fun hHeld => ?_)
  · exact Fr.refl _ _
  clear HFn
  refine wpAnyH_take (i := 30) (v := ?vt107) rfl (by kernel_rfl) (by kernel_rfl) (by kernel_rfl) (fun _ _ _ h => h) (Or.inl ⟨by rfl, ?hyt107⟩) hHeld ?restt107
  case hyt107 => intro w hSw; (try dsimp only at hSw); go_simp; try (with_reducible rfl)
  (try simp only [Act.put, List.setIfInBounds_toArray, List.set_cons_zero, List.set_cons_succ, List.getElem_toArray, List.getElem_cons_zero, List.getElem_cons_succ])
  refine wpAnyH_take (i := 31) (v := ?vt108) rfl (by kernel_rfl) (by kernel_rfl) (by kernel_rfl) (fun _ _ _ h => h) (Or.inl ⟨by rfl, ?hyt108⟩) hHeld ?restt108
  case hyt108 => intro w hSw; (try dsimp only at hSw); go_simp; try (with_reducible rfl)
  (try simp only [Act.put, List.setIfInBounds_toArray, List.set_cons_zero, List.set_cons_succ, List.getElem_toArray, List.getElem_cons_zero, List.getElem_cons_succ])
  refine wpAnyH_take (i := 32) (v := ?vt109) rfl (by kernel_rfl) (by kernel_rfl) (by kernel_rfl) (fun _ _ _ h => h) (Or.inl ⟨by rfl, ?hyt109⟩) hHeld ?restt109
  case hyt109 => intro w hSw; (try dsimp only at hSw); go_simp; try (with_reducible rfl)
  (try simp only [Act.put, List.setIfInBounds_toArray, List.set_cons_zero, List.set_cons_succ, List.getElem_toArray, List.getElem_cons_zero, List.getElem_cons_succ])
  refine wpAnyH_done (by kernel_rfl) ?_ _
  go_wp2_with fail
  go_ret
  exact ⟨rfl, HF9.out.trans HGc.out (fun _ _ h => h)⟩
set_option maxRecDepth 100000 in
set_option maxHeartbeats 12800000 in
theorem opfewer_not (x y : Om) (n : Nat) (w : World) (hn : n < 256) (hx : Prd w x) (hy : Prd w y) (lx : x.lens) (ly : y.lens) (vx : x.o.val.ok) (vy : y.o.val.ok) (hb2 : fewB [x, y] = true) (hq : rightO x.o = false) :
    Calls Try.prog 8 #[opc x, opc y, .int .u8 (n : Int)] w fun e w' => e = .returned (.bool true) ∧ Fr (fun _ => False) w w' := by
  have HQ := Lib.hid hq
  clear hq
  obtain ⟨g, w1, hg, hw1, hr1, hf1⟩ := new_ols w x
  obtain ⟨g2, w2, hg2, hw2, hr2, hf2⟩ := new_ols w1 y
  have HX2 := Lib.hid (hr1.fr hf2 (fun h => h))
  have HY2 := Lib.hid hr2
  have HF2 := Lib.hid (hf1.trans hf2 (fun _ _ h => h))
  have haw := fun w' => awake17_any w'
  have hfw2 := fun w' (hf : Fr (fun _ => False) w w') => rfew2 x y w' rfl (hx.fr0 hf) (hy.fr0 hf) lx ly
  simp only [hb2] at hfw2
  have HAW := Lib.hid haw
  have HFW2 := Lib.hid hfw2
  have HPX := Lib.hid hx
  have HPY := Lib.hid hy
  unfold opc
  have hsx := few_short hb2 x (List.mem_cons_self ..)
  have hsy := few_short hb2 y (List.mem_cons_of_mem _ (List.mem_cons_self ..))
  obtain ⟨lp, hlp⟩ : ∃ l, x.o.pr.length = l := ⟨_, rfl⟩
  have hl40 : lp ≤ 40 := by rw [← hlp]; exact hsx.2
  have HLP := Lib.hid hlp
  have HSX := Lib.hid hsx.1
  have HSY := Lib.hid hsy.1
  have HVX := Lib.hid vx
  have HVY := Lib.hid vy
  clear haw hfw2 hb2 hx hy lx ly vx vy hr1 hr2 hf1 hf2 hsx hsy hlp
  go_enter Try.func8, Try.ntmps8
  go_wp2_with fail
  clear hw1 hw2 hg hg2
  refine (HAW.out _).mono ?_
  rintro e w3 ⟨rfl, hf⟩
  have HF3 := Lib.hid (HF2.out.trans hf (fun _ _ h => h))
  have HX3 := Lib.hid (HX2.out.fr hf (fun h => h))
  have HY3 := Lib.hid (HY2.out.fr hf (fun h => h))
  obtain ⟨c0, c1, c2, c3, c4, c5, c6, c7, c8, c9, c10, c11, c12⟩ := HX3.out.cells
  obtain ⟨d0, d1, d2, d3, d4, d5, d6, d7, d8, d9, d10, d11, d12⟩ := HY3.out.cells
  clear hf
  go_wp2_with fail
  refine (HFW2.out _ HF3.out).mono ?_
  rintro e w5 ⟨rfl, hf⟩
  have HF5 := Lib.hid (HF3.out.trans hf (fun _ _ h => h))
  have HX5 := Lib.hid (HX3.out.fr hf (fun h => h))
  have HY5 := Lib.hid (HY3.out.fr hf (fun h => h))
  clear hf c0 c1 c2 c3 c4 c5 c6 c7 c8 c9 c10 c11 c12 d0 d1 d2 d3 d4 d5 d6 d7 d8 d9 d10 d11 d12
  obtain ⟨g7, w6, hg7, hw6, hr6, hf6⟩ := new_zero w5
  obtain ⟨c0, c1, c2, c3, c4, c5, c6, c7, c8, c9, c10, c11, c12⟩ := HX5.out.cells
  have HGG : Hid (w.heap.size ≤ g7 ∧ g ≠ g7 ∧ g2 ≠ g7) := Lib.hid (by have h1 := HF5.out.size; have h2 := HX5.out.lt; have h3 := HY5.out.lt; omega)
  have HX6 := Lib.hid (HX5.out.fr hf6 (fun h => h))
  have HY6 := Lib.hid (HY5.out.fr hf6 (fun h => h))
  have HZ6 := Lib.hid hr6
  have HF6 := Lib.hid (HF5.out.trans hf6 (fun _ _ h => h))
  clear hr6 hf6
  go_wp2_with (refine store_st oSz rfl (.tmp 7) (.tmp 18) rfl g7 (by rfl) (ols x) (by rfl) _ _ HZ6.out rfl rfl (o_one _) ?_)
  intro w7 hr7 hf7
  have HZ7 : Hid (RowO w7 g7 x) := Lib.hid hr7
  have HX7 := Lib.hid (HX6.out.fr hf7 HGG.out.2.1)
  have HY7 := Lib.hid (HY6.out.fr hf7 HGG.out.2.2)
  have HF7 := Lib.hid (HF6.out.trans hf7 (fun b hb h => by have := HGG.out.1; omega))
  clear hr7 hf7 hw6 hg7 c0 c1 c2 c3 c4 c5 c6 c7 c8 c9 c10 c11 c12
  obtain ⟨c0, c1, c2, c3, c4, c5, c6, c7, c8, c9, c10, c11, c12⟩ := HX7.out.cells
  rw [HLP.out] at c12
  go_upto_if 22 with fail
  go_cut [7] (fun v wx => v = .pointer (some ⟨g7, 0, none⟩) ∧ ∃ z : Om, RowO wx g7 z ∧ RowO wx g x ∧ RowO wx g2 y ∧ Fr (fun _ => False) w wx ∧ z.short ∧ z.o.val.ok ∧ Prd w z ∧ (rightO x.o = true → rightO z.o = true))
  case first =>
    by_cases h0 : 0 < lp
    · have t0 : decide ((0 : Int) < (lp : Int)) = true := decide_eq_true (by omega)
      have t0' : decide (0 < lp) = true := decide_eq_true h0
      obtain ⟨k, hk⟩ : ∃ k, k = n % lp := ⟨_, rfl⟩
      have hkl : k < lp := by rw [hk]; exact Nat.mod_lt _ h0
      have t1 : Int.tmod (n : Int) (lp : Int) = (k : Int) := by rw [hk]; exact Int.ofNat_tmod n lp
      have t2 : ((lp : Int) == 0) = false := by simp; omega
      have t3 : IntKind.i64.wrap (n : Int) = (n : Int) := by rw [IntKind.wrap_i64]; omega
      have t4 : IntKind.i64.wrap (k : Int) = (k : Int) := by rw [IntKind.wrap_i64]; omega
      have t5 : ¬ lp = 0 := by omega
      have hlc : lp ≤ x.c := by rw [← HLP.out]; exact HPX.out.2.1
      have hcut := fun w' => run_toN x.A lp x.c k (by omega) hlc _ rfl w'
      have fz : ∀ q, (w7.drewN q).frozen? ⟨g7, 12, none⟩ = false := fun q => Row.free HZ7.out 12
      have fz' : w7.frozen? ⟨g7, 12, none⟩ = false := Row.free HZ7.out 12
      have HKL := Lib.hid hkl
      clear hk hlc
      go_upto_region 5 with fail
      go_still_tail 10, (by kernel_rfl)
      change wpList _ _ _ _ _ w7.drew
      obtain ⟨v1, hv1⟩ : ∃ v, (w7.drew).setCell ⟨g7, 12, none⟩ (.slice x.A k x.c) = v := ⟨_, rfl⟩
      obtain ⟨z, hz⟩ : ∃ z : Om, z = ⟨⟨x.o.obj, x.o.key, x.o.keyed, x.o.elem, x.o.ins, x.o.act, x.o.val, x.o.pr.take k⟩, x.A, x.c⟩ := ⟨_, rfl⟩
      have hzl : (x.o.pr.take k).length = k := by rw [List.length_take]; have := HLP.out; omega
      have hd : RowO w7.drew g7 x := HZ7.out
      have fd : (w7.drew).frozen? ⟨g7, 12, none⟩ = false := Row.free hd 12
      have ed : (w7.drew).cell? ⟨g7, 12, none⟩ = some (.slice x.A x.o.pr.length x.c) := Row.cell hd rfl
      have hs := Row.set hd 12 (.slice x.A k x.c)
      rw [hv1] at hs
      have hz1 : RowO v1 g7 z := by
        rw [hz]
        unfold RowO ols
        simp only [hzl]
        exact hs
      have hff : Fr (fun b => b = g7) w7 v1 := by rw [← hv1]; exact (Fr.refl _ _).drew.trans (Fr.set1 _ _ _ _) (fun _ _ h => h)
      have HZ8 := Lib.hid hz1
      have HX8 := Lib.hid (HX7.out.fr hff HGG.out.2.1)
      have HY8 := Lib.hid (HY7.out.fr hff HGG.out.2.2)
      have HF8 := Lib.hid (HF7.out.trans hff (fun b hb h => by have := HGG.out.1; omega))
      have HPZ : Hid (z.short ∧ z.o.val.ok ∧ Prd w z ∧ (rightO x.o = true → rightO z.o = true)) := Lib.hid (by
        obtain ⟨s1, s2, s3, s4, s5, s6⟩ := HSX.out
        have hp := HPX.out
        rw [hz]
        refine ⟨⟨s1, s2, s3, s4, by show (x.o.pr.take k).length ≤ _; rw [hzl]; omega, fun u hu => s6 u (List.mem_of_mem_take hu)⟩, HVX.out, ⟨?_, ?_, hp.2.2⟩, fun h => right_fewer h k⟩
        · show Nms w x.A (x.o.pr.take k).length (x.o.pr.take k)
          rw [hzl]
          exact nms_take hp.1 (by have := HLP.out; omega)
        · show (x.o.pr.take k).length ≤ x.c
          rw [hzl]
          have := hp.2.1
          have := HLP.out
          omega)
      clear hs hz1 hff hz hzl hd t1 t2 t3 t4 t5 hcut fz fz'
      go_wp2_with fail
      go_meet
      exact ⟨rfl, z, HZ8.out, HX8.out, HY8.out, HF8.out, HPZ.out.1, HPZ.out.2.1, HPZ.out.2.2.1, HPZ.out.2.2.2⟩
    · have t0 : decide ((0 : Int) < (lp : Int)) = false := decide_eq_false (by omega)
      have t0' : decide (0 < lp) = false := decide_eq_false h0
      go_wp2_with fail
      go_meet
      exact ⟨rfl, x, HZ7.out, HX7.out, HY7.out, HF7.out, HSX.out, HVX.out, HPX.out, fun h => h⟩
  case rest =>
  clear c0 c1 c2 c3 c4 c5 c6 c7 c8 c9 c10 c11 c12
  obtain ⟨rfl, z, hz, hx, hy, hf, hzs, hzv, hzp, hxz⟩ := hcut
  rename World => w9
  have HX := Lib.hid hx
  have HY := Lib.hid hy
  have HZ := Lib.hid hz
  have HF9 := Lib.hid hf
  have hq := HQ.out
  obtain ⟨q2, hq2⟩ : ∃ q, rightO y.o = q := ⟨_, rfl⟩
  obtain ⟨q3, hq3⟩ : ∃ q, rightO z.o = q := ⟨_, rfl⟩
  have hr1 := fun {u : Om} (hs : u.short) (hv : u.o.val.ok) (hp : Prd w u) (w' : World) (hf' : Fr (fun _ => False) w9 w') (qq : Nat) (hB : Row w' qq 33 (ols u)) => oRight_any (some ⟨qq, 0, none⟩) 1 1 [u] w' (ops1 hB (hp.fr0 (hf.trans hf' (fun _ _ h => h)))) (by omega) (fun v hv' => by rw [List.mem_singleton.1 hv']; exact ⟨hs, hv⟩)
  have hr2 := fun {u v : Om} (hs : u.short) (hv : u.o.val.ok) (hp : Prd w u) (hs2 : v.short) (hv2 : v.o.val.ok) (hp2 : Prd w v) (w' : World) (hf' : Fr (fun _ => False) w9 w') (qq : Nat) (hB : Row w' qq 33 (ols u ++ ols v)) => oRight_any (some ⟨qq, 0, none⟩) 2 2 [u, v] w' (ops2 hB (hp.fr0 (hf.trans hf' (fun _ _ h => h))) (hp2.fr0 (hf.trans hf' (fun _ _ h => h)))) (by omega) (fun t ht => by
    rcases List.mem_cons.1 ht with rfl | ht
    · exact ⟨hs, hv⟩
    · rw [List.mem_singleton.1 ht]; exact ⟨hs2, hv2⟩)
  have hrx := hr1 HSX.out HVX.out HPX.out
  have hrz := hr1 hzs hzv hzp
  have hxy := hr2 HSX.out HVX.out HPX.out HSY.out HVY.out HPY.out
  have hyx := hr2 HSY.out HVY.out HPY.out HSX.out HVX.out HPX.out
  simp only [rightsB, List.all_cons, List.all_nil, Bool.and_true, Bool.false_and, Bool.and_false, hq, hq2, hq3] at hrx hrz hxy hyx
  rw [hq, hq3] at hxz
  have HRX := Lib.hid hrx
  have HRZ := Lib.hid hrz
  have HXY := Lib.hid hxy
  have HYX := Lib.hid hyx
  clear hz hx hy hf hzs hzv hzp hr1 hr2 hrx hrz hxy hyx hq hq2 hq3 HX7 HY7 HZ7 HF7 HX6 HY6 HZ6 HF6
  clear hxz
  go_upto_region 6 with fail
  have HGc : Hid (Fr (fun _ => False) w9 w9) := Lib.hid (Fr.refl _ _)
  refine wp_region_held_drew (S := fun w' => Fr (fun _ => False) w9 w') (by kernel_rfl) ?_ (fun hHeld => ?_)
  · exact (Fr.refl _ _).drew
  refine wpAnyH_take (i := 0) (v := ?vt110) rfl (by kernel_rfl) (by kernel_rfl) (by kernel_rfl) (fun _ _ _ h => h) (Or.inl ⟨by rfl, ?hyt110⟩) hHeld ?restt110
  case hyt110 => intro w hSw; (try dsimp only at hSw); obtain ⟨c0, c1, c2, c3, c4, c5, c6, c7, c8, c9, c10, c11, c12⟩ := (HX.out.fr (HGc.out.trans hSw (fun _ _ h => h)) (fun h => h)).cells; go_simp; try (with_reducible rfl)
  (try simp only [Act.put, List.setIfInBounds_toArray, List.set_cons_zero, List.set_cons_succ, List.getElem_toArray, List.getElem_cons_zero])
  refine wpAnyH_ready (rs := [1]) (by kernel_rfl) (by simp) ?_
  refine AllReadyH.cons rfl (fun Kx hKx => ?_) AllReadyH.nil
  go_simp
  obtain ⟨v1, hwm⟩ : ∃ v, (w9.alloc (.cells #[.int .i64 x.o.obj.c, .string (txt x.o.obj.a), .string (txt x.o.key), .bool x.o.keyed, .int .i64 x.o.elem.c, .string (txt x.o.elem.a), .bool x.o.ins, .int .i64 x.o.act, .int .i64 x.o.val.k, .int .u64 (x.o.val.u : Int), .int .i64 x.o.val.n, .string (txt x.o.val.s), .slice x.A x.o.pr.length x.c] 33)).drew = v := ⟨_, rfl⟩
  rw [hwm]
  obtain ⟨q1, hqm⟩ : ∃ q, w9.heap.size = q := ⟨_, rfl⟩
  try rw [hqm]
  have HFn : Hid (Fr (fun _ => False) w9 v1) := Lib.hid (by rw [← hwm]; exact ((Fr.refl _ _).alloc _).drew)
  have hbm : Row v1 q1 33 (ols x) := by rw [← hwm, ← hqm]; exact RowO.new w9 x
  have HB1 := Lib.hid hbm
  clear hwm hqm hbm
  have HGc := Lib.hid (HGc.out.trans HFn.out (fun _ _ h => h))
  refine hKx.out _ _ ?_ (fun hHeld => ?_)
  · exact HFn.out
  clear hKx Kx
  (try simp only [Act.put, List.setIfInBounds_toArray, List.set_cons_zero, List.set_cons_succ, List.getElem_toArray, List.getElem_cons_zero, List.getElem_cons_succ])
  refine wpAnyH_more (fun w' => Fr (fun _ => False) v1 w') (fun _ h => HFn.out.trans h (fun _ _ h => h)) ?_ (fun hHeld => ?_)
  · exact Fr.refl _ _
  clear HFn
  refine wpAnyH_ready (rs := [2]) (by kernel_rfl) (by simp) ?_
  refine AllReadyH.cons rfl (fun Kx hKx => ?_) AllReadyH.nil
  go_simp
  have hcon := HRX.out (v1) HGc.out q1 HB1.out
  with_reducible refine hcon.mono ?_
  clear hcon
  rintro e' v2 ⟨rfl, hff⟩
  have HFn : Hid (Fr (fun _ => False) v1 v2) := Lib.hid (hff)
  clear hff
  have HB1 := Lib.hid (HB1.out.fr HFn.out (fun h => h))
  have HGc := Lib.hid (HGc.out.trans HFn.out (fun _ _ h => h))
  refine hKx.out _ _ ?_ (fun hHeld => ?_)
  · exact HFn.out
  clear hKx Kx
  (try simp only [Act.put, List.setIfInBounds_toArray, List.set_cons_zero, List.set_cons_succ, List.getElem_toArray, List.getElem_cons_zero, List.getElem_cons_succ])
  refine wpAnyH_more (fun w' => Fr (fun _ => False) v2 w') (fun _ h => HFn.out.trans h (fun _ _ h => h)) ?_ (fun hHeld => ?_)
  · exact Fr.refl _ _
  clear HFn
  refine wpAnyH_take (i := 3) (v := ?vt111) rfl (by kernel_rfl) (by kernel_rfl) (by kernel_rfl) (fun _ _ _ h => h) (Or.inl ⟨by rfl, ?hyt111⟩) hHeld ?restt111
  case hyt111 => intro w hSw; (try dsimp only at hSw); go_simp; try (with_reducible rfl)
  (try simp only [Act.put, List.setIfInBounds_toArray, List.set_cons_zero, List.set_cons_succ, List.getElem_toArray, List.getElem_cons_zero, List.getElem_cons_succ])
  refine wpAnyH_take (i := 4) (v := ?vt112) rfl (by kernel_rfl) (by kernel_rfl) (by kernel_rfl) (fun _ _ _ h => h) (Or.inl ⟨by rfl, ?hyt112⟩) hHeld ?restt112
  case hyt112 => intro w hSw; (try dsimp only at hSw); go_simp; try (with_reducible rfl)
  (try simp only [Act.put, List.setIfInBounds_toArray, List.set_cons_zero, List.set_cons_succ, List.getElem_toArray, List.getElem_cons_zero, List.getElem_cons_succ])
  refine wpAnyH_take (i := 5) (v := undef) rfl (by kernel_rfl) (by kernel_rfl) (by kernel_rfl) (fun _ _ _ h => h) (Or.inr ⟨by rfl, rfl⟩) hHeld ?_
  (try simp only [Act.put, List.setIfInBounds_toArray, List.set_cons_zero, List.set_cons_succ, List.getElem_toArray, List.getElem_cons_zero, List.getElem_cons_succ])
  refine wpAnyH_take (i := 6) (v := undef) rfl (by kernel_rfl) (by kernel_rfl) (by kernel_rfl) (fun _ _ _ h => h) (Or.inr ⟨by rfl, rfl⟩) hHeld ?_
  (try simp only [Act.put, List.setIfInBounds_toArray, List.set_cons_zero, List.set_cons_succ, List.getElem_toArray, List.getElem_cons_zero, List.getElem_cons_succ])
  refine wpAnyH_take (i := 7) (v := undef) rfl (by kernel_rfl) (by kernel_rfl) (by kernel_rfl) (fun _ _ _ h => h) (Or.inr ⟨by rfl, rfl⟩) hHeld ?_
  (try simp only [Act.put, List.setIfInBounds_toArray, List.set_cons_zero, List.set_cons_succ, List.getElem_toArray, List.getElem_cons_zero, List.getElem_cons_succ])
  refine wpAnyH_take (i := 8) (v := ?vt116) rfl (by kernel_rfl) (by kernel_rfl) (by kernel_rfl) (fun _ _ _ h => h) (Or.inl ⟨by rfl, ?hyt116⟩) hHeld ?restt116
  case hyt116 => intro w hSw; (try dsimp only at hSw); go_simp; try (with_reducible rfl)
  (try simp only [Act.put, List.setIfInBounds_toArray, List.set_cons_zero, List.set_cons_succ, List.getElem_toArray, List.getElem_cons_zero, List.getElem_cons_succ])
  refine wpAnyH_take (i := 9) (v := ?vt117) rfl (by kernel_rfl) (by kernel_rfl) (by kernel_rfl) (fun _ _ _ h => h) (Or.inl ⟨by rfl, ?hyt117⟩) hHeld ?restt117
  case hyt117 => intro w hSw; (try dsimp only at hSw); go_simp; try (with_reducible rfl)
  (try simp only [Act.put, List.setIfInBounds_toArray, List.set_cons_zero, List.set_cons_succ, List.getElem_toArray, List.getElem_cons_zero, List.getElem_cons_succ])
  refine wpAnyH_take (i := 10) (v := ?vt118) rfl (by kernel_rfl) (by kernel_rfl) (by kernel_rfl) (fun _ _ _ h => h) (Or.inl ⟨by rfl, ?hyt118⟩) hHeld ?restt118
  case hyt118 => intro w hSw; (try dsimp only at hSw); obtain ⟨c0, c1, c2, c3, c4, c5, c6, c7, c8, c9, c10, c11, c12⟩ := (HX.out.fr (HGc.out.trans hSw (fun _ _ h => h)) (fun h => h)).cells; go_simp; try (with_reducible rfl)
  (try simp only [Act.put, List.setIfInBounds_toArray, List.set_cons_zero, List.set_cons_succ, List.getElem_toArray, List.getElem_cons_zero, List.getElem_cons_succ])
  refine wpAnyH_ready (rs := [11]) (by kernel_rfl) (by simp) ?_
  refine AllReadyH.cons rfl (fun Kx hKx => ?_) AllReadyH.nil
  go_simp
  obtain ⟨v3, hwm⟩ : ∃ v, (v2.alloc (.cells #[.int .i64 x.o.obj.c, .string (txt x.o.obj.a), .string (txt x.o.key), .bool x.o.keyed, .int .i64 x.o.elem.c, .string (txt x.o.elem.a), .bool x.o.ins, .int .i64 x.o.act, .int .i64 x.o.val.k, .int .u64 (x.o.val.u : Int), .int .i64 x.o.val.n, .string (txt x.o.val.s), .slice x.A x.o.pr.length x.c] 33)) = v := ⟨_, rfl⟩
  rw [hwm]
  obtain ⟨q11, hqm⟩ : ∃ q, v2.heap.size = q := ⟨_, rfl⟩
  try rw [hqm]
  have HFn : Hid (Fr (fun _ => False) v2 v3) := Lib.hid (by rw [← hwm]; exact ((Fr.refl _ _).alloc _))
  have hbm : Row v3 q11 33 (ols x) := by rw [← hwm, ← hqm]; exact RowO.new v2 x
  have HB11 := Lib.hid hbm
  clear hwm hqm hbm
  have HB1 := Lib.hid (HB1.out.fr HFn.out (fun h => h))
  have HGc := Lib.hid (HGc.out.trans HFn.out (fun _ _ h => h))
  refine hKx.out _ _ ?_ (fun hHeld => ?_)
  · exact HFn.out
  clear hKx Kx
  (try simp only [Act.put, List.setIfInBounds_toArray, List.set_cons_zero, List.set_cons_succ, List.getElem_toArray, List.getElem_cons_zero, List.getElem_cons_succ])
  refine wpAnyH_more (fun w' => Fr (fun _ => False) v3 w') (fun _ h => HFn.out.trans h (fun _ _ h => h)) ?_ (fun hHeld => ?_)
  · exact Fr.refl _ _
  clear HFn
  refine wpAnyH_ready (rs := [12]) (by kernel_rfl) (by simp) ?_
  refine AllReadyH.cons rfl (fun Kx hKx => ?_) AllReadyH.nil
  go_simp
  have hcon := HRX.out (v3) HGc.out q11 HB11.out
  with_reducible refine hcon.mono ?_
  clear hcon
  rintro e' v4 ⟨rfl, hff⟩
  have HFn : Hid (Fr (fun _ => False) v3 v4) := Lib.hid (hff)
  clear hff
  have HB1 := Lib.hid (HB1.out.fr HFn.out (fun h => h))
  have HB11 := Lib.hid (HB11.out.fr HFn.out (fun h => h))
  have HGc := Lib.hid (HGc.out.trans HFn.out (fun _ _ h => h))
  refine hKx.out _ _ ?_ (fun hHeld => ?_)
  · exact HFn.out
  clear hKx Kx
  (try simp only [Act.put, List.setIfInBounds_toArray, List.set_cons_zero, List.set_cons_succ, List.getElem_toArray, List.getElem_cons_zero, List.getElem_cons_succ])
  refine wpAnyH_more (fun w' => Fr (fun _ => False) v4 w') (fun _ h => HFn.out.trans h (fun _ _ h => h)) ?_ (fun hHeld => ?_)
  · exact Fr.refl _ _
  clear HFn
  refine wpAnyH_take (i := 13) (v := ?vt119) rfl (by kernel_rfl) (by kernel_rfl) (by kernel_rfl) (fun _ _ _ h => h) (Or.inl ⟨by rfl, ?hyt119⟩) hHeld ?restt119
  case hyt119 => intro w hSw; (try dsimp only at hSw); go_simp; try (with_reducible rfl)
  (try simp only [Act.put, List.setIfInBounds_toArray, List.set_cons_zero, List.set_cons_succ, List.getElem_toArray, List.getElem_cons_zero, List.getElem_cons_succ])
  refine wpAnyH_take (i := 14) (v := ?vt120) rfl (by kernel_rfl) (by kernel_rfl) (by kernel_rfl) (fun _ _ _ h => h) (Or.inl ⟨by rfl, ?hyt120⟩) hHeld ?restt120
  case hyt120 => intro w hSw; (try dsimp only at hSw); obtain ⟨c0, c1, c2, c3, c4, c5, c6, c7, c8, c9, c10, c11, c12⟩ := (HY.out.fr (HGc.out.trans hSw (fun _ _ h => h)) (fun h => h)).cells; go_simp; try (with_reducible rfl)
  (try simp only [Act.put, List.setIfInBounds_toArray, List.set_cons_zero, List.set_cons_succ, List.getElem_toArray, List.getElem_cons_zero, List.getElem_cons_succ])
  refine wpAnyH_take (i := 15) (v := ?vt121) rfl (by kernel_rfl) (by kernel_rfl) (by kernel_rfl) (fun _ _ _ h => h) (Or.inl ⟨by rfl, ?hyt121⟩) hHeld ?restt121
  case hyt121 => intro w hSw; (try dsimp only at hSw); obtain ⟨c0, c1, c2, c3, c4, c5, c6, c7, c8, c9, c10, c11, c12⟩ := (HX.out.fr (HGc.out.trans hSw (fun _ _ h => h)) (fun h => h)).cells; go_simp; try (with_reducible rfl)
  (try simp only [Act.put, List.setIfInBounds_toArray, List.set_cons_zero, List.set_cons_succ, List.getElem_toArray, List.getElem_cons_zero, List.getElem_cons_succ])
  refine wpAnyH_ready (rs := [16]) (by kernel_rfl) (by simp) ?_
  refine AllReadyH.cons rfl (fun Kx hKx => ?_) AllReadyH.nil
  go_simp
  obtain ⟨v5, hwm⟩ : ∃ v, (v4.alloc (.cells #[.int .i64 y.o.obj.c, .string (txt y.o.obj.a), .string (txt y.o.key), .bool y.o.keyed, .int .i64 y.o.elem.c, .string (txt y.o.elem.a), .bool y.o.ins, .int .i64 y.o.act, .int .i64 y.o.val.k, .int .u64 (y.o.val.u : Int), .int .i64 y.o.val.n, .string (txt y.o.val.s), .slice y.A y.o.pr.length y.c, .int .i64 x.o.obj.c, .string (txt x.o.obj.a), .string (txt x.o.key), .bool x.o.keyed, .int .i64 x.o.elem.c, .string (txt x.o.elem.a), .bool x.o.ins, .int .i64 x.o.act, .int .i64 x.o.val.k, .int .u64 (x.o.val.u : Int), .int .i64 x.o.val.n, .string (txt x.o.val.s), .slice x.A x.o.pr.length x.c] 33)) = v := ⟨_, rfl⟩
  rw [hwm]
  obtain ⟨q16, hqm⟩ : ∃ q, v4.heap.size = q := ⟨_, rfl⟩
  try rw [hqm]
  have HFn : Hid (Fr (fun _ => False) v4 v5) := Lib.hid (by rw [← hwm]; exact ((Fr.refl _ _).alloc _))
  have hbm : Row v5 q16 33 (ols y ++ ols x) := by rw [← hwm, ← hqm]; exact Row.new v4 _ _
  have HB16 := Lib.hid hbm
  clear hwm hqm hbm
  have HB1 := Lib.hid (HB1.out.fr HFn.out (fun h => h))
  have HB11 := Lib.hid (HB11.out.fr HFn.out (fun h => h))
  have HGc := Lib.hid (HGc.out.trans HFn.out (fun _ _ h => h))
  refine hKx.out _ _ ?_ (fun hHeld => ?_)
  · exact HFn.out
  clear hKx Kx
  (try simp only [Act.put, List.setIfInBounds_toArray, List.set_cons_zero, List.set_cons_succ, List.getElem_toArray, List.getElem_cons_zero, List.getElem_cons_succ])
  refine wpAnyH_more (fun w' => Fr (fun _ => False) v5 w') (fun _ h => HFn.out.trans h (fun _ _ h => h)) ?_ (fun hHeld => ?_)
  · exact Fr.refl _ _
  clear HFn
  refine wpAnyH_ready (rs := [17]) (by kernel_rfl) (by simp) ?_
  refine AllReadyH.cons rfl (fun Kx hKx => ?_) AllReadyH.nil
  go_simp
  have hcon := HYX.out (v5) HGc.out q16 HB16.out
  with_reducible refine hcon.mono ?_
  clear hcon
  rintro e' v6 ⟨rfl, hff⟩
  have HFn : Hid (Fr (fun _ => False) v5 v6) := Lib.hid (hff)
  clear hff
  have HB1 := Lib.hid (HB1.out.fr HFn.out (fun h => h))
  have HB11 := Lib.hid (HB11.out.fr HFn.out (fun h => h))
  have HB16 := Lib.hid (HB16.out.fr HFn.out (fun h => h))
  have HGc := Lib.hid (HGc.out.trans HFn.out (fun _ _ h => h))
  refine hKx.out _ _ ?_ (fun hHeld => ?_)
  · exact HFn.out
  clear hKx Kx
  (try simp only [Act.put, List.setIfInBounds_toArray, List.set_cons_zero, List.set_cons_succ, List.getElem_toArray, List.getElem_cons_zero, List.getElem_cons_succ])
  refine wpAnyH_more (fun w' => Fr (fun _ => False) v6 w') (fun _ h => HFn.out.trans h (fun _ _ h => h)) ?_ (fun hHeld => ?_)
  · exact Fr.refl _ _
  clear HFn
  refine wpAnyH_take (i := 18) (v := ?vt122) rfl (by kernel_rfl) (by kernel_rfl) (by kernel_rfl) (fun _ _ _ h => h) (Or.inl ⟨by rfl, ?hyt122⟩) hHeld ?restt122
  case hyt122 => intro w hSw; (try dsimp only at hSw); go_simp; try (with_reducible rfl)
  (try simp only [Act.put, List.setIfInBounds_toArray, List.set_cons_zero, List.set_cons_succ, List.getElem_toArray, List.getElem_cons_zero, List.getElem_cons_succ])
  refine wpAnyH_take (i := 19) (v := ?vt123) rfl (by kernel_rfl) (by kernel_rfl) (by kernel_rfl) (fun _ _ _ h => h) (Or.inl ⟨by rfl, ?hyt123⟩) hHeld ?restt123
  case hyt123 => intro w hSw; (try dsimp only at hSw); go_simp; try (with_reducible rfl)
  (try simp only [Act.put, List.setIfInBounds_toArray, List.set_cons_zero, List.set_cons_succ, List.getElem_toArray, List.getElem_cons_zero, List.getElem_cons_succ])
  refine wpAnyH_take (i := 20) (v := ?vt124) rfl (by kernel_rfl) (by kernel_rfl) (by kernel_rfl) (fun _ _ _ h => h) (Or.inl ⟨by rfl, ?hyt124⟩) hHeld ?restt124
  case hyt124 => intro w hSw; (try dsimp only at hSw); go_simp; try (with_reducible rfl)
  (try simp only [Act.put, List.setIfInBounds_toArray, List.set_cons_zero, List.set_cons_succ, List.getElem_toArray, List.getElem_cons_zero, List.getElem_cons_succ])
  refine wpAnyH_take (i := 21) (v := ?vt125) rfl (by kernel_rfl) (by kernel_rfl) (by kernel_rfl) (fun _ _ _ h => h) (Or.inl ⟨by rfl, ?hyt125⟩) hHeld ?restt125
  case hyt125 => intro w hSw; (try dsimp only at hSw); go_simp; try (with_reducible rfl)
  (try simp only [Act.put, List.setIfInBounds_toArray, List.set_cons_zero, List.set_cons_succ, List.getElem_toArray, List.getElem_cons_zero, List.getElem_cons_succ])
  refine wpAnyH_take (i := 22) (v := ?vt126) rfl (by kernel_rfl) (by kernel_rfl) (by kernel_rfl) (fun _ _ _ h => h) (Or.inl ⟨by rfl, ?hyt126⟩) hHeld ?restt126
  case hyt126 => intro w hSw; (try dsimp only at hSw); obtain ⟨c0, c1, c2, c3, c4, c5, c6, c7, c8, c9, c10, c11, c12⟩ := (HX.out.fr (HGc.out.trans hSw (fun _ _ h => h)) (fun h => h)).cells; go_simp; try (with_reducible rfl)
  (try simp only [Act.put, List.setIfInBounds_toArray, List.set_cons_zero, List.set_cons_succ, List.getElem_toArray, List.getElem_cons_zero, List.getElem_cons_succ])
  refine wpAnyH_take (i := 23) (v := ?vt127) rfl (by kernel_rfl) (by kernel_rfl) (by kernel_rfl) (fun _ _ _ h => h) (Or.inl ⟨by rfl, ?hyt127⟩) hHeld ?restt127
  case hyt127 => intro w hSw; (try dsimp only at hSw); obtain ⟨c0, c1, c2, c3, c4, c5, c6, c7, c8, c9, c10, c11, c12⟩ := (HY.out.fr (HGc.out.trans hSw (fun _ _ h => h)) (fun h => h)).cells; go_simp; try (with_reducible rfl)
  (try simp only [Act.put, List.setIfInBounds_toArray, List.set_cons_zero, List.set_cons_succ, List.getElem_toArray, List.getElem_cons_zero, List.getElem_cons_succ])
  refine wpAnyH_take (i := 26) (v := ?vt128) rfl (by kernel_rfl) (by kernel_rfl) (by kernel_rfl) (fun _ _ _ h => h) (Or.inl ⟨by rfl, ?hyt128⟩) hHeld ?restt128
  case hyt128 => intro w hSw; (try dsimp only at hSw); obtain ⟨c0, c1, c2, c3, c4, c5, c6, c7, c8, c9, c10, c11, c12⟩ := (HY.out.fr (HGc.out.trans hSw (fun _ _ h => h)) (fun h => h)).cells; go_simp; try (with_reducible rfl)
  (try simp only [Act.put, List.setIfInBounds_toArray, List.set_cons_zero, List.set_cons_succ, List.getElem_toArray, List.getElem_cons_zero, List.getElem_cons_succ])
  refine wpAnyH_take (i := 27) (v := ?vt129) rfl (by kernel_rfl) (by kernel_rfl) (by kernel_rfl) (fun _ _ _ h => h) (Or.inl ⟨by rfl, ?hyt129⟩) hHeld ?restt129
  case hyt129 => intro w hSw; (try dsimp only at hSw); obtain ⟨c0, c1, c2, c3, c4, c5, c6, c7, c8, c9, c10, c11, c12⟩ := (HX.out.fr (HGc.out.trans hSw (fun _ _ h => h)) (fun h => h)).cells; go_simp; try (with_reducible rfl)
  (try simp only [Act.put, List.setIfInBounds_toArray, List.set_cons_zero, List.set_cons_succ, List.getElem_toArray, List.getElem_cons_zero, List.getElem_cons_succ])
  refine wpAnyH_ready (rs := [24, 28]) (by kernel_rfl) (by simp) ?_
  refine AllReadyH.cons rfl (fun Kx hKx => ?_) ?_
  · go_simp
    obtain ⟨v7, hwm⟩ : ∃ v, (v6.alloc (.cells #[.int .i64 x.o.obj.c, .string (txt x.o.obj.a), .string (txt x.o.key), .bool x.o.keyed, .int .i64 x.o.elem.c, .string (txt x.o.elem.a), .bool x.o.ins, .int .i64 x.o.act, .int .i64 x.o.val.k, .int .u64 (x.o.val.u : Int), .int .i64 x.o.val.n, .string (txt x.o.val.s), .slice x.A x.o.pr.length x.c, .int .i64 y.o.obj.c, .string (txt y.o.obj.a), .string (txt y.o.key), .bool y.o.keyed, .int .i64 y.o.elem.c, .string (txt y.o.elem.a), .bool y.o.ins, .int .i64 y.o.act, .int .i64 y.o.val.k, .int .u64 (y.o.val.u : Int), .int .i64 y.o.val.n, .string (txt y.o.val.s), .slice y.A y.o.pr.length y.c] 33)) = v := ⟨_, rfl⟩
    rw [hwm]
    obtain ⟨q24, hqm⟩ : ∃ q, v6.heap.size = q := ⟨_, rfl⟩
    try rw [hqm]
    have HFn : Hid (Fr (fun _ => False) v6 v7) := Lib.hid (by rw [← hwm]; exact ((Fr.refl _ _).alloc _))
    have hbm : Row v7 q24 33 (ols x ++ ols y) := by rw [← hwm, ← hqm]; exact Row.new v6 _ _
    have HB24 := Lib.hid hbm
    clear hwm hqm hbm
    have HB1 := Lib.hid (HB1.out.fr HFn.out (fun h => h))
    have HB11 := Lib.hid (HB11.out.fr HFn.out (fun h => h))
    have HB16 := Lib.hid (HB16.out.fr HFn.out (fun h => h))
    have HGc := Lib.hid (HGc.out.trans HFn.out (fun _ _ h => h))
    refine hKx.out _ _ ?_ (fun hHeld => ?_)
    · exact HFn.out
    clear hKx Kx
    (try simp only [Act.put, List.setIfInBounds_toArray, List.set_cons_zero, List.set_cons_succ, List.getElem_toArray, List.getElem_cons_zero, List.getElem_cons_succ])
    refine wpAnyH_more (fun w' => Fr (fun _ => False) v7 w') (fun _ h => HFn.out.trans h (fun _ _ h => h)) ?_ (fun hHeld => ?_)
    · exact Fr.refl _ _
    clear HFn
    refine wpAnyH_ready (rs := [25, 28]) (by kernel_rfl) (by simp) ?_
    refine AllReadyH.cons rfl (fun Kx hKx => ?_) ?_
    · go_simp
      have hcon := HXY.out (v7) HGc.out q24 HB24.out
      with_reducible refine hcon.mono ?_
      clear hcon
      rintro e' v8 ⟨rfl, hff⟩
      have HFn : Hid (Fr (fun _ => False) v7 v8) := Lib.hid (hff)
      clear hff
      have HB1 := Lib.hid (HB1.out.fr HFn.out (fun h => h))
      have HB11 := Lib.hid (HB11.out.fr HFn.out (fun h => h))
      have HB16 := Lib.hid (HB16.out.fr HFn.out (fun h => h))
      have HB24 := Lib.hid (HB24.out.fr HFn.out (fun h => h))
      have HGc := Lib.hid (HGc.out.trans HFn.out (fun _ _ h => h))
      refine hKx.out _ _ ?_ (fun hHeld => ?_)
      · exact HFn.out
      clear hKx Kx
      (try simp only [Act.put, List.setIfInBounds_toArray, List.set_cons_zero, List.set_cons_succ, List.getElem_toArray, List.getElem_cons_zero, List.getElem_cons_succ])
      refine wpAnyH_more (fun w' => Fr (fun _ => False) v8 w') (fun _ h => HFn.out.trans h (fun _ _ h => h)) ?_ (fun hHeld => ?_)
      · exact Fr.refl _ _
      clear HFn
      refine wpAnyH_ready (rs := [28]) (by kernel_rfl) (by simp) ?_
      refine AllReadyH.cons rfl (fun Kx hKx => ?_) AllReadyH.nil
      go_simp
      obtain ⟨v9, hwm⟩ : ∃ v, (v8.alloc (.cells #[.int .i64 y.o.obj.c, .string (txt y.o.obj.a), .string (txt y.o.key), .bool y.o.keyed, .int .i64 y.o.elem.c, .string (txt y.o.elem.a), .bool y.o.ins, .int .i64 y.o.act, .int .i64 y.o.val.k, .int .u64 (y.o.val.u : Int), .int .i64 y.o.val.n, .string (txt y.o.val.s), .slice y.A y.o.pr.length y.c, .int .i64 x.o.obj.c, .string (txt x.o.obj.a), .string (txt x.o.key), .bool x.o.keyed, .int .i64 x.o.elem.c, .string (txt x.o.elem.a), .bool x.o.ins, .int .i64 x.o.act, .int .i64 x.o.val.k, .int .u64 (x.o.val.u : Int), .int .i64 x.o.val.n, .string (txt x.o.val.s), .slice x.A x.o.pr.length x.c] 33)) = v := ⟨_, rfl⟩
      rw [hwm]
      obtain ⟨q28, hqm⟩ : ∃ q, v8.heap.size = q := ⟨_, rfl⟩
      try rw [hqm]
      have HFn : Hid (Fr (fun _ => False) v8 v9) := Lib.hid (by rw [← hwm]; exact ((Fr.refl _ _).alloc _))
      have hbm : Row v9 q28 33 (ols y ++ ols x) := by rw [← hwm, ← hqm]; exact Row.new v8 _ _
      have HB28 := Lib.hid hbm
      clear hwm hqm hbm
      have HB1 := Lib.hid (HB1.out.fr HFn.out (fun h => h))
      have HB11 := Lib.hid (HB11.out.fr HFn.out (fun h => h))
      have HB16 := Lib.hid (HB16.out.fr HFn.out (fun h => h))
      have HB24 := Lib.hid (HB24.out.fr HFn.out (fun h => h))
      have HGc := Lib.hid (HGc.out.trans HFn.out (fun _ _ h => h))
      refine hKx.out _ _ ?_ (fun hHeld => ?_)
      · exact HFn.out
      clear hKx Kx
      (try simp only [Act.put, List.setIfInBounds_toArray, List.set_cons_zero, List.set_cons_succ, List.getElem_toArray, List.getElem_cons_zero, List.getElem_cons_succ])
      refine wpAnyH_more (fun w' => Fr (fun _ => False) v9 w') (fun _ h => HFn.out.trans h (fun _ _ h => h)) ?_ (fun hHeld => ?_)
      · exact Fr.refl _ _
      clear HFn
      refine wpAnyH_ready (rs := [29]) (by kernel_rfl) (by simp) ?_
      refine AllReadyH.cons rfl (fun Kx hKx => ?_) AllReadyH.nil
      go_simp
      have hcon := HYX.out (v9) HGc.out q28 HB28.out
      with_reducible refine hcon.mono ?_
      clear hcon
      rintro e' v10 ⟨rfl, hff⟩
      have HFn : Hid (Fr (fun _ => False) v9 v10) := Lib.hid (hff)
      clear hff
      have HB1 := Lib.hid (HB1.out.fr HFn.out (fun h => h))
      have HB11 := Lib.hid (HB11.out.fr HFn.out (fun h => h))
      have HB16 := Lib.hid (HB16.out.fr HFn.out (fun h => h))
      have HB24 := Lib.hid (HB24.out.fr HFn.out (fun h => h))
      have HB28 := Lib.hid (HB28.out.fr HFn.out (fun h => h))
      have HGc := Lib.hid (HGc.out.trans HFn.out (fun _ _ h => h))
      refine hKx.out _ _ ?_ (fun hHeld => ?_)
      · exact HFn.out
      clear hKx Kx
      (try simp only [Act.put, List.setIfInBounds_toArray, List.set_cons_zero, List.set_cons_succ, List.getElem_toArray, List.getElem_cons_zero, List.getElem_cons_succ])
      refine wpAnyH_more (fun w' => Fr (fun _ => False) v10 w') (fun _ h => HFn.out.trans h (fun _ _ h => h)) ?_ (fun hHeld => ?_)
      · exact Fr.refl _ _
      clear HFn
      refine wpAnyH_take (i := 30) (v := ?vt130) rfl (by kernel_rfl) (by kernel_rfl) (by kernel_rfl) (fun _ _ _ h => h) (Or.inl ⟨by rfl, ?hyt130⟩) hHeld ?restt130
      case hyt130 => intro w hSw; (try dsimp only at hSw); go_simp; try (with_reducible rfl)
      (try simp only [Act.put, List.setIfInBounds_toArray, List.set_cons_zero, List.set_cons_succ, List.getElem_toArray, List.getElem_cons_zero, List.getElem_cons_succ])
      refine wpAnyH_take (i := 31) (v := ?vt131) rfl (by kernel_rfl) (by kernel_rfl) (by kernel_rfl) (fun _ _ _ h => h) (Or.inl ⟨by rfl, ?hyt131⟩) hHeld ?restt131
      case hyt131 => intro w hSw; (try dsimp only at hSw); go_simp; try (with_reducible rfl)
      (try simp only [Act.put, List.setIfInBounds_toArray, List.set_cons_zero, List.set_cons_succ, List.getElem_toArray, List.getElem_cons_zero, List.getElem_cons_succ])
      refine wpAnyH_take (i := 32) (v := ?vt132) rfl (by kernel_rfl) (by kernel_rfl) (by kernel_rfl) (fun _ _ _ h => h) (Or.inl ⟨by rfl, ?hyt132⟩) hHeld ?restt132
      case hyt132 => intro w hSw; (try dsimp only at hSw); go_simp; try (with_reducible rfl)
      (try simp only [Act.put, List.setIfInBounds_toArray, List.set_cons_zero, List.set_cons_succ, List.getElem_toArray, List.getElem_cons_zero, List.getElem_cons_succ])
      refine wpAnyH_done (by kernel_rfl) ?_ _
      go_wp2_with fail
      go_ret
      exact ⟨rfl, HF9.out.trans HGc.out (fun _ _ h => h)⟩
    refine AllReadyH.cons rfl (fun Kx hKx => ?_) AllReadyH.nil
    go_simp
    obtain ⟨v8, hwm⟩ : ∃ v, (v7.alloc (.cells #[.int .i64 y.o.obj.c, .string (txt y.o.obj.a), .string (txt y.o.key), .bool y.o.keyed, .int .i64 y.o.elem.c, .string (txt y.o.elem.a), .bool y.o.ins, .int .i64 y.o.act, .int .i64 y.o.val.k, .int .u64 (y.o.val.u : Int), .int .i64 y.o.val.n, .string (txt y.o.val.s), .slice y.A y.o.pr.length y.c, .int .i64 x.o.obj.c, .string (txt x.o.obj.a), .string (txt x.o.key), .bool x.o.keyed, .int .i64 x.o.elem.c, .string (txt x.o.elem.a), .bool x.o.ins, .int .i64 x.o.act, .int .i64 x.o.val.k, .int .u64 (x.o.val.u : Int), .int .i64 x.o.val.n, .string (txt x.o.val.s), .slice x.A x.o.pr.length x.c] 33)) = v := ⟨_, rfl⟩
    rw [hwm]
    obtain ⟨q28, hqm⟩ : ∃ q, v7.heap.size = q := ⟨_, rfl⟩
    try rw [hqm]
    have HFn : Hid (Fr (fun _ => False) v7 v8) := Lib.hid (by rw [← hwm]; exact ((Fr.refl _ _).alloc _))
    have hbm : Row v8 q28 33 (ols y ++ ols x) := by rw [← hwm, ← hqm]; exact Row.new v7 _ _
    have HB28 := Lib.hid hbm
    clear hwm hqm hbm
    have HB1 := Lib.hid (HB1.out.fr HFn.out (fun h => h))
    have HB11 := Lib.hid (HB11.out.fr HFn.out (fun h => h))
    have HB16 := Lib.hid (HB16.out.fr HFn.out (fun h => h))
    have HB24 := Lib.hid (HB24.out.fr HFn.out (fun h => h))
    have HGc := Lib.hid (HGc.out.trans HFn.out (fun _ _ h => h))
    refine hKx.out _ _ ?_ (fun hHeld => ?_)
    · exact HFn.out
    clear hKx Kx
    (try simp only [Act.put, List.setIfInBounds_toArray, List.set_cons_zero, List.set_cons_succ, List.getElem_toArray, List.getElem_cons_zero, List.getElem_cons_succ])
    refine wpAnyH_more (fun w' => Fr (fun _ => False) v8 w') (fun _ h => HFn.out.trans h (fun _ _ h => h)) ?_ (fun hHeld => ?_)
    · exact Fr.refl _ _
    clear HFn
    refine wpAnyH_ready (rs := [25]) (by kernel_rfl) (by simp) ?_
    refine AllReadyH.cons rfl (fun Kx hKx => ?_) AllReadyH.nil
    go_simp
    have hcon := HXY.out (v8) HGc.out q24 HB24.out
    with_reducible refine hcon.mono ?_
    clear hcon
    rintro e' v9 ⟨rfl, hff⟩
    have HFn : Hid (Fr (fun _ => False) v8 v9) := Lib.hid (hff)
    clear hff
    have HB1 := Lib.hid (HB1.out.fr HFn.out (fun h => h))
    have HB11 := Lib.hid (HB11.out.fr HFn.out (fun h => h))
    have HB16 := Lib.hid (HB16.out.fr HFn.out (fun h => h))
    have HB24 := Lib.hid (HB24.out.fr HFn.out (fun h => h))
    have HB28 := Lib.hid (HB28.out.fr HFn.out (fun h => h))
    have HGc := Lib.hid (HGc.out.trans HFn.out (fun _ _ h => h))
    refine hKx.out _ _ ?_ (fun hHeld => ?_)
    · exact HFn.out
    clear hKx Kx
    (try simp only [Act.put, List.setIfInBounds_toArray, List.set_cons_zero, List.set_cons_succ, List.getElem_toArray, List.getElem_cons_zero, List.getElem_cons_succ])
    refine wpAnyH_more (fun w' => Fr (fun _ => False) v9 w') (fun _ h => HFn.out.trans h (fun _ _ h => h)) ?_ (fun hHeld => ?_)
    · exact Fr.refl _ _
    clear HFn
    refine wpAnyH_ready (rs := [29]) (by kernel_rfl) (by simp) ?_
    refine AllReadyH.cons rfl (fun Kx hKx => ?_) AllReadyH.nil
    go_simp
    have hcon := HYX.out (v9) HGc.out q28 HB28.out
    with_reducible refine hcon.mono ?_
    clear hcon
    rintro e' v10 ⟨rfl, hff⟩
    have HFn : Hid (Fr (fun _ => False) v9 v10) := Lib.hid (hff)
    clear hff
    have HB1 := Lib.hid (HB1.out.fr HFn.out (fun h => h))
    have HB11 := Lib.hid (HB11.out.fr HFn.out (fun h => h))
    have HB16 := Lib.hid (HB16.out.fr HFn.out (fun h => h))
    have HB24 := Lib.hid (HB24.out.fr HFn.out (fun h => h))
    have HB28 := Lib.hid (HB28.out.fr HFn.out (fun h => h))
    have HGc := Lib.hid (HGc.out.trans HFn.out (fun _ _ h => h))
    refine hKx.out _ _ ?_ (fun hHeld => ?_)
    · exact HFn.out
    clear hKx Kx
    (try simp only [Act.put, List.setIfInBounds_toArray, List.set_cons_zero, List.set_cons_succ, List.getElem_toArray, List.getElem_cons_zero, List.getElem_cons_succ])
    refine wpAnyH_more (fun w' => Fr (fun _ => False) v10 w') (fun _ h => HFn.out.trans h (fun _ _ h => h)) ?_ (fun hHeld => ?_)
    · exact Fr.refl _ _
    clear HFn
    refine wpAnyH_take (i := 30) (v := ?vt133) rfl (by kernel_rfl) (by kernel_rfl) (by kernel_rfl) (fun _ _ _ h => h) (Or.inl ⟨by rfl, ?hyt133⟩) hHeld ?restt133
    case hyt133 => intro w hSw; (try dsimp only at hSw); go_simp; try (with_reducible rfl)
    (try simp only [Act.put, List.setIfInBounds_toArray, List.set_cons_zero, List.set_cons_succ, List.getElem_toArray, List.getElem_cons_zero, List.getElem_cons_succ])
    refine wpAnyH_take (i := 31) (v := ?vt134) rfl (by kernel_rfl) (by kernel_rfl) (by kernel_rfl) (fun _ _ _ h => h) (Or.inl ⟨by rfl, ?hyt134⟩) hHeld ?restt134
    case hyt134 => intro w hSw; (try dsimp only at hSw); go_simp; try (with_reducible rfl)
    (try simp only [Act.put, List.setIfInBounds_toArray, List.set_cons_zero, List.set_cons_succ, List.getElem_toArray, List.getElem_cons_zero, List.getElem_cons_succ])
    refine wpAnyH_take (i := 32) (v := ?vt135) rfl (by kernel_rfl) (by kernel_rfl) (by kernel_rfl) (fun _ _ _ h => h) (Or.inl ⟨by rfl, ?hyt135⟩) hHeld ?restt135
    case hyt135 => intro w hSw; (try dsimp only at hSw); go_simp; try (with_reducible rfl)
    (try simp only [Act.put, List.setIfInBounds_toArray, List.set_cons_zero, List.set_cons_succ, List.getElem_toArray, List.getElem_cons_zero, List.getElem_cons_succ])
    refine wpAnyH_done (by kernel_rfl) ?_ _
    go_wp2_with fail
    go_ret
    exact ⟨rfl, HF9.out.trans HGc.out (fun _ _ h => h)⟩
  refine AllReadyH.cons rfl (fun Kx hKx => ?_) AllReadyH.nil
  go_simp
  obtain ⟨v7, hwm⟩ : ∃ v, (v6.alloc (.cells #[.int .i64 y.o.obj.c, .string (txt y.o.obj.a), .string (txt y.o.key), .bool y.o.keyed, .int .i64 y.o.elem.c, .string (txt y.o.elem.a), .bool y.o.ins, .int .i64 y.o.act, .int .i64 y.o.val.k, .int .u64 (y.o.val.u : Int), .int .i64 y.o.val.n, .string (txt y.o.val.s), .slice y.A y.o.pr.length y.c, .int .i64 x.o.obj.c, .string (txt x.o.obj.a), .string (txt x.o.key), .bool x.o.keyed, .int .i64 x.o.elem.c, .string (txt x.o.elem.a), .bool x.o.ins, .int .i64 x.o.act, .int .i64 x.o.val.k, .int .u64 (x.o.val.u : Int), .int .i64 x.o.val.n, .string (txt x.o.val.s), .slice x.A x.o.pr.length x.c] 33)) = v := ⟨_, rfl⟩
  rw [hwm]
  obtain ⟨q28, hqm⟩ : ∃ q, v6.heap.size = q := ⟨_, rfl⟩
  try rw [hqm]
  have HFn : Hid (Fr (fun _ => False) v6 v7) := Lib.hid (by rw [← hwm]; exact ((Fr.refl _ _).alloc _))
  have hbm : Row v7 q28 33 (ols y ++ ols x) := by rw [← hwm, ← hqm]; exact Row.new v6 _ _
  have HB28 := Lib.hid hbm
  clear hwm hqm hbm
  have HB1 := Lib.hid (HB1.out.fr HFn.out (fun h => h))
  have HB11 := Lib.hid (HB11.out.fr HFn.out (fun h => h))
  have HB16 := Lib.hid (HB16.out.fr HFn.out (fun h => h))
  have HGc := Lib.hid (HGc.out.trans HFn.out (fun _ _ h => h))
  refine hKx.out _ _ ?_ (fun hHeld => ?_)
  · exact HFn.out
  clear hKx Kx
  (try simp only [Act.put, List.setIfInBounds_toArray, List.set_cons_zero, List.set_cons_succ, List.getElem_toArray, List.getElem_cons_zero, List.getElem_cons_succ])
  refine wpAnyH_more (fun w' => Fr (fun _ => False) v7 w') (fun _ h => HFn.out.trans h (fun _ _ h => h)) ?_ (fun hHeld => ?_)
  · exact Fr.refl _ _
  clear HFn
  refine wpAnyH_ready (rs := [24]) (by kernel_rfl) (by simp) ?_
  refine AllReadyH.cons rfl (fun Kx hKx => ?_) AllReadyH.nil
  go_simp
  obtain ⟨v8, hwm⟩ : ∃ v, (v7.alloc (.cells #[.int .i64 x.o.obj.c, .string (txt x.o.obj.a), .string (txt x.o.key), .bool x.o.keyed, .int .i64 x.o.elem.c, .string (txt x.o.elem.a), .bool x.o.ins, .int .i64 x.o.act, .int .i64 x.o.val.k, .int .u64 (x.o.val.u : Int), .int .i64 x.o.val.n, .string (txt x.o.val.s), .slice x.A x.o.pr.length x.c, .int .i64 y.o.obj.c, .string (txt y.o.obj.a), .string (txt y.o.key), .bool y.o.keyed, .int .i64 y.o.elem.c, .string (txt y.o.elem.a), .bool y.o.ins, .int .i64 y.o.act, .int .i64 y.o.val.k, .int .u64 (y.o.val.u : Int), .int .i64 y.o.val.n, .string (txt y.o.val.s), .slice y.A y.o.pr.length y.c] 33)) = v := ⟨_, rfl⟩
  rw [hwm]
  obtain ⟨q24, hqm⟩ : ∃ q, v7.heap.size = q := ⟨_, rfl⟩
  try rw [hqm]
  have HFn : Hid (Fr (fun _ => False) v7 v8) := Lib.hid (by rw [← hwm]; exact ((Fr.refl _ _).alloc _))
  have hbm : Row v8 q24 33 (ols x ++ ols y) := by rw [← hwm, ← hqm]; exact Row.new v7 _ _
  have HB24 := Lib.hid hbm
  clear hwm hqm hbm
  have HB1 := Lib.hid (HB1.out.fr HFn.out (fun h => h))
  have HB11 := Lib.hid (HB11.out.fr HFn.out (fun h => h))
  have HB16 := Lib.hid (HB16.out.fr HFn.out (fun h => h))
  have HB28 := Lib.hid (HB28.out.fr HFn.out (fun h => h))
  have HGc := Lib.hid (HGc.out.trans HFn.out (fun _ _ h => h))
  refine hKx.out _ _ ?_ (fun hHeld => ?_)
  · exact HFn.out
  clear hKx Kx
  (try simp only [Act.put, List.setIfInBounds_toArray, List.set_cons_zero, List.set_cons_succ, List.getElem_toArray, List.getElem_cons_zero, List.getElem_cons_succ])
  refine wpAnyH_more (fun w' => Fr (fun _ => False) v8 w') (fun _ h => HFn.out.trans h (fun _ _ h => h)) ?_ (fun hHeld => ?_)
  · exact Fr.refl _ _
  clear HFn
  refine wpAnyH_ready (rs := [25]) (by kernel_rfl) (by simp) ?_
  refine AllReadyH.cons rfl (fun Kx hKx => ?_) AllReadyH.nil
  go_simp
  have hcon := HXY.out (v8) HGc.out q24 HB24.out
  with_reducible refine hcon.mono ?_
  clear hcon
  rintro e' v9 ⟨rfl, hff⟩
  have HFn : Hid (Fr (fun _ => False) v8 v9) := Lib.hid (hff)
  clear hff
  have HB1 := Lib.hid (HB1.out.fr HFn.out (fun h => h))
  have HB11 := Lib.hid (HB11.out.fr HFn.out (fun h => h))
  have HB16 := Lib.hid (HB16.out.fr HFn.out (fun h => h))
  have HB28 := Lib.hid (HB28.out.fr HFn.out (fun h => h))
  have HB24 := Lib.hid (HB24.out.fr HFn.out (fun h => h))
  have HGc := Lib.hid (HGc.out.trans HFn.out (fun _ _ h => h))
  refine hKx.out _ _ ?_ (fun hHeld => ?_)
  · exact HFn.out
  clear hKx Kx
  (try simp only [Act.put, List.setIfInBounds_toArray, List.set_cons_zero, List.set_cons_succ, List.getElem_toArray, List.getElem_cons_zero, List.getElem_cons_succ])
  refine wpAnyH_more (fun w' => Fr (fun _ => False) v9 w') (fun _ h => HFn.out.trans h (fun _ _ h => h)) ?_ (fun hHeld => ?_)
  · exact Fr.refl _ _
  clear HFn
  refine wpAnyH_ready (rs := [29]) (by kernel_rfl) (by simp) ?_
  refine AllReadyH.cons rfl (fun Kx hKx => ?_) AllReadyH.nil
  go_simp
  have hcon := HYX.out (v9) HGc.out q28 HB28.out
  with_reducible refine hcon.mono ?_
  clear hcon
  rintro e' v10 ⟨rfl, hff⟩
  have HFn : Hid (Fr (fun _ => False) v9 v10) := Lib.hid (hff)
  clear hff
  have HB1 := Lib.hid (HB1.out.fr HFn.out (fun h => h))
  have HB11 := Lib.hid (HB11.out.fr HFn.out (fun h => h))
  have HB16 := Lib.hid (HB16.out.fr HFn.out (fun h => h))
  have HB28 := Lib.hid (HB28.out.fr HFn.out (fun h => h))
  have HB24 := Lib.hid (HB24.out.fr HFn.out (fun h => h))
  have HGc := Lib.hid (HGc.out.trans HFn.out (fun _ _ h => h))
  refine hKx.out _ _ ?_ (fun hHeld => ?_)
  · exact HFn.out
  clear hKx Kx
  (try simp only [Act.put, List.setIfInBounds_toArray, List.set_cons_zero, List.set_cons_succ, List.getElem_toArray, List.getElem_cons_zero, List.getElem_cons_succ])
  refine wpAnyH_more (fun w' => Fr (fun _ => False) v10 w') (fun _ h => HFn.out.trans h (fun _ _ h => h)) ?_ (fun hHeld => ?_)
  · exact Fr.refl _ _
  clear HFn
  refine wpAnyH_take (i := 30) (v := ?vt136) rfl (by kernel_rfl) (by kernel_rfl) (by kernel_rfl) (fun _ _ _ h => h) (Or.inl ⟨by rfl, ?hyt136⟩) hHeld ?restt136
  case hyt136 => intro w hSw; (try dsimp only at hSw); go_simp; try (with_reducible rfl)
  (try simp only [Act.put, List.setIfInBounds_toArray, List.set_cons_zero, List.set_cons_succ, List.getElem_toArray, List.getElem_cons_zero, List.getElem_cons_succ])
  refine wpAnyH_take (i := 31) (v := ?vt137) rfl (by kernel_rfl) (by kernel_rfl) (by kernel_rfl) (fun _ _ _ h => h) (Or.inl ⟨by rfl, ?hyt137⟩) hHeld ?restt137
  case hyt137 => intro w hSw; (try dsimp only at hSw); go_simp; try (with_reducible rfl)
  (try simp only [Act.put, List.setIfInBounds_toArray, List.set_cons_zero, List.set_cons_succ, List.getElem_toArray, List.getElem_cons_zero, List.getElem_cons_succ])
  refine wpAnyH_take (i := 32) (v := ?vt138) rfl (by kernel_rfl) (by kernel_rfl) (by kernel_rfl) (fun _ _ _ h => h) (Or.inl ⟨by rfl, ?hyt138⟩) hHeld ?restt138
  case hyt138 => intro w hSw; (try dsimp only at hSw); go_simp; try (with_reducible rfl)
  (try simp only [Act.put, List.setIfInBounds_toArray, List.set_cons_zero, List.set_cons_succ, List.getElem_toArray, List.getElem_cons_zero, List.getElem_cons_succ])
  refine wpAnyH_done (by kernel_rfl) ?_ _
  go_wp2_with fail
  go_ret
  exact ⟨rfl, HF9.out.trans HGc.out (fun _ _ h => h)⟩
theorem opfewer_law (x y : Om) (n : Nat) (w : World) (hn : n < 256) (hx : Prd w x) (hy : Prd w y) (lx : x.lens) (ly : y.lens) (vx : x.o.val.ok) (vy : y.o.val.ok) :
    Calls Try.prog 8 #[opc x, opc y, .int .u8 (n : Int)] w fun e w' => e = .returned (.bool true) ∧ Fr (fun _ => False) w w' := by
  cases hb : fewB [x, y] with
  | false => exact opfewer_no x y n w hn hx hy lx ly vx vy hb
  | true =>
    cases hq : rightO x.o with
    | false => exact opfewer_not x y n w hn hx hy lx ly vx vy hb hq
    | true => exact opfewer_yes x y n w hn hx hy lx ly vx vy hb hq
end Go.Proofs.Ytmiofhoojahpjaa
