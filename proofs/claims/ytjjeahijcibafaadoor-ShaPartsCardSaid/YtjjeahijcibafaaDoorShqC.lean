/-
  Contract of layer 4's program: the words of a block (spread).
-/
import Derived.Test.YtjjeahijcibafaaDoorShqB
import Derived.Test.YtjjeahijcibafaaDoorBlk
import Derived.Deep.RegionHeld3
import Derived.Deep.CutRange
namespace Go.Proofs.YtjjeahijcibafaaDoor
open Go.RowKit ShaM Mem Go.Lib
attribute [local go_sem ↓] Go.wp_at_zero Go.wp_at_succ

theorem wordsT : RowTy Tryd.prog 62 64 := ⟨⟨_, _, Tryd.underlying62⟩, by kernel_rfl⟩
/-- the first k words, zeros behind -/
def wk (B : List Nat) (k : Nat) : List Value := (sched B k ++ List.replicate (64 - k) 0).map num32
theorem wk_len (B : List Nat) (k : Nat) (hk : k ≤ 64) : (wk B k).length = 64 := by simp [wk, sched_len]; omega
theorem wk_set (B : List Nat) (k x : Nat) (hk : k < 64) (hx : sched B (k + 1) = sched B k ++ [x]) : (wk B k).set k (num32 x) = wk B (k + 1) := by
  unfold wk
  rw [hx, show 64 - k = (64 - (k + 1)) + 1 from by omega, List.replicate_succ, ← List.map_set]
  congr 1
  rw [List.set_append_right _ _ (by rw [sched_len]; omega), sched_len, Nat.sub_self, List.set_cons_zero, List.append_assoc]
  rfl
theorem wk_at (B : List Nat) (k i : Nat) (hi : i < k) : (wk B k)[i]? = some (num32 ((sched B k).getD i 0)) := by
  unfold wk
  have hl := sched_len B k
  rw [List.map_append, List.getElem?_append_left (by simp [hl, hi]), List.getElem?_map, List.getD_eq_getElem?_getD, List.getElem?_eq_getElem (by omega)]
  rfl

theorem four_of {B : List Nat} {q : Nat} (hq : q + 4 ≤ B.length) (hB : ∀ b ∈ B, b < 256) : ∃ a b c d : Nat, a < 256 ∧ b < 256 ∧ c < 256 ∧ d < 256 ∧ (B.map byten)[q]? = some (.int .u8 (a : Int)) ∧ (B.map byten)[q + 1]? = some (.int .u8 (b : Int)) ∧
    (B.map byten)[q + 2]? = some (.int .u8 (c : Int)) ∧ (B.map byten)[q + 3]? = some (.int .u8 (d : Int)) ∧ be4 ((B.drop q).take 4) = be4 [a, b, c, d] := by
  have g : ∀ i, i < 4 → ∃ x, x < 256 ∧ B[q + i]? = some x := fun i hi => ⟨B[q + i], hB _ (List.getElem_mem (by omega)), List.getElem?_eq_getElem (by omega)⟩
  obtain ⟨a, ha, e0⟩ := g 0 (by omega)
  obtain ⟨b, hb, e1⟩ := g 1 (by omega)
  obtain ⟨c, hc, e2⟩ := g 2 (by omega)
  obtain ⟨d, hd, e3⟩ := g 3 (by omega)
  have e : (B.drop q).take 4 = [a, b, c, d] := by
    apply List.ext_getElem?
    intro i
    rw [List.getElem?_take]
    match i with
    | 0 => simpa using e0
    | 1 => simpa using e1
    | 2 => simpa using e2
    | 3 => simpa using e3
    | i + 4 => rw [if_neg (by omega)]; rfl
  refine ⟨a, b, c, d, ha, hb, hc, hd, ?_, ?_, ?_, ?_, by rw [e]⟩
  · rw [List.getElem?_map, show q = q + 0 from rfl, e0]; rfl
  · rw [List.getElem?_map, e1]; rfl
  · rw [List.getElem?_map, e2]; rfl
  · rw [List.getElem?_map, e3]; rfl

set_option maxRecDepth 100000 in
set_option maxHeartbeats 800000 in
theorem spread_any (B : List Nat) (w : World) (hl : B.length = 64) (hB : ∀ b ∈ B, b < 256) :
    Calls Tryd.prog 28 #[.agg (B.map byten).toArray] w fun e w' => e = .returned (.agg ((sched B 64).map num32).toArray) ∧ Fr (fun _ => False) w w' := by
  obtain ⟨R, hR⟩ : ∃ R, R = (B.map byten).toArray := ⟨_, rfl⟩
  rw [← hR]
  have HRR := Lib.hid hR
  have HL := Lib.hid hl
  have HB := Lib.hid hB
  clear hR hl hB
  go_enter Tryd.func28, Tryd.ntmps28
  go_upto_region 2 with fail
  obtain ⟨Z, hZ⟩ : ∃ Z : List Value, Z = List.replicate 64 (.int .u32 0) := ⟨_, rfl⟩
  obtain ⟨w0, hw0⟩ : ∃ w0, ((w.alloc (.cells R 36)).alloc (.cells Z.toArray 62)).alloc (.cells Z.toArray 62) = w0 := ⟨_, rfl⟩
  have hw0' := hw0
  rw [hZ] at hw0'
  change Code.wp _ _ _ _ (((w.alloc (.cells R 36)).alloc (.cells (List.replicate 64 (Value.int .u32 0)).toArray 62)).alloc (.cells (List.replicate 64 (Value.int .u32 0)).toArray 62))
  rw [hw0']
  obtain ⟨gb, hgb⟩ : ∃ gb, gb = w.heap.size := ⟨_, rfl⟩
  obtain ⟨g2, hg2⟩ : ∃ g2, g2 = gb + 1 := ⟨_, rfl⟩
  obtain ⟨g3, hg3⟩ : ∃ g3, g3 = g2 + 1 := ⟨_, rfl⟩
  have hb0 : Row w0 gb 36 (B.map byten) := by
    rw [← hw0, hgb, HRR.out]
    exact ((Row.new w _ _).alloc _).alloc _
  have hr2 : Row w0 g2 62 Z := by
    rw [← hw0, hg2, hgb]
    have h := (Row.new (w.alloc (.cells R 36)) 62 Z).alloc (.cells Z.toArray 62)
    simpa using h
  have hr3 : Row w0 g3 62 (wk B 0) := by
    rw [← hw0, hg3, hg2, hgb]
    have h := Row.new ((w.alloc (.cells R 36)).alloc (.cells Z.toArray 62)) 62 Z
    have e : wk B 0 = Z := by rw [hZ]; rfl
    rw [e]
    simpa using h
  have hf0 : Fr (fun _ => False) w w0 := by rw [← hw0]; exact (((Fr.refl _ _).alloc _).alloc _).alloc _
  rw [← hgb, ← hg2, ← hg3]
  have hzl : Z.length = 64 := by rw [hZ]; rfl
  have HB0 := Lib.hid hb0
  have HR2 := Lib.hid hr2
  have HR3 := Lib.hid hr3
  have HF0 := Lib.hid hf0
  have HGB := Lib.hid hgb
  have HG2 := Lib.hid hg2
  have HG3 := Lib.hid hg3
  have HZL := Lib.hid hzl
  clear hb0 hr2 hr3 hf0 hgb hg2 hg3 hw0 hw0' hZ hzl
  go_wp2_with fail
  go_loopw [6] (fun i wr => ∃ k : Nat, k ≤ 16 ∧ i = .int .i64 (k : Int) ∧ Hid (Row wr g3 62 (wk B k)) ∧ Fr (fun b => b = g3) w0 wr)
    (fun i _ => 16 - (intOf i).toNat)
  case atStart => exact ⟨0, by omega, rfl, HR3, Fr.refl _ _⟩
  case round =>
    obtain ⟨k, hk, rfl, HW, hfr⟩ := hrel
    by_cases hlt : k < 16
    · have hbr := HB0.out.fr hfr (by have := HG2.out; have := HG3.out; omega)
      obtain ⟨q, hq⟩ : ∃ q, q = 4 * k := ⟨_, rfl⟩
      have e4 : 4 * (k : Int) = (q : Int) := by omega
      have hq0 : (0 : Int) ≤ (q : Int) := by omega
      have hq64 : (q : Int) ≤ 64 := by omega
      have hk64 : (k : Int) < 64 := by omega
      have hne : ¬ (64 = q) := by omega
      have HBR := Lib.hid hbr
      have HFR := Lib.hid hfr
      have HQ := Lib.hid hq
      obtain ⟨a, b, c, d, ha, hb, hc, hd, i0, i1, i2, i3, hbe⟩ := four_of (B := B) (q := q) (by have := HL.out; omega) HB.out
      have ce0 := hbr.cell i0
      have ce1 := hbr.cell i1
      have ce2 := hbr.cell i2
      have ce3 := hbr.cell i3
      obtain ⟨x, hx⟩ : ∃ x, x = be4 [a, b, c, d] := ⟨_, rfl⟩
      have hsc : sched B (k + 1) = sched B k ++ [x] := by
        rw [sched, if_pos hlt, hx, ← hq, hbe]
      have hwd := fun w h0 h1 h2 h3 => word_any gb q (64 - q) (64 - q) a b c d w ha hb hc hd (by omega) h0 h1 h2 h3
      rw [← hx] at hwd
      have HWD := Lib.hid hwd
      have HC := Lib.hid (And.intro ce0 (And.intro ce1 (And.intro ce2 ce3)))
      have HSC := Lib.hid hsc
      clear hbr hfr hq ha hb hc hd i0 i1 i2 i3 hbe ce0 ce1 ce2 ce3 hx hsc hwd HBR
      go_wp2_with fail
      refine (HWD.out _ HC.out.1 HC.out.2.1 HC.out.2.2.1 HC.out.2.2.2).mono ?_
      rintro e w2 ⟨rfl, hf2⟩
      have hw2 := HW.out.fr hf2 (fun h => h)
      obtain ⟨u, hu⟩ : ∃ u, (wk B k)[k]? = some u := ⟨_, List.getElem?_eq_getElem (by rw [wk_len _ _ (by omega)]; omega)⟩
      have hcell := hw2.cell hu
      have hfree := hw2.free k
      have hs := hw2.set k (num32 x)
      rw [wk_set _ _ _ (by omega) HSC.out] at hs
      unfold num32 at hs
      have HS := Lib.hid hs
      have HF2 := Lib.hid ((HFR.out.trans hf2 (fun _ _ h => h.elim)).trans (Fr.set1 w2 g3 k (.int .u32 (x : Int))) (fun _ _ h => h))
      clear hf2 hw2 hu hs HFR
      go_wp2_with fail
      exact ⟨⟨k + 1, by omega, by go_num, HS, HF2.out⟩, by simp [intOf]; omega⟩
    · obtain rfl : k = 16 := by omega
      have HF1 := Lib.hid hfr
      rename World => w1
      clear hfr HR3
      rw [show (((16 : Nat)) : Int) = (16 : Int) from rfl]
      go_wp2_with fail
      go_loopw [5] (fun i wr => ∃ k : Nat, 16 ≤ k ∧ k ≤ 64 ∧ i = .int .i64 (k : Int) ∧ Hid (Row wr g3 62 (wk B k)) ∧ Fr (fun b => b = g3) w1 wr)
        (fun i _ => 64 - (intOf i).toNat)
      case atStart => exact ⟨16, by omega, by omega, rfl, HW, Fr.refl _ _⟩
      case round =>
        obtain ⟨k, hk16, hk, rfl, HW, hfr⟩ := hrel
        by_cases hlt : k < 64
        · have hwl := sched_len B k
          obtain ⟨i16, h16⟩ : ∃ i, i = k - 16 := ⟨_, rfl⟩
          obtain ⟨i15, h15⟩ : ∃ i, i = k - 15 := ⟨_, rfl⟩
          obtain ⟨i7, h7⟩ : ∃ i, i = k - 7 := ⟨_, rfl⟩
          obtain ⟨i2, h2⟩ : ∃ i, i = k - 2 := ⟨_, rfl⟩
          have a16 : (k : Int) - 16 = (i16 : Int) := by omega
          have a15 : (k : Int) - 15 = (i15 : Int) := by omega
          have a7 : (k : Int) - 7 = (i7 : Int) := by omega
          have a2 : (k : Int) - 2 = (i2 : Int) := by omega
          have b16 : (i16 : Int) < 64 := by omega
          have b15 : (i15 : Int) < 64 := by omega
          have b7 : (i7 : Int) < 64 := by omega
          have b2 : (i2 : Int) < 64 := by omega
          have bk64 : (k : Int) < 64 := by omega
          have v16 : IntKind.i64.wrap (i16 : Int) = (i16 : Int) := IntWalk.i64_in _ (by omega)
          have v15 : IntKind.i64.wrap (i15 : Int) = (i15 : Int) := IntWalk.i64_in _ (by omega)
          have v7 : IntKind.i64.wrap (i7 : Int) = (i7 : Int) := IntWalk.i64_in _ (by omega)
          have v2 : IntKind.i64.wrap (i2 : Int) = (i2 : Int) := IntWalk.i64_in _ (by omega)
          have c16 := HW.out.cell (wk_at B k i16 (by omega))
          have c15 := HW.out.cell (wk_at B k i15 (by omega))
          have c7 := HW.out.cell (wk_at B k i7 (by omega))
          have c2 := HW.out.cell (wk_at B k i2 (by omega))
          have hlts : ∀ i, (sched B k).getD i 0 < 4294967296 := by
            intro i
            rw [List.getD_eq_getElem?_getD]
            cases hi : (sched B k)[i]? with
            | none => simp
            | some b => simpa using sched_lt HB.out k b (List.mem_of_getElem? hi)
          have hwn : wn (sched B k) = a32 (a32 (a32 ((sched B k).getD i16 0) (ShaM.s0 ((sched B k).getD i15 0))) ((sched B k).getD i7 0)) (ShaM.s1 ((sched B k).getD i2 0)) := by
            unfold wn
            rw [hwl, h16, h15, h7, h2]
          have l15 := hlts i15
          have l2 := hlts i2
          have hsc : sched B (k + 1) = sched B k ++ [wn (sched B k)] := by rw [sched, if_neg (by omega)]
          unfold num32 at c16 c15 c7 c2
          generalize (sched B k).getD i16 0 = x16 at c16 hwn
          generalize (sched B k).getD i15 0 = x15 at c15 hwn l15
          generalize (sched B k).getD i7 0 = x7 at c7 hwn
          generalize (sched B k).getD i2 0 = x2 at c2 hwn l2
          have ws0 := s0_any x15 (hx := l15)
          have ws1 := s1_any x2 (hx := l2)
          obtain ⟨y0, hy0⟩ : ∃ y, y = ShaM.s0 x15 := ⟨_, rfl⟩
          obtain ⟨y1, hy1⟩ : ∃ y, y = ShaM.s1 x2 := ⟨_, rfl⟩
          rw [← hy0] at ws0 hwn
          rw [← hy1] at ws1 hwn
          have e1 := add_w x16 y0
          have e2 := add_w (a32 x16 y0) x7
          have e3 := add_w (a32 (a32 x16 y0) x7) y1
          rw [← hwn] at e3
          obtain ⟨z1, hz1⟩ : ∃ z, z = a32 x16 y0 := ⟨_, rfl⟩
          rw [← hz1] at e1 e2 e3
          obtain ⟨z2, hz2⟩ : ∃ z, z = a32 z1 x7 := ⟨_, rfl⟩
          rw [← hz2] at e2 e3
          obtain ⟨z3, hz3⟩ : ∃ z, z = wn (sched B k) := ⟨_, rfl⟩
          rw [← hz3] at e3 hsc
          obtain ⟨u, hu⟩ : ∃ u, (wk B k)[k]? = some u := ⟨_, List.getElem?_eq_getElem (by rw [wk_len _ _ (by omega)]; omega)⟩
          have hcell := HW.out.cell hu
          have hfree := HW.out.free k
          have hs := HW.out.set k (num32 z3)
          rw [wk_set _ _ _ hlt hsc] at hs
          unfold num32 at hs
          have HS := Lib.hid hs
          have HFR := Lib.hid hfr
          have WS0 := Lib.hid ws0
          have WS1 := Lib.hid ws1
          clear hwl h16 h15 h7 h2 hlts hwn hsc hy0 hy1 hz1 hz2 hz3 hu hs hfr ws0 ws1 HW
          go_wp2_with fail
          refine wp_region_still_tail 23 (by kernel_rfl) (by kernel_rfl) ?_
          simp only [List.take_succ_cons, List.take_zero, List.drop_succ_cons, List.drop_zero]
          repeat still_step
          still_call (sw (WS0.out _))
          repeat still_step
          still_call (sw (WS1.out _))
          repeat still_step
          refine wpStill_nil ?_
          change wpList _ _ _ _ _ wr.drew
          go_wp2_with fail
          exact ⟨⟨k + 1, by omega, by omega, by go_num, HS, (HFR.out.drew.trans (Fr.set1 wr.drew g3 k _) (fun _ _ h => h))⟩, by simp [intOf]; omega⟩
        · obtain rfl : k = 64 := by omega
          have HF2 := Lib.hid ((HF1.out.trans hfr (fun _ _ h => h)))
          have HR22 := Lib.hid (HR2.out.fr HF2.out (by have := HG3.out; omega))
          rename World => w2
          clear hfr
          go_upto_region 11 with fail
          refine wp_region_lit ?_
          refine wpList_load_blk wordsT rfl (.tmp 3) rfl g3 rfl _ _ HW.out (by simp [wk_len]) ?_
          refine wpList_store_blk wordsT rfl (.tmp 2) (.tmp 43) rfl g2 rfl (wk B 64).toArray rfl Z.toArray 62 HR22.out (by simp [wk_len]) (by simpa using HZL.out) (by unfold wk; rw [List.all_toArray, List.all_eq_true]; exact num32_one _) ?_
          intro w3 hg hf
          have HG := Lib.hid hg
          have HF := Lib.hid ((HF0.out.trans HF2.out (fun b hb h => by have := HG3.out; have := HG2.out; have := HGB.out; omega)).trans hf (fun b hb h => by have := HG2.out; have := HGB.out; omega))
          clear hg hf
          go_wp2_with fail
          have e64 : wk B 64 = (sched B 64).map num32 := by unfold wk; simp
          refine bodyPost_ret (v := .agg (wk B 64).toArray) (results_blk wordsT rfl g2 rfl _ _ HG.out (by simp [wk_len])) rfl ⟨by rw [e64], HF.out⟩
end Go.Proofs.YtjjeahijcibafaaDoor
