/-
  Contract of layer 7's program: Weights.
-/
import Derived.Test.YtamcgenjlndfjaaDoorSyT
import Derived.Test.YtamcgenjlndfjaaDoorSyD
namespace Go.Proofs.YtamcgenjlndfjaaDoor
open Go.RowKit SyM LzM Mem Go.Lib
attribute [local go_sem ↓] Go.wp_at_zero Go.wp_at_succ
set_option linter.unusedVariables false

theorem run_symS (a b c : Int) (w : World) : (Instr.field 29 (.agg #[.int .i64 a, .int .i64 b, .int .u64 c]) 0).run Tryd.prog w = .ok (.int .i64 a) w := by
  unfold Instr.field
  go_simp
  rfl

set_option maxRecDepth 100000 in
set_option maxHeartbeats 3200000 in
theorem pWeights_any (A : Option Addr) (n c : Nat) (T : List Tok) (w : World) (hG : Gl w) (hT : Toks w A n T) (hn : n ≤ 1000) (hfit : ∀ t ∈ T, Fits t) :
    Calls Tryd.prog 19 #[.slice A n c] w fun e w' => ∃ ga gb, e = .returned (.tuple #[.slice (some ⟨ga, 0, none⟩) 286 286, .slice (some ⟨gb, 0, none⟩) 30 30]) ∧ NRow w' ga (weigh T SyM.start).1 ∧ NRow w' gb (weigh T SyM.start).2 ∧ Fr (fun _ => False) w w' := by
  have HGL := Lib.hid hG
  have HT := Lib.hid hT
  have hln := hT.1
  have HLN := Lib.hid hln
  have HFT := Lib.hid hfit
  obtain ⟨R, hR⟩ : ∃ R, R = weigh T SyM.start := ⟨_, rfl⟩
  rw [← hR]
  have HR := Lib.hid hR
  have hmk1 : ∀ w : World, (Instr.makeSlice 44 (.int .i64 286) (.int .i64 286)).run Tryd.prog w = .ok (.slice (some ⟨w.heap.size, 0, none⟩) 286 286) (w.alloc (.cells (Array.replicate 286 (.int .i64 0)) 3)) := mk_int7 286 (by omega)
  have hmk2 : ∀ w : World, (Instr.makeSlice 44 (.int .i64 30) (.int .i64 30)).run Tryd.prog w = .ok (.slice (some ⟨w.heap.size, 0, none⟩) 30 30) (w.alloc (.cells (Array.replicate 30 (.int .i64 0)) 3)) := mk_int7 30 (by omega)
  obtain ⟨ra, hra⟩ : ∃ r, r = Array.replicate 286 (Value.int .i64 0) := ⟨_, rfl⟩
  obtain ⟨rb, hrb⟩ : ∃ r, r = Array.replicate 30 (Value.int .i64 0) := ⟨_, rfl⟩
  have hza : ∀ w : World, NRow (w.alloc (.cells ra 3)) w.heap.size (List.replicate 286 0) := fun w => by rw [hra]; exact NRow.zeros w 286
  have hzb : ∀ w : World, NRow (w.alloc (.cells rb 3)) w.heap.size (List.replicate 30 0) := fun w => by rw [hrb]; exact NRow.zeros w 30
  rw [← hra] at hmk1
  rw [← hrb] at hmk2
  have HZA := Lib.hid hza
  have HZB := Lib.hid hzb
  clear hG hT hln hfit hR hra hrb hza hzb
  have hfs := run_symS
  go_enter Tryd.func19, Tryd.ntmps19
  go_upto_region 1 with fail
  go_cut [4, 5] (fun a b wx => ∃ ga gb, a = .slice (some ⟨ga, 0, none⟩) 286 286 ∧ b = .slice (some ⟨gb, 0, none⟩) 30 30 ∧ ga ≠ gb ∧ w.heap.size ≤ ga ∧ w.heap.size ≤ gb ∧ NRow wx ga (List.replicate 286 0) ∧ NRow wx gb (List.replicate 30 0) ∧ Fr (fun _ => False) w wx)
  case first =>
    go_region
    · go_wp2_with fail
      go_meet
      refine ⟨w.heap.size, w.heap.size + 1, rfl, rfl, by omega, by omega, by omega, ?_, ?_, (((Fr.refl _ w).alloc _).alloc _).drew⟩
      · exact Row.drew (Row.alloc (HZA.out w) _)
      · have h := HZB.out (w.alloc (.cells ra 3))
        rw [show (w.alloc (.cells ra 3)).heap.size = w.heap.size + 1 by simp] at h
        exact Row.drew h
    · go_wp2_with fail
      go_meet
      refine ⟨w.heap.size + 1, w.heap.size, rfl, rfl, by omega, by omega, by omega, ?_, ?_, (((Fr.refl _ w).alloc _).alloc _).drew⟩
      · have h := HZA.out (w.alloc (.cells rb 3))
        rw [show (w.alloc (.cells rb 3)).heap.size = w.heap.size + 1 by simp] at h
        exact Row.drew h
      · exact Row.drew (Row.alloc (HZB.out w) _)
  obtain ⟨ga, gb, rfl, rfl, hab, hga, hgb, ha, hb, hf⟩ := hcut
  rename World => w1
  obtain ⟨z286, hz286⟩ : ∃ z, z = List.replicate 286 0 := ⟨_, rfl⟩
  obtain ⟨z30, hz30⟩ : ∃ z, z = List.replicate 30 0 := ⟨_, rfl⟩
  rw [← hz286] at ha
  rw [← hz30] at hb
  have hl286 : z286.length = 286 := by rw [hz286]; simp
  have c0 := ha.at_ (i := 256) (by omega)
  have e0 : z286[256]! = 0 := by rw [hz286]; rfl
  have f0 : w1.frozen? ⟨ga, 256, none⟩ = false := Row.free ha 256
  have ha2 := ha.bump 256
  rw [e0] at c0 ha2
  replace ha2 : NRow (w1.setCell ⟨ga, 256, none⟩ (.int .i64 1)) ga (SyM.bump z286 256) := ha2
  have HAB := Lib.hid (And.intro hab (And.intro hga hgb))
  have HA2 := Lib.hid ha2
  have HB2 : Hid (NRow (w1.setCell ⟨ga, 256, none⟩ (.int .i64 1)) gb z30) := Lib.hid (Row.other hb (fun e => hab e.symm) _)
  have HF2 : Hid (Fr (fun _ => False) w (w1.setCell ⟨ga, 256, none⟩ (.int .i64 1))) := Lib.hid (hf.trans (Fr.set1 w1 ga 256 _) (fun b hb h => by omega))
  have HST : Hid (SyM.start = (SyM.bump z286 256, z30)) := Lib.hid (by rw [hz286, hz30]; rfl)
  have HLE : Hid ((∀ x ∈ z286, x ≤ 0) ∧ (∀ x ∈ z30, x ≤ 0) ∧ z286.length = 286 ∧ z30.length = 30) := Lib.hid (by rw [hz286, hz30]; exact ⟨fun x hx => Nat.le_of_eq (List.eq_of_mem_replicate hx), fun x hx => Nat.le_of_eq (List.eq_of_mem_replicate hx), by simp, by simp⟩)
  clear hz286 hz30 ha hb ha2 e0 hf hab hga hgb hl286
  go_wp2_with fail
  go_loopw [14] (fun i wr => ∃ (k : Nat) (La Lb : List Nat), k ≤ n ∧ i = .int .i64 (k : Int) ∧ Hid (NRow wr ga La ∧ NRow wr gb Lb) ∧ Hid (weigh (T.drop k) (La, Lb) = R) ∧ Hid ((∀ x ∈ La, x ≤ k + 1) ∧ (∀ x ∈ Lb, x ≤ k + 1) ∧ La.length = 286 ∧ Lb.length = 30) ∧ Hid (Fr (fun _ => False) w wr)) (fun i _ => n - (intOf i).toNat)
  case atStart =>
    refine ⟨0, SyM.bump z286 256, z30, Nat.zero_le _, rfl, ⟨HA2.out, HB2.out⟩, ?_, ⟨fun x hx => ?_, fun x hx => ?_, by rw [bump_length]; exact HLE.out.2.2.1, HLE.out.2.2.2⟩, HF2.out⟩
    · show weigh T (SyM.bump z286 256, z30) = R
      rw [HR.out, HST.out]
    · exact (bump_le HLE.out.1).1 x hx
    · have := HLE.out.2.1 x hx; omega
  case round =>
    obtain ⟨k, La, Lb, hk, rfl, HN, HW, HLL, HF⟩ := hrel
    rename World => wr
    by_cases hlt : k < n
    · obtain ⟨t, ht⟩ : ∃ t, T[k]? = some t := ⟨_, List.getElem?_eq_getElem (by have := HLN.out; omega)⟩
      have hdr : T.drop k = t :: T.drop (k + 1) := by rw [List.drop_eq_getElem_cons (by have := HLN.out; omega)]; congr 1; exact (List.getElem?_eq_some_iff.1 ht).2
      obtain ⟨g, o, rfl, hg, h1w, h2w, h3w⟩ := HT.out.2 k t ht
      have h1 := HF.out.cell h1w (fun h => h)
      have h2 := HF.out.cell h2w (fun h => h)
      have h3 := HF.out.cell h3w (fun h => h)
      have hw := HW.out
      rw [hdr, weigh] at hw
      have hla := HLL.out.2.2.1
      have hlb := HLL.out.2.2.2
      have hft := HFT.out t (List.mem_of_getElem? ht)
      clear h1w h2w h3w hg hdr ht
      rcases fits_cases hft with ⟨b, rfl⟩ | ⟨L, D, rfl, hL3, hL258, hD1, hD2⟩
      · rw [if_pos rfl] at hw
        simp only at hw h1 h2 h3
        obtain ⟨u, hu⟩ : ∃ u, u = b.toNat := ⟨_, rfl⟩
        have hu256 : u < 256 := by rw [hu]; exact b.toNat_lt
        unfold bytec at h1
        have hli : ∀ w, Calls Tryd.prog 15 #[.int .u8 (u : Int)] w fun e w' => e = .returned (.agg #[.int .i64 (u : Int), .int .i64 0, .int .u64 0]) ∧ Fr (fun _ => False) w w' := fun w => by
          rw [hu]
          exact literal_any b w
        have HLI := Lib.hid hli
        rw [← hu] at hw h1
        have hb1 := bump_le (i := u) HLL.out.1
        obtain ⟨y, hy⟩ : ∃ y, y = La[u]! := ⟨_, rfl⟩
        rw [← hy] at hb1
        have hyk : y ≤ k + 1 := hb1.2
        have HY := Lib.hid hy
        have HL2 : Hid ((∀ x ∈ SyM.bump La u, x ≤ k + 1 + 1) ∧ (∀ x ∈ Lb, x ≤ k + 1 + 1) ∧ (SyM.bump La u).length = 286 ∧ Lb.length = 30) := Lib.hid ⟨hb1.1, fun x hx => by have := HLL.out.2.1 x hx; omega, by rw [bump_length]; exact hla, hlb⟩
        have HW2 := Lib.hid hw
        have hula : u < 286 := by omega
        have HUL := Lib.hid (show u < La.length by omega)
        clear hu hb1 hy hw hla hlb hft hli
        go_upto_region 6 with fail
        obtain ⟨w2, hw2⟩ : ∃ w2, w2 = wr.alloc (.cells #[Value.int .u8 (u : Int), .int .i64 0, .int .i64 0] 43) := ⟨_, rfl⟩
        have hq2 : Row w2 wr.heap.size 43 [Value.int .u8 (u : Int), .int .i64 0, .int .i64 0] := by rw [hw2]; exact Row.new wr _ _
        have hf2 : Fr (fun _ => False) wr w2 := by rw [hw2]; exact (Fr.refl _ wr).alloc _
        obtain ⟨q, hq⟩ : ∃ q, q = wr.heap.size := ⟨_, rfl⟩
        rw [← hw2]
        rw [← hq] at hq2 ⊢
        have d0 : w2.cell? ⟨q, 0, none⟩ = some (.int .u8 (u : Int)) := hq2.cell rfl
        have d1 : w2.cell? ⟨q, 1, none⟩ = some (.int .i64 0) := hq2.cell rfl
        have HF2 := Lib.hid hf2
        clear hw2 hq2 hf2 hq h1 h2 h3
        go_wp2_with fail
        refine (HLI.out w2).mono ?_
        rintro e w3 ⟨rfl, hf3⟩
        have HF3 := Lib.hid (HF2.out.trans hf3 (fun _ _ h => h))
        have hna : NRow w3 ga La := Row.fr HN.out.1 HF3.out (fun h => h)
        have hnb : NRow w3 gb Lb := Row.fr HN.out.2 HF3.out (fun h => h)
        have c1 := hna.at_ (i := u) HUL.out
        have f1 : w3.frozen? ⟨ga, u, none⟩ = false := Row.free hna u
        have hb := hna.bump u
        rw [← HY.out] at c1 hb
        have HN2 : Hid (NRow (w3.setCell ⟨ga, u, none⟩ (.int .i64 ((y : Int) + 1))) ga (SyM.bump La u) ∧ NRow (w3.setCell ⟨ga, u, none⟩ (.int .i64 ((y : Int) + 1))) gb Lb) := Lib.hid ⟨hb, Row.other hnb (fun e => HAB.out.1 e.symm) _⟩
        have HF4 : Hid (Fr (fun _ => False) w (w3.setCell ⟨ga, u, none⟩ (.int .i64 ((y : Int) + 1)))) := Lib.hid ((HF.out.trans HF3.out (fun _ _ h => h)).trans (Fr.set1 w3 ga u _) (fun b hb h => by have := HAB.out.2.1; omega))
        clear hf3 hna hnb hb d0 d1
        go_wp2_with fail
        exact ⟨⟨k + 1, SyM.bump La u, Lb, by omega, by go_num, HN2.out, HW2.out, HL2.out, HF4.out⟩, by simp [intOf]; omega⟩
      · rw [if_neg (by simp only; omega)] at hw
        simp only at hw h1 h2 h3
        obtain ⟨x, hx⟩ : ∃ x, x = sym (L : Int) lens := ⟨_, rfl⟩
        obtain ⟨y, hy⟩ : ∃ y, y = sym (D : Int) dists := ⟨_, rfl⟩
        have hx29 : x < 29 := by rw [hx]; exact sym_lt _ lens (by decide)
        have hy30 : y < 30 := by rw [hy]; exact sym_lt _ dists (by decide)
        rw [← hx, ← hy] at hw
        obtain ⟨p, hp⟩ : ∃ p, p = 257 + x := ⟨_, rfl⟩
        have hlc : ∀ w, Gl w → Calls Tryd.prog 13 #[.int .i64 (L : Int)] w fun e w' => (∃ (b2 x2 : Nat), e = .returned (.agg #[.int .i64 (p : Int), .int .i64 (b2 : Int), .int .u64 (x2 : Int)])) ∧ Fr (fun _ => False) w w' := fun w h => by
          have h2 := length_any (L : Int) w h ⟨by omega, by omega⟩
          rw [show lenS (L : Int) = x by unfold lenS; rw [clampI_id _ _ _ (by omega) (by omega), hx], ← hp] at h2
          exact h2.mono (fun e w' h => ⟨⟨_, _, h.1⟩, h.2⟩)
        have hdc : ∀ w, Gl w → Calls Tryd.prog 14 #[.int .i64 (D : Int)] w fun e w' => (∃ (b2 x2 : Nat), e = .returned (.agg #[.int .i64 (y : Int), .int .i64 (b2 : Int), .int .u64 (x2 : Int)])) ∧ Fr (fun _ => False) w w' := fun w h => by
          have h2 := distance_any (D : Int) w h ⟨by omega, by omega⟩
          rw [show distS (D : Int) = y by unfold distS; rw [clampI_id _ _ _ (by omega) (by omega), hy]] at h2
          exact h2.mono (fun e w' h => ⟨⟨_, _, h.1⟩, h.2⟩)
        have HLC := Lib.hid hlc
        have HDC := Lib.hid hdc
        have HWW := Lib.hid hw
        have hp286 : p < 286 := by omega
        have hb1 := bump_le (i := p) HLL.out.1
        have hb2 := bump_le (i := y) HLL.out.2.1
        obtain ⟨u, hu⟩ : ∃ u, u = La[p]! := ⟨_, rfl⟩
        obtain ⟨v, hv⟩ : ∃ v, v = Lb[y]! := ⟨_, rfl⟩
        have huk : u ≤ k + 1 := by rw [hu]; exact hb1.2
        have hvk : v ≤ k + 1 := by rw [hv]; exact hb2.2
        have HL8 : Hid ((∀ x ∈ SyM.bump La p, x ≤ k + 1 + 1) ∧ (∀ x ∈ SyM.bump Lb y, x ≤ k + 1 + 1) ∧ (SyM.bump La p).length = 286 ∧ (SyM.bump Lb y).length = 30) := Lib.hid ⟨hb1.1, hb2.1, by rw [bump_length]; exact HLL.out.2.2.1, by rw [bump_length]; exact HLL.out.2.2.2⟩
        have HW8 : Hid (weigh (T.drop (k + 1)) (SyM.bump La p, SyM.bump Lb y) = R) := Lib.hid (by rw [hp]; exact HWW.out)
        have HU := Lib.hid (And.intro hu hv)
        have hL0 : ¬ (L : Int) = 0 := by omega
        replace h1 : wr.cell? ⟨g, o + k * 3, none⟩ = some (.int .u8 0) := h1
        clear hx hy hlc hdc hw hft c0 f0 hla hlb hp hb1 hb2 hu hv
        go_upto_region 6 with fail
        obtain ⟨w2, hw2⟩ : ∃ w2, w2 = wr.alloc (.cells #[Value.int .u8 0, .int .i64 (L : Int), .int .i64 (D : Int)] 43) := ⟨_, rfl⟩
        have hq2 : Row w2 wr.heap.size 43 [Value.int .u8 0, .int .i64 (L : Int), .int .i64 (D : Int)] := by rw [hw2]; exact Row.new wr _ _
        have hf2 : Fr (fun _ => False) wr w2 := by rw [hw2]; exact (Fr.refl _ wr).alloc _
        obtain ⟨q, hq⟩ : ∃ q, q = wr.heap.size := ⟨_, rfl⟩
        rw [← hw2]
        rw [← hq] at hq2 ⊢
        have d1 : w2.cell? ⟨q, 1, none⟩ = some (.int .i64 (L : Int)) := hq2.cell rfl
        have HQ2 := Lib.hid hq2
        have HF2 := Lib.hid hf2
        have HGA := Lib.hid (show ga < wr.heap.size ∧ gb < wr.heap.size from ⟨Row.lt HN.out.1, Row.lt HN.out.2⟩)
        have HQ := Lib.hid hq
        have HG2 := Lib.hid (HGL.out.fr0 (HF.out.trans hf2 (fun _ _ h => h)))
        clear hw2 hq2 hf2 hq h1 h2 h3
        go_wp2_with fail
        refine (HLC.out w2 HG2.out).mono ?_
        rintro e w3 ⟨⟨b2, x2, rfl⟩, hf3⟩
        have HF3 := Lib.hid (HF2.out.trans hf3 (fun _ _ h => h))
        have hna : NRow w3 ga La := Row.fr HN.out.1 HF3.out (fun h => h)
        have hnb : NRow w3 gb Lb := Row.fr HN.out.2 HF3.out (fun h => h)
        have hq3 := HQ2.out.fr hf3 (fun h => h)
        have c1 := hna.at_ (i := p) (by rw [HLL.out.2.2.1]; exact hp286)
        have f1 : w3.frozen? ⟨ga, p, none⟩ = false := Row.free hna p
        have ha2 := hna.bump p
        rw [← HU.out.1] at c1 ha2
        obtain ⟨w4, hw4⟩ : ∃ w4, w4 = w3.setCell ⟨ga, p, none⟩ (.int .i64 ((u : Int) + 1)) := ⟨_, rfl⟩
        rw [← hw4] at ha2
        have hnb4 : NRow w4 gb Lb := by rw [hw4]; exact Row.other hnb (fun e => HAB.out.1 e.symm) _
        have hq4 : Row w4 q 43 [Value.int .u8 0, .int .i64 (L : Int), .int .i64 (D : Int)] := by rw [hw4]; exact hq3.other (by have := HGA.out; have := HQ.out; omega) _
        have hf34 : Fr (fun b => b = ga) w3 w4 := by rw [hw4]; exact Fr.set1 w3 ga p _
        have HF4 := Lib.hid ((HF.out.trans HF3.out (fun _ _ h => h)).trans hf34 (fun b hb h => by have := HAB.out.2.1; omega))
        have HG4 := Lib.hid (HGL.out.fr0 HF4.out)
        have HNA4 := Lib.hid ha2
        have HNB4 := Lib.hid hnb4
        have HW4 := Lib.hid hw4
        have d2 : w4.cell? ⟨q, 2, none⟩ = some (.int .i64 (D : Int)) := hq4.cell rfl
        clear hf3 hna hnb hq3 ha2 hw4 hnb4 hq4 hf34 d1
        go_upto_region 9 with fail
        rw [← HW4.out]
        clear c1 f1
        go_wp2_with fail
        refine (HDC.out w4 HG4.out).mono ?_
        rintro e w5 ⟨⟨b3, x3, rfl⟩, hf5⟩
        have hna : NRow w5 ga (SyM.bump La p) := Row.fr HNA4.out hf5 (fun h => h)
        have hnb : NRow w5 gb Lb := Row.fr HNB4.out hf5 (fun h => h)
        have c1 := hnb.at_ (i := y) (by rw [HLL.out.2.2.2]; exact hy30)
        have f1 : w5.frozen? ⟨gb, y, none⟩ = false := Row.free hnb y
        have hb2 := hnb.bump y
        rw [← HU.out.2] at c1 hb2
        have HN8 : Hid (NRow (w5.setCell ⟨gb, y, none⟩ (.int .i64 ((v : Int) + 1))) ga (SyM.bump La p) ∧ NRow (w5.setCell ⟨gb, y, none⟩ (.int .i64 ((v : Int) + 1))) gb (SyM.bump Lb y)) := Lib.hid ⟨Row.other hna HAB.out.1 _, hb2⟩
        have HF8 : Hid (Fr (fun _ => False) w (w5.setCell ⟨gb, y, none⟩ (.int .i64 ((v : Int) + 1)))) := Lib.hid ((HF4.out.trans hf5 (fun _ _ h => h)).trans (Fr.set1 w5 gb y _) (fun b hb h => by have := HAB.out.2.2; omega))
        clear hf5 hna hnb hb2 d2
        go_wp2_with fail
        exact ⟨⟨k + 1, SyM.bump La p, SyM.bump Lb y, by omega, by go_num, HN8.out, HW8.out, HL8.out, HF8.out⟩, by simp [intOf]; omega⟩
    · obtain rfl : k = n := by omega
      have hw := HW.out
      rw [List.drop_of_length_le (by have := HLN.out; omega)] at hw
      have hw2 : (La, Lb) = R := hw
      clear hw
      subst hw2
      go_wp2_with fail
      exact bodyPost_ret (v := .tuple #[.slice (some ⟨ga, 0, none⟩) 286 286, .slice (some ⟨gb, 0, none⟩) 30 30]) (by simp [results, Tryd.results19, go_sem]) rfl ⟨ga, gb, rfl, HN.out.1, HN.out.2, HF.out⟩
end Go.Proofs.YtamcgenjlndfjaaDoor
