/-
  Contract of layer 7's program: Weights.
  Contracts of layer 7's program: fixedLiteral, Fixed; Weights as two slices.
-/
import Derived.Test.YtgpkiijmembggaaGreatDoorZm34
import Derived.Test.YtgpkiijmembggaaGreatDoorZm06
namespace Go.Proofs.YtgpkiijmembggaaGreatDoor
open Go.RowKit SyM LzM Mem Go.Lib
attribute [local go_sem ↓] Go.wp_at_zero Go.wp_at_succ
set_option linter.unusedVariables false

theorem run_symS (a b c : Int) (w : World) : (Instr.field 91 (.agg #[.int .i64 a, .int .i64 b, .int .u64 c]) 0).run Tryz.prog w = .ok (.int .i64 a) w := by
  unfold Instr.field
  go_simp
  rfl

set_option maxRecDepth 100000 in
set_option maxHeartbeats 3200000 in
theorem pWeights_any (A : Option Addr) (n c : Nat) (T : List Tok) (w : World) (hG : Gl w) (hT : Toks w A n T) (hn : n ≤ 1000000) (hfit : ∀ t ∈ T, Fits t) :
    Calls Tryz.prog 30 #[.slice A n c] w fun e w' => ∃ ga gb, e = .returned (.tuple #[.slice (some ⟨ga, 0, none⟩) 286 286, .slice (some ⟨gb, 0, none⟩) 30 30]) ∧ NRow w' ga (weigh T SyM.start).1 ∧ NRow w' gb (weigh T SyM.start).2 ∧ Fr (fun _ => False) w w' := by
  have HGL := Lib.hid hG
  have HT := Lib.hid hT
  have hln := hT.1
  have HLN := Lib.hid hln
  have HFT := Lib.hid hfit
  obtain ⟨R, hR⟩ : ∃ R, R = weigh T SyM.start := ⟨_, rfl⟩
  rw [← hR]
  have HR := Lib.hid hR
  have hmk1 : ∀ w : World, (Instr.makeSlice 60 (.int .i64 286) (.int .i64 286)).run Tryz.prog w = .ok (.slice (some ⟨w.heap.size, 0, none⟩) 286 286) (w.alloc (.cells (Array.replicate 286 (.int .i64 0)) 3)) := mk_int7 286 (by omega)
  have hmk2 : ∀ w : World, (Instr.makeSlice 60 (.int .i64 30) (.int .i64 30)).run Tryz.prog w = .ok (.slice (some ⟨w.heap.size, 0, none⟩) 30 30) (w.alloc (.cells (Array.replicate 30 (.int .i64 0)) 3)) := mk_int7 30 (by omega)
  obtain ⟨ra, hra⟩ : ∃ r, r = Array.replicate 286 (Value.int .i64 0) := ⟨_, rfl⟩
  obtain ⟨rb, hrb⟩ : ∃ r, r = Array.replicate 30 (Value.int .i64 0) := ⟨_, rfl⟩
  have hza : ∀ w : World, NRow (w.alloc (.cells ra 3)) w.heap.size (List.replicate 286 0) := fun w => by rw [hra]; exact NRow.zeros w 286
  have hzb : ∀ w : World, NRow (w.alloc (.cells rb 3)) w.heap.size (List.replicate 30 0) := fun w => by rw [hrb]; exact NRow.zeros w 30
  rw [← hra] at hmk1
  rw [← hrb] at hmk2
  have HZA := Lib.hid hza
  have HZB := Lib.hid hzb
  clear hG hT hln hfit hR hra hrb hza hzb
  have hfs := run_symS
  go_enter Tryz.func30, Tryz.ntmps30
  go_upto_region 1 with fail
  go_cut [4, 5] (fun a b wx => ∃ ga gb, a = .slice (some ⟨ga, 0, none⟩) 286 286 ∧ b = .slice (some ⟨gb, 0, none⟩) 30 30 ∧ ga ≠ gb ∧ w.heap.size ≤ ga ∧ w.heap.size ≤ gb ∧ NRow wx ga (List.replicate 286 0) ∧ NRow wx gb (List.replicate 30 0) ∧ Fr (fun _ => False) w wx)
  case first =>
    go_region
    · go_wp2_with fail
      go_meet
      refine ⟨w.heap.size, w.heap.size + 1, rfl, rfl, by omega, by omega, by omega, ?_, ?_, (((Fr.refl _ w).alloc _).alloc _).drew⟩
      · exact Row.drew (Row.alloc (HZA.out w) _)
      · have h := HZB.out (w.alloc (.cells ra 3))
        rw [show (w.alloc (.cells ra 3)).heap.size = w.heap.size + 1 by simp] at h
        exact Row.drew h
    · go_wp2_with fail
      go_meet
      refine ⟨w.heap.size + 1, w.heap.size, rfl, rfl, by omega, by omega, by omega, ?_, ?_, (((Fr.refl _ w).alloc _).alloc _).drew⟩
      · have h := HZA.out (w.alloc (.cells rb 3))
        rw [show (w.alloc (.cells rb 3)).heap.size = w.heap.size + 1 by simp] at h
        exact Row.drew h
      · exact Row.drew (Row.alloc (HZB.out w) _)
  obtain ⟨ga, gb, rfl, rfl, hab, hga, hgb, ha, hb, hf⟩ := hcut
  rename World => w1
  obtain ⟨z286, hz286⟩ : ∃ z, z = List.replicate 286 0 := ⟨_, rfl⟩
  obtain ⟨z30, hz30⟩ : ∃ z, z = List.replicate 30 0 := ⟨_, rfl⟩
  rw [← hz286] at ha
  rw [← hz30] at hb
  have hl286 : z286.length = 286 := by rw [hz286]; simp
  have c0 := ha.at_ (i := 256) (by omega)
  have e0 : z286[256]! = 0 := by rw [hz286]; rfl
  have f0 : w1.frozen? ⟨ga, 256, none⟩ = false := Row.free ha 256
  have ha2 := ha.bump 256
  rw [e0] at c0 ha2
  replace ha2 : NRow (w1.setCell ⟨ga, 256, none⟩ (.int .i64 1)) ga (SyM.bump z286 256) := ha2
  have HAB := Lib.hid (And.intro hab (And.intro hga hgb))
  have HA2 := Lib.hid ha2
  have HB2 : Hid (NRow (w1.setCell ⟨ga, 256, none⟩ (.int .i64 1)) gb z30) := Lib.hid (Row.other hb (fun e => hab e.symm) _)
  have HF2 : Hid (Fr (fun _ => False) w (w1.setCell ⟨ga, 256, none⟩ (.int .i64 1))) := Lib.hid (hf.trans (Fr.set1 w1 ga 256 _) (fun b hb h => by omega))
  have HST : Hid (SyM.start = (SyM.bump z286 256, z30)) := Lib.hid (by rw [hz286, hz30]; rfl)
  have HLE : Hid ((∀ x ∈ z286, x ≤ 0) ∧ (∀ x ∈ z30, x ≤ 0) ∧ z286.length = 286 ∧ z30.length = 30) := Lib.hid (by rw [hz286, hz30]; exact ⟨fun x hx => Nat.le_of_eq (List.eq_of_mem_replicate hx), fun x hx => Nat.le_of_eq (List.eq_of_mem_replicate hx), by simp, by simp⟩)
  clear hz286 hz30 ha hb ha2 e0 hf hab hga hgb hl286
  go_wp2_with fail
  go_loopw [14] (fun i wr => ∃ (k : Nat) (La Lb : List Nat), k ≤ n ∧ i = .int .i64 (k : Int) ∧ Hid (NRow wr ga La ∧ NRow wr gb Lb) ∧ Hid (weigh (T.drop k) (La, Lb) = R) ∧ Hid ((∀ x ∈ La, x ≤ k + 1) ∧ (∀ x ∈ Lb, x ≤ k + 1) ∧ La.length = 286 ∧ Lb.length = 30) ∧ Hid (Fr (fun _ => False) w wr)) (fun i _ => n - (intOf i).toNat)
  case atStart =>
    refine ⟨0, SyM.bump z286 256, z30, Nat.zero_le _, rfl, ⟨HA2.out, HB2.out⟩, ?_, ⟨fun x hx => ?_, fun x hx => ?_, by rw [bump_length]; exact HLE.out.2.2.1, HLE.out.2.2.2⟩, HF2.out⟩
    · show weigh T (SyM.bump z286 256, z30) = R
      rw [HR.out, HST.out]
    · exact (bump_le HLE.out.1).1 x hx
    · have := HLE.out.2.1 x hx; omega
  case round =>
    obtain ⟨k, La, Lb, hk, rfl, HN, HW, HLL, HF⟩ := hrel
    rename World => wr
    by_cases hlt : k < n
    · obtain ⟨t, ht⟩ : ∃ t, T[k]? = some t := ⟨_, List.getElem?_eq_getElem (by have := HLN.out; omega)⟩
      have hdr : T.drop k = t :: T.drop (k + 1) := by rw [List.drop_eq_getElem_cons (by have := HLN.out; omega)]; congr 1; exact (List.getElem?_eq_some_iff.1 ht).2
      obtain ⟨g, o, rfl, hg, h1w, h2w, h3w⟩ := HT.out.2 k t ht
      have h1 := HF.out.cell h1w (fun h => h)
      have h2 := HF.out.cell h2w (fun h => h)
      have h3 := HF.out.cell h3w (fun h => h)
      have hw := HW.out
      rw [hdr, weigh] at hw
      have hla := HLL.out.2.2.1
      have hlb := HLL.out.2.2.2
      have hft := HFT.out t (List.mem_of_getElem? ht)
      clear h1w h2w h3w hg hdr ht
      rcases fits_cases hft with ⟨b, rfl⟩ | ⟨L, D, rfl, hL3, hL258, hD1, hD2⟩
      · rw [if_pos rfl] at hw
        simp only at hw h1 h2 h3
        obtain ⟨u, hu⟩ : ∃ u, u = b.toNat := ⟨_, rfl⟩
        have hu256 : u < 256 := by rw [hu]; exact b.toNat_lt
        unfold bytec at h1
        have hli : ∀ w, Calls Tryz.prog 40 #[.int .u8 (u : Int)] w fun e w' => e = .returned (.agg #[.int .i64 (u : Int), .int .i64 0, .int .u64 0]) ∧ Fr (fun _ => False) w w' := fun w => by
          rw [hu]
          exact literal_any b w
        have HLI := Lib.hid hli
        rw [← hu] at hw h1
        have hb1 := bump_le (i := u) HLL.out.1
        obtain ⟨y, hy⟩ : ∃ y, y = La[u]! := ⟨_, rfl⟩
        rw [← hy] at hb1
        have hyk : y ≤ k + 1 := hb1.2
        have HY := Lib.hid hy
        have HL2 : Hid ((∀ x ∈ SyM.bump La u, x ≤ k + 1 + 1) ∧ (∀ x ∈ Lb, x ≤ k + 1 + 1) ∧ (SyM.bump La u).length = 286 ∧ Lb.length = 30) := Lib.hid ⟨hb1.1, fun x hx => by have := HLL.out.2.1 x hx; omega, by rw [bump_length]; exact hla, hlb⟩
        have HW2 := Lib.hid hw
        have hula : u < 286 := by omega
        have HUL := Lib.hid (show u < La.length by omega)
        clear hu hb1 hy hw hla hlb hft hli
        go_upto_region 6 with fail
        obtain ⟨w2, hw2⟩ : ∃ w2, w2 = wr.alloc (.cells #[Value.int .u8 (u : Int), .int .i64 0, .int .i64 0] 71) := ⟨_, rfl⟩
        have hq2 : Row w2 wr.heap.size 71 [Value.int .u8 (u : Int), .int .i64 0, .int .i64 0] := by rw [hw2]; exact Row.new wr _ _
        have hf2 : Fr (fun _ => False) wr w2 := by rw [hw2]; exact (Fr.refl _ wr).alloc _
        obtain ⟨q, hq⟩ : ∃ q, q = wr.heap.size := ⟨_, rfl⟩
        rw [← hw2]
        rw [← hq] at hq2 ⊢
        have d0 : w2.cell? ⟨q, 0, none⟩ = some (.int .u8 (u : Int)) := hq2.cell rfl
        have d1 : w2.cell? ⟨q, 1, none⟩ = some (.int .i64 0) := hq2.cell rfl
        have HF2 := Lib.hid hf2
        clear hw2 hq2 hf2 hq h1 h2 h3
        go_wp2_with fail
        refine (HLI.out w2).mono ?_
        rintro e w3 ⟨rfl, hf3⟩
        have HF3 := Lib.hid (HF2.out.trans hf3 (fun _ _ h => h))
        have hna : NRow w3 ga La := Row.fr HN.out.1 HF3.out (fun h => h)
        have hnb : NRow w3 gb Lb := Row.fr HN.out.2 HF3.out (fun h => h)
        have c1 := hna.at_ (i := u) HUL.out
        have f1 : w3.frozen? ⟨ga, u, none⟩ = false := Row.free hna u
        have hb := hna.bump u
        rw [← HY.out] at c1 hb
        have HN2 : Hid (NRow (w3.setCell ⟨ga, u, none⟩ (.int .i64 ((y : Int) + 1))) ga (SyM.bump La u) ∧ NRow (w3.setCell ⟨ga, u, none⟩ (.int .i64 ((y : Int) + 1))) gb Lb) := Lib.hid ⟨hb, Row.other hnb (fun e => HAB.out.1 e.symm) _⟩
        have HF4 : Hid (Fr (fun _ => False) w (w3.setCell ⟨ga, u, none⟩ (.int .i64 ((y : Int) + 1)))) := Lib.hid ((HF.out.trans HF3.out (fun _ _ h => h)).trans (Fr.set1 w3 ga u _) (fun b hb h => by have := HAB.out.2.1; omega))
        clear hf3 hna hnb hb d0 d1
        go_wp2_with fail
        exact ⟨⟨k + 1, SyM.bump La u, Lb, by omega, by go_num, HN2.out, HW2.out, HL2.out, HF4.out⟩, by simp [intOf]; omega⟩
      · rw [if_neg (by simp only; omega)] at hw
        simp only at hw h1 h2 h3
        obtain ⟨x, hx⟩ : ∃ x, x = sym (L : Int) lens := ⟨_, rfl⟩
        obtain ⟨y, hy⟩ : ∃ y, y = sym (D : Int) dists := ⟨_, rfl⟩
        have hx29 : x < 29 := by rw [hx]; exact sym_lt _ lens (by decide)
        have hy30 : y < 30 := by rw [hy]; exact sym_lt _ dists (by decide)
        rw [← hx, ← hy] at hw
        obtain ⟨p, hp⟩ : ∃ p, p = 257 + x := ⟨_, rfl⟩
        have hlc : ∀ w, Gl w → Calls Tryz.prog 41 #[.int .i64 (L : Int)] w fun e w' => (∃ (b2 x2 : Nat), e = .returned (.agg #[.int .i64 (p : Int), .int .i64 (b2 : Int), .int .u64 (x2 : Int)])) ∧ Fr (fun _ => False) w w' := fun w h => by
          have h2 := length_any (L : Int) w h ⟨by omega, by omega⟩
          rw [show lenS (L : Int) = x by unfold lenS; rw [clampI_id _ _ _ (by omega) (by omega), hx], ← hp] at h2
          exact h2.mono (fun e w' h => ⟨⟨_, _, h.1⟩, h.2⟩)
        have hdc : ∀ w, Gl w → Calls Tryz.prog 42 #[.int .i64 (D : Int)] w fun e w' => (∃ (b2 x2 : Nat), e = .returned (.agg #[.int .i64 (y : Int), .int .i64 (b2 : Int), .int .u64 (x2 : Int)])) ∧ Fr (fun _ => False) w w' := fun w h => by
          have h2 := distance_any (D : Int) w h ⟨by omega, by omega⟩
          rw [show distS (D : Int) = y by unfold distS; rw [clampI_id _ _ _ (by omega) (by omega), hy]] at h2
          exact h2.mono (fun e w' h => ⟨⟨_, _, h.1⟩, h.2⟩)
        have HLC := Lib.hid hlc
        have HDC := Lib.hid hdc
        have HWW := Lib.hid hw
        have hp286 : p < 286 := by omega
        have hb1 := bump_le (i := p) HLL.out.1
        have hb2 := bump_le (i := y) HLL.out.2.1
        obtain ⟨u, hu⟩ : ∃ u, u = La[p]! := ⟨_, rfl⟩
        obtain ⟨v, hv⟩ : ∃ v, v = Lb[y]! := ⟨_, rfl⟩
        have huk : u ≤ k + 1 := by rw [hu]; exact hb1.2
        have hvk : v ≤ k + 1 := by rw [hv]; exact hb2.2
        have HL8 : Hid ((∀ x ∈ SyM.bump La p, x ≤ k + 1 + 1) ∧ (∀ x ∈ SyM.bump Lb y, x ≤ k + 1 + 1) ∧ (SyM.bump La p).length = 286 ∧ (SyM.bump Lb y).length = 30) := Lib.hid ⟨hb1.1, hb2.1, by rw [bump_length]; exact HLL.out.2.2.1, by rw [bump_length]; exact HLL.out.2.2.2⟩
        have HW8 : Hid (weigh (T.drop (k + 1)) (SyM.bump La p, SyM.bump Lb y) = R) := Lib.hid (by rw [hp]; exact HWW.out)
        have HU := Lib.hid (And.intro hu hv)
        have hL0 : ¬ (L : Int) = 0 := by omega
        replace h1 : wr.cell? ⟨g, o + k * 3, none⟩ = some (.int .u8 0) := h1
        clear hx hy hlc hdc hw hft c0 f0 hla hlb hp hb1 hb2 hu hv
        go_upto_region 6 with fail
        obtain ⟨w2, hw2⟩ : ∃ w2, w2 = wr.alloc (.cells #[Value.int .u8 0, .int .i64 (L : Int), .int .i64 (D : Int)] 71) := ⟨_, rfl⟩
        have hq2 : Row w2 wr.heap.size 71 [Value.int .u8 0, .int .i64 (L : Int), .int .i64 (D : Int)] := by rw [hw2]; exact Row.new wr _ _
        have hf2 : Fr (fun _ => False) wr w2 := by rw [hw2]; exact (Fr.refl _ wr).alloc _
        obtain ⟨q, hq⟩ : ∃ q, q = wr.heap.size := ⟨_, rfl⟩
        rw [← hw2]
        rw [← hq] at hq2 ⊢
        have d1 : w2.cell? ⟨q, 1, none⟩ = some (.int .i64 (L : Int)) := hq2.cell rfl
        have HQ2 := Lib.hid hq2
        have HF2 := Lib.hid hf2
        have HGA := Lib.hid (show ga < wr.heap.size ∧ gb < wr.heap.size from ⟨Row.lt HN.out.1, Row.lt HN.out.2⟩)
        have HQ := Lib.hid hq
        have HG2 := Lib.hid (HGL.out.fr0 (HF.out.trans hf2 (fun _ _ h => h)))
        clear hw2 hq2 hf2 hq h1 h2 h3
        go_wp2_with fail
        refine (HLC.out w2 HG2.out).mono ?_
        rintro e w3 ⟨⟨b2, x2, rfl⟩, hf3⟩
        have HF3 := Lib.hid (HF2.out.trans hf3 (fun _ _ h => h))
        have hna : NRow w3 ga La := Row.fr HN.out.1 HF3.out (fun h => h)
        have hnb : NRow w3 gb Lb := Row.fr HN.out.2 HF3.out (fun h => h)
        have hq3 := HQ2.out.fr hf3 (fun h => h)
        have c1 := hna.at_ (i := p) (by rw [HLL.out.2.2.1]; exact hp286)
        have f1 : w3.frozen? ⟨ga, p, none⟩ = false := Row.free hna p
        have ha2 := hna.bump p
        rw [← HU.out.1] at c1 ha2
        obtain ⟨w4, hw4⟩ : ∃ w4, w4 = w3.setCell ⟨ga, p, none⟩ (.int .i64 ((u : Int) + 1)) := ⟨_, rfl⟩
        rw [← hw4] at ha2
        have hnb4 : NRow w4 gb Lb := by rw [hw4]; exact Row.other hnb (fun e => HAB.out.1 e.symm) _
        have hq4 : Row w4 q 71 [Value.int .u8 0, .int .i64 (L : Int), .int .i64 (D : Int)] := by rw [hw4]; exact hq3.other (by have := HGA.out; have := HQ.out; omega) _
        have hf34 : Fr (fun b => b = ga) w3 w4 := by rw [hw4]; exact Fr.set1 w3 ga p _
        have HF4 := Lib.hid ((HF.out.trans HF3.out (fun _ _ h => h)).trans hf34 (fun b hb h => by have := HAB.out.2.1; omega))
        have HG4 := Lib.hid (HGL.out.fr0 HF4.out)
        have HNA4 := Lib.hid ha2
        have HNB4 := Lib.hid hnb4
        have HW4 := Lib.hid hw4
        have d2 : w4.cell? ⟨q, 2, none⟩ = some (.int .i64 (D : Int)) := hq4.cell rfl
        clear hf3 hna hnb hq3 ha2 hw4 hnb4 hq4 hf34 d1
        go_upto_region 9 with fail
        rw [← HW4.out]
        clear c1 f1
        go_wp2_with fail
        refine (HDC.out w4 HG4.out).mono ?_
        rintro e w5 ⟨⟨b3, x3, rfl⟩, hf5⟩
        have hna : NRow w5 ga (SyM.bump La p) := Row.fr HNA4.out hf5 (fun h => h)
        have hnb : NRow w5 gb Lb := Row.fr HNB4.out hf5 (fun h => h)
        have c1 := hnb.at_ (i := y) (by rw [HLL.out.2.2.2]; exact hy30)
        have f1 : w5.frozen? ⟨gb, y, none⟩ = false := Row.free hnb y
        have hb2 := hnb.bump y
        rw [← HU.out.2] at c1 hb2
        have HN8 : Hid (NRow (w5.setCell ⟨gb, y, none⟩ (.int .i64 ((v : Int) + 1))) ga (SyM.bump La p) ∧ NRow (w5.setCell ⟨gb, y, none⟩ (.int .i64 ((v : Int) + 1))) gb (SyM.bump Lb y)) := Lib.hid ⟨Row.other hna HAB.out.1 _, hb2⟩
        have HF8 : Hid (Fr (fun _ => False) w (w5.setCell ⟨gb, y, none⟩ (.int .i64 ((v : Int) + 1)))) := Lib.hid ((HF4.out.trans hf5 (fun _ _ h => h)).trans (Fr.set1 w5 gb y _) (fun b hb h => by have := HAB.out.2.2; omega))
        clear hf5 hna hnb hb2 d2
        go_wp2_with fail
        exact ⟨⟨k + 1, SyM.bump La p, SyM.bump Lb y, by omega, by go_num, HN8.out, HW8.out, HL8.out, HF8.out⟩, by simp [intOf]; omega⟩
    · obtain rfl : k = n := by omega
      have hw := HW.out
      rw [List.drop_of_length_le (by have := HLN.out; omega)] at hw
      have hw2 : (La, Lb) = R := hw
      clear hw
      subst hw2
      go_wp2_with fail
      exact bodyPost_ret (v := .tuple #[.slice (some ⟨ga, 0, none⟩) 286 286, .slice (some ⟨gb, 0, none⟩) 30 30]) (by simp [results, Tryz.results30, go_sem]) rfl ⟨ga, gb, rfl, HN.out.1, HN.out.2, HF.out⟩
end Go.Proofs.YtgpkiijmembggaaGreatDoor
namespace Go.Proofs.YtgpkiijmembggaaGreatDoor
open Go.RowKit SyM LzM Mem Go.Lib
attribute [local go_sem ↓] Go.wp_at_zero Go.wp_at_succ
set_option linter.unusedVariables false

def flN (k : Nat) : Nat := if k ≤ 143 then 8 else if k ≤ 255 then 9 else if k ≤ 279 then 7 else 8
theorem flN_is (k : Nat) (h : k < 288) : fixA[k]! = flN k := by
  have h2 : ∀ k : Fin 288, fixA[(k : Nat)]! = flN k := by decide +kernel
  exact h2 ⟨k, h⟩
theorem flN_le (k : Nat) : flN k ≤ 9 := by unfold flN; split <;> (try split) <;> (try split) <;> omega
theorem fixB_is (k : Nat) (h : k < 32) : fixB[k]! = 5 := by
  have h : ∀ k : Fin 32, fixB[(k : Nat)]! = 5 := by decide +kernel
  exact h ⟨k, by assumption⟩

theorem fixedLiteral_any (k : Nat) (w : World) (hk : k < 288) : Calls Tryz.prog 38 #[.int .i64 (k : Int)] w fun e w' => e = .returned (.int .i64 ((flN k : Nat) : Int)) ∧ w = w' := by
  unfold flN
  rcases (show k ≤ 143 ∨ (144 ≤ k ∧ k ≤ 255) ∨ (256 ≤ k ∧ k ≤ 279) ∨ 280 ≤ k by omega) with h | ⟨h, h'⟩ | ⟨h, h'⟩ | h
  · rw [if_pos h]
    have t1 : decide ((k : Int) ≤ 143) = true := decide_eq_true (by omega)
    clear h
    go_enter Tryz.func38, Tryz.ntmps38
    go_wp2_with fail
    go_ret
    exact ⟨rfl, rfl⟩
  · rw [if_neg (by omega), if_pos h']
    have t1 : decide ((k : Int) ≤ 143) = false := decide_eq_false (by omega)
    have t2 : decide ((k : Int) ≤ 255) = true := decide_eq_true (by omega)
    clear h h'
    go_enter Tryz.func38, Tryz.ntmps38
    go_wp2_with fail
    go_ret
    exact ⟨rfl, rfl⟩
  · rw [if_neg (by omega), if_neg (by omega), if_pos h']
    have t1 : decide ((k : Int) ≤ 143) = false := decide_eq_false (by omega)
    have t2 : decide ((k : Int) ≤ 255) = false := decide_eq_false (by omega)
    have t3 : decide ((k : Int) ≤ 279) = true := decide_eq_true (by omega)
    clear h h'
    go_enter Tryz.func38, Tryz.ntmps38
    go_wp2_with fail
    go_ret
    exact ⟨rfl, rfl⟩
  · rw [if_neg (by omega), if_neg (by omega), if_neg (by omega)]
    have t1 : decide ((k : Int) ≤ 143) = false := decide_eq_false (by omega)
    have t2 : decide ((k : Int) ≤ 255) = false := decide_eq_false (by omega)
    have t3 : decide ((k : Int) ≤ 279) = false := decide_eq_false (by omega)
    clear h
    go_enter Tryz.func38, Tryz.ntmps38
    go_wp2_with fail
    go_ret
    exact ⟨rfl, rfl⟩

/-- the first k are filled in -/
def filled (F : List Nat) (k : Nat) : List Nat := F.take k ++ List.replicate (F.length - k) 0
theorem filled_len (F : List Nat) (k : Nat) (h : k ≤ F.length) : (filled F k).length = F.length := by unfold filled; simp; omega
theorem filled_set (F : List Nat) (k : Nat) (h : k < F.length) : (filled F k).set k F[k]! = filled F (k + 1) := by
  unfold filled
  rw [List.set_append_right _ _ (by simp; omega), List.length_take, Nat.min_eq_left (by omega), Nat.sub_self, show F.length - k = (F.length - (k + 1)) + 1 by omega, List.replicate_succ, List.set_cons_zero, getElem!_pos F k h, ← List.take_append_getElem h, List.append_assoc]
  rfl
theorem filled_zero (F : List Nat) : filled F 0 = List.replicate F.length 0 := by unfold filled; simp
theorem filled_all (F : List Nat) : filled F F.length = F := by unfold filled; simp
theorem NRow.put {w : World} {g : Nat} {L : List Nat} (h : NRow w g L) (i x : Nat) : NRow (w.setCell ⟨g, i, none⟩ (.int .i64 (x : Int))) g (L.set i x) := by
  have := Row.set h i (natc x)
  rw [← List.map_set] at this
  exact this
theorem NRow.rd {w : World} {g : Nat} {L : List Nat} (h : NRow w g L) : Rd w (some ⟨g, 0, none⟩) L.length (L.map natc) := by
  have h2 := Row.rd h 0 L.length (by simp)
  rwa [List.drop_zero, List.take_of_length_le (by simp)] at h2

set_option maxRecDepth 100000 in
set_option maxHeartbeats 3200000 in
theorem fixedN_any (w : World) : Calls Tryz.prog 23 #[] w fun e w' => ∃ ga gb, e = .returned (.tuple #[.slice (some ⟨ga, 0, none⟩) fixA.length 288, .slice (some ⟨gb, 0, none⟩) fixB.length 32]) ∧ Rd w' (some ⟨ga, 0, none⟩) fixA.length (fixA.map natc) ∧ Rd w' (some ⟨gb, 0, none⟩) fixB.length (fixB.map natc) ∧ Fr (fun _ => False) w w' ∧ w.heap.size ≤ ga ∧ w.heap.size ≤ gb := by
  obtain ⟨FA, hFA⟩ : ∃ F, F = fixA := ⟨_, rfl⟩
  obtain ⟨FB, hFB⟩ : ∃ F, F = fixB := ⟨_, rfl⟩
  have hla : FA.length = 288 := by rw [hFA]; exact fix_len.1
  have hlb : FB.length = 32 := by rw [hFB]; exact fix_len.2
  have hfa : ∀ k, k < 288 → FA[k]! = flN k := by rw [hFA]; exact flN_is
  have hfb : ∀ k, k < 32 → FB[k]! = 5 := by rw [hFB]; exact fixB_is
  rw [← hFA, ← hFB]
  have HA := Lib.hid (And.intro hla hfa)
  have HB := Lib.hid (And.intro hlb hfb)
  have hmk1 : ∀ w : World, (Instr.makeSlice 60 (.int .i64 288) (.int .i64 288)).run Tryz.prog w = .ok (.slice (some ⟨w.heap.size, 0, none⟩) 288 288) (w.alloc (.cells (Array.replicate 288 (.int .i64 0)) 3)) := mk_int7 288 (by omega)
  have hmk2 : ∀ w : World, (Instr.makeSlice 60 (.int .i64 32) (.int .i64 32)).run Tryz.prog w = .ok (.slice (some ⟨w.heap.size, 0, none⟩) 32 32) (w.alloc (.cells (Array.replicate 32 (.int .i64 0)) 3)) := mk_int7 32 (by omega)
  obtain ⟨ra, hra⟩ : ∃ r, r = Array.replicate 288 (Value.int .i64 0) := ⟨_, rfl⟩
  obtain ⟨rb, hrb⟩ : ∃ r, r = Array.replicate 32 (Value.int .i64 0) := ⟨_, rfl⟩
  have hza : ∀ w : World, NRow (w.alloc (.cells ra 3)) w.heap.size (filled FA 0) := fun w => by rw [hra, filled_zero, hla]; exact NRow.zeros w 288
  have hzb : ∀ w : World, NRow (w.alloc (.cells rb 3)) w.heap.size (filled FB 0) := fun w => by rw [hrb, filled_zero, hlb]; exact NRow.zeros w 32
  rw [← hra] at hmk1
  rw [← hrb] at hmk2
  rw [hla, hlb]
  have HZA := Lib.hid hza
  have HZB := Lib.hid hzb
  clear hFA hFB hla hlb hfa hfb hra hrb hza hzb
  go_enter Tryz.func23, Tryz.ntmps23
  go_upto_region 1 with fail
  go_cut [2, 3] (fun a b wx => ∃ ga gb, a = .slice (some ⟨ga, 0, none⟩) 288 288 ∧ b = .slice (some ⟨gb, 0, none⟩) 32 32 ∧ ga ≠ gb ∧ w.heap.size ≤ ga ∧ w.heap.size ≤ gb ∧ NRow wx ga (filled FA 0) ∧ NRow wx gb (filled FB 0) ∧ Fr (fun _ => False) w wx)
  case first =>
    go_region
    · go_wp2_with fail
      go_meet
      refine ⟨w.heap.size, w.heap.size + 1, rfl, rfl, by omega, by omega, by omega, ?_, ?_, (((Fr.refl _ w).alloc _).alloc _).drew⟩
      · exact Row.drew (Row.alloc (HZA.out w) _)
      · have h := HZB.out (w.alloc (.cells ra 3))
        rw [show (w.alloc (.cells ra 3)).heap.size = w.heap.size + 1 by simp] at h
        exact Row.drew h
    · go_wp2_with fail
      go_meet
      refine ⟨w.heap.size + 1, w.heap.size, rfl, rfl, by omega, by omega, by omega, ?_, ?_, (((Fr.refl _ w).alloc _).alloc _).drew⟩
      · have h := HZA.out (w.alloc (.cells rb 3))
        rw [show (w.alloc (.cells rb 3)).heap.size = w.heap.size + 1 by simp] at h
        exact Row.drew h
      · exact Row.drew (Row.alloc (HZB.out w) _)
  obtain ⟨ga, gb, rfl, rfl, hab, hga, hgb, ha, hb, hf⟩ := hcut
  rename World => w1
  have HAB := Lib.hid (And.intro hab (And.intro hga hgb))
  have HN1 : Hid (NRow w1 ga (filled FA 0) ∧ NRow w1 gb (filled FB 0)) := Lib.hid ⟨ha, hb⟩
  have HF1 := Lib.hid hf
  clear hab hga hgb ha hb hf hmk1 hmk2
  go_wp2_with fail
  go_loopw [10] (fun i wr => ∃ k : Nat, k ≤ 288 ∧ i = .int .i64 (k : Int) ∧ Hid (NRow wr ga (filled FA k) ∧ NRow wr gb (filled FB 0)) ∧ Hid (Fr (fun _ => False) w wr)) (fun i _ => 288 - (intOf i).toNat)
  case atStart => exact ⟨0, by omega, rfl, HN1.out, HF1.out⟩
  case round =>
    obtain ⟨k, hk, rfl, HN, HF⟩ := hrel
    rename World => wr
    by_cases hlt : k < 288
    · obtain ⟨x, hx⟩ : ∃ x, x = flN k := ⟨_, rfl⟩
      have hfl : Calls Tryz.prog 38 #[.int .i64 (k : Int)] wr fun e w' => e = .returned (.int .i64 (x : Int)) ∧ wr = w' := by rw [hx]; exact fixedLiteral_any k wr hlt
      have f1 : wr.frozen? ⟨ga, k, none⟩ = false := Row.free HN.out.1 k
      have c1 := HN.out.1.at_ (i := k) (by rw [filled_len _ _ (by rw [HA.out.1]; exact hk), HA.out.1]; exact hlt)
      have hp := HN.out.1.put k x
      rw [show x = FA[k]! by rw [hx, HA.out.2 k hlt], filled_set FA k (by rw [HA.out.1]; exact hlt), HA.out.2 k hlt, ← hx] at hp
      have HN2 : Hid (NRow (wr.setCell ⟨ga, k, none⟩ (.int .i64 (x : Int))) ga (filled FA (k + 1)) ∧ NRow (wr.setCell ⟨ga, k, none⟩ (.int .i64 (x : Int))) gb (filled FB 0)) := Lib.hid ⟨hp, Row.other HN.out.2 (fun e => HAB.out.1 e.symm) _⟩
      have HF2 : Hid (Fr (fun _ => False) w (wr.setCell ⟨ga, k, none⟩ (.int .i64 (x : Int)))) := Lib.hid (HF.out.trans (Fr.set1 wr ga k _) (fun b hb h => by have := HAB.out.2.1; omega))
      have HFL := Lib.hid hfl
      have hki : (k : Int) < 288 := by omega
      clear hx hp hfl hlt
      go_wp2_with (refine HFL.out.mono ?_; rintro e w' ⟨rfl, rfl⟩)
      exact ⟨⟨k + 1, by omega, by go_num, HN2.out, HF2.out⟩, by simp [intOf]; omega⟩
    · obtain rfl : k = 288 := by omega
      have hn := HN.out
      rw [show filled FA 288 = FA by rw [← HA.out.1]; exact filled_all FA] at hn
      have HN3 := Lib.hid hn
      rename World => w2
      clear hn HN HN1 HF1 hlt hk
      go_wp2_with fail
      go_loopw [21] (fun i wr => ∃ k : Nat, k ≤ 32 ∧ i = .int .i64 (k : Int) ∧ Hid (NRow wr ga FA ∧ NRow wr gb (filled FB k)) ∧ Hid (Fr (fun _ => False) w wr)) (fun i _ => 32 - (intOf i).toNat)
      case atStart => exact ⟨0, by omega, rfl, HN3.out, HF.out⟩
      case round =>
        obtain ⟨k, hk, rfl, HN, HF4⟩ := hrel
        rename World => wr
        by_cases hlt : k < 32
        · have f1 : wr.frozen? ⟨gb, k, none⟩ = false := Row.free HN.out.2 k
          have hp := HN.out.2.put k 5
          rw [show (filled FB k).set k 5 = filled FB (k + 1) by rw [← filled_set FB k (by rw [HB.out.1]; exact hlt), HB.out.2 k hlt]] at hp
          replace hp : NRow (wr.setCell ⟨gb, k, none⟩ (.int .i64 5)) gb (filled FB (k + 1)) := hp
          have c1 := HN.out.2.at_ (i := k) (by rw [filled_len _ _ (by rw [HB.out.1]; exact hk), HB.out.1]; exact hlt)
          have HN2 : Hid (NRow (wr.setCell ⟨gb, k, none⟩ (.int .i64 5)) ga FA ∧ NRow (wr.setCell ⟨gb, k, none⟩ (.int .i64 5)) gb (filled FB (k + 1))) := Lib.hid ⟨Row.other HN.out.1 HAB.out.1 _, hp⟩
          have HF2 : Hid (Fr (fun _ => False) w (wr.setCell ⟨gb, k, none⟩ (.int .i64 5))) := Lib.hid (HF4.out.trans (Fr.set1 wr gb k _) (fun b hb h => by have := HAB.out.2.2; omega))
          have hki : (k : Int) < 32 := by omega
          clear hp hlt
          go_wp2_with fail
          exact ⟨⟨k + 1, by omega, by go_num, HN2.out, HF2.out⟩, by simp [intOf]; omega⟩
        · obtain rfl : k = 32 := by omega
          have hn := HN.out
          rw [show filled FB 32 = FB by rw [← HB.out.1]; exact filled_all FB] at hn
          have h1 := hn.1.rd
          have h2 := hn.2.rd
          rw [HA.out.1] at h1
          rw [HB.out.1] at h2
          have HR := Lib.hid (And.intro h1 h2)
          clear hn h1 h2 hlt hk
          go_wp2_with fail
          exact bodyPost_ret (v := .tuple #[.slice (some ⟨ga, 0, none⟩) 288 288, .slice (some ⟨gb, 0, none⟩) 32 32]) (by simp [results, Tryz.results23, go_sem]) rfl ⟨_, _, rfl, HR.out.1, HR.out.2, HF4.out, HAB.out.2.1, HAB.out.2.2⟩
theorem fixed_any (w : World) : Calls Tryz.prog 23 #[] w (Two w fixA fixB) :=
  (fixedN_any w).mono fun e w' ⟨ga, gb, he, h1, h2, hf, _⟩ => ⟨_, _, _, _, he, h1, h2, hf⟩

theorem start_len7 : (SyM.start).1.length = 286 ∧ (SyM.start).2.length = 30 := by decide +kernel
/-- the program's contracts -/
theorem pWeightsTwo_any (A : Option Addr) (n c : Nat) (T : List Tok) (w : World) (hG : Gl w) (hT : Toks w A n T) (hn : n ≤ 1000000) (hfit : ∀ t ∈ T, Fits t) :
    Calls Tryz.prog 30 #[.slice A n c] w (Two w (weigh T SyM.start).1 (weigh T SyM.start).2) :=
  (pWeights_any A n c T w hG hT hn hfit).mono fun e w' ⟨ga, gb, he, h1, h2, hf⟩ => by
    have l1 := (weigh_length T SyM.start).1
    have l2 := (weigh_length T SyM.start).2
    rw [start_len7.1] at l1
    rw [start_len7.2] at l2
    exact ⟨some ⟨ga, 0, none⟩, 286, some ⟨gb, 0, none⟩, 30, by rw [he, l1, l2], h1.rd, h2.rd, hf⟩
end Go.Proofs.YtgpkiijmembggaaGreatDoor
