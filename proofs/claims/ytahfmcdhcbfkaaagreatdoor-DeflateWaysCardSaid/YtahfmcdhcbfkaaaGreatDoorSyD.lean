/-
  Contract of layer 7's reference: Weights.
-/
import Derived.Test.YtahfmcdhcbfkaaaGreatDoorZm04
import Derived.Deep.RegionHeld3
import Derived.Deep.DeepCutAuto
import Derived.Laws.MakeOwn
namespace Go.Proofs.YtahfmcdhcbfkaaaGreatDoor
open Go.RowKit SyM LzM Mem Go.Lib
attribute [local go_sem ↓] Go.wp_at_zero Go.wp_at_succ
set_option linter.unusedVariables false

theorem mk_int7 (m : Nat) (hm : m ≤ 1000000) (w : World) : (Instr.makeSlice 36 (.int .i64 (m : Int)) (.int .i64 (m : Int))).run Tryz.prog w = .ok (.slice (some ⟨w.heap.size, 0, none⟩) m m) (w.alloc (.cells (Array.replicate m (.int .i64 0)) 3)) := mk_int m hm w
/-- block g holds these numbers -/
def NRow (w : World) (g : Nat) (L : List Nat) : Prop := Row w g 3 (L.map natc)
theorem NRow.zeros (w : World) (m : Nat) : NRow (w.alloc (.cells (Array.replicate m (.int .i64 0)) 3)) w.heap.size (List.replicate m 0) := by
  have h := Row.new w 3 (List.replicate m (Value.int .i64 0))
  rw [List.toArray_replicate] at h
  unfold NRow
  rw [List.map_replicate]
  exact h
theorem NRow.at_ {w : World} {g : Nat} {L : List Nat} (h : NRow w g L) {i : Nat} (hi : i < L.length) : w.cell? ⟨g, i, none⟩ = some (.int .i64 ((L[i]! : Nat) : Int)) := by
  refine Row.cell h ?_
  rw [List.getElem?_map, List.getElem?_eq_getElem hi, getElem!_pos L i hi]
  rfl
theorem NRow.bump {w : World} {g : Nat} {L : List Nat} (h : NRow w g L) (i : Nat) : NRow (w.setCell ⟨g, i, none⟩ (.int .i64 ((L[i]! : Nat) + 1 : Int))) g (SyM.bump L i) := by
  have := Row.set h i (natc (L[i]! + 1))
  rw [← List.map_set] at this
  exact this
theorem bump_le {L : List Nat} {N i : Nat} (h : ∀ x ∈ L, x ≤ N) : (∀ x ∈ SyM.bump L i, x ≤ N + 1) ∧ L[i]! ≤ N := by
  have h1 : L[i]! ≤ N := by
    rcases Nat.lt_or_ge i L.length with hi | hi
    · rw [getElem!_pos L i hi]; exact h _ (List.getElem_mem hi)
    · rw [getElem!_neg L i (by omega)]; exact Nat.zero_le _
  refine ⟨fun x hx => ?_, h1⟩
  unfold SyM.bump at hx
  rcases List.mem_or_eq_of_mem_set hx with h2 | h2
  · have := h x h2; omega
  · omega

/-- a token that may stand somewhere -/
def Fits (t : Tok) : Prop := rightT t 32768 = true
theorem fits_cases {t : Tok} (h : Fits t) : (∃ b, t = ⟨b, 0, 0⟩) ∨ ∃ L D : Nat, t = ⟨0, (L : Int), (D : Int)⟩ ∧ 3 ≤ L ∧ L ≤ 258 ∧ 1 ≤ D ∧ D ≤ 32768 := by
  rcases right_cases (n := 32768) h with h | ⟨L, D, h1, h2, h3, h4, h5, _⟩
  · exact .inl h
  · exact .inr ⟨L, D, h1, h2, h3, h4, h5⟩

theorem lens_le : ∀ k, k < 29 → least lens k ≤ 100000 := by
  intro k hk
  have h : ∀ k : Fin 29, least lens (k : Nat) ≤ 100000 := by decide +kernel
  exact h ⟨k, hk⟩
theorem dists_le : ∀ k, k < 30 → least dists k ≤ 100000 := by
  intro k hk
  have h : ∀ k : Fin 30, least dists (k : Nat) ≤ 100000 := by decide +kernel
  exact h ⟨k, hk⟩

set_option maxRecDepth 100000 in
set_option maxHeartbeats 3200000 in
theorem rWeights_any (A : Option Addr) (n c : Nat) (T : List Tok) (w : World) (hT : Toks w A n T) (hn : n ≤ 100000) (hfit : ∀ t ∈ T, Fits t) :
    Calls Tryz.prog 21 #[.slice A n c] w fun e w' => ∃ ga gb, e = .returned (.tuple #[.slice (some ⟨ga, 0, none⟩) 286 286, .slice (some ⟨gb, 0, none⟩) 30 30]) ∧ NRow w' ga (weigh T SyM.start).1 ∧ NRow w' gb (weigh T SyM.start).2 ∧ Fr (fun _ => False) w w' := by
  have HT := Lib.hid hT
  have hln := hT.1
  have HLN := Lib.hid hln
  have HFT := Lib.hid hfit
  obtain ⟨R, hR⟩ : ∃ R, R = weigh T SyM.start := ⟨_, rfl⟩
  rw [← hR]
  have HR := Lib.hid hR
  have hmk1 : ∀ w : World, (Instr.makeSlice 36 (.int .i64 286) (.int .i64 286)).run Tryz.prog w = .ok (.slice (some ⟨w.heap.size, 0, none⟩) 286 286) (w.alloc (.cells (Array.replicate 286 (.int .i64 0)) 3)) := mk_int7 286 (by omega)
  have hmk2 : ∀ w : World, (Instr.makeSlice 36 (.int .i64 30) (.int .i64 30)).run Tryz.prog w = .ok (.slice (some ⟨w.heap.size, 0, none⟩) 30 30) (w.alloc (.cells (Array.replicate 30 (.int .i64 0)) 3)) := mk_int7 30 (by omega)
  obtain ⟨ra, hra⟩ : ∃ r, r = Array.replicate 286 (Value.int .i64 0) := ⟨_, rfl⟩
  obtain ⟨rb, hrb⟩ : ∃ r, r = Array.replicate 30 (Value.int .i64 0) := ⟨_, rfl⟩
  have hza : ∀ w : World, NRow (w.alloc (.cells ra 3)) w.heap.size (List.replicate 286 0) := fun w => by rw [hra]; exact NRow.zeros w 286
  have hzb : ∀ w : World, NRow (w.alloc (.cells rb 3)) w.heap.size (List.replicate 30 0) := fun w => by rw [hrb]; exact NRow.zeros w 30
  rw [← hra] at hmk1
  rw [← hrb] at hmk2
  have HZA := Lib.hid hza
  have HZB := Lib.hid hzb
  clear hT hln hfit hR hra hrb hza hzb
  go_enter Tryz.func21, Tryz.ntmps21
  go_upto_region 1 with fail
  go_cut [4, 5] (fun a b wx => ∃ ga gb, a = .slice (some ⟨ga, 0, none⟩) 286 286 ∧ b = .slice (some ⟨gb, 0, none⟩) 30 30 ∧ ga ≠ gb ∧ w.heap.size ≤ ga ∧ w.heap.size ≤ gb ∧ NRow wx ga (List.replicate 286 0) ∧ NRow wx gb (List.replicate 30 0) ∧ Fr (fun _ => False) w wx)
  case first =>
    go_region
    · go_wp2_with fail
      go_meet
      refine ⟨w.heap.size, w.heap.size + 1, rfl, rfl, by omega, by omega, by omega, ?_, ?_, (((Fr.refl _ w).alloc _).alloc _).drew⟩
      · exact Row.drew (Row.alloc (HZA.out w) _)
      · have h := HZB.out (w.alloc (.cells ra 3))
        rw [show (w.alloc (.cells ra 3)).heap.size = w.heap.size + 1 by simp] at h
        exact Row.drew h
    · go_wp2_with fail
      go_meet
      refine ⟨w.heap.size + 1, w.heap.size, rfl, rfl, by omega, by omega, by omega, ?_, ?_, (((Fr.refl _ w).alloc _).alloc _).drew⟩
      · have h := HZA.out (w.alloc (.cells rb 3))
        rw [show (w.alloc (.cells rb 3)).heap.size = w.heap.size + 1 by simp] at h
        exact Row.drew h
      · exact Row.drew (Row.alloc (HZB.out w) _)
  obtain ⟨ga, gb, rfl, rfl, hab, hga, hgb, ha, hb, hf⟩ := hcut
  rename World => w1
  obtain ⟨z286, hz286⟩ : ∃ z, z = List.replicate 286 0 := ⟨_, rfl⟩
  obtain ⟨z30, hz30⟩ : ∃ z, z = List.replicate 30 0 := ⟨_, rfl⟩
  rw [← hz286] at ha
  rw [← hz30] at hb
  have hl286 : z286.length = 286 := by rw [hz286]; simp
  have c0 := ha.at_ (i := 256) (by omega)
  have e0 : z286[256]! = 0 := by rw [hz286]; rfl
  have f0 : w1.frozen? ⟨ga, 256, none⟩ = false := Row.free ha 256
  have ha2 := ha.bump 256
  rw [e0] at c0 ha2
  replace ha2 : NRow (w1.setCell ⟨ga, 256, none⟩ (.int .i64 1)) ga (SyM.bump z286 256) := ha2
  have HAB := Lib.hid (And.intro hab (And.intro hga hgb))
  have HA2 := Lib.hid ha2
  have HB2 : Hid (NRow (w1.setCell ⟨ga, 256, none⟩ (.int .i64 1)) gb z30) := Lib.hid (Row.other hb (fun e => hab e.symm) _)
  have HF2 : Hid (Fr (fun _ => False) w (w1.setCell ⟨ga, 256, none⟩ (.int .i64 1))) := Lib.hid (hf.trans (Fr.set1 w1 ga 256 _) (fun b hb h => by omega))
  have HST : Hid (SyM.start = (SyM.bump z286 256, z30)) := Lib.hid (by rw [hz286, hz30]; rfl)
  have HLE : Hid ((∀ x ∈ z286, x ≤ 0) ∧ (∀ x ∈ z30, x ≤ 0) ∧ z286.length = 286 ∧ z30.length = 30) := Lib.hid (by rw [hz286, hz30]; exact ⟨fun x hx => Nat.le_of_eq (List.eq_of_mem_replicate hx), fun x hx => Nat.le_of_eq (List.eq_of_mem_replicate hx), by simp, by simp⟩)
  clear hz286 hz30 ha hb ha2 e0 hf hab hga hgb hl286
  go_wp2_with fail
  go_loopw [6] (fun i wr => ∃ (k : Nat) (La Lb : List Nat), k ≤ n ∧ i = .int .i64 (k : Int) ∧ Hid (NRow wr ga La ∧ NRow wr gb Lb) ∧ Hid (weigh (T.drop k) (La, Lb) = R) ∧ Hid ((∀ x ∈ La, x ≤ k + 1) ∧ (∀ x ∈ Lb, x ≤ k + 1) ∧ La.length = 286 ∧ Lb.length = 30) ∧ Hid (Fr (fun _ => False) w wr)) (fun i _ => n - (intOf i).toNat)
  case atStart =>
    refine ⟨0, SyM.bump z286 256, z30, Nat.zero_le _, rfl, ⟨HA2.out, HB2.out⟩, ?_, ⟨fun x hx => ?_, fun x hx => ?_, by rw [bump_length]; exact HLE.out.2.2.1, HLE.out.2.2.2⟩, HF2.out⟩
    · show weigh T (SyM.bump z286 256, z30) = R
      rw [HR.out, HST.out]
    · exact (bump_le HLE.out.1).1 x hx
    · have := HLE.out.2.1 x hx; omega
  case round =>
    obtain ⟨k, La, Lb, hk, rfl, HN, HW, HLL, HF⟩ := hrel
    rename World => wr
    by_cases hlt : k < n
    · obtain ⟨t, ht⟩ : ∃ t, T[k]? = some t := ⟨_, List.getElem?_eq_getElem (by have := HLN.out; omega)⟩
      have hdr : T.drop k = t :: T.drop (k + 1) := by rw [List.drop_eq_getElem_cons (by have := HLN.out; omega)]; congr 1; exact (List.getElem?_eq_some_iff.1 ht).2
      obtain ⟨g, o, rfl, hg, h1w, h2w, h3w⟩ := HT.out.2 k t ht
      have h1 := HF.out.cell h1w (fun h => h)
      have h2 := HF.out.cell h2w (fun h => h)
      have h3 := HF.out.cell h3w (fun h => h)
      have hw := HW.out
      rw [hdr, weigh] at hw
      have hla := HLL.out.2.2.1
      have hlb := HLL.out.2.2.2
      have hft := HFT.out t (List.mem_of_getElem? ht)
      clear h1w h2w h3w hg hdr ht
      rcases fits_cases hft with ⟨b, rfl⟩ | ⟨L, D, rfl, hL3, hL258, hD1, hD2⟩
      · rw [if_pos rfl] at hw
        simp only at hw h1 h2 h3
        obtain ⟨u, hu⟩ : ∃ u, u = b.toNat := ⟨_, rfl⟩
        have hu256 : u < 256 := by rw [hu]; exact b.toNat_lt
        unfold bytec at h1
        rw [← hu] at hw h1
        have hb1 := bump_le (i := u) HLL.out.1
        obtain ⟨y, hy⟩ : ∃ y, y = La[u]! := ⟨_, rfl⟩
        have c1 := HN.out.1.at_ (i := u) (by omega)
        have f1 : wr.frozen? ⟨ga, u, none⟩ = false := Row.free HN.out.1 u
        have hb := HN.out.1.bump u
        rw [← hy] at c1 hb hb1
        have hyk : y ≤ k + 1 := hb1.2
        have HN2 : Hid (NRow (wr.setCell ⟨ga, u, none⟩ (.int .i64 ((y : Int) + 1))) ga (SyM.bump La u) ∧ NRow (wr.setCell ⟨ga, u, none⟩ (.int .i64 ((y : Int) + 1))) gb Lb) := Lib.hid ⟨hb, Row.other HN.out.2 (fun e => HAB.out.1 e.symm) _⟩
        have HF3 : Hid (Fr (fun _ => False) w (wr.setCell ⟨ga, u, none⟩ (.int .i64 ((y : Int) + 1)))) := Lib.hid (HF.out.trans (Fr.set1 wr ga u _) (fun b hb h => by have := HAB.out.2.1; omega))
        have HL2 : Hid ((∀ x ∈ SyM.bump La u, x ≤ k + 1 + 1) ∧ (∀ x ∈ Lb, x ≤ k + 1 + 1) ∧ (SyM.bump La u).length = 286 ∧ Lb.length = 30) := Lib.hid ⟨hb1.1, fun x hx => by have := HLL.out.2.1 x hx; omega, by rw [bump_length]; exact hla, hlb⟩
        have HW2 := Lib.hid hw
        have hula : u < 286 := by omega
        clear hu hb1 hy hb hw hla hlb hft
        go_wp2_with fail
        exact ⟨⟨k + 1, SyM.bump La u, Lb, by omega, by go_num, HN2.out, HW2.out, HL2.out, HF3.out⟩, by simp [intOf]; omega⟩
      · rw [if_neg (by simp only; omega)] at hw
        simp only at hw h2 h3
        obtain ⟨x, hx⟩ : ∃ x, x = sym (L : Int) lens := ⟨_, rfl⟩
        obtain ⟨y, hy⟩ : ∃ y, y = sym (D : Int) dists := ⟨_, rfl⟩
        have hx29 : x < 29 := by rw [hx]; exact sym_lt _ lens (by decide)
        have hy30 : y < 30 := by rw [hy]; exact sym_lt _ dists (by decide)
        rw [← hx, ← hy] at hw
        have hOFL : ∀ (A : Option Addr) (c : Nat) (w : World), Rws w A 29 lens → Calls Tryz.prog 42 #[.int .i64 (L : Int), .slice A 29 c] w fun e w' => ∃ d : Int, e = .returned (.tuple #[.int .i64 (x : Int), .int .i64 d]) ∧ Fr (fun _ => False) w w' := fun A c w h => by
          rw [hx]
          exact (rOf_any (L : Int) A 29 c lens w h (by omega) (by omega) (by omega) (by omega) lens_le).mono (fun e w' h => ⟨_, h⟩)
        have hOFD : ∀ (A : Option Addr) (c : Nat) (w : World), Rws w A 30 dists → Calls Tryz.prog 42 #[.int .i64 (D : Int), .slice A 30 c] w fun e w' => ∃ d : Int, e = .returned (.tuple #[.int .i64 (y : Int), .int .i64 d]) ∧ Fr (fun _ => False) w w' := fun A c w h => by
          rw [hy]
          exact (rOf_any (D : Int) A 30 c dists w h (by omega) (by omega) (by omega) (by omega) dists_le).mono (fun e w' h => ⟨_, h⟩)
        have HOFL := Lib.hid hOFL
        have HOFD := Lib.hid hOFD
        have hla2 := hla
        have HWW := Lib.hid hw
        clear hx hy hOFL hOFD hw h1 hft c0 f0 hla hlb
        go_wp2_with fail
        go_region_held3 (fun w' => w'.cell? ⟨g, o + k * 3 + 1, none⟩ = some (.int .i64 (L : Int)))
          (first
            | go_keep
            | exact hk3
            | exact hk4)
          (first
            | (go_at_call 39
               refine (rLens7_any _).mono ?_
               rintro e w3 ⟨A3, c3, rfl, hO3, hf3⟩
               have hk3 : w3.cell? ⟨g, o + k * 3 + 1, none⟩ = some (.int .i64 (L : Int)) := hf3.cell (w := wr.drew) h2 (fun h => h)
               have HR3 := Lib.hid (rws_of (R := lens) rfl hO3)
               have HF3 := Lib.hid ((Fr.refl (fun _ => False) wr).drew.trans hf3 (fun _ _ h => h))
               clear hO3 hf3)
            | (go_at_call 42
               refine (HOFL.out A3 c3 w3 HR3.out).mono ?_
               rintro e w4 ⟨d4, rfl, hf4⟩
               have hk4 : w4.cell? ⟨g, o + k * 3 + 1, none⟩ = some (.int .i64 (L : Int)) := hf4.cell hk3 (fun h => h)
               have HF4 := Lib.hid (HF3.out.trans hf4 (fun _ _ h => h))
               clear hf4))
        have h3' : w4.cell? ⟨g, o + k * 3 + 2, none⟩ = some (.int .i64 (D : Int)) := HF4.out.cell h3 (fun h => h)
        clear h2 h3 hk3 hk4 HR3
        go_wp2_with fail
        go_region_held3 (fun w' => w'.cell? ⟨g, o + k * 3 + 2, none⟩ = some (.int .i64 (D : Int)))
          (first
            | go_keep
            | exact hk5
            | exact hk6)
          (first
            | (go_at_call 40
               refine (rDistances_any _).mono ?_
               rintro e w5 ⟨A5, c5, rfl, hO5, hf5⟩
               have hk5 : w5.cell? ⟨g, o + k * 3 + 2, none⟩ = some (.int .i64 (D : Int)) := hf5.cell (w := w4.drew) h3' (fun h => h)
               have HR5 := Lib.hid (rws_of (R := dists) rfl hO5)
               have HF5 := Lib.hid (HF4.out.drew.trans hf5 (fun _ _ h => h))
               clear hO5 hf5)
            | (go_at_call 42
               refine (HOFD.out A5 c5 w5 HR5.out).mono ?_
               rintro e w6 ⟨d6, rfl, hf6⟩
               have hk6 : w6.cell? ⟨g, o + k * 3 + 2, none⟩ = some (.int .i64 (D : Int)) := hf6.cell hk5 (fun h => h)
               have HF6 := Lib.hid (HF5.out.trans hf6 (fun _ _ h => h))
               clear hf6))
        clear h3' hk5 hk6 HR5
        have hna : NRow w6 ga La := Row.fr HN.out.1 HF6.out (fun h => h)
        have hnb : NRow w6 gb Lb := Row.fr HN.out.2 HF6.out (fun h => h)
        have hb1 := bump_le (i := 257 + x) HLL.out.1
        have hb2 := bump_le (i := y) HLL.out.2.1
        obtain ⟨p, hp⟩ : ∃ p, p = 257 + x := ⟨_, rfl⟩
        have hp286 : p < 286 := by omega
        have hpi : 257 + (x : Int) = (p : Int) := by omega
        rw [← hp] at hb1
        obtain ⟨u, hu⟩ : ∃ u, u = La[p]! := ⟨_, rfl⟩
        obtain ⟨v, hv⟩ : ∃ v, v = Lb[y]! := ⟨_, rfl⟩
        have c1 := hna.at_ (i := p) (by omega)
        have f1 : w6.frozen? ⟨ga, p, none⟩ = false := Row.free hna p
        have ha2 := hna.bump p
        rw [← hu] at c1 ha2 hb1
        have huk : u ≤ k + 1 := hb1.2
        have hvk : v ≤ k + 1 := by rw [hv]; exact hb2.2
        obtain ⟨w7, hw7⟩ : ∃ w7, w7 = w6.setCell ⟨ga, p, none⟩ (.int .i64 ((u : Int) + 1)) := ⟨_, rfl⟩
        rw [← hw7] at ha2
        have hnb7 : NRow w7 gb Lb := by rw [hw7]; exact Row.other hnb (fun e => HAB.out.1 e.symm) _
        have c2 := hnb7.at_ (i := y) (by rw [HLL.out.2.2.2]; exact hy30)
        have f2 : w7.frozen? ⟨gb, y, none⟩ = false := Row.free hnb7 y
        have hb3 := hnb7.bump y
        rw [← hv] at c2 hb3
        have HN8 : Hid (NRow (w7.setCell ⟨gb, y, none⟩ (.int .i64 ((v : Int) + 1))) ga (SyM.bump La p) ∧ NRow (w7.setCell ⟨gb, y, none⟩ (.int .i64 ((v : Int) + 1))) gb (SyM.bump Lb y)) := Lib.hid ⟨Row.other ha2 HAB.out.1 _, hb3⟩
        have HF7 : Hid (Fr (fun _ => False) w w7) := Lib.hid ((HF.out.trans HF6.out (fun _ _ h => h)).trans (by rw [hw7]; exact Fr.set1 w6 ga p _) (fun b hb h => by have := HAB.out.2.1; omega))
        have HF8 : Hid (Fr (fun _ => False) w (w7.setCell ⟨gb, y, none⟩ (.int .i64 ((v : Int) + 1)))) := Lib.hid (HF7.out.trans (Fr.set1 w7 gb y _) (fun b hb h => by have := HAB.out.2.2; omega))
        have HL8 : Hid ((∀ x ∈ SyM.bump La p, x ≤ k + 1 + 1) ∧ (∀ x ∈ SyM.bump Lb y, x ≤ k + 1 + 1) ∧ (SyM.bump La p).length = 286 ∧ (SyM.bump Lb y).length = 30) := Lib.hid ⟨hb1.1, hb2.1, by rw [bump_length]; exact HLL.out.2.2.1, by rw [bump_length]; exact HLL.out.2.2.2⟩
        have HW8 : Hid (weigh (T.drop (k + 1)) (SyM.bump La p, SyM.bump Lb y) = R) := Lib.hid (by rw [hp]; exact HWW.out)
        have HW7 := Lib.hid hw7
        clear hna hnb hb1 hb2 hp hu hv ha2 hnb7 hb3 hla2 hw7
        go_upto_region 11 with fail
        rw [← HW7.out]
        go_wp2_with fail
        exact ⟨⟨k + 1, SyM.bump La p, SyM.bump Lb y, by omega, by go_num, HN8.out, HW8.out, HL8.out, HF8.out⟩, by simp [intOf]; omega⟩
    · obtain rfl : k = n := by omega
      have hw := HW.out
      rw [List.drop_of_length_le (by have := HLN.out; omega)] at hw
      have hw2 : (La, Lb) = R := hw
      clear hw
      subst hw2
      go_wp2_with fail
      exact bodyPost_ret (v := .tuple #[.slice (some ⟨ga, 0, none⟩) 286 286, .slice (some ⟨gb, 0, none⟩) 30 30]) (by simp [results, Tryz.results21, go_sem]) rfl ⟨ga, gb, rfl, HN.out.1, HN.out.2, HF.out⟩
end Go.Proofs.YtahfmcdhcbfkaaaGreatDoor
