/-
  A region that draws its order, walked by the lone laws: the condition that is kept may be made more on the way. Nothing of any program here.
  Contract of layer 7's reference: Weights.
  Layer 6, plain: how the program presses: where three bytes stood last, a ring of the places ahead, the match that counts by going back along them.
  Layer 6, plain: how many tokens there are; of bytes of one kind; what a match is, where it ends.
-/
import Derived.Deep.RegionHeld3
import Derived.Deep.DrawnRows
import Derived.Test.YtahfmcdhcbfkaaaDoorZm05
import Derived.Test.YtahfmcdhcbfkaaaDoorZm06
import Derived.Deep.DeepCutAuto
import Derived.Laws.MakeOwn
import Derived.Test.YtahfmcdhcbfkaaaDoorZm03
namespace Go.Proofs.YtahfmcdhcbfkaaaDoor
open Go

theorem wpAnyH_imp {P : Program} {md : Region.Mode} {ops : Array Oper} {Q : Exit → Act → World → Prop} {S S' : World → Prop} (hS : ∀ w, S' w → S w) :
    ∀ (fuel : Nat) (listed : Array Bool) (a : Act) (w : World), wpAnyH P md ops Q S' fuel listed a w → wpAnyH P md ops Q S fuel listed a w
  | 0, _, _, _, h => h
  | fuel + 1, _, _, _, h => ⟨h.1, fun i hi => wpOp_mono (fun a' w' h' => ⟨hS _ h'.1, wpAnyH_imp hS fuel _ a' w' h'.2⟩) (h.2 i hi)⟩
theorem wpAnyH_more {P : Program} {md : Region.Mode} {ops : Array Oper} {Q : Exit → Act → World → Prop} {S : World → Prop} (S' : World → Prop) {fuel : Nat} {listed : Array Bool} {a : Act} {w : World}
    (hS : ∀ w, S' w → S w) (h : S' w) (hk : S' w → wpAnyH P md ops Q S' fuel listed a w) : wpAnyH P md ops Q S fuel listed a w :=
  wpAnyH_imp hS fuel listed a w (hk h)
end Go.Proofs.YtahfmcdhcbfkaaaDoor
namespace Go.Proofs.YtahfmcdhcbfkaaaDoor
open Go.RowKit SyM LzM Mem Go.Lib
attribute [local go_sem ↓] Go.wp_at_zero Go.wp_at_succ
set_option linter.unusedVariables false

theorem mk_int7 (m : Nat) (hm : m ≤ 1000000) (w : World) : (Instr.makeSlice 54 (.int .i64 (m : Int)) (.int .i64 (m : Int))).run Tryd.prog w = .ok (.slice (some ⟨w.heap.size, 0, none⟩) m m) (w.alloc (.cells (Array.replicate m (.int .i64 0)) 3)) := mk_int m hm w
/-- block g holds these numbers -/
def NRow (w : World) (g : Nat) (L : List Nat) : Prop := Row w g 3 (L.map natc)
theorem NRow.zeros (w : World) (m : Nat) : NRow (w.alloc (.cells (Array.replicate m (.int .i64 0)) 3)) w.heap.size (List.replicate m 0) := by
  have h := Row.new w 3 (List.replicate m (Value.int .i64 0))
  rw [List.toArray_replicate] at h
  unfold NRow
  rw [List.map_replicate]
  exact h
theorem NRow.at_ {w : World} {g : Nat} {L : List Nat} (h : NRow w g L) {i : Nat} (hi : i < L.length) : w.cell? ⟨g, i, none⟩ = some (.int .i64 ((L[i]! : Nat) : Int)) := by
  refine Row.cell h ?_
  rw [List.getElem?_map, List.getElem?_eq_getElem hi, getElem!_pos L i hi]
  rfl
theorem NRow.bump {w : World} {g : Nat} {L : List Nat} (h : NRow w g L) (i : Nat) : NRow (w.setCell ⟨g, i, none⟩ (.int .i64 ((L[i]! : Nat) + 1 : Int))) g (SyM.bump L i) := by
  have := Row.set h i (natc (L[i]! + 1))
  rw [← List.map_set] at this
  exact this
theorem bump_le {L : List Nat} {N i : Nat} (h : ∀ x ∈ L, x ≤ N) : (∀ x ∈ SyM.bump L i, x ≤ N + 1) ∧ L[i]! ≤ N := by
  have h1 : L[i]! ≤ N := by
    rcases Nat.lt_or_ge i L.length with hi | hi
    · rw [getElem!_pos L i hi]; exact h _ (List.getElem_mem hi)
    · rw [getElem!_neg L i (by omega)]; exact Nat.zero_le _
  refine ⟨fun x hx => ?_, h1⟩
  unfold SyM.bump at hx
  rcases List.mem_or_eq_of_mem_set hx with h2 | h2
  · have := h x h2; omega
  · omega

/-- a token that may stand somewhere -/
def Fits (t : Tok) : Prop := rightT t 32768 = true
theorem fits_cases {t : Tok} (h : Fits t) : (∃ b, t = ⟨b, 0, 0⟩) ∨ ∃ L D : Nat, t = ⟨0, (L : Int), (D : Int)⟩ ∧ 3 ≤ L ∧ L ≤ 258 ∧ 1 ≤ D ∧ D ≤ 32768 := by
  rcases right_cases (n := 32768) h with h | ⟨L, D, h1, h2, h3, h4, h5, _⟩
  · exact .inl h
  · exact .inr ⟨L, D, h1, h2, h3, h4, h5⟩

theorem lens_le : ∀ k, k < 29 → least lens k ≤ 100000 := by
  intro k hk
  have h : ∀ k : Fin 29, least lens (k : Nat) ≤ 100000 := by decide +kernel
  exact h ⟨k, hk⟩
theorem dists_le : ∀ k, k < 30 → least dists k ≤ 100000 := by
  intro k hk
  have h : ∀ k : Fin 30, least dists (k : Nat) ≤ 100000 := by decide +kernel
  exact h ⟨k, hk⟩

set_option maxRecDepth 100000 in
set_option maxHeartbeats 3200000 in
theorem rWeights_any (A : Option Addr) (n c : Nat) (T : List Tok) (w : World) (hT : Toks w A n T) (hn : n ≤ 100000) (hfit : ∀ t ∈ T, Fits t) :
    Calls Tryd.prog 37 #[.slice A n c] w fun e w' => ∃ ga gb, e = .returned (.tuple #[.slice (some ⟨ga, 0, none⟩) 286 286, .slice (some ⟨gb, 0, none⟩) 30 30]) ∧ NRow w' ga (weigh T SyM.start).1 ∧ NRow w' gb (weigh T SyM.start).2 ∧ Fr (fun _ => False) w w' := by
  have HT := Lib.hid hT
  have hln := hT.1
  have HLN := Lib.hid hln
  have HFT := Lib.hid hfit
  obtain ⟨R, hR⟩ : ∃ R, R = weigh T SyM.start := ⟨_, rfl⟩
  rw [← hR]
  have HR := Lib.hid hR
  have hmk1 : ∀ w : World, (Instr.makeSlice 54 (.int .i64 286) (.int .i64 286)).run Tryd.prog w = .ok (.slice (some ⟨w.heap.size, 0, none⟩) 286 286) (w.alloc (.cells (Array.replicate 286 (.int .i64 0)) 3)) := mk_int7 286 (by omega)
  have hmk2 : ∀ w : World, (Instr.makeSlice 54 (.int .i64 30) (.int .i64 30)).run Tryd.prog w = .ok (.slice (some ⟨w.heap.size, 0, none⟩) 30 30) (w.alloc (.cells (Array.replicate 30 (.int .i64 0)) 3)) := mk_int7 30 (by omega)
  obtain ⟨ra, hra⟩ : ∃ r, r = Array.replicate 286 (Value.int .i64 0) := ⟨_, rfl⟩
  obtain ⟨rb, hrb⟩ : ∃ r, r = Array.replicate 30 (Value.int .i64 0) := ⟨_, rfl⟩
  have hza : ∀ w : World, NRow (w.alloc (.cells ra 3)) w.heap.size (List.replicate 286 0) := fun w => by rw [hra]; exact NRow.zeros w 286
  have hzb : ∀ w : World, NRow (w.alloc (.cells rb 3)) w.heap.size (List.replicate 30 0) := fun w => by rw [hrb]; exact NRow.zeros w 30
  rw [← hra] at hmk1
  rw [← hrb] at hmk2
  have HZA := Lib.hid hza
  have HZB := Lib.hid hzb
  clear hT hln hfit hR hra hrb hza hzb
  go_enter Tryd.func37, Tryd.ntmps37
  go_upto_region 1 with fail
  go_cut [4, 5] (fun a b wx => ∃ ga gb, a = .slice (some ⟨ga, 0, none⟩) 286 286 ∧ b = .slice (some ⟨gb, 0, none⟩) 30 30 ∧ ga ≠ gb ∧ w.heap.size ≤ ga ∧ w.heap.size ≤ gb ∧ NRow wx ga (List.replicate 286 0) ∧ NRow wx gb (List.replicate 30 0) ∧ Fr (fun _ => False) w wx)
  case first =>
    go_region
    · go_wp2_with fail
      go_meet
      refine ⟨w.heap.size, w.heap.size + 1, rfl, rfl, by omega, by omega, by omega, ?_, ?_, (((Fr.refl _ w).alloc _).alloc _).drew⟩
      · exact Row.drew (Row.alloc (HZA.out w) _)
      · have h := HZB.out (w.alloc (.cells ra 3))
        rw [show (w.alloc (.cells ra 3)).heap.size = w.heap.size + 1 by simp] at h
        exact Row.drew h
    · go_wp2_with fail
      go_meet
      refine ⟨w.heap.size + 1, w.heap.size, rfl, rfl, by omega, by omega, by omega, ?_, ?_, (((Fr.refl _ w).alloc _).alloc _).drew⟩
      · have h := HZA.out (w.alloc (.cells rb 3))
        rw [show (w.alloc (.cells rb 3)).heap.size = w.heap.size + 1 by simp] at h
        exact Row.drew h
      · exact Row.drew (Row.alloc (HZB.out w) _)
  obtain ⟨ga, gb, rfl, rfl, hab, hga, hgb, ha, hb, hf⟩ := hcut
  rename World => w1
  obtain ⟨z286, hz286⟩ : ∃ z, z = List.replicate 286 0 := ⟨_, rfl⟩
  obtain ⟨z30, hz30⟩ : ∃ z, z = List.replicate 30 0 := ⟨_, rfl⟩
  rw [← hz286] at ha
  rw [← hz30] at hb
  have hl286 : z286.length = 286 := by rw [hz286]; simp
  have c0 := ha.at_ (i := 256) (by omega)
  have e0 : z286[256]! = 0 := by rw [hz286]; rfl
  have f0 : w1.frozen? ⟨ga, 256, none⟩ = false := Row.free ha 256
  have ha2 := ha.bump 256
  rw [e0] at c0 ha2
  replace ha2 : NRow (w1.setCell ⟨ga, 256, none⟩ (.int .i64 1)) ga (SyM.bump z286 256) := ha2
  have HAB := Lib.hid (And.intro hab (And.intro hga hgb))
  have HA2 := Lib.hid ha2
  have HB2 : Hid (NRow (w1.setCell ⟨ga, 256, none⟩ (.int .i64 1)) gb z30) := Lib.hid (Row.other hb (fun e => hab e.symm) _)
  have HF2 : Hid (Fr (fun _ => False) w (w1.setCell ⟨ga, 256, none⟩ (.int .i64 1))) := Lib.hid (hf.trans (Fr.set1 w1 ga 256 _) (fun b hb h => by omega))
  have HST : Hid (SyM.start = (SyM.bump z286 256, z30)) := Lib.hid (by rw [hz286, hz30]; rfl)
  have HLE : Hid ((∀ x ∈ z286, x ≤ 0) ∧ (∀ x ∈ z30, x ≤ 0) ∧ z286.length = 286 ∧ z30.length = 30) := Lib.hid (by rw [hz286, hz30]; exact ⟨fun x hx => Nat.le_of_eq (List.eq_of_mem_replicate hx), fun x hx => Nat.le_of_eq (List.eq_of_mem_replicate hx), by simp, by simp⟩)
  clear hz286 hz30 ha hb ha2 e0 hf hab hga hgb hl286
  go_wp2_with fail
  go_loopw [6] (fun i wr => ∃ (k : Nat) (La Lb : List Nat), k ≤ n ∧ i = .int .i64 (k : Int) ∧ Hid (NRow wr ga La ∧ NRow wr gb Lb) ∧ Hid (weigh (T.drop k) (La, Lb) = R) ∧ Hid ((∀ x ∈ La, x ≤ k + 1) ∧ (∀ x ∈ Lb, x ≤ k + 1) ∧ La.length = 286 ∧ Lb.length = 30) ∧ Hid (Fr (fun _ => False) w wr)) (fun i _ => n - (intOf i).toNat)
  case atStart =>
    refine ⟨0, SyM.bump z286 256, z30, Nat.zero_le _, rfl, ⟨HA2.out, HB2.out⟩, ?_, ⟨fun x hx => ?_, fun x hx => ?_, by rw [bump_length]; exact HLE.out.2.2.1, HLE.out.2.2.2⟩, HF2.out⟩
    · show weigh T (SyM.bump z286 256, z30) = R
      rw [HR.out, HST.out]
    · exact (bump_le HLE.out.1).1 x hx
    · have := HLE.out.2.1 x hx; omega
  case round =>
    obtain ⟨k, La, Lb, hk, rfl, HN, HW, HLL, HF⟩ := hrel
    rename World => wr
    by_cases hlt : k < n
    · obtain ⟨t, ht⟩ : ∃ t, T[k]? = some t := ⟨_, List.getElem?_eq_getElem (by have := HLN.out; omega)⟩
      have hdr : T.drop k = t :: T.drop (k + 1) := by rw [List.drop_eq_getElem_cons (by have := HLN.out; omega)]; congr 1; exact (List.getElem?_eq_some_iff.1 ht).2
      obtain ⟨g, o, rfl, hg, h1w, h2w, h3w⟩ := HT.out.2 k t ht
      have h1 := HF.out.cell h1w (fun h => h)
      have h2 := HF.out.cell h2w (fun h => h)
      have h3 := HF.out.cell h3w (fun h => h)
      have hw := HW.out
      rw [hdr, weigh] at hw
      have hla := HLL.out.2.2.1
      have hlb := HLL.out.2.2.2
      have hft := HFT.out t (List.mem_of_getElem? ht)
      clear h1w h2w h3w hg hdr ht
      rcases fits_cases hft with ⟨b, rfl⟩ | ⟨L, D, rfl, hL3, hL258, hD1, hD2⟩
      · rw [if_pos rfl] at hw
        simp only at hw h1 h2 h3
        obtain ⟨u, hu⟩ : ∃ u, u = b.toNat := ⟨_, rfl⟩
        have hu256 : u < 256 := by rw [hu]; exact b.toNat_lt
        unfold bytec at h1
        rw [← hu] at hw h1
        have hb1 := bump_le (i := u) HLL.out.1
        obtain ⟨y, hy⟩ : ∃ y, y = La[u]! := ⟨_, rfl⟩
        have c1 := HN.out.1.at_ (i := u) (by omega)
        have f1 : wr.frozen? ⟨ga, u, none⟩ = false := Row.free HN.out.1 u
        have hb := HN.out.1.bump u
        rw [← hy] at c1 hb hb1
        have hyk : y ≤ k + 1 := hb1.2
        have HN2 : Hid (NRow (wr.setCell ⟨ga, u, none⟩ (.int .i64 ((y : Int) + 1))) ga (SyM.bump La u) ∧ NRow (wr.setCell ⟨ga, u, none⟩ (.int .i64 ((y : Int) + 1))) gb Lb) := Lib.hid ⟨hb, Row.other HN.out.2 (fun e => HAB.out.1 e.symm) _⟩
        have HF3 : Hid (Fr (fun _ => False) w (wr.setCell ⟨ga, u, none⟩ (.int .i64 ((y : Int) + 1)))) := Lib.hid (HF.out.trans (Fr.set1 wr ga u _) (fun b hb h => by have := HAB.out.2.1; omega))
        have HL2 : Hid ((∀ x ∈ SyM.bump La u, x ≤ k + 1 + 1) ∧ (∀ x ∈ Lb, x ≤ k + 1 + 1) ∧ (SyM.bump La u).length = 286 ∧ Lb.length = 30) := Lib.hid ⟨hb1.1, fun x hx => by have := HLL.out.2.1 x hx; omega, by rw [bump_length]; exact hla, hlb⟩
        have HW2 := Lib.hid hw
        have hula : u < 286 := by omega
        clear hu hb1 hy hb hw hla hlb hft
        go_wp2_with fail
        exact ⟨⟨k + 1, SyM.bump La u, Lb, by omega, by go_num, HN2.out, HW2.out, HL2.out, HF3.out⟩, by simp [intOf]; omega⟩
      · rw [if_neg (by simp only; omega)] at hw
        simp only at hw h2 h3
        obtain ⟨x, hx⟩ : ∃ x, x = sym (L : Int) lens := ⟨_, rfl⟩
        obtain ⟨y, hy⟩ : ∃ y, y = sym (D : Int) dists := ⟨_, rfl⟩
        have hx29 : x < 29 := by rw [hx]; exact sym_lt _ lens (by decide)
        have hy30 : y < 30 := by rw [hy]; exact sym_lt _ dists (by decide)
        rw [← hx, ← hy] at hw
        have hOFL : ∀ (A : Option Addr) (c : Nat) (w : World), Rws w A 29 lens → Calls Tryd.prog 66 #[.int .i64 (L : Int), .slice A 29 c] w fun e w' => ∃ d : Int, e = .returned (.tuple #[.int .i64 (x : Int), .int .i64 d]) ∧ Fr (fun _ => False) w w' := fun A c w h => by
          rw [hx]
          exact (rOf_any (L : Int) A 29 c lens w h (by omega) (by omega) (by omega) (by omega) lens_le).mono (fun e w' h => ⟨_, h⟩)
        have hOFD : ∀ (A : Option Addr) (c : Nat) (w : World), Rws w A 30 dists → Calls Tryd.prog 66 #[.int .i64 (D : Int), .slice A 30 c] w fun e w' => ∃ d : Int, e = .returned (.tuple #[.int .i64 (y : Int), .int .i64 d]) ∧ Fr (fun _ => False) w w' := fun A c w h => by
          rw [hy]
          exact (rOf_any (D : Int) A 30 c dists w h (by omega) (by omega) (by omega) (by omega) dists_le).mono (fun e w' h => ⟨_, h⟩)
        have HOFL := Lib.hid hOFL
        have HOFD := Lib.hid hOFD
        have hla2 := hla
        have HWW := Lib.hid hw
        clear hx hy hOFL hOFD hw h1 hft c0 f0 hla hlb
        go_wp2_with fail
        go_region_held3 (fun w' => w'.cell? ⟨g, o + k * 3 + 1, none⟩ = some (.int .i64 (L : Int)))
          (first
            | go_keep
            | exact hk3
            | exact hk4)
          (first
            | (go_at_call 63
               refine (rLens7_any _).mono ?_
               rintro e w3 ⟨A3, c3, rfl, hO3, hf3⟩
               have hk3 : w3.cell? ⟨g, o + k * 3 + 1, none⟩ = some (.int .i64 (L : Int)) := hf3.cell (w := wr.drew) h2 (fun h => h)
               have HR3 := Lib.hid (rws_of (R := lens) rfl hO3)
               have HF3 := Lib.hid ((Fr.refl (fun _ => False) wr).drew.trans hf3 (fun _ _ h => h))
               clear hO3 hf3)
            | (go_at_call 66
               refine (HOFL.out A3 c3 w3 HR3.out).mono ?_
               rintro e w4 ⟨d4, rfl, hf4⟩
               have hk4 : w4.cell? ⟨g, o + k * 3 + 1, none⟩ = some (.int .i64 (L : Int)) := hf4.cell hk3 (fun h => h)
               have HF4 := Lib.hid (HF3.out.trans hf4 (fun _ _ h => h))
               clear hf4))
        have h3' : w4.cell? ⟨g, o + k * 3 + 2, none⟩ = some (.int .i64 (D : Int)) := HF4.out.cell h3 (fun h => h)
        clear h2 h3 hk3 hk4 HR3
        go_wp2_with fail
        go_region_held3 (fun w' => w'.cell? ⟨g, o + k * 3 + 2, none⟩ = some (.int .i64 (D : Int)))
          (first
            | go_keep
            | exact hk5
            | exact hk6)
          (first
            | (go_at_call 64
               refine (rDistances_any _).mono ?_
               rintro e w5 ⟨A5, c5, rfl, hO5, hf5⟩
               have hk5 : w5.cell? ⟨g, o + k * 3 + 2, none⟩ = some (.int .i64 (D : Int)) := hf5.cell (w := w4.drew) h3' (fun h => h)
               have HR5 := Lib.hid (rws_of (R := dists) rfl hO5)
               have HF5 := Lib.hid (HF4.out.drew.trans hf5 (fun _ _ h => h))
               clear hO5 hf5)
            | (go_at_call 66
               refine (HOFD.out A5 c5 w5 HR5.out).mono ?_
               rintro e w6 ⟨d6, rfl, hf6⟩
               have hk6 : w6.cell? ⟨g, o + k * 3 + 2, none⟩ = some (.int .i64 (D : Int)) := hf6.cell hk5 (fun h => h)
               have HF6 := Lib.hid (HF5.out.trans hf6 (fun _ _ h => h))
               clear hf6))
        clear h3' hk5 hk6 HR5
        have hna : NRow w6 ga La := Row.fr HN.out.1 HF6.out (fun h => h)
        have hnb : NRow w6 gb Lb := Row.fr HN.out.2 HF6.out (fun h => h)
        have hb1 := bump_le (i := 257 + x) HLL.out.1
        have hb2 := bump_le (i := y) HLL.out.2.1
        obtain ⟨p, hp⟩ : ∃ p, p = 257 + x := ⟨_, rfl⟩
        have hp286 : p < 286 := by omega
        have hpi : 257 + (x : Int) = (p : Int) := by omega
        rw [← hp] at hb1
        obtain ⟨u, hu⟩ : ∃ u, u = La[p]! := ⟨_, rfl⟩
        obtain ⟨v, hv⟩ : ∃ v, v = Lb[y]! := ⟨_, rfl⟩
        have c1 := hna.at_ (i := p) (by omega)
        have f1 : w6.frozen? ⟨ga, p, none⟩ = false := Row.free hna p
        have ha2 := hna.bump p
        rw [← hu] at c1 ha2 hb1
        have huk : u ≤ k + 1 := hb1.2
        have hvk : v ≤ k + 1 := by rw [hv]; exact hb2.2
        obtain ⟨w7, hw7⟩ : ∃ w7, w7 = w6.setCell ⟨ga, p, none⟩ (.int .i64 ((u : Int) + 1)) := ⟨_, rfl⟩
        rw [← hw7] at ha2
        have hnb7 : NRow w7 gb Lb := by rw [hw7]; exact Row.other hnb (fun e => HAB.out.1 e.symm) _
        have c2 := hnb7.at_ (i := y) (by rw [HLL.out.2.2.2]; exact hy30)
        have f2 : w7.frozen? ⟨gb, y, none⟩ = false := Row.free hnb7 y
        have hb3 := hnb7.bump y
        rw [← hv] at c2 hb3
        have HN8 : Hid (NRow (w7.setCell ⟨gb, y, none⟩ (.int .i64 ((v : Int) + 1))) ga (SyM.bump La p) ∧ NRow (w7.setCell ⟨gb, y, none⟩ (.int .i64 ((v : Int) + 1))) gb (SyM.bump Lb y)) := Lib.hid ⟨Row.other ha2 HAB.out.1 _, hb3⟩
        have HF7 : Hid (Fr (fun _ => False) w w7) := Lib.hid ((HF.out.trans HF6.out (fun _ _ h => h)).trans (by rw [hw7]; exact Fr.set1 w6 ga p _) (fun b hb h => by have := HAB.out.2.1; omega))
        have HF8 : Hid (Fr (fun _ => False) w (w7.setCell ⟨gb, y, none⟩ (.int .i64 ((v : Int) + 1)))) := Lib.hid (HF7.out.trans (Fr.set1 w7 gb y _) (fun b hb h => by have := HAB.out.2.2; omega))
        have HL8 : Hid ((∀ x ∈ SyM.bump La p, x ≤ k + 1 + 1) ∧ (∀ x ∈ SyM.bump Lb y, x ≤ k + 1 + 1) ∧ (SyM.bump La p).length = 286 ∧ (SyM.bump Lb y).length = 30) := Lib.hid ⟨hb1.1, hb2.1, by rw [bump_length]; exact HLL.out.2.2.1, by rw [bump_length]; exact HLL.out.2.2.2⟩
        have HW8 : Hid (weigh (T.drop (k + 1)) (SyM.bump La p, SyM.bump Lb y) = R) := Lib.hid (by rw [hp]; exact HWW.out)
        have HW7 := Lib.hid hw7
        clear hna hnb hb1 hb2 hp hu hv ha2 hnb7 hb3 hla2 hw7
        go_upto_region 11 with fail
        rw [← HW7.out]
        go_wp2_with fail
        exact ⟨⟨k + 1, SyM.bump La p, SyM.bump Lb y, by omega, by go_num, HN8.out, HW8.out, HL8.out, HF8.out⟩, by simp [intOf]; omega⟩
    · obtain rfl : k = n := by omega
      have hw := HW.out
      rw [List.drop_of_length_le (by have := HLN.out; omega)] at hw
      have hw2 : (La, Lb) = R := hw
      clear hw
      subst hw2
      go_wp2_with fail
      exact bodyPost_ret (v := .tuple #[.slice (some ⟨ga, 0, none⟩) 286 286, .slice (some ⟨gb, 0, none⟩) 30 30]) (by simp [results, Tryd.results37, go_sem]) rfl ⟨ga, gb, rfl, HN.out.1, HN.out.2, HF.out⟩
end Go.Proofs.YtahfmcdhcbfkaaaDoor
namespace Go.Proofs.YtahfmcdhcbfkaaaDoor.LzN
open LzM

abbrev Key := UInt8 × UInt8 × UInt8
def key (B : List UInt8) (a : Nat) : Key := (B[a]!, B[a + 1]!, B[a + 2]!)
/-- the last place ahead of a at which these three bytes stand -/
def lastF (B : List UInt8) : Nat → Key → Option Nat
  | 0, _ => none
  | a + 1, k => if a + 3 ≤ B.length ∧ key B a = k then some a else lastF B a k
def num : Option Nat → Int
  | some q => (q : Int)
  | none => -1
def prevI (B : List UInt8) (a : Nat) : Int := num (lastF B a (key B a))
/-- no match that is too short -/
def clip (p : Nat × Nat) : Nat × Nat := if p.1 < 3 then (2, 0) else p
/-- what the program's match answers -/
def matchR (B : List UInt8) (a : Nat) : Nat × Nat := if a + 3 ≤ B.length then clip (find B a) else (0, 0)

theorem last_is (B : List UInt8) (k : Key) : ∀ a q, lastF B a k = some q → q < a ∧ q + 3 ≤ B.length ∧ key B q = k
  | 0, q, h => by cases h
  | a + 1, q, h => by
    unfold lastF at h
    split at h
    · rename_i hc
      injection h with h
      subst h
      exact ⟨by omega, hc.1, hc.2⟩
    · have := last_is B k a q h
      exact ⟨by omega, this.2⟩
theorem last_max (B : List UInt8) (k : Key) : ∀ a q, q < a → q + 3 ≤ B.length → key B q = k → ∃ r, lastF B a k = some r ∧ q ≤ r
  | 0, q, h, _, _ => by omega
  | a + 1, q, h, h1, h2 => by
    unfold lastF
    by_cases hc : a + 3 ≤ B.length ∧ key B a = k
    · rw [if_pos hc]
      exact ⟨a, rfl, by omega⟩
    · rw [if_neg hc]
      have hq : q ≠ a := fun e => hc ⟨e ▸ h1, e ▸ h2⟩
      exact last_max B k a q (by omega) h1 h2
/-- where three bytes stood ahead of a: nowhere, or at a place; nowhere between -/
theorem prev_is (B : List UInt8) (a : Nat) : (prevI B a = -1 ∨ ∃ q : Nat, prevI B a = (q : Int) ∧ q < a ∧ q + 3 ≤ B.length ∧ key B q = key B a) ∧ ∀ q : Nat, prevI B a < (q : Int) → q < a → q + 3 ≤ B.length → key B q ≠ key B a := by
  unfold prevI
  cases h : lastF B a (key B a) with
  | none =>
    refine ⟨.inl rfl, fun q _ h1 h2 h3 => ?_⟩
    obtain ⟨r, hr, _⟩ := last_max B _ a q h1 h2 h3
    rw [h] at hr
    cases hr
  | some r =>
    have := last_is B _ a r h
    refine ⟨.inr ⟨r, rfl, this⟩, fun q hq h1 h2 h3 => ?_⟩
    obtain ⟨r', hr, hle⟩ := last_max B _ a q h1 h2 h3
    rw [h] at hr
    injection hr with hr
    subst hr
    simp only [num] at hq
    omega

theorem same_lower (B : List UInt8) (i d : Nat) : ∀ f n m, n ≤ m → m ≤ n + f → (∀ j, n ≤ j → j < m → i + j < B.length ∧ B[i + j]! = B[i + j - d]!) → m ≤ same B i d f n
  | 0, n, m, h1, h2, _ => by unfold same; omega
  | f + 1, n, m, h1, h2, h3 => by
    unfold same
    by_cases e : n = m
    · subst e
      split
      · exact Nat.le_trans (Nat.le_succ _) (same_ge B i d f (n + 1))
      · exact Nat.le_refl _
    · rw [if_pos (h3 n (Nat.le_refl _) (by omega))]
      exact same_lower B i d f (n + 1) m (by omega) (by omega) (fun j a b => h3 j (by omega) b)
theorem same_upper (B : List UInt8) (i d m : Nat) (hm : ¬ (i + m < B.length ∧ B[i + m]! = B[i + m - d]!)) : ∀ f n, n ≤ m → same B i d f n ≤ m
  | 0, n, h => by unfold same; exact h
  | f + 1, n, h => by
    unfold same
    split
    · rename_i hc
      have : n ≠ m := fun e => hm (e ▸ hc)
      exact same_upper B i d m hm f (n + 1) (by omega)
    · exact h
/-- as many are the same: m -/
theorem len_of (B : List UInt8) (i d m : Nat) (h1 : m ≤ 258) (h2 : ∀ j, j < m → i + j < B.length ∧ B[i + j]! = B[i + j - d]!) (h3 : m = 258 ∨ ¬ (i + m < B.length ∧ B[i + m]! = B[i + m - d]!)) : len B i d = m := by
  have a := same_lower B i d 258 0 m (Nat.zero_le _) (by omega) (fun j _ h => h2 j h)
  have b : same B i d 258 0 ≤ m := by
    rcases h3 with h | h
    · have := same_le B i d 258 0; omega
    · exact same_upper B i d m h 258 0 (Nat.zero_le _)
  unfold len
  omega
theorem key_eq (B : List UInt8) (a b : Nat) : key B a = key B b ↔ B[a]! = B[b]! ∧ B[a + 1]! = B[b + 1]! ∧ B[a + 2]! = B[b + 2]! := by
  unfold key
  simp only [Prod.mk.injEq]
/-- more than l are the same: so are the three that end behind l -/
theorem key_of_len (B : List UInt8) (a d l : Nat) (hd : d ≤ a) (hl : 2 ≤ l) (h : l < len B a d) : key B (a - d + l - 2) = key B (a + l - 2) := by
  rw [key_eq]
  have e := fun j (hj : j < len B a d) => same_eq B a d 258 0 j (Nat.zero_le _) hj
  have e0 := e (l - 2) (by omega)
  have e1 := e (l - 1) (by omega)
  have e2 := e l h
  refine ⟨?_, ?_, ?_⟩
  · rw [show a - d + l - 2 = a + (l - 2) - d by omega, show a + l - 2 = a + (l - 2) by omega]; exact e0.symm
  · rw [show a - d + l - 2 + 1 = a + (l - 1) - d by omega, show a + l - 2 + 1 = a + (l - 1) by omega]; exact e1.symm
  · rw [show a - d + l - 2 + 2 = a + l - d by omega, show a + l - 2 + 2 = a + l by omega]; exact e2.symm
theorem len_nokey (B : List UInt8) (a d : Nat) (hd : d ≤ a) (h : key B (a - d) ≠ key B a) : len B a d < 3 := by
  rcases Nat.lt_or_ge (len B a d) 3 with h' | h'
  · exact h'
  · exact absurd (key_of_len B a d 2 hd (Nat.le_refl _) h') h
theorem clip_skip (B : List UInt8) (a k : Nat) : ∀ m, (∀ d, k < d → d ≤ k + m → len B a d < 3) → clip (best B a (k + m)) = clip (best B a k)
  | 0, _ => rfl
  | m + 1, h => by
    have ih := clip_skip B a k m (fun d h1 h2 => h d h1 (by omega))
    have hl := h (k + m + 1) (by omega) (by omega)
    rw [show k + (m + 1) = k + m + 1 by omega, best]
    split
    · rename_i hc
      rw [← ih]
      unfold clip
      rw [if_pos hl, if_pos (by omega)]
    · exact ih
theorem clip_two (p : Nat × Nat) : 2 ≤ (clip p).1 := by
  unfold clip
  split
  · exact Nat.le_refl _
  · omega
theorem clip_step (B : List UInt8) (a k L D : Nat) (h : (L, D) = clip (best B a k)) : clip (best B a (k + 1)) = if L < len B a (k + 1) then (len B a (k + 1), k + 1) else (L, D) := by
  rw [best]
  unfold clip at h ⊢
  split at h
  · rename_i h3
    simp only [Prod.mk.injEq] at h
    obtain ⟨rfl, rfl⟩ := h
    split
    · by_cases hl : len B a (k + 1) < 3
      · rw [if_pos hl, if_neg (by omega)]
      · rw [if_neg hl, if_pos (by omega)]
    · rw [if_neg (by omega)]
  · rename_i h3
    rw [← h] at h3 ⊢
    simp only at h3 ⊢
    split
    · rw [if_neg (by simp only; omega)]
    · rfl
theorem best_full (B : List UInt8) (a k : Nat) (ha : a ≤ B.length) (h : min 258 (B.length - a) ≤ (best B a k).1) : ∀ m, best B a (k + m) = best B a k
  | 0 => rfl
  | m + 1 => by
    rw [show k + (m + 1) = k + m + 1 by omega, best, best_full B a k ha h m, if_neg]
    have h1 := len_le B a (k + m + 1)
    have h2 := len_in B a (k + m + 1) ha
    omega
/-- as far as has been looked: no match can be longer -/
theorem clip_full (B : List UInt8) (a k L D : Nat) (ha : a + 3 ≤ B.length) (h : (L, D) = clip (best B a k)) (hL : min 258 (B.length - a) ≤ L) (m : Nat) : clip (best B a (k + m)) = (L, D) := by
  have hb : (best B a k).1 = L := by
    unfold clip at h
    split at h
    · simp only [Prod.mk.injEq] at h
      omega
    · rw [← h]
  rw [best_full B a k (by omega) (by omega) m, h]
/-- the state of the going back: L, D are what counts of the distances below the place z (-1: all) -/
def Back (B : List UInt8) (a : Nat) (z : Int) (L D : Nat) : Prop :=
  (z = -1 ∨ ∃ q : Nat, z = (q : Int) ∧ q < a ∧ q + 3 ≤ B.length ∧ key B q = key B a) ∧ (L, D) = clip (best B a (min ((a : Int) - z - 1).toNat 32768))
theorem back_start (B : List UInt8) (a : Nat) (ha : a + 3 ≤ B.length) : Back B a (prevI B a) 2 0 := by
  obtain ⟨h1, h2⟩ := prev_is B a
  refine ⟨h1, ?_⟩
  have e := clip_skip B a 0 (min ((a : Int) - prevI B a - 1).toNat 32768) (fun d hd1 hd2 => ?_)
  · rw [Nat.zero_add] at e
    rw [e]
    rfl
  · have hz : (-1 : Int) ≤ prevI B a := by rcases h1 with h | ⟨q, h, _⟩ <;> omega
    have hda : d ≤ a := by omega
    exact len_nokey B a d hda (h2 (a - d) (by omega) (by omega) (by omega))
theorem back_step (B : List UInt8) (a q L D : Nat) (ha : a + 3 ≤ B.length) (h : Back B a (q : Int) L D) (hq : a ≤ q + 32768) :
    Back B a (prevI B q) (if L < len B a (a - q) then len B a (a - q) else L) (if L < len B a (a - q) then a - q else D) := by
  obtain ⟨h0, h⟩ := h
  obtain ⟨q', hqq, hqa, hq3, hk⟩ : ∃ q' : Nat, (q : Int) = (q' : Int) ∧ q' < a ∧ q' + 3 ≤ B.length ∧ key B q' = key B a := by
    rcases h0 with h0 | h0
    · omega
    · exact h0
  obtain rfl : q = q' := by omega
  obtain ⟨h1, h2⟩ := prev_is B q
  have hz : (-1 : Int) ≤ prevI B q := by rcases h1 with h | ⟨q, h, _⟩ <;> omega
  have hz2 : prevI B q < (q : Int) := by rcases h1 with h | ⟨q, h, _⟩ <;> omega
  refine ⟨?_, ?_⟩
  · rcases h1 with h | ⟨r, hr1, hr2, hr3, hr4⟩
    · exact .inl h
    · exact .inr ⟨r, hr1, by omega, hr3, hr4.trans hk⟩
  · have e1 : min ((a : Int) - (q : Int) - 1).toNat 32768 = a - q - 1 := by omega
    rw [e1] at h
    have hs := clip_step B a (a - q - 1) L D h
    rw [show a - q - 1 + 1 = a - q by omega] at hs
    obtain ⟨m, hm⟩ : ∃ m, min ((a : Int) - prevI B q - 1).toNat 32768 = (a - q) + m := ⟨min ((a : Int) - prevI B q - 1).toNat 32768 - (a - q), by omega⟩
    rw [hm, clip_skip B a (a - q) m, hs]
    · split <;> rfl
    · intro d hd1 hd2
      have hda : d ≤ a := by omega
      exact len_nokey B a d hda (fun e => h2 (a - d) (by omega) (by omega) (by omega) (e.trans hk.symm))
theorem back_far (B : List UInt8) (a : Nat) (z : Int) (L D : Nat) (h : Back B a z L D) (hz : z < max 0 ((a : Int) - 32768)) : (L, D) = clip (find B a) := by
  obtain ⟨h0, h⟩ := h
  have : min ((a : Int) - z - 1).toNat 32768 = min a 32768 := by
    rcases h0 with h0 | ⟨q, h0, h1, _⟩ <;> omega
  rw [this] at h
  exact h
theorem back_full (B : List UInt8) (a : Nat) (z : Int) (L D : Nat) (ha : a + 3 ≤ B.length) (h : Back B a z L D) (hL : min 258 (B.length - a) ≤ L) : (L, D) = clip (find B a) := by
  obtain ⟨h0, h⟩ := h
  obtain ⟨k, hk⟩ : ∃ k, k = min ((a : Int) - z - 1).toNat 32768 := ⟨_, rfl⟩
  rw [← hk] at h
  have hle : k ≤ min a 32768 := by rcases h0 with h0 | ⟨q, h0, h1, _⟩ <;> omega
  have := clip_full B a k L D ha h hL (min a 32768 - k)
  rw [show k + (min a 32768 - k) = min a 32768 by omega] at this
  exact this.symm
theorem back_le (B : List UInt8) (a : Nat) (z : Int) (L D : Nat) (ha : a + 3 ≤ B.length) (h : Back B a z L D) : 2 ≤ L ∧ L ≤ 258 ∧ a + L ≤ B.length ∧ D ≤ 32768 := by
  obtain ⟨_, h⟩ := h
  have h2 := clip_two (best B a (min ((a : Int) - z - 1).toNat 32768))
  have h3 := best_le B a (min ((a : Int) - z - 1).toNat 32768)
  have h4 := best_in B a (by omega) (min ((a : Int) - z - 1).toNat 32768)
  rw [← h] at h2
  unfold clip at h
  split at h
  · simp only [Prod.mk.injEq] at h
    simp only at h2
    omega
  · rw [← h] at h3 h4
    simp only at h2 h3 h4
    omega
/-- the three that end behind L are others: no more than L are the same -/
theorem len_short (B : List UInt8) (a q L : Nat) (hq : q < a) (hL : 2 ≤ L) (h : key B (q + L - 2) ≠ key B (a + L - 2)) : ¬ L < len B a (a - q) := by
  intro hl
  have := key_of_len B a (a - q) L (by omega) hL hl
  rw [show a - (a - q) = q by omega] at this
  exact h this

theorem find_short (B : List UInt8) (a : Nat) (ha : a ≤ B.length) (h : ¬ a + 3 ≤ B.length) : (find B a).1 < 3 := by
  have := best_in B a ha (min a 32768)
  unfold find
  omega
theorem match_no (B : List UInt8) (a : Nat) (h : (find B a).1 < 3) : (matchR B a).2 = 0 := by
  unfold matchR clip
  split
  · rfl
  · rfl
theorem match_yes (B : List UInt8) (a : Nat) (ha : a ≤ B.length) (h : ¬ (find B a).1 < 3) : matchR B a = find B a ∧ 1 ≤ (find B a).2 := by
  have h3 : a + 3 ≤ B.length := by
    rcases Nat.lt_or_ge B.length (a + 3) with h' | h'
    · exact absurd (find_short B a ha (by omega)) h
    · exact h'
  unfold matchR clip
  rw [if_pos h3, if_neg h]
  exact ⟨rfl, (best_is B a _ (by unfold find at h; omega)).1⟩

/-- the ring: of each of the last 32768 places that were passed, where its three bytes stood ahead of it -/
def Ring (B : List UInt8) (a : Nat) (V : List Int) : Prop := V.length = min B.length 32768 ∧ ∀ q, q < a → a ≤ q + 32768 → q + 3 ≤ B.length → V[q % 32768]? = some (prevI B q)
theorem ring_zero (B : List UInt8) (V : List Int) (h : V.length = min B.length 32768) : Ring B 0 V := ⟨h, fun q hq => by omega⟩
theorem ring_step (B : List UInt8) (a : Nat) (V : List Int) (h : Ring B a V) (ha : a + 3 ≤ B.length) : Ring B (a + 1) (V.set (a % 32768) (prevI B a)) := by
  refine ⟨by rw [List.length_set]; exact h.1, fun q h1 h2 h3 => ?_⟩
  by_cases e : q = a
  · subst e
    rw [List.getElem?_set_self (by have := h.1; omega)]
  · rw [List.getElem?_set_ne (by omega)]
    exact h.2 q (by omega) (by omega) h3
theorem ring_stay (B : List UInt8) (a : Nat) (V : List Int) (h : Ring B a V) (ha : ¬ a + 3 ≤ B.length) : Ring B (a + 1) V :=
  ⟨h.1, fun q h1 h2 h3 => h.2 q (by omega) (by omega) h3⟩
theorem last_step (B : List UInt8) (a : Nat) (ha : a + 3 ≤ B.length) (k : Key) : lastF B (a + 1) k = if key B a = k then some a else lastF B a k := by
  rw [lastF]
  by_cases h : key B a = k
  · rw [if_pos ⟨ha, h⟩, if_pos h]
  · rw [if_neg (fun h' => h h'.2), if_neg h]
theorem last_stay (B : List UInt8) (a : Nat) (ha : ¬ a + 3 ≤ B.length) (k : Key) : lastF B (a + 1) k = lastF B a k := by
  rw [lastF, if_neg (fun h => ha h.1)]
theorem prev_bd (B : List UInt8) (a : Nat) : -1 ≤ prevI B a ∧ prevI B a < (a : Int) := by
  rcases (prev_is B a).1 with h | ⟨q, h, h1, _⟩ <;> omega
end Go.Proofs.YtahfmcdhcbfkaaaDoor.LzN
namespace Go.Proofs.YtahfmcdhcbfkaaaDoor.LzV
open LzM LzN

theorem pressF_len (B : List UInt8) : ∀ f i, i ≤ B.length → (pressF B f i).length ≤ B.length - i
  | 0, i, h => by simp [pressF]
  | f + 1, i, h => by
    rw [pressF]
    split
    · rename_i hlt
      split
      · have := pressF_len B f (i + 1) (by omega)
        rw [List.length_cons]
        omega
      · rename_i h3
        have hin := best_in B i h (min i 32768)
        have e : best B i (min i 32768) = find B i := rfl
        rw [e] at hin
        have := pressF_len B f (i + (find B i).1) hin
        rw [List.length_cons]
        omega
    · simp
theorem press_len (B : List UInt8) : (press B).length ≤ B.length := by
  have := pressF_len B B.length 0 (Nat.zero_le _)
  unfold press
  omega
/-- nothing less opens: the error is 4 -/
theorem open_short (B : List UInt8) (most : Int) (hm : most < (B.length : Int)) : ∀ f i, B.length ≤ i + f → i < B.length → openT most (B.take i) (pressF B f i) = .error 4
  | 0, i, h, hi => by omega
  | f + 1, i, h, hi => by
    rw [pressF, if_pos hi]
    have h1 : (B.take i).length = i := by rw [List.length_take]; omega
    split
    · rw [openT, if_neg (by simp [rightT, lit])]
      have hw : wide (lit B[i]!) = 1 := rfl
      rw [hw, h1]
      by_cases hc : ((i + 1 : Nat) : Int) > most
      · rw [if_pos hc]
      · rw [if_neg hc]
        have h3 : B.take i ++ [B[i]!] = B.take (i + 1) := by
          rw [getElem!_pos B i hi, List.take_append_getElem]
        have ha : addT (B.take i) (lit B[i]!) = B.take (i + 1) := by rw [addT, if_pos (show (lit B[i]!).l = 0 from rfl)]; exact h3
        rw [ha]
        by_cases hj : i + 1 < B.length
        · exact open_short B most hm f (i + 1) (by omega) hj
        · omega
    · rename_i hc
      obtain ⟨p, hp⟩ : ∃ p, p = find B i := ⟨_, rfl⟩
      rw [← hp] at hc ⊢
      have e1 : 1 ≤ p.2 ∧ p.1 = len B i p.2 := by rw [hp]; exact best_is B i _ (by rw [hp] at hc; unfold find at hc; omega)
      have e2 : p.1 ≤ 258 ∧ p.2 ≤ min i 32768 := by rw [hp]; exact best_le B i _
      have e3 : i + p.1 ≤ B.length := by rw [hp]; exact best_in B i (by omega) _
      have hl : (mat p.1 p.2).l ≠ 0 := by simp [mat]; omega
      have hr : rightT (mat p.1 p.2) ((B.take i).length : Nat) = true := by
        rw [h1, rightT, if_neg (by simp [mat]; omega)]
        simp [mat]
        omega
      have hw : wide (mat p.1 p.2) = p.1 := by rw [wide, if_neg hl]; simp [mat]
      have ha : addT (B.take i) (mat p.1 p.2) = B.take (i + p.1) := by
        rw [addT, if_neg hl]
        have := copy_take B i p.2 e1.1 (by omega) p.1 0 (by omega) (fun j _ hj => same_eq B i p.2 258 0 j (by omega) (by rw [e1.2] at hj; unfold len at hj; omega))
        simpa [mat] using this
      rw [openT, if_neg (by rw [hr]; simp), hw, h1]
      by_cases hcc : ((i + p.1 : Nat) : Int) > most
      · rw [if_pos hcc]
      · rw [if_neg hcc, ha]
        exact open_short B most hm f (i + p.1) (by omega) (by omega)
theorem open_press_short (B : List UInt8) (hB : 0 < B.length) : openT ((B.length : Int) - 1) [] (press B) = .error 4 := by
  have := open_short B ((B.length : Int) - 1) (by omega) B.length 0 (by omega) hB
  simpa [press] using this
/-- behind as many as are the same, within B and short of 258, they part -/
theorem same_end (B : List UInt8) (i d : Nat) : ∀ f n m, same B i d f n = m → m < n + f → ¬ (i + m < B.length ∧ B[i + m]! = B[i + m - d]!)
  | 0, n, m, h, hm => by unfold same at h; omega
  | f + 1, n, m, h, hm => by
    unfold same at h
    split at h
    · exact same_end B i d f (n + 1) m h (by omega)
    · rename_i hc
      rw [← h]
      exact hc
theorem len_end (B : List UInt8) (i d : Nat) (h : len B i d < 258) (hi : i + len B i d < B.length) : B[i + len B i d]! ≠ B[i + len B i d - d]! :=
  fun e => same_end B i d 258 0 (len B i d) rfl (by omega) ⟨hi, e⟩
/-- a token that bytes are pressed to, and what follows it -/
theorem pressF_cases (B : List UInt8) (f i : Nat) (t : Tok) (T : List Tok) (h : pressF B f i = t :: T) : ∃ f', f = f' + 1 ∧ i < B.length ∧
    ((t = lit B[i]! ∧ (find B i).1 < 3 ∧ T = pressF B f' (i + 1)) ∨ ∃ L D : Nat, t = mat L D ∧ 3 ≤ L ∧ L ≤ 258 ∧ 1 ≤ D ∧ D ≤ i ∧ D ≤ 32768 ∧ i + L ≤ B.length ∧ L = len B i D ∧ find B i = (L, D) ∧ T = pressF B f' (i + L)) := by
  match f, h with
  | 0, h => cases h
  | f + 1, h =>
    rw [pressF] at h
    split at h
    · rename_i hi
      refine ⟨f, rfl, hi, ?_⟩
      split at h
      · rename_i h3
        injection h with h1 h2
        exact .inl ⟨h1.symm, h3, h2.symm⟩
      · rename_i h3
        injection h with h1 h2
        have e1 : 1 ≤ (find B i).2 ∧ (find B i).1 = len B i (find B i).2 := best_is B i _ (by unfold find at h3; omega)
        have e2 : (find B i).1 ≤ 258 ∧ (find B i).2 ≤ min i 32768 := best_le B i _
        have e3 : i + (find B i).1 ≤ B.length := best_in B i (by omega) _
        exact .inr ⟨_, _, h1.symm, by omega, e2.1, e1.1, by omega, by omega, e3, e1.2, rfl, h2.symm⟩
    · cases h
theorem pressF_nil (B : List UInt8) (f i : Nat) (h : pressF B f i = []) (hi : B.length ≤ i + f) (hib : i ≤ B.length) : i = B.length := by
  match f, h with
  | 0, h => omega
  | f + 1, h =>
    rw [pressF] at h
    split at h
    · split at h <;> cases h
    · omega
/-- bytes of one kind: all of them are the same from any distance -/
theorem rep_len (n : Nat) (c : UInt8) (a d : Nat) (ha : a ≤ n) : len (List.replicate n c) a d = min 258 (n - a) := by
  have hat : ∀ j, j < n → (List.replicate n c)[j]! = c := fun j hj => by rw [getElem!_pos _ j (by simpa using hj)]; simp
  refine len_of _ a d _ (by omega) (fun j hj => ⟨by rw [List.length_replicate]; omega, by rw [hat _ (by omega), hat _ (by omega)]⟩) ?_
  rw [List.length_replicate]
  omega
theorem rep_find (n : Nat) (c : UInt8) (a : Nat) (h0 : 0 < a) (ha : a < n) : find (List.replicate n c) a = (min 258 (n - a), 1) := by
  have h1 : best (List.replicate n c) a 1 = (min 258 (n - a), 1) := by
    have e : best (List.replicate n c) a 1 = if (best (List.replicate n c) a 0).1 < len (List.replicate n c) a 1 then (len (List.replicate n c) a 1, 1) else best (List.replicate n c) a 0 := rfl
    rw [e, rep_len n c a 1 (by omega), if_pos (by show 0 < _; omega)]
  obtain ⟨m, hm⟩ : ∃ m, min a 32768 = 1 + m := ⟨min a 32768 - 1, by omega⟩
  unfold find
  rw [hm, best_full _ a 1 (by simp; omega) (by rw [h1]; simp) m, h1]
theorem rep_find0 (n : Nat) (c : UInt8) : find (List.replicate n c) 0 = (0, 0) := rfl
end Go.Proofs.YtahfmcdhcbfkaaaDoor.LzV
