/-
  The library's heap over the program's nodes: sifting up.
  The program's nodes: Len, Push, Pop.
-/
import Derived.Test.YtahfmcdhcbfkaaaDoorZm30
import Derived.Test.YtahfmcdhcbfkaaaDoorZm05
import Derived.StillTailTactics
import Derived.Deep.RegionLaw
import Derived.Deep.DeepCutAuto
namespace Go.Proofs.YtahfmcdhcbfkaaaDoor
open Go.RowKit HuffM Mem Go.Lib
attribute [local go_sem ↓] Go.wp_at_zero Go.wp_at_succ
set_option linter.unusedVariables false

set_option maxRecDepth 100000 in
set_option maxHeartbeats 3200000 in
theorem up_any (b j0 : Nat) (G : Nat → Prop) (l : List Nd) (w : World) (hs : Hs w b G l) (hl : l.length ≤ 1000) (hj : j0 < l.length) (hp : Up l l.length j0) :
    Calls Tryd.prog 94 #[.iface 120 (.pointer (some ⟨b, 0, none⟩)), .int .i64 (j0 : Int)] w fun e w' =>
      ∃ l', e = .returned (.tuple #[]) ∧ l'.Perm l ∧ Hp l' l'.length 0 ∧ Hs w' b G l' ∧ Fr (G) w w' := by
  have HS := Lib.hid hs
  have HP := Lib.hid hp
  clear hs hp
  go_enter Tryd.func94, Tryd.ntmps94
  go_wp2_with fail
  go_loopw [1] (fun v wr => ∃ (j : Nat) (d : List Nd), v = .int .i64 (j : Int) ∧ j < l.length ∧ Hid (d.Perm l ∧ d.length = l.length) ∧ Hid (Up d d.length j) ∧ Hid (Hs wr b G d) ∧ Fr (G) w wr)
    (fun v _ => (intOf v).toNat)
  case atStart => exact ⟨j0, l, rfl, hj, ⟨List.Perm.refl _, rfl⟩, HP, HS, Fr.refl _ _⟩
  case round =>
    clear HS HP hj
    obtain ⟨j, d, rfl, hjl, HD, HU, HSd, hfr⟩ := hrel
    by_cases hj0 : j = 0
    · subst hj0
      have HPP := Lib.hid HU.out.top
      have HF := Lib.hid hfr
      clear hfr
      go_wp2
      go_end0
      exact ⟨d, rfl, HD.out.1, HPP.out, HSd.out, HF.out⟩
    · obtain ⟨g, c, hg, hbg, hblk, hnod⟩ := HSd.out.row (by have := HD.out.2; omega)
      have hcs : wr.cell? ⟨b, 0, none⟩ = some (.slice (some ⟨g, 0, none⟩) d.length c) := by rw [cell_of hblk 0]; rfl
      have ml := fun fuel => meth_val fuel "Less" _ i_less b _ _ _ wr hcs
      have HH := Lib.hid (And.intro hblk hnod)
      have HF := Lib.hid hfr
      obtain ⟨jp, hjp⟩ : ∃ jp, jp = j - 1 := ⟨_, rfl⟩
      obtain ⟨i, hi⟩ : ∃ i, i = jp / 2 := ⟨_, rfl⟩
      have e1 : (j : Int) - 1 = (jp : Int) := by omega
      have e2 : (jp : Int) / 2 = (i : Int) := by omega
      have hij : i < j := by omega
      have tij : ((i : Int) == (j : Int)) = false := by simp; omega
      have hii : (j - 1) / 2 = i := by omega
      have HI := Lib.hid hii
      clear hblk hnod hcs hfr hi hjp hii
      cases hu : ltb (gn d j) (gn d i) with
      | false =>
        have hl2 := less_any g d.length c j i d wr HH.out.2 rfl (by have := HD.out.2; omega) (by have := HD.out.2; omega)
        rw [hu] at hl2
        have HL2 := Lib.hid hl2
        have hpp := HU.out.stop (by rw [HI.out]; exact (ltb_no _ _).1 hu)
        have HPP := Lib.hid hpp
        clear hl2 hu hpp
        go_wp2_with fail
        refine HL2.out.mono ?_
        rintro e w3x ⟨rfl, q3, hq⟩
        subst hq
        have HS3 : Hid (Hs (wr.drewN q3) b G d) := HSd
        have HF3 := Lib.hid (HF.out.drewN q3)
        generalize wr.drewN q3 = w3 at HS3 HF3 ⊢
        clear ml
        go_wp2
        go_end0
        exact ⟨d, rfl, HD.out.1, HPP.out, HS3.out, HF3.out⟩
      | true =>
        have hl2 := less_any g d.length c j i d wr HH.out.2 rfl (by have := HD.out.2; omega) (by have := HD.out.2; omega)
        rw [hu] at hl2
        have HL2 := Lib.hid hl2
        have hgo := HU.out.go (by omega) (by have := HD.out.2; omega) (by rw [HI.out]; exact (ltb_iff _ _).1 hu) (Nat.le_refl _)
        rw [HI.out] at hgo
        have HGO := Lib.hid hgo
        clear hl2 hu hgo
        go_wp2_with fail
        refine HL2.out.mono ?_
        rintro e w3x ⟨rfl, q3, hq⟩
        subst hq
        obtain ⟨w3, hw3⟩ : ∃ x, x = wr.drewN q3 := ⟨_, rfl⟩
        rw [← hw3]
        have HH3 : Hid (w3.heap[b]? = some (.cells #[.slice (some ⟨g, 0, none⟩) d.length c] 115 (0, 0)) ∧ Nods w3 g c d) := by rw [hw3]; exact HH
        have HS3 : Hid (Hs w3 b G d) := by rw [hw3]; exact HSd
        have HF3 : Hid (Fr (G) w w3) := by rw [hw3]; exact HF.out.drewN q3
        have hcs3 : w3.cell? ⟨b, 0, none⟩ = some (.slice (some ⟨g, 0, none⟩) d.length c) := by rw [cell_of HH3.out.1 0]; rfl
        have ms := fun fuel => meth_val fuel "Swap" _ i_swap b _ _ _ w3 hcs3
        have hsw := swap_any g d.length c i j d w3 HH3.out.2 rfl (by have := HD.out.2; omega) (by have := HD.out.2; omega)
        have HSW := Lib.hid hsw
        clear hsw hcs3 hw3 ml HH HF HSd
        go_wp2_with fail
        refine HSW.out.mono ?_
        rintro e w4 ⟨rfl, hn4, hf4⟩
        have HS4 : Hid (Hs w4 b G (swn d i j)) := Hs.mk hg HS3.out.1 (swn_len d i j).symm (hf4.blk HH3.out.1 hbg) hn4
        have HF4 := Lib.hid (HF3.out.trans hf4 (fun k _ h => by rw [h]; exact hg))
        clear hn4 hf4 HSW ms
        go_wp2
        go_roundw
        case rel =>
          refine ⟨i, swn d i j, rfl, by omega, ⟨?_, by rw [swn_len]; exact HD.out.2⟩, by rw [swn_len]; exact HGO, HS4, HF4.out⟩
          exact (swn_perm d (by have := HD.out.2; omega) (by have := HD.out.2; omega)).trans HD.out.1
        case measure => simp [intOf]; omega
end Go.Proofs.YtahfmcdhcbfkaaaDoor
namespace Go.Proofs.YtahfmcdhcbfkaaaDoor
open Go.RowKit HuffM Mem Go.Lib
attribute [local go_sem ↓] Go.wp_at_zero Go.wp_at_succ
set_option linter.unusedVariables false

set_option maxRecDepth 100000 in
theorem hlen_any (A : Option Addr) (n c : Nat) (w : World) :
    Calls Tryd.prog 84 #[.slice A n c] w fun e w' => e = .returned (.int .i64 (n : Int)) ∧ w = w' := by
  go_enter Tryd.func84, Tryd.ntmps84
  go_wp2
  go_ret
  exact ⟨rfl, rfl⟩

theorem Nods.front {w : World} {g c : Nat} {l m : List Nd} (h : Nods w g c (l ++ m)) : Nods w g c l := by
  obtain ⟨r, h1, h2, h3⟩ := h
  refine ⟨cellsN m ++ r, ?_, ?_, h3⟩
  · rw [cellsN_app, List.append_assoc] at h1
    exact h1
  · rw [List.length_append, cellsN_len]
    rw [List.length_append] at h2
    omega
def ndv (x : Nd) : Value := .agg #[.int .i64 (x.1 : Int), .int .i64 (x.2 : Int)]
set_option maxRecDepth 100000 in
set_option maxHeartbeats 1600000 in
theorem pop_any (b : Nat) (G : Nat → Prop) (l : List Nd) (x : Nd) (w : World) (hs : Hs w b G (l ++ [x])) (hl : l.length ≤ 1000) :
    Calls Tryd.prog 121 #[.pointer (some ⟨b, 0, none⟩)] w fun e w' =>
      e = .returned (.iface 118 (ndv x)) ∧ Hs w' b G l ∧ Fr (fun k => k = b) w w' := by
  obtain ⟨g, c, hg, hbg, hblk, hnod⟩ := hs.row (by simp)
  have hn : (l ++ [x]).length = l.length + 1 := by simp
  rw [hn] at hblk
  have hcs : w.cell? ⟨b, 0, none⟩ = some (.slice (some ⟨g, 0, none⟩) (l.length + 1) c) := by rw [cell_of hblk 0]; rfl
  obtain ⟨a1, a2⟩ := hnod.cell (i := l.length) (p := x) (by simp)
  have hb0 := hs.1
  have hcap := hnod.cap
  rw [hn] at hcap
  obtain ⟨n, hn'⟩ : ∃ n, n = l.length := ⟨_, rfl⟩
  rw [← hn'] at hblk hcs a1 a2 hcap
  obtain ⟨m, hm⟩ : ∃ m, m = n + 1 := ⟨_, rfl⟩
  rw [← hm] at hblk hcs hcap
  have e1 : (m : Int) - 1 = (n : Int) := by omega
  have hnm : n < m := by omega
  have hn1 : n ≤ 1000 := by omega
  obtain ⟨x1, x2⟩ := x
  have HN := Lib.hid hnod
  have HB := Lib.hid (And.intro hblk (And.intro hn' hb0))
  simp only at a1 a2
  clear hs hblk hnod hn hn' hb0 hm hl
  go_enter Tryd.func121, Tryd.ntmps121
  go_upto_region 3 with fail
  obtain ⟨w1, hw1⟩ : ∃ w1, w1 = w.alloc (.cells #[.int .i64 (x1 : Int), .int .i64 (x2 : Int)] 118) := ⟨_, rfl⟩
  obtain ⟨p, hp⟩ : ∃ p, p = w.heap.size := ⟨_, rfl⟩
  rw [← hw1, ← hp]
  have hf1 : Fr (fun _ => False) w w1 := by rw [hw1]; exact (Fr.refl _ _).alloc _
  have hpb : w1.heap[p]? = some (.cells #[.int .i64 (x1 : Int), .int .i64 (x2 : Int)] 118 (0, 0)) := by rw [hw1, hp]; exact heap_alloc_new w _
  have hbp : b ≠ p := by have := lt_of_heap HB.out.1; omega
  have hb1 := hf1.blk HB.out.1 (fun h => h)
  replace hcs : w1.cell? ⟨b, 0, none⟩ = some (.slice (some ⟨g, 0, none⟩) m c) := by rw [cell_of hb1 0]; rfl
  have hfz : w1.frozen? ⟨b, 0, none⟩ = false := free_of hb1 0
  have HP := Lib.hid hpb
  have HN1 := Lib.hid (HN.out.fr hf1 (fun h => h))
  have HF1 := Lib.hid hf1
  have HB1 := Lib.hid hb1
  clear hw1 hp hf1 hpb a1 a2 hb1
  go_upto_region 4 with fail
  obtain ⟨w2, hw2⟩ : ∃ w2, w2 = w1.setCell ⟨b, 0, none⟩ (.slice (some ⟨g, 0, none⟩) n c) := ⟨_, rfl⟩
  rw [← hw2]
  have hf2 : Fr (fun k => k = b) w1 w2 := by rw [hw2]; exact Fr.set1 w1 b 0 _
  have hb2 : w2.heap[b]? = some (.cells #[.slice (some ⟨g, 0, none⟩) n c] 115 (0, 0)) := by rw [hw2, set_k HB1.out]; rfl
  have hp2 := hf2.blk HP.out (fun h => hbp h.symm)
  have hs2 : Hs w2 b G l := Hs.mk hg HB.out.2.2 HB.out.2.1 hb2 ((HN1.out.fr hf2 (fun h => hbg h.symm)).front)
  have HS2 := Lib.hid hs2
  have HF2 := Lib.hid ((HF1.out.mono (T := fun k => k = b) (fun _ _ h => h.elim)).trans hf2 (fun _ _ h => h))
  have c1 : w2.cell? ⟨p, 0, none⟩ = some (.int .i64 (x1 : Int)) := by rw [cell_of hp2 0]; rfl
  have c2 : w2.cell? ⟨p, 1, none⟩ = some (.int .i64 (x2 : Int)) := by rw [cell_of hp2 1]; rfl
  clear hw2 hf2 hb2 hp2 hs2 hcs hfz
  go_wp2
  go_ret
  exact ⟨rfl, HS2.out, HF2.out⟩

theorem assert_node (v : Value) (w : World) : Sem.run Tryd.prog (Instr.typeAssert (.iface 118 v) 20 118 false) w = .ok v w := by
  simp [Instr.typeAssert, run_underlying Tryd.underlying118, go_sem]
theorem nodeT : ElemTyS Tryd.prog 115 118 (.agg #[.int .i64 0, .int .i64 0]) 2 16 := ⟨Tryd.underlying115, by kernel_rfl, rfl, by decide⟩
set_option maxRecDepth 100000 in
set_option maxHeartbeats 1600000 in
theorem push_any (b : Nat) (G : Nat → Prop) (l : List Nd) (x : Nd) (w : World) (hs : Hs w b G l) (hl : l.length ≤ 1000) :
    Calls Tryd.prog 122 #[.pointer (some ⟨b, 0, none⟩), .iface 118 (ndv x)] w fun e w' =>
      e = .returned (.tuple #[]) ∧ Hs w' b (fun k => G k ∨ w.heap.size ≤ k) (l ++ [x]) ∧ Fr (fun k => k = b ∨ G k) w w' := by
  obtain ⟨hb0, A, c, hblk, hown, hG⟩ := hs
  obtain ⟨n, hn⟩ : ∃ n, n = l.length := ⟨_, rfl⟩
  rw [← hn] at hblk hown hG hl
  have hcs : w.cell? ⟨b, 0, none⟩ = some (.slice A n c) := by rw [cell_of hblk 0]; rfl
  have hfz : w.frozen? ⟨b, 0, none⟩ = false := free_of hblk 0
  obtain ⟨x1, x2⟩ := x
  have HB := Lib.hid (And.intro hblk (And.intro hn hb0))
  have HO := Lib.hid hown
  have HG := Lib.hid hG
  clear hblk hn hb0 hown hG
  unfold ndv
  go_enter Tryd.func122, Tryd.ntmps122
  have ha := assert_node
  have HOW : Hid ((w.alloc (.cells #[.int .i64 (x1 : Int), .int .i64 (x2 : Int)] 118)).drew.ownsRow 0 118 2 (.slice A n c) n (cellsN l)) := HO.out.alloc _
  have HNW : Hid (∀ j u, [Value.int .i64 (x1 : Int), Value.int .i64 (x2 : Int)][j]? = some u → (w.alloc (.cells #[.int .i64 (x1 : Int), .int .i64 (x2 : Int)] 118)).drew.cell? ((⟨w.heap.size, 0, none⟩ : Addr).add j) = some u) := news2 rfl _ _ _
  have HFA : Hid (Fr (fun _ => False) w (w.alloc (.cells #[.int .i64 (x1 : Int), .int .i64 (x2 : Int)] 118)).drew) := ((Fr.refl _ _).alloc _).drew
  have HONE : Hid (∀ u ∈ [Value.int .i64 (x1 : Int), Value.int .i64 (x2 : Int)], u.oneCell' = true) := by
    intro u hu
    simp at hu
    rcases hu with rfl | rfl <;> rfl
  have HFB : Hid (∀ w2, Fr (fun k => (Value.slice A n c).ownBlock = some k) (w.alloc (.cells #[.int .i64 (x1 : Int), .int .i64 (x2 : Int)] 118)).drew w2 → w2.heap[b]? = some (.cells #[.slice A n c] 115 (0, 0)) ∧ Fr (fun k => k = b ∨ G k) w w2) := by
    intro w2 hf
    refine ⟨hf.blk (HFA.out.blk HB.out.1 (fun h => h)) (fun h => HB.out.2.2 (HG.out b h)), ?_⟩
    exact (HFA.out.mono (fun _ _ h => h.elim)).trans hf (fun k hk h => .inr (HG.out k h))
  have HEND : Hid (∀ (A2 : Option Addr) (c2 : Nat) (w2 : World), w2.heap[b]? = some (.cells #[.slice A n c] 115 (0, 0)) ∧ Fr (fun k => k = b ∨ G k) w w2 →
      w2.ownsRow 0 118 2 (.slice A2 (n + 1) c2) (n + 1) (cellsN l ++ [.int .i64 (x1 : Int), .int .i64 (x2 : Int)]) → ((Value.slice A2 (n + 1) c2).ownBlock = (Value.slice A n c).ownBlock ∨ (Value.slice A2 (n + 1) c2).ownBlock = some (w.alloc (.cells #[.int .i64 (x1 : Int), .int .i64 (x2 : Int)] 118)).drew.heap.size) →
      Hs (w2.setCell ⟨b, 0, none⟩ (.slice A2 (n + 1) c2)) b (fun k => G k ∨ w.heap.size ≤ k) (l ++ [(x1, x2)]) ∧ Fr (fun k => k = b ∨ G k) w (w2.setCell ⟨b, 0, none⟩ (.slice A2 (n + 1) c2))) := by
    intro A2 c2 w2 hB ho hlie
    have hl : (l ++ [(x1, x2)]).length = n + 1 := by rw [List.length_append, HB.out.2.1]; rfl
    have hbs : b < w.heap.size := lt_of_heap HB.out.1
    have hGk : ∀ k, (Value.slice A2 (n + 1) c2).ownBlock = some k → G k ∨ w.heap.size ≤ k := by
      intro k hk
      rcases hlie with h | h
      · exact .inl (HG.out k (h ▸ hk))
      · right
        rw [h] at hk
        injection hk with hk
        have : (w.alloc (.cells #[.int .i64 (x1 : Int), .int .i64 (x2 : Int)] 118)).heap.size = k := hk
        simp at this
        omega
    have hbG : ¬ (G b ∨ w.heap.size ≤ b) := fun h => by
      rcases h with h | h
      · exact HB.out.2.2 h
      · omega
    refine ⟨⟨hbG, A2, c2, ?_, ?_, ?_⟩, hB.2.trans (Fr.set1 w2 b 0 _) (fun k _ h => .inl h)⟩
    · rw [set_k hB.1, hl]; rfl
    · rw [hl, cellsN_app]
      exact (Fr.set1 w2 b 0 (.slice A2 (n + 1) c2)).own ho (fun k hk h => hbG (h ▸ hGk k hk))
    · rw [hl]
      exact hGk
  have hcsA : (w.alloc (.cells #[.int .i64 (x1 : Int), .int .i64 (x2 : Int)] 118)).cell? ⟨b, 0, none⟩ = some (.slice A n c) := HFA.out.cell hcs (fun h => h)
  go_wp2_with fail
  go_region_law (
    (refine step_appS nodeT _ rfl (.tmp 7) (.tmp 10) rfl 0 _ n (cellsN l) (by simp [Act.eval]) HOW.out ⟨w.heap.size, 0, none⟩ 1 [.int .i64 (x1 : Int), .int .i64 (x2 : Int)] (by simp [Act.eval]) rfl HNW.out HONE.out (n + 1) rfl (by unfold maxLen; omega) (by omega) (Nat.zero_le _) ?_
     intro A2 c2 w2 hown2 hc2 hf2 hlie
     have hB2 := HFB.out w2 hf2
     have hcs2 : w2.cell? ⟨b, 0, none⟩ = some (.slice A n c) := by rw [cell_of hB2.1 0]; rfl
     have hfz2 : w2.frozen? ⟨b, 0, none⟩ = false := free_of hB2.1 0
     have HB2 := Lib.hid hB2
     have HO2 := Lib.hid (And.intro hown2 hlie)
     clear hown2 hf2 hB2 hlie))
  all_goals
    (go_wp2
     go_end0
     exact ⟨rfl, (HEND.out _ _ _ HB2.out HO2.out.1 HO2.out.2).1, (HEND.out _ _ _ HB2.out HO2.out.1 HO2.out.2).2⟩)
end Go.Proofs.YtahfmcdhcbfkaaaDoor
