/-
  The library's heap over the program's nodes: sifting up.
  The program's nodes: Len, Push, Pop.
  The library's heap over the program's nodes: Init, Push, Pop; the least node, taken out; the nodes of symbols that have a weight.
  The program's least, leaves.
-/
import Derived.Test.YtgpkiijmembggaaGreatDoorZm25
import Derived.Test.YtgpkiijmembggaaGreatDoorZm05
import Derived.StillTailTactics
import Derived.Deep.RegionLaw
import Derived.Deep.DeepCutAuto
namespace Go.Proofs.YtgpkiijmembggaaGreatDoor
open Go.RowKit HuffM Mem Go.Lib
attribute [local go_sem ↓] Go.wp_at_zero Go.wp_at_succ
set_option linter.unusedVariables false

set_option maxRecDepth 100000 in
set_option maxHeartbeats 3200000 in
theorem up_any (b j0 : Nat) (G : Nat → Prop) (l : List Nd) (w : World) (hs : Hs w b G l) (hl : l.length ≤ 1000) (hj : j0 < l.length) (hp : Up l l.length j0) :
    Calls Tryz.prog 88 #[.iface 127 (.pointer (some ⟨b, 0, none⟩)), .int .i64 (j0 : Int)] w fun e w' =>
      ∃ l', e = .returned (.tuple #[]) ∧ l'.Perm l ∧ Hp l' l'.length 0 ∧ Hs w' b G l' ∧ Fr (G) w w' := by
  have HS := Lib.hid hs
  have HP := Lib.hid hp
  clear hs hp
  go_enter Tryz.func88, Tryz.ntmps88
  go_wp2_with fail
  go_loopw [1] (fun v wr => ∃ (j : Nat) (d : List Nd), v = .int .i64 (j : Int) ∧ j < l.length ∧ Hid (d.Perm l ∧ d.length = l.length) ∧ Hid (Up d d.length j) ∧ Hid (Hs wr b G d) ∧ Fr (G) w wr)
    (fun v _ => (intOf v).toNat)
  case atStart => exact ⟨j0, l, rfl, hj, ⟨List.Perm.refl _, rfl⟩, HP, HS, Fr.refl _ _⟩
  case round =>
    clear HS HP hj
    obtain ⟨j, d, rfl, hjl, HD, HU, HSd, hfr⟩ := hrel
    by_cases hj0 : j = 0
    · subst hj0
      have HPP := Lib.hid HU.out.top
      have HF := Lib.hid hfr
      clear hfr
      go_wp2
      go_end0
      exact ⟨d, rfl, HD.out.1, HPP.out, HSd.out, HF.out⟩
    · obtain ⟨g, c, hg, hbg, hblk, hnod⟩ := HSd.out.row (by have := HD.out.2; omega)
      have hcs : wr.cell? ⟨b, 0, none⟩ = some (.slice (some ⟨g, 0, none⟩) d.length c) := by rw [cell_of hblk 0]; rfl
      have ml := fun fuel => meth_val fuel "Less" _ i_less b _ _ _ wr hcs
      have HH := Lib.hid (And.intro hblk hnod)
      have HF := Lib.hid hfr
      obtain ⟨jp, hjp⟩ : ∃ jp, jp = j - 1 := ⟨_, rfl⟩
      obtain ⟨i, hi⟩ : ∃ i, i = jp / 2 := ⟨_, rfl⟩
      have e1 : (j : Int) - 1 = (jp : Int) := by omega
      have e2 : (jp : Int) / 2 = (i : Int) := by omega
      have hij : i < j := by omega
      have tij : ((i : Int) == (j : Int)) = false := by simp; omega
      have hii : (j - 1) / 2 = i := by omega
      have HI := Lib.hid hii
      clear hblk hnod hcs hfr hi hjp hii
      cases hu : ltb (gn d j) (gn d i) with
      | false =>
        have hl2 := less_any g d.length c j i d wr HH.out.2 rfl (by have := HD.out.2; omega) (by have := HD.out.2; omega)
        rw [hu] at hl2
        have HL2 := Lib.hid hl2
        have hpp := HU.out.stop (by rw [HI.out]; exact (ltb_no _ _).1 hu)
        have HPP := Lib.hid hpp
        clear hl2 hu hpp
        go_wp2_with fail
        refine HL2.out.mono ?_
        rintro e w3x ⟨rfl, q3, hq⟩
        subst hq
        have HS3 : Hid (Hs (wr.drewN q3) b G d) := HSd
        have HF3 := Lib.hid (HF.out.drewN q3)
        generalize wr.drewN q3 = w3 at HS3 HF3 ⊢
        clear ml
        go_wp2
        go_end0
        exact ⟨d, rfl, HD.out.1, HPP.out, HS3.out, HF3.out⟩
      | true =>
        have hl2 := less_any g d.length c j i d wr HH.out.2 rfl (by have := HD.out.2; omega) (by have := HD.out.2; omega)
        rw [hu] at hl2
        have HL2 := Lib.hid hl2
        have hgo := HU.out.go (by omega) (by have := HD.out.2; omega) (by rw [HI.out]; exact (ltb_iff _ _).1 hu) (Nat.le_refl _)
        rw [HI.out] at hgo
        have HGO := Lib.hid hgo
        clear hl2 hu hgo
        go_wp2_with fail
        refine HL2.out.mono ?_
        rintro e w3x ⟨rfl, q3, hq⟩
        subst hq
        obtain ⟨w3, hw3⟩ : ∃ x, x = wr.drewN q3 := ⟨_, rfl⟩
        rw [← hw3]
        have HH3 : Hid (w3.heap[b]? = some (.cells #[.slice (some ⟨g, 0, none⟩) d.length c] 122 (0, 0)) ∧ Nods w3 g c d) := by rw [hw3]; exact HH
        have HS3 : Hid (Hs w3 b G d) := by rw [hw3]; exact HSd
        have HF3 : Hid (Fr (G) w w3) := by rw [hw3]; exact HF.out.drewN q3
        have hcs3 : w3.cell? ⟨b, 0, none⟩ = some (.slice (some ⟨g, 0, none⟩) d.length c) := by rw [cell_of HH3.out.1 0]; rfl
        have ms := fun fuel => meth_val fuel "Swap" _ i_swap b _ _ _ w3 hcs3
        have hsw := swap_any g d.length c i j d w3 HH3.out.2 rfl (by have := HD.out.2; omega) (by have := HD.out.2; omega)
        have HSW := Lib.hid hsw
        clear hsw hcs3 hw3 ml HH HF HSd
        go_wp2_with fail
        refine HSW.out.mono ?_
        rintro e w4 ⟨rfl, hn4, hf4⟩
        have HS4 : Hid (Hs w4 b G (swn d i j)) := Hs.mk hg HS3.out.1 (swn_len d i j).symm (hf4.blk HH3.out.1 hbg) hn4
        have HF4 := Lib.hid (HF3.out.trans hf4 (fun k _ h => by rw [h]; exact hg))
        clear hn4 hf4 HSW ms
        go_wp2
        go_roundw
        case rel =>
          refine ⟨i, swn d i j, rfl, by omega, ⟨?_, by rw [swn_len]; exact HD.out.2⟩, by rw [swn_len]; exact HGO, HS4, HF4.out⟩
          exact (swn_perm d (by have := HD.out.2; omega) (by have := HD.out.2; omega)).trans HD.out.1
        case measure => simp [intOf]; omega
end Go.Proofs.YtgpkiijmembggaaGreatDoor
namespace Go.Proofs.YtgpkiijmembggaaGreatDoor
open Go.RowKit HuffM Mem Go.Lib
attribute [local go_sem ↓] Go.wp_at_zero Go.wp_at_succ
set_option linter.unusedVariables false

set_option maxRecDepth 100000 in
theorem hlen_any (A : Option Addr) (n c : Nat) (w : World) :
    Calls Tryz.prog 72 #[.slice A n c] w fun e w' => e = .returned (.int .i64 (n : Int)) ∧ w = w' := by
  go_enter Tryz.func72, Tryz.ntmps72
  go_wp2
  go_ret
  exact ⟨rfl, rfl⟩

theorem Nods.front {w : World} {g c : Nat} {l m : List Nd} (h : Nods w g c (l ++ m)) : Nods w g c l := by
  obtain ⟨r, h1, h2, h3⟩ := h
  refine ⟨cellsN m ++ r, ?_, ?_, h3⟩
  · rw [cellsN_app, List.append_assoc] at h1
    exact h1
  · rw [List.length_append, cellsN_len]
    rw [List.length_append] at h2
    omega
def ndv (x : Nd) : Value := .agg #[.int .i64 (x.1 : Int), .int .i64 (x.2 : Int)]
set_option maxRecDepth 100000 in
set_option maxHeartbeats 1600000 in
theorem pop_any (b : Nat) (G : Nat → Prop) (l : List Nd) (x : Nd) (w : World) (hs : Hs w b G (l ++ [x])) (hl : l.length ≤ 1000) :
    Calls Tryz.prog 133 #[.pointer (some ⟨b, 0, none⟩)] w fun e w' =>
      e = .returned (.iface 125 (ndv x)) ∧ Hs w' b G l ∧ Fr (fun k => k = b) w w' := by
  obtain ⟨g, c, hg, hbg, hblk, hnod⟩ := hs.row (by simp)
  have hn : (l ++ [x]).length = l.length + 1 := by simp
  rw [hn] at hblk
  have hcs : w.cell? ⟨b, 0, none⟩ = some (.slice (some ⟨g, 0, none⟩) (l.length + 1) c) := by rw [cell_of hblk 0]; rfl
  obtain ⟨a1, a2⟩ := hnod.cell (i := l.length) (p := x) (by simp)
  have hb0 := hs.1
  have hcap := hnod.cap
  rw [hn] at hcap
  obtain ⟨n, hn'⟩ : ∃ n, n = l.length := ⟨_, rfl⟩
  rw [← hn'] at hblk hcs a1 a2 hcap
  obtain ⟨m, hm⟩ : ∃ m, m = n + 1 := ⟨_, rfl⟩
  rw [← hm] at hblk hcs hcap
  have e1 : (m : Int) - 1 = (n : Int) := by omega
  have hnm : n < m := by omega
  have hn1 : n ≤ 1000 := by omega
  obtain ⟨x1, x2⟩ := x
  have HN := Lib.hid hnod
  have HB := Lib.hid (And.intro hblk (And.intro hn' hb0))
  simp only at a1 a2
  clear hs hblk hnod hn hn' hb0 hm hl
  go_enter Tryz.func133, Tryz.ntmps133
  go_upto_region 3 with fail
  obtain ⟨w1, hw1⟩ : ∃ w1, w1 = w.alloc (.cells #[.int .i64 (x1 : Int), .int .i64 (x2 : Int)] 125) := ⟨_, rfl⟩
  obtain ⟨p, hp⟩ : ∃ p, p = w.heap.size := ⟨_, rfl⟩
  rw [← hw1, ← hp]
  have hf1 : Fr (fun _ => False) w w1 := by rw [hw1]; exact (Fr.refl _ _).alloc _
  have hpb : w1.heap[p]? = some (.cells #[.int .i64 (x1 : Int), .int .i64 (x2 : Int)] 125 (0, 0)) := by rw [hw1, hp]; exact heap_alloc_new w _
  have hbp : b ≠ p := by have := lt_of_heap HB.out.1; omega
  have hb1 := hf1.blk HB.out.1 (fun h => h)
  replace hcs : w1.cell? ⟨b, 0, none⟩ = some (.slice (some ⟨g, 0, none⟩) m c) := by rw [cell_of hb1 0]; rfl
  have hfz : w1.frozen? ⟨b, 0, none⟩ = false := free_of hb1 0
  have HP := Lib.hid hpb
  have HN1 := Lib.hid (HN.out.fr hf1 (fun h => h))
  have HF1 := Lib.hid hf1
  have HB1 := Lib.hid hb1
  clear hw1 hp hf1 hpb a1 a2 hb1
  go_upto_region 4 with fail
  obtain ⟨w2, hw2⟩ : ∃ w2, w2 = w1.setCell ⟨b, 0, none⟩ (.slice (some ⟨g, 0, none⟩) n c) := ⟨_, rfl⟩
  rw [← hw2]
  have hf2 : Fr (fun k => k = b) w1 w2 := by rw [hw2]; exact Fr.set1 w1 b 0 _
  have hb2 : w2.heap[b]? = some (.cells #[.slice (some ⟨g, 0, none⟩) n c] 122 (0, 0)) := by rw [hw2, set_k HB1.out]; rfl
  have hp2 := hf2.blk HP.out (fun h => hbp h.symm)
  have hs2 : Hs w2 b G l := Hs.mk hg HB.out.2.2 HB.out.2.1 hb2 ((HN1.out.fr hf2 (fun h => hbg h.symm)).front)
  have HS2 := Lib.hid hs2
  have HF2 := Lib.hid ((HF1.out.mono (T := fun k => k = b) (fun _ _ h => h.elim)).trans hf2 (fun _ _ h => h))
  have c1 : w2.cell? ⟨p, 0, none⟩ = some (.int .i64 (x1 : Int)) := by rw [cell_of hp2 0]; rfl
  have c2 : w2.cell? ⟨p, 1, none⟩ = some (.int .i64 (x2 : Int)) := by rw [cell_of hp2 1]; rfl
  clear hw2 hf2 hb2 hp2 hs2 hcs hfz
  go_wp2
  go_ret
  exact ⟨rfl, HS2.out, HF2.out⟩

theorem assert_node (v : Value) (w : World) : Sem.run Tryz.prog (Instr.typeAssert (.iface 125 v) 20 125 false) w = .ok v w := by
  simp [Instr.typeAssert, run_underlying Tryz.underlying125, go_sem]
theorem nodeT : ElemTyS Tryz.prog 122 125 (.agg #[.int .i64 0, .int .i64 0]) 2 16 := ⟨Tryz.underlying122, by kernel_rfl, rfl, by decide⟩
set_option maxRecDepth 100000 in
set_option maxHeartbeats 1600000 in
theorem push_any (b : Nat) (G : Nat → Prop) (l : List Nd) (x : Nd) (w : World) (hs : Hs w b G l) (hl : l.length ≤ 1000) :
    Calls Tryz.prog 134 #[.pointer (some ⟨b, 0, none⟩), .iface 125 (ndv x)] w fun e w' =>
      e = .returned (.tuple #[]) ∧ Hs w' b (fun k => G k ∨ w.heap.size ≤ k) (l ++ [x]) ∧ Fr (fun k => k = b ∨ G k) w w' := by
  obtain ⟨hb0, A, c, hblk, hown, hG⟩ := hs
  obtain ⟨n, hn⟩ : ∃ n, n = l.length := ⟨_, rfl⟩
  rw [← hn] at hblk hown hG hl
  have hcs : w.cell? ⟨b, 0, none⟩ = some (.slice A n c) := by rw [cell_of hblk 0]; rfl
  have hfz : w.frozen? ⟨b, 0, none⟩ = false := free_of hblk 0
  obtain ⟨x1, x2⟩ := x
  have HB := Lib.hid (And.intro hblk (And.intro hn hb0))
  have HO := Lib.hid hown
  have HG := Lib.hid hG
  clear hblk hn hb0 hown hG
  unfold ndv
  go_enter Tryz.func134, Tryz.ntmps134
  have ha := assert_node
  have HOW : Hid ((w.alloc (.cells #[.int .i64 (x1 : Int), .int .i64 (x2 : Int)] 125)).drew.ownsRow 0 125 2 (.slice A n c) n (cellsN l)) := HO.out.alloc _
  have HNW : Hid (∀ j u, [Value.int .i64 (x1 : Int), Value.int .i64 (x2 : Int)][j]? = some u → (w.alloc (.cells #[.int .i64 (x1 : Int), .int .i64 (x2 : Int)] 125)).drew.cell? ((⟨w.heap.size, 0, none⟩ : Addr).add j) = some u) := news2 rfl _ _ _
  have HFA : Hid (Fr (fun _ => False) w (w.alloc (.cells #[.int .i64 (x1 : Int), .int .i64 (x2 : Int)] 125)).drew) := ((Fr.refl _ _).alloc _).drew
  have HONE : Hid (∀ u ∈ [Value.int .i64 (x1 : Int), Value.int .i64 (x2 : Int)], u.oneCell' = true) := by
    intro u hu
    simp at hu
    rcases hu with rfl | rfl <;> rfl
  have HFB : Hid (∀ w2, Fr (fun k => (Value.slice A n c).ownBlock = some k) (w.alloc (.cells #[.int .i64 (x1 : Int), .int .i64 (x2 : Int)] 125)).drew w2 → w2.heap[b]? = some (.cells #[.slice A n c] 122 (0, 0)) ∧ Fr (fun k => k = b ∨ G k) w w2) := by
    intro w2 hf
    refine ⟨hf.blk (HFA.out.blk HB.out.1 (fun h => h)) (fun h => HB.out.2.2 (HG.out b h)), ?_⟩
    exact (HFA.out.mono (fun _ _ h => h.elim)).trans hf (fun k hk h => .inr (HG.out k h))
  have HEND : Hid (∀ (A2 : Option Addr) (c2 : Nat) (w2 : World), w2.heap[b]? = some (.cells #[.slice A n c] 122 (0, 0)) ∧ Fr (fun k => k = b ∨ G k) w w2 →
      w2.ownsRow 0 125 2 (.slice A2 (n + 1) c2) (n + 1) (cellsN l ++ [.int .i64 (x1 : Int), .int .i64 (x2 : Int)]) → ((Value.slice A2 (n + 1) c2).ownBlock = (Value.slice A n c).ownBlock ∨ (Value.slice A2 (n + 1) c2).ownBlock = some (w.alloc (.cells #[.int .i64 (x1 : Int), .int .i64 (x2 : Int)] 125)).drew.heap.size) →
      Hs (w2.setCell ⟨b, 0, none⟩ (.slice A2 (n + 1) c2)) b (fun k => G k ∨ w.heap.size ≤ k) (l ++ [(x1, x2)]) ∧ Fr (fun k => k = b ∨ G k) w (w2.setCell ⟨b, 0, none⟩ (.slice A2 (n + 1) c2))) := by
    intro A2 c2 w2 hB ho hlie
    have hl : (l ++ [(x1, x2)]).length = n + 1 := by rw [List.length_append, HB.out.2.1]; rfl
    have hbs : b < w.heap.size := lt_of_heap HB.out.1
    have hGk : ∀ k, (Value.slice A2 (n + 1) c2).ownBlock = some k → G k ∨ w.heap.size ≤ k := by
      intro k hk
      rcases hlie with h | h
      · exact .inl (HG.out k (h ▸ hk))
      · right
        rw [h] at hk
        injection hk with hk
        have : (w.alloc (.cells #[.int .i64 (x1 : Int), .int .i64 (x2 : Int)] 125)).heap.size = k := hk
        simp at this
        omega
    have hbG : ¬ (G b ∨ w.heap.size ≤ b) := fun h => by
      rcases h with h | h
      · exact HB.out.2.2 h
      · omega
    refine ⟨⟨hbG, A2, c2, ?_, ?_, ?_⟩, hB.2.trans (Fr.set1 w2 b 0 _) (fun k _ h => .inl h)⟩
    · rw [set_k hB.1, hl]; rfl
    · rw [hl, cellsN_app]
      exact (Fr.set1 w2 b 0 (.slice A2 (n + 1) c2)).own ho (fun k hk h => hbG (h ▸ hGk k hk))
    · rw [hl]
      exact hGk
  have hcsA : (w.alloc (.cells #[.int .i64 (x1 : Int), .int .i64 (x2 : Int)] 125)).cell? ⟨b, 0, none⟩ = some (.slice A n c) := HFA.out.cell hcs (fun h => h)
  go_wp2_with fail
  go_region_law (
    (refine step_appS nodeT _ rfl (.tmp 7) (.tmp 10) rfl 0 _ n (cellsN l) (by simp [Act.eval]) HOW.out ⟨w.heap.size, 0, none⟩ 1 [.int .i64 (x1 : Int), .int .i64 (x2 : Int)] (by simp [Act.eval]) rfl HNW.out HONE.out (n + 1) rfl (by unfold maxLen; omega) (by omega) (Nat.zero_le _) ?_
     intro A2 c2 w2 hown2 hc2 hf2 hlie
     have hB2 := HFB.out w2 hf2
     have hcs2 : w2.cell? ⟨b, 0, none⟩ = some (.slice A n c) := by rw [cell_of hB2.1 0]; rfl
     have hfz2 : w2.frozen? ⟨b, 0, none⟩ = false := free_of hB2.1 0
     have HB2 := Lib.hid hB2
     have HO2 := Lib.hid (And.intro hown2 hlie)
     clear hown2 hf2 hB2 hlie))
  all_goals
    (go_wp2
     go_end0
     exact ⟨rfl, (HEND.out _ _ _ HB2.out HO2.out.1 HO2.out.2).1, (HEND.out _ _ _ HB2.out HO2.out.1 HO2.out.2).2⟩)
end Go.Proofs.YtgpkiijmembggaaGreatDoor
namespace Go.Proofs.YtgpkiijmembggaaGreatDoor
open Go.RowKit HuffM Mem Go.Lib
attribute [local go_sem ↓] Go.wp_at_zero Go.wp_at_succ
set_option linter.unusedVariables false

set_option maxRecDepth 100000 in
set_option maxHeartbeats 3200000 in
theorem init_any (b : Nat) (G : Nat → Prop) (l : List Nd) (w : World) (hs : Hs w b G l) (hl : l.length ≤ 1000) :
    Calls Tryz.prog 73 #[.iface 127 (.pointer (some ⟨b, 0, none⟩))] w fun e w' =>
      ∃ l', e = .returned (.tuple #[]) ∧ l'.Perm l ∧ Hp l' l'.length 0 ∧ Hs w' b G l' ∧ Fr (G) w w' := by
  obtain ⟨hb0, A, c, hblk, hown, hG⟩ := hs
  have hcs : w.cell? ⟨b, 0, none⟩ = some (.slice A l.length c) := by rw [cell_of hblk 0]; rfl
  obtain ⟨n, hn⟩ : ∃ n, n = l.length := ⟨_, rfl⟩
  have HS : Hid (Hs w b G l) := Lib.hid ⟨hb0, A, c, hblk, hown, hG⟩
  rw [← hn] at hcs hl
  have ml := fun fuel => meth_val fuel "Len" _ i_len b _ _ _ w hcs
  have HL := Lib.hid (hlen_any A n c w)
  have HN := Lib.hid hn
  clear hb0 hblk hown hG hcs hn
  go_enter Tryz.func73, Tryz.ntmps73
  go_wp2_with fail
  refine HL.out.mono ?_
  rintro e w1 ⟨rfl, rfl⟩
  obtain ⟨h, hh⟩ : ∃ h, h = n / 2 := ⟨_, rfl⟩
  have eh : (n : Int) / 2 = (h : Int) := by omega
  have hh1 : h ≤ 1000 := by omega
  have HH := Lib.hid hh
  clear ml HL hh
  go_wp2_with fail
  clear eh
  go_loopw [3] (fun v wr => ∃ (k : Nat) (d : List Nd), v = .int .i64 ((k : Int) - 1) ∧ k ≤ h ∧ Hid (d.Perm l ∧ d.length = n) ∧ Hid (Hp d n k) ∧ Hid (Hs wr b G d) ∧ Fr (G) w wr)
    (fun v _ => (intOf v + 1).toNat)
  case atStart => exact ⟨h, l, rfl, Nat.le_refl _, ⟨List.Perm.refl _, HN.out.symm⟩, Hp.all h (by rw [HH.out]; exact Nat.le_refl _), HS, Fr.refl _ _⟩
  case round =>
    clear HS
    obtain ⟨k, d, rfl, hk, HD, HP, HSd, hfr⟩ := hrel
    rcases Nat.eq_zero_or_pos k with e | e
    · subst e
      have t1 : ¬ (0 : Int) ≤ ((0 : Nat) : Int) - 1 := by omega
      have HF := Lib.hid hfr
      clear hfr
      go_wp2
      go_end0
      exact ⟨rfl, d, HD.out.1, by rw [HD.out.2]; exact HP.out, HSd.out, HF.out⟩
    · obtain ⟨i, rfl⟩ : ∃ i, k = i + 1 := ⟨k - 1, by omega⟩
      have hd := down_any b i n G d wr HSd.out (by rw [HD.out.2]; exact Nat.le_refl _) (by rw [HD.out.2]; exact hl) (by omega) HP.out
      have HDn := Lib.hid hd
      have ei : ((i + 1 : Nat) : Int) - 1 = (i : Int) := by omega
      have hii : i ≤ 1000 := by omega
      rw [ei]
      clear hd ei
      go_wp2_with fail
      refine HDn.out.mono ?_
      rintro e w2 ⟨v, d2, rfl, hp2, hh2, _, hs2, hf2⟩
      have HD2 : Hid (d2.Perm l ∧ d2.length = n) := ⟨hp2.trans HD.out.1, by rw [hp2.length_eq]; exact HD.out.2⟩
      have HP2 := Lib.hid hh2
      have HS2 := Lib.hid hs2
      have HF2 := Lib.hid (hfr.trans hf2 (fun _ _ h => h))
      clear hp2 hh2 hs2 hf2 hfr HDn
      go_wp2
      go_roundw
      case rel => exact ⟨i, d2, rfl, by omega, HD2, HP2, HS2, HF2.out⟩
      case measure => simp [intOf] <;> omega

set_option maxRecDepth 100000 in
set_option maxHeartbeats 3200000 in
theorem hpush_any (b : Nat) (G : Nat → Prop) (l : List Nd) (x : Nd) (w : World) (hs : Hs w b G l) (hl : l.length ≤ 999) (hp : Hp l l.length 0) :
    Calls Tryz.prog 75 #[.iface 127 (.pointer (some ⟨b, 0, none⟩)), .iface 125 (ndv x)] w fun e w' =>
      ∃ l', e = .returned (.tuple #[]) ∧ l'.Perm (l ++ [x]) ∧ Hp l' l'.length 0 ∧ Hs w' b (fun k => G k ∨ w.heap.size ≤ k) l' ∧ Fr (fun k => k = b ∨ G k) w w' := by
  have HPU := Lib.hid (push_any b G l x w hs (by omega))
  have mp := fun fuel => meth_ptr fuel "Push" _ i_push b w
  have HUP := Lib.hid (Up.push (x := x) hp)
  obtain ⟨X, hX⟩ : ∃ X, X = Value.iface 125 (ndv x) := ⟨_, rfl⟩
  rw [← hX] at HPU ⊢
  clear hs hp hX
  go_enter Tryz.func75, Tryz.ntmps75
  go_wp2_with fail
  refine HPU.out.mono ?_
  rintro e w1 ⟨rfl, hs1, hf1⟩
  have hs1' := hs1
  obtain ⟨hb0, A, c, hblk, hown, _⟩ := hs1'
  have hcs : w1.cell? ⟨b, 0, none⟩ = some (.slice A (l ++ [x]).length c) := by rw [cell_of hblk 0]; rfl
  obtain ⟨n, hn⟩ : ∃ n, n = l.length := ⟨_, rfl⟩
  obtain ⟨m, hm⟩ : ∃ m, m = n + 1 := ⟨_, rfl⟩
  rw [show (l ++ [x]).length = m from by rw [List.length_append, ← hn, hm, List.length_singleton]] at hcs
  have ml := fun fuel => meth_val fuel "Len" _ i_len b _ _ _ w1 hcs
  have HL := Lib.hid (hlen_any A m c w1)
  have em : (m : Int) - 1 = (n : Int) := by omega
  have hm1 : m ≤ 1000 := by omega
  have hup := up_any b n (fun k => G k ∨ w.heap.size ≤ k) (l ++ [x]) w1 hs1 (by rw [List.length_append, ← hn, List.length_singleton]; omega) (by rw [List.length_append, ← hn]; simp) (by
    have h := HUP.out
    rw [← hn] at h
    rw [List.length_append, ← hn]
    exact h)
  have HU := Lib.hid hup
  have HF1 := Lib.hid hf1
  have HM := Lib.hid (And.intro hn hm)
  clear hs1 hf1 hb0 hblk hown hcs hn hm hup HPU mp HUP
  go_wp2_with fail
  refine HL.out.mono ?_
  rintro e w2 ⟨rfl, rfl⟩
  go_wp2_with fail
  refine HU.out.mono ?_
  rintro e w2 ⟨l', rfl, hp2, hh2, hs2, hf2⟩
  have HE := Lib.hid (And.intro hp2 (And.intro hh2 (And.intro hs2 (HF1.out.trans hf2 (fun k hk h => .inr (h.resolve_right (by omega)))))))
  clear hp2 hh2 hs2 hf2 ml
  go_wp2
  go_end0
  exact ⟨l', rfl, HE.out.1, HE.out.2.1, HE.out.2.2.1, HE.out.2.2.2⟩

set_option maxRecDepth 100000 in
set_option maxHeartbeats 3200000 in
theorem hpop_any (b : Nat) (G : Nat → Prop) (l : List Nd) (w : World) (hs : Hs w b G l) (hl : l.length ≤ 1000) (h0 : 0 < l.length) (hp : Hp l l.length 0) :
    Calls Tryz.prog 87 #[.iface 127 (.pointer (some ⟨b, 0, none⟩))] w fun e w' =>
      ∃ l' x, e = .returned (.iface 125 (ndv x)) ∧ (x :: l').Perm l ∧ (∀ y ∈ l', ¬ ltn y x) ∧ Hp l' l'.length 0 ∧ Hs w' b G l' ∧ Fr (fun k => k = b ∨ G k) w w' := by
  obtain ⟨g, c, hg, hbg, hblk, hnod⟩ := hs.row h0
  have hb0 := hs.1
  have hcs : w.cell? ⟨b, 0, none⟩ = some (.slice (some ⟨g, 0, none⟩) l.length c) := by rw [cell_of hblk 0]; rfl
  obtain ⟨m, hm⟩ : ∃ m, m = l.length := ⟨_, rfl⟩
  obtain ⟨n, hn⟩ : ∃ n, n = m - 1 := ⟨_, rfl⟩
  have hsw := swap_any g l.length c 0 n l w hnod rfl h0 (by omega)
  rw [← hm] at hcs hsw hl h0
  have ml := fun fuel => meth_val fuel "Len" _ i_len b _ _ _ w hcs
  have ms := fun fuel => meth_val fuel "Swap" _ i_swap b _ _ _ w hcs
  have HL := Lib.hid (hlen_any (some ⟨g, 0, none⟩) m c w)
  have em : (m : Int) - 1 = (n : Int) := by omega
  have HSW : Hid (Calls Tryz.prog 132 #[.slice (some ⟨g, 0, none⟩) m c, .int .i64 0, .int .i64 (n : Int)] w fun e w' => e = .returned (.tuple #[]) ∧ Nods w' g c (swn l 0 n) ∧ Fr (fun b => b = g) w w') := hsw
  have HB := Lib.hid (And.intro hblk (And.intro hm (And.intro hn hb0)))
  have HP := Lib.hid hp
  have hn1 : n ≤ 1000 := by omega
  clear hs hblk hnod hb0 hcs hm hn hsw hp
  go_enter Tryz.func87, Tryz.ntmps87
  go_wp2_with fail
  refine HL.out.mono ?_
  rintro e w1 ⟨rfl, rfl⟩
  go_wp2_with fail
  refine HSW.out.mono ?_
  rintro e w1 ⟨rfl, hn1', hf1⟩
  have hs1 : Hs w1 b G (swn l 0 n) := Hs.mk hg HB.out.2.2.2 (swn_len l 0 n).symm (hf1.blk HB.out.1 hbg) hn1'
  have hpp : Hp (swn l 0 n) n 1 := by
    have h := HP.out.pop (by have := HB.out.2.1; omega)
    rwa [← HB.out.2.1, ← HB.out.2.2.1] at h
  have hdn := down_any b 0 n G (swn l 0 n) w1 hs1 (by rw [swn_len]; have := HB.out; omega) (by rw [swn_len]; have := HB.out; omega) (by omega) hpp
  have HDN : Hid (Calls Tryz.prog 86 #[.iface 127 (.pointer (some ⟨b, 0, none⟩)), .int .i64 0, .int .i64 (n : Int)] w1 fun e w' => ∃ v l', e = .returned (.bool v) ∧ l'.Perm (swn l 0 n) ∧ Hp l' n 0 ∧ (∀ k, n ≤ k → gn l' k = gn (swn l 0 n) k) ∧ Hs w' b G l' ∧ Fr (G) w1 w') := hdn
  have HF1 := Lib.hid (hf1.mono (T := G) (fun k _ h => by rw [h]; exact hg))
  clear hn1' hf1 hs1 hpp hdn HSW ml ms
  go_wp2_with fail
  refine HDN.out.mono ?_
  rintro e w2 ⟨v, l2, rfl, hp2, hh2, ht2, hs2, hf2⟩
  have hl2 : l2.length = n + 1 := by rw [hp2.length_eq, swn_len]; have := HB.out; omega
  obtain ⟨l', x, rfl⟩ : ∃ l' x, l2 = l' ++ [x] := ⟨l2.dropLast, l2.getLast (by rintro rfl; simp at hl2), (List.dropLast_concat_getLast _).symm⟩
  have hl' : l'.length = n := by rw [List.length_append] at hl2; simp at hl2; exact hl2
  have hx : x = gn l 0 := by
    have h := ht2 n (Nat.le_refl _)
    rw [swn_at l (by have := HB.out; omega) (by have := HB.out; omega), if_pos rfl] at h
    rw [← h]
    unfold gn
    rw [List.getD_eq_getElem?_getD, List.getElem?_append_right (by omega), hl', Nat.sub_self]
    rfl
  have hperm : (x :: l').Perm l := (List.perm_append_comm (l₁ := [x])).trans (hp2.trans (swn_perm l (by have := HB.out; omega) (by have := HB.out; omega)))
  have hmin : ∀ y ∈ l', ¬ ltn y x := by
    intro y hy
    have hyl : y ∈ l := hperm.mem_iff.1 (List.mem_cons_of_mem _ hy)
    obtain ⟨k, hk, rfl⟩ := List.getElem_of_mem hyl
    have h := HP.out.root k hk
    rw [hx]
    have e : gn l k = l[k] := by unfold gn; rw [List.getD_eq_getElem?_getD, List.getElem?_eq_getElem hk]; rfl
    rwa [e] at h
  have hgf : ∀ k, k < n → gn (l' ++ [x]) k = gn l' k := fun k hk => by unfold gn; rw [List.getD_eq_getElem?_getD, List.getElem?_append_left (by omega), ← List.getD_eq_getElem?_getD]
  have hh' : Hp l' l'.length 0 := by
    rw [hl']
    intro k h1 h2 h3
    have := hh2 k h1 h2 h3
    rwa [hgf k h1, hgf _ (by omega)] at this
  have HPO := Lib.hid (pop_any b G l' x w2 hs2 (by omega))
  have HE := Lib.hid (And.intro hperm (And.intro hmin hh'))
  have HF2 := Lib.hid (HF1.out.trans hf2 (fun _ _ h => h))
  have mp := fun fuel => meth_ptr fuel "Pop" _ i_pop b w2
  obtain ⟨X, hX⟩ : ∃ X, X = Value.iface 125 (ndv x) := ⟨_, rfl⟩
  rw [← hX] at HPO
  have HX := Lib.hid hX
  clear hp2 hh2 ht2 hs2 hf2 hl2 hl' hx hperm hmin hgf hh' HDN HF1 hX
  go_wp2_with fail
  refine HPO.out.mono ?_
  rintro e w3 ⟨rfl, hs3, hf3⟩
  have HS3 := Lib.hid hs3
  have HF3 := Lib.hid ((HF2.out.mono (T := fun k => k = b ∨ G k) (fun k _ h => .inr h)).trans hf3 (fun k _ h => .inl h))
  clear hs3 hf3 HPO mp
  go_wp2
  go_ret
  exact ⟨l', x, by rw [HX.out]; rfl, HE.out.1, HE.out.2.1, HE.out.2.2, HS3.out, HF3.out⟩
end Go.Proofs.YtgpkiijmembggaaGreatDoor
namespace Go.Proofs.YtgpkiijmembggaaGreatDoor
open Go.RowKit HuffM Mem Go.Lib
attribute [local go_sem ↓] Go.wp_at_zero Go.wp_at_succ
set_option linter.unusedVariables false

set_option maxRecDepth 100000 in
set_option maxHeartbeats 3200000 in
theorem least_any (b : Nat) (G : Nat → Prop) (l : List Nd) (w : World) (hs : Hs w b G l) (hl : l.length ≤ 1000) (h0 : 0 < l.length) (hp : Hp l l.length 0) :
    Calls Tryz.prog 74 #[.pointer (some ⟨b, 0, none⟩)] w fun e w' =>
      ∃ l' x, e = .returned (ndv x) ∧ (x :: l').Perm l ∧ (∀ y ∈ l', ¬ ltn y x) ∧ Hp l' l'.length 0 ∧ Hs w' b G l' ∧ Fr (fun k => k = b ∨ G k) w w' := by
  obtain ⟨w0, hw0⟩ : ∃ w0, w0 = w.alloc (.cells #[.int .i64 0, .int .i64 0] 125) := ⟨_, rfl⟩
  obtain ⟨p, hp0⟩ : ∃ p, p = w.heap.size := ⟨_, rfl⟩
  have hf0 : Fr (fun _ => False) w w0 := by rw [hw0]; exact (Fr.refl _ _).alloc _
  have hpb : w0.heap[p]? = some (.cells #[.int .i64 0, .int .i64 0] 125 (0, 0)) := by rw [hw0, hp0]; exact heap_alloc_new w _
  have hs0 : Hs w b (fun k => G k ∧ k < p) l := hs.mono (fun k hk h => ⟨h, by omega⟩) (fun h => hs.1 h.1)
  have HP := Lib.hid (hpop_any b (fun k => G k ∧ k < p) l w0 (hs0.fr hf0 (fun h => h) (fun _ _ h => h)) hl h0 hp)
  have HW := Lib.hid (And.intro hw0 hp0)
  have HF0 := Lib.hid hf0
  have HB := Lib.hid (And.intro hpb (And.intro hs.1 (show b < p by have := hs.lt; omega)))
  have ha := assert_node
  clear hs hp hw0 hp0 hf0 hpb hs0
  go_enter Tryz.func74, Tryz.ntmps74
  go_upto_region 1 with fail
  rw [← HW.out.1, ← HW.out.2]
  go_wp2_with fail
  refine HP.out.mono ?_
  rintro e w1 ⟨l', x, rfl, h1, h2, h3, h4, h5⟩
  have hbp : w1.heap[p]? = some (.cells #[.int .i64 0, .int .i64 0] 125 (0, 0)) := h5.blk HB.out.1 (fun h => by
    rcases h with h | h
    · have := HB.out.2.2; omega
    · omega)
  have c1 : w1.cell? ⟨p, 0, none⟩ = some (.int .i64 0) := by rw [cell_of hbp 0]; rfl
  have c2 : w1.cell? ⟨p, 1, none⟩ = some (.int .i64 0) := by rw [cell_of hbp 1]; rfl
  have f1 : w1.frozen? ⟨p, 0, none⟩ = false := free_of hbp 0
  have f2 : w1.frozen? ⟨p, 1, none⟩ = false := free_of hbp 1
  obtain ⟨x1, x2⟩ := x
  have HE := Lib.hid (And.intro h1 (And.intro h2 h3))
  have HS1 := Lib.hid h4
  have HF1 := Lib.hid h5
  have HBP := Lib.hid hbp
  clear h1 h2 h3 h4 h5 hbp HP
  unfold ndv
  go_wp2_with fail
  obtain ⟨w2, hw2⟩ : ∃ w2, w2 = (w1.setCell ⟨p, 0, none⟩ (.int .i64 (x1 : Int))).setCell ⟨p, 1, none⟩ (.int .i64 (x2 : Int)) := ⟨_, rfl⟩
  have hf2 : Fr (fun k => k = p) w1 w2 := by rw [hw2]; exact ((Fr.refl (fun k => k = p) w1).setCell (p := ⟨p, 0, none⟩) (fun _ => rfl) _).setCell (p := ⟨p, 1, none⟩) (fun _ => rfl) _
  have hb2 : w2.heap[p]? = some (.cells #[.int .i64 (x1 : Int), .int .i64 (x2 : Int)] 125 (0, 0)) := by
    rw [hw2, set_k (set_k HBP.out 0 _) 1 _]
    rfl
  have d1 : w2.cell? ⟨p, 0, none⟩ = some (.int .i64 (x1 : Int)) := by rw [cell_of hb2 0]; rfl
  have d2 : w2.cell? ⟨p, 1, none⟩ = some (.int .i64 (x2 : Int)) := by rw [cell_of hb2 1]; rfl
  have hs2 : Hs w2 b (fun k => G k ∧ k < p) l' := HS1.out.fr hf2 (fun h => by have := HB.out.2.2; omega) (fun k h h' => by omega)
  have hs3 : Hs w2 b G l' := hs2.mono (fun k _ h => h.1) HB.out.2.1
  have hf3 : Fr (fun k => k = b ∨ G k) w w2 :=
    ((HF0.out.mono (T := fun k => k = b ∨ G k) (fun _ _ h => h.elim)).trans HF1.out (fun k _ h => h.imp id (·.1))).trans hf2 (fun k hk h => by have := HW.out.2; omega)
  rw [← hw2]
  have HS3 := Lib.hid hs3
  have HF3 := Lib.hid hf3
  clear hw2 hf2 hb2 hs2 hs3 hf3 c1 c2 f1 f2
  exact bodyPost_ret (v := .agg #[.int .i64 (x1 : Int), .int .i64 (x2 : Int)]) (by simp [results, Tryz.results74, go_sem, d1, d2]) rfl ⟨l', (x1, x2), rfl, HE.out.1, HE.out.2.1, HE.out.2.2, HS3.out, HF3.out⟩

/-- the nodes of the first k symbols that have a weight -/
def lv (W : List Nat) : Nat → List Nd
  | 0 => []
  | k + 1 => if 0 < W.getD k 0 then lv W k ++ [(W.getD k 0, k)] else lv W k
theorem lv_le (W : List Nat) (k : Nat) : (lv W k).length ≤ k := by
  induction k with
  | zero => exact Nat.le_refl _
  | succ k ih =>
    rw [lv]
    split
    · rw [List.length_append]; simp; omega
    · omega
set_option maxRecDepth 100000 in
set_option maxHeartbeats 3200000 in
theorem leaves_any (A : Option Addr) (n c : Nat) (W : List Nat) (w : World) (hr : Rd w A n (W.map natc)) (hn : n ≤ 1000) :
    Calls Tryz.prog 71 #[.slice A n c] w fun e w' => ∃ A' c', e = .returned (.slice A' (lv W n).length c') ∧ w'.ownsRow w.heap.size 125 2 (.slice A' (lv W n).length c') (lv W n).length (cellsN (lv W n)) ∧ Fr (fun _ => False) w w' := by
  have hln : W.length = n := by simpa using hr.1
  have HR := Lib.hid hr
  have HLN := Lib.hid hln
  clear hr hln
  go_enter Tryz.func71, Tryz.ntmps71
  go_wp2_with fail
  go_loopw [3, 8] (fun v i wr => ∃ (k q : Nat) (A' : Option Addr) (c' : Nat), k ≤ n ∧ i = .int .i64 (k : Int) ∧ v = .slice A' q c' ∧ q ≤ k ∧ Hid (q = (lv W k).length) ∧ Hid (wr.ownsRow w.heap.size 125 2 (.slice A' q c') q (cellsN (lv W k))) ∧ Fr (fun _ => False) w wr)
    (fun _ i _ => n - (intOf i).toNat)
  case atStart => exact ⟨0, 0, none, 0, by omega, rfl, rfl, by omega, rfl, World.ownsRow_nil _ _ _ _, Fr.refl _ _⟩
  case round =>
    obtain ⟨k, q, A', c', hk, rfl, rfl, hqk, HQ, HO, hfr⟩ := hrel
    by_cases hlt : k < n
    · obtain ⟨ad, u, rfl, hu, hcell⟩ := (HR.out.fr hfr (fun _ _ h => h)).at_ hlt
      obtain ⟨x, hx⟩ : ∃ x, W[k]? = some x := ⟨_, List.getElem?_eq_getElem (by have := HLN.out; omega)⟩
      obtain rfl : natc x = u := by simpa [hx] using hu
      unfold natc at hcell
      have hgd : W.getD k 0 = x := by rw [List.getD_eq_getElem?_getD, hx]; rfl
      have hlv : lv W (k + 1) = if 0 < x then lv W k ++ [(x, k)] else lv W k := by rw [lv, hgd]
      have hsz := hfr.size
      by_cases hx0 : 0 < x
      · rw [if_pos hx0] at hlv
        have HLV := Lib.hid hlv
        have HO' := Lib.hid (HO.out.alloc (.cells #[.int .i64 (x : Int), .int .i64 (k : Int)] 125))
        have HONE : Hid (∀ u ∈ [Value.int .i64 (x : Int), Value.int .i64 (k : Int)], u.oneCell' = true) := by
          intro u hu
          simp at hu
          rcases hu with rfl | rfl <;> rfl
        clear hu hx hgd hlv
        go_wp2_with (at_builtin; refine wpList_appS nodeT _ rfl _ _ rfl w.heap.size _ _ _ rfl HO'.out _ _ _ rfl rfl (news2 rfl (.int .i64 (x : Int)) (.int .i64 (k : Int)) _) HONE.out (q + 1) rfl (by unfold maxLen; omega) (by omega) (by simp; omega) ?_)
        intro A2 c2 w2 hown2 h1 hf2
        have HO2 : Hid (w2.ownsRow w.heap.size 125 2 (.slice A2 (q + 1) c2) (q + 1) (cellsN (lv W (k + 1)))) := by
          show w2.ownsRow _ _ _ _ _ _
          rw [HLV.out, cellsN_app]
          exact hown2
        have HF2 := Lib.hid ((hfr.alloc _).trans hf2 (fun b hb h => by have := (HO'.out.lt b h).1; omega))
        clear hown2 hf2 hfr HO HO'
        go_wp2
        go_roundw
        case rel => exact ⟨k + 1, q + 1, A2, c2, by omega, by go_num, by first | rfl | (congr 1), by omega, by show _ = _; rw [HLV.out, List.length_append, ← HQ.out]; rfl, HO2, HF2.out⟩
        case measure => simp [intOf] <;> omega
      · rw [if_neg hx0] at hlv
        have HLV := Lib.hid hlv
        have tx : ¬ (0 : Int) < (x : Int) := by omega
        clear hu hx hgd hlv
        go_wp2
        go_roundw
        case rel => exact ⟨k + 1, q, A', c', by omega, by go_num, rfl, by omega, by show _ = _; rw [HLV.out]; exact HQ.out, by show World.ownsRow _ _ _ _ _ _ _; rw [HLV.out]; exact HO.out, hfr⟩
        case measure => simp [intOf] <;> omega
    · obtain rfl : k = n := by omega
      have ho := HO.out
      have hq := HQ.out
      subst hq
      have HOO := Lib.hid ho
      clear ho HO
      go_wp2
      go_ret
      exact ⟨A', c', rfl, HOO.out, hfr⟩
end Go.Proofs.YtgpkiijmembggaaGreatDoor
