/-
  Contract of layer 5's reference once (written by gen_once4.py).
  Layer 9's reference: Fixed, Dynamic.
  What layer 7 says of symbols: a symbol as a value, what a number tells, two slices of numbers; max, min.
  Contracts of layer 7's program: the tables, within, the closures, the library's search, symbol.
  A whole struct is stored into a variable of its own.
  Layer 8's program: its tables; spanOf.
-/
import Derived.Test.YtahfmcdhcbfkaaaGreatDoorHuffAb
import Derived.Test.YtahfmcdhcbfkaaaGreatDoorDeB
import Derived.Test.YtahfmcdhcbfkaaaGreatDoorZm06
import Derived.Test.YtahfmcdhcbfkaaaGreatDoorZm15
import Derived.Test.YtahfmcdhcbfkaaaGreatDoorCoR
import Derived.Test.YtahfmcdhcbfkaaaGreatDoorSyD
import Derived.Laws.StructEq
import Derived.StillTailTactics
import Derived.Test.YtahfmcdhcbfkaaaGreatDoorZm01
import Derived.Test.YtahfmcdhcbfkaaaGreatDoorZm02
import Derived.Test.YtahfmcdhcbfkaaaGreatDoorZm04
import Derived.Test.YtahfmcdhcbfkaaaGreatDoorCoB
import Derived.Test.YtahfmcdhcbfkaaaGreatDoorZm00
import Derived.Deep.DeepCutAuto
import Derived.Deep.QuietTactic
import Derived.BigQuiet
namespace Go.Proofs.YtahfmcdhcbfkaaaGreatDoor
open Go.RowKit HuffM Mem Go.Lib
attribute [local go_sem ↓] Go.wp_at_zero Go.wp_at_succ
set_option linter.unusedVariables false

theorem made_int (m : Nat) : madeCells (Value.int .i64 0).cells (m * 1) = Array.replicate m (.int .i64 0) := by
  apply Array.ext_getElem?
  intro i
  by_cases h : i < m
  · simp [madeCells, Value.cells, h, Nat.mod_one]
  · simp [madeCells, Value.cells, h]
theorem sum_le {W : List Nat} (h : ∀ x ∈ W, x ≤ 1073741824) : W.sum ≤ W.length * 1073741824 := by
  induction W with
  | nil => simp
  | cons x W ih =>
    have h1 := ih (fun y hy => h y (List.mem_cons_of_mem _ hy))
    have h2 := h x (List.mem_cons_self ..)
    rw [List.sum_cons, List.length_cons]
    omega
theorem gI_le (W : List Nat) (i : Nat) : (gI W i).length ≤ i := by
  induction i with
  | zero => exact Nat.le_refl _
  | succ i ih =>
    rw [gI_step]
    split
    · rw [List.length_append]; simp; omega
    · omega
theorem good_one {W : List Nat} {l : List Grp} (hl : l = gI W W.length) {s : Nat} (hs : s ∈ sy l) : HuffM.Good l ((once0 W).set s 1) := by
  have h := good0 W
  rw [← hl] at h
  refine ⟨h.nd, fun x hx => by rw [List.length_set]; exact h.lt x hx, fun x hx => ?_⟩
  have hne : s ≠ x := fun e => hx (e ▸ hs)
  have h0 := h.out x hx
  unfold oat at h0 ⊢
  rw [List.getD_eq_getElem?_getD, List.getElem?_set_ne hne, ← List.getD_eq_getElem?_getD]
  exact h0
theorem set_le (W : List Nat) (s t : Nat) : oat ((once0 W).set s 1) t ≤ 1 := by
  unfold oat
  rw [List.getD_eq_getElem?_getD, List.getElem?_set]
  split
  · split
    · exact Nat.le_refl _
    · exact Nat.zero_le _
  · rw [← List.getD_eq_getElem?_getD]
    have := zero_at W.length t
    unfold oat at this
    unfold once0
    omega

theorem onceC_end {w w5 : World} {go n : Nat} {W : List Nat} (hi : Ints w5 go (onceL W)) (hf : Fr (fun _ => False) w w5) (hg : go = w.heap.size) (hW : W.length = n) :
    ∃ A' c', Ending.returned (.slice (some ⟨go, 0, none⟩) n n) = .returned (.slice A' n c') ∧ n ≤ c' ∧ Rd w5 A' n ((onceL W).map natc) ∧ Fr (fun _ => False) w w5 ∧ ∀ ad, A' = some ad → w.heap.size ≤ ad.block ∧ ad.block < w5.heap.size := by
  have hr := hi.rd
  rw [onceL_len, hW] at hr
  refine ⟨_, n, rfl, Nat.le_refl _, hr, hf, fun ad h => ?_⟩
  injection h with h
  subst h
  exact ⟨by show w.heap.size ≤ go; omega, lt_of_heap (show w5.heap[go]? = _ from hi)⟩

set_option maxRecDepth 1000000 in
set_option maxHeartbeats 6400000 in
theorem onceC : OnceC := by
  intro A n c W w hr hc hn hA hW
  have hWn : W.length = n := by simpa using hr.1
  have hmk := mk_int n (by omega) w
  have HR := Lib.hid hr
  have HWN := Lib.hid hWn
  have HW := Lib.hid hW
  clear hr hWn hW hA
  go_enter Tryz.func44, Tryz.ntmps44
  go_wp2_with fail
  obtain ⟨go, hgo⟩ : ∃ go, go = w.heap.size := ⟨_, rfl⟩
  obtain ⟨w1, hw1⟩ : ∃ w1, w.alloc (.cells (Array.replicate n (.int .i64 0)) 3) = w1 := ⟨_, rfl⟩
  have hi1 : Ints w1 go (once0 W) := by
    unfold Ints once0
    rw [← hw1, hgo, HWN.out, List.map_replicate, List.toArray_replicate]
    exact heap_alloc_new w _
  have hf1 : Fr (fun _ => False) w w1 := by rw [← hw1]; exact (Fr.refl _ _).alloc _
  have hgl : go < w1.heap.size := lt_of_heap (show w1.heap[go]? = _ from hi1)
  rw [hw1, ← hgo]
  have HI1 := Lib.hid hi1
  have HF1 := Lib.hid hf1
  have HGO := Lib.hid hgo
  have HR1 := Lib.hid (HR.out.fr hf1 (fun _ _ h => h))
  clear hmk hgo hw1 hi1 hf1
  refine mkg_loop _ _ _ _ _ _ _ _ _ _ _ _ _ _ _ _ _ _ _ _ _ _ _ _ _ _ _ _ _ _ _ _ _ _ _ _ _ _ _ _ _ _ _ _ _ _ _ _ _ _ _ _ _ _ _ _ _ _ _ _ _ _ _ _ _ _ _ _ _ _ _ _ _ _ _ _ _ _ _ _ _ _ _ _ _ _ _ _ _ _ _ _ _ _ _ _ _ _ _ _ _ _ _ _ _ _ _ _ _ _ _ _ _ _ _ _ _ _ _ _ _ _ _ _ _ _ _ _ _ _ _ _ _ _ _ _ _ _ _ _ _ _ _ _ _ _ _ _ _ _ _ _ _ _ _ _ _ _ _ _ _ _ _  A n c go W w1 HR1 HWN.out hn HW.out hgl ?_
  intro A4 q c4 E w2 r5 r17 r18 r19 r20 r21 r22 r23 r24 r25 r26 r27 r28 r29 r30 r31 r32 r33 r34 r35 r36 r37 HO HQ HGS HSy hf2
  have HF2 := Lib.hid hf2
  have HI2 := Lib.hid (HI1.out.fr hf2 (fun h => h))
  have HL := Lib.hid HQ.out.1
  have hqn : q ≤ n := HQ.out.2.1
  have hqc : q ≤ c4 := HQ.out.2.2
  have HGS2 : Hid (gs E = gI W W.length) := Lib.hid (by rw [HGS.out, HWN.out])
  have HSUM : Hid (sumW (gs E) ≤ 1099511627776) := Lib.hid (by
    rw [HGS2.out, gI_sum W W.length (Nat.le_refl _), List.take_length]
    have h1 := sum_le HW.out
    have h2 := HWN.out
    have h3 : W.length * 1073741824 ≤ 1000 * 1073741824 := Nat.mul_le_mul_right _ (by omega)
    omega)
  have HGLEN : Hid ((gI W W.length).length = q) := Lib.hid (by rw [← HGS2.out, gs_len, HL.out])
  have HO0 : Hid ((once0 W).length = n) := Lib.hid (by unfold once0; rw [List.length_replicate, HWN.out])
  clear hf2 HI1 HR HR1 HGS
  by_cases h1 : q = 1
  · obtain ⟨p, hp⟩ : ∃ p, E[0]? = some p := ⟨_, List.getElem?_eq_getElem (by rw [HL.out]; omega)⟩
    obtain ⟨⟨wa, sa⟩, va⟩ := p
    obtain ⟨Aa, ca, e1, hca, hra, hba⟩ := HSy.out _ (List.mem_of_getElem? hp)
    simp only at e1 hca hra
    subst e1
    obtain ⟨g4, hA4, x1, x2⟩ := HO.out.at_ hp
    subst hA4
    have hgm : (⟨wa, sa⟩ : Grp) ∈ gI W W.length := by rw [← HGS2.out]; exact List.mem_map.2 ⟨_, List.mem_of_getElem? hp, rfl⟩
    obtain ⟨_, s, hs1, _, hs2⟩ := gI_w W W.length _ hgm
    simp only at hs2
    subst hs2
    have hsn : s < n := by rw [← HWN.out]; exact hs1
    obtain ⟨ad, u, hAa, hu, hcu⟩ := hra.at_ (show 0 < [s].length by simp)
    subst hAa
    simp at hu
    subst hu
    have hcu2 : w2.cell? ad = some (.int .i64 (s : Int)) := by simpa [Addr.add, natc] using hcu
    have hcell2 : w2.cell? ⟨g4, 1, none⟩ = some (.slice (some ad) 1 ca) := by simpa using x2
    obtain ⟨hco, hfo⟩ := HI2.out.cell (i := s) (by rw [HO0.out]; exact hsn)
    have hset := HI2.out.set s 1
    have hb1 : (s : Int) < (n : Int) := by omega
    have hsy : s ∈ sy (gs E) := by rw [HGS2.out]; exact mem_sy hgm (by simp)
    have hg0 : gat (gI W W.length) 0 = ⟨wa, [s]⟩ := by rw [← HGS2.out]; exact gat_of hp
    have HSET := Lib.hid hset
    have HG1 : Hid (HuffM.Good (gs E) ((once0 W).set s 1)) := Lib.hid (good_one HGS2.out hsy)
    have HT1 : Hid (onceL W = mergeF q (gs E) ((once0 W).set s 1)) := Lib.hid (by
      have h := HGLEN.out
      unfold onceL
      simp only [h, h1, if_pos, hg0, HGS2.out]
      rfl)
    have HNE : Hid ((Value.slice (some ⟨g4, 0, none⟩) E.length c4).ownBlock ≠ some go) := Lib.hid (HO.out.ne HI2.out)
    clear hp hca hra hba x1 x2 hgm hs1 hcu hsy hg0 hset
    obtain ⟨O1, hO1⟩ : ∃ O1, O1 = (once0 W).set s 1 := ⟨_, rfl⟩
    have HOl1 : Hid (O1.length = n) := Lib.hid (by rw [hO1, List.length_set]; exact HO0.out)
    have HB1 : Hid (∀ t, oat O1 t + q ≤ 1002) := Lib.hid (fun t => by have := set_le W s t; rw [hO1]; omega)
    rw [← hO1] at HG1 HT1 HSET
    clear hO1
    have tq : ((q : Int) == 1) = true := by simp; omega
    subst h1
    obtain ⟨w3, hw3⟩ : ∃ w3, w3 = w2.setCell ⟨go, s, none⟩ (.int .i64 1) := ⟨_, rfl⟩
    have hf3 : Fr (fun b => b = go) w2 w3 := by rw [hw3]; exact (Fr.refl (fun b => b = go) w2).setCell (p := ⟨go, s, none⟩) (fun _ => rfl) _
    have HSET3 : Hid (Ints w3 go O1) := Lib.hid (by rw [hw3]; exact HSET.out)
    have HO3 : Hid (OwnG w3 w1.heap.size (some ⟨g4, 0, none⟩) c4 E) := Lib.hid (HO.out.fr hf3 (fun k hk e => HNE.out (by rw [hk, e])))
    have HSy3 := Lib.hid (HSy.out.fr hf3 (fun b e => by omega))
    have HF3 := Lib.hid ((HF2.out.mono (T := fun b => b = go) (fun _ _ h => h.elim)).trans hf3 (fun _ _ h => h))
    have HW3 := Lib.hid hw3
    clear hf3 HSET hw3
    go_wp2_with fail
    rw [← HW3.out]
    refine joins_loop _ _ _ _ _ _ _ _ _ _ _ _ _ _ _ _ _ _ _ _ _ _ _ _ _ _ _ _ _ _ _ _ _ _ _ _ _ _ _ _ _ _ _ _ _ _ _ _ _ _ _ _ _ _ _ _ _ _ _ _ _ _ _ _ _ _ _ _ _ _ _ _ _ _ _ _ _ _ _ _ _ _ _ _ _ _ _ _ _ _ _ _ _ _ _ _ _ _ _ _ _ _ _ _ _ _ _ _ _ _ _ _ _ _ _ _ _ _ _ _ _ _ _ _ _ _ _ _ _ _ _ _ _ _ _ _ _ _ _ _ _ _ _ _ _ _ _ _ _ _ _ _ _ _ _ _ _ _ _ _ _ _ _ _  (some ⟨g4, 0, none⟩) 1 c4 go n w1.heap.size E O1 (onceL W) w3 (by omega) hqc HL HO3 HF3.out.size HSy3 HSET3 HG1 HOl1 hn HB1 HSUM HT1 ?_
    intro w5 r4 r6 r7 r8 r9 r10 r11 r12 r13 r49 r50 r51 r52 r53 r54 r55 r56 r57 r58 r59 r60 r61 r62 r63 r64 r65 r66 r67 r68 r69 r70 r71 r72 r73 r74 r75 r76 r77 r78 r79 r80 r81 r82 r83 r84 r85 r86 r87 r88 r89 r90 r91 r92 r93 r94 r95 r96 r97 r98 r99 r100 r101 r102 r103 r104 r105 r106 r107 r108 r109 r110 r111 r112 r113 r114 r115 r116 r117 r118 r119 r120 r121 r122 r123 r124 r125 r126 r127 r128 r129 r130 r131 r132 r133 r134 r135 r136 r137 r138 r139 r140 r141 r142 r143 r144 r145 r146 r147 r148 r149 r150 r151 r152 r153 r154 r155 r156 r157 r158 r159 r160 r161 r162 r163 HI5 hf5
    have hfw : Fr (fun _ => False) w w5 := (HF1.out.trans HF3.out (fun b hb e => by have := HGO.out; omega)).trans hf5 (fun b hb e => by have := HGO.out; omega)
    have HFW := Lib.hid hfw
    clear hf5 hfw
    go_wp2_with fail
    go_ret
    exact onceC_end HI5.out HFW.out HGO.out HWN.out
  · have tq : ((q : Int) == 1) = false := by simp; omega
    have HT1 : Hid (onceL W = mergeF q (gs E) (once0 W)) := Lib.hid (by
      have h := HGLEN.out
      unfold onceL
      simp only [h, if_neg h1, HGS2.out])
    have HG1 : Hid (HuffM.Good (gs E) (once0 W)) := Lib.hid (by rw [HGS2.out]; exact good0 W)
    have HB1 : Hid (∀ t, oat (once0 W) t + q ≤ 1002) := Lib.hid (fun t => by unfold once0; rw [zero_at]; omega)
    go_wp2_with fail
    refine joins_loop _ _ _ _ _ _ _ _ _ _ _ _ _ _ _ _ _ _ _ _ _ _ _ _ _ _ _ _ _ _ _ _ _ _ _ _ _ _ _ _ _ _ _ _ _ _ _ _ _ _ _ _ _ _ _ _ _ _ _ _ _ _ _ _ _ _ _ _ _ _ _ _ _ _ _ _ _ _ _ _ _ _ _ _ _ _ _ _ _ _ _ _ _ _ _ _ _ _ _ _ _ _ _ _ _ _ _ _ _ _ _ _ _ _ _ _ _ _ _ _ _ _ _ _ _ _ _ _ _ _ _ _ _ _ _ _ _ _ _ _ _ _ _ _ _ _ _ _ _ _ _ _ _ _ _ _ _ _ _ _ _ _ _ _  A4 q c4 go n w1.heap.size E (once0 W) (onceL W) w2 (by omega) hqc HL HO HF2.out.size HSy HI2 HG1 HO0 hn HB1 HSUM HT1 ?_
    intro w5 r4 r6 r7 r8 r9 r10 r11 r12 r13 r49 r50 r51 r52 r53 r54 r55 r56 r57 r58 r59 r60 r61 r62 r63 r64 r65 r66 r67 r68 r69 r70 r71 r72 r73 r74 r75 r76 r77 r78 r79 r80 r81 r82 r83 r84 r85 r86 r87 r88 r89 r90 r91 r92 r93 r94 r95 r96 r97 r98 r99 r100 r101 r102 r103 r104 r105 r106 r107 r108 r109 r110 r111 r112 r113 r114 r115 r116 r117 r118 r119 r120 r121 r122 r123 r124 r125 r126 r127 r128 r129 r130 r131 r132 r133 r134 r135 r136 r137 r138 r139 r140 r141 r142 r143 r144 r145 r146 r147 r148 r149 r150 r151 r152 r153 r154 r155 r156 r157 r158 r159 r160 r161 r162 r163 HI5 hf5
    have hfw : Fr (fun _ => False) w w5 := ((HF1.out.trans HF2.out (fun _ _ h => h)).trans hf5 (fun b hb e => by have := HGO.out; omega))
    have HFW := Lib.hid hfw
    clear hf5 hfw
    go_wp2_with fail
    go_ret
    exact onceC_end HI5.out HFW.out HGO.out HWN.out
end Go.Proofs.YtahfmcdhcbfkaaaGreatDoor
namespace Go.Proofs.YtahfmcdhcbfkaaaGreatDoor
open Go.RowKit BitsM Mem Go.Lib
attribute [local go_sem ↓] Go.wp_at_zero Go.wp_at_succ
set_option linter.unusedVariables false
set_option maxRecDepth 100000

theorem fixA_15 : (∀ x ∈ SyM.fixA, x ≤ 15) ∧ ∀ x ∈ SyM.fixB, x ≤ 15 := by decide +kernel
theorem bits3_one (a b c : Int) : ∀ u ∈ [Value.int .u8 a, .int .u8 b, .int .u8 c], u.oneCell' = true := by
  intro u hu
  simp at hu
  rcases hu with rfl | rfl | rfl <;> rfl

set_option maxHeartbeats 3200000 in
theorem rFixed_any (A : Option Addr) (n c : Nat) (B : List UInt8) (w : World) (hr : Rd w A n (B.map bytec)) (hn : n ≤ 10000) :
    Calls Tryz.prog 7 #[.slice A n c] w fun e w' => ∃ A' c', e = .returned (.slice A' (DeM.fixedBits B).length c') ∧ w'.ownsRow w.heap.size 5 1 (.slice A' (DeM.fixedBits B).length c') (DeM.fixedBits B).length ((DeM.fixedBits B).map bitc) ∧ Fr (fun _ => False) w w' := by
  have hbl : B.length = n := by simpa using hr.1
  obtain ⟨T, hT⟩ : ∃ T, T = LzM.press B := ⟨_, rfl⟩
  have hTn : T.length ≤ n := by rw [hT, ← hbl]; exact LzV.press_len B
  obtain ⟨X, hX⟩ : ∃ X, X = DeM.toksBits SyM.fixA SyM.fixB T := ⟨_, rfl⟩
  have hXl := toksBits_len SyM.fixA SyM.fixB T
  rw [← hX] at hXl
  obtain ⟨N, hN⟩ : ∃ N, N = 3 + X.length := ⟨_, rfl⟩
  have hfix : DeM.fixedBits B = [true, true, false] ++ X := by rw [hX, hT]; rfl
  have hfl : (DeM.fixedBits B).length = N := by rw [hfix, hN]; simp; omega
  rw [hfl]
  have HP : Hid (∀ w', Fr (fun _ => False) w w' → Calls Tryz.prog 20 #[.slice A n c] w' fun e w'' => ∃ A' c', e = .returned (.slice A' T.length c') ∧ OwnT w'' w'.heap.size A' c' T ∧ Fr (fun _ => False) w' w'') := Lib.hid (fun w' hf => by
    rw [hT]
    exact rPress_any A n c B w' (hr.fr hf (fun _ _ h => h)) (by omega))
  have HFX := Lib.hid hfix
  have HN := Lib.hid hN
  have HX := Lib.hid hX
  have HTF : Hid (∀ t ∈ T, Fits t) := Lib.hid (by rw [hT]; exact press_fits B)
  have HTN := Lib.hid hTn
  have hNb : N ≤ 10000000 := by omega
  obtain ⟨tn, htn⟩ : ∃ t, t = T.length := ⟨_, rfl⟩
  rw [← htn] at HP
  have HTL := Lib.hid htn
  have htb : tn ≤ 10000 := by omega
  clear hr hbl hT hTn hX hXl hN hfix hfl htn
  go_enter Tryz.func7, Tryz.ntmps7
  go_wp2_with fail
  refine (rAgreed_any w).mono ?_
  rintro e w1 ⟨A1, c1, A2, c2, rfl, ho1, ho2, hf1⟩
  have HO1 := Lib.hid (And.intro ho1 ho2)
  have HF1 := Lib.hid hf1
  clear ho1 ho2 hf1
  go_wp2_with fail
  obtain ⟨w2, hw2⟩ : ∃ w2, w2 = w1.alloc (.cells #[Value.int .u8 1, .int .u8 1, .int .u8 0] 5) := ⟨_, rfl⟩
  obtain ⟨g, hg⟩ : ∃ g, g = w1.heap.size := ⟨_, rfl⟩
  have hown : w2.ownsRow w.heap.size 5 1 (.slice (some ⟨g, 0, none⟩) 3 3) 3 [.int .u8 1, .int .u8 1, .int .u8 0] := by
    rw [hw2]
    exact own_full hg (by rw [hg]; exact HF1.out.size) _ [.int .u8 1, .int .u8 1, .int .u8 0] (by simp [maxLen])
  have hf12 : Fr (fun _ => False) w1 w2 := by rw [hw2]; exact (Fr.refl _ w1).alloc _
  rw [← hw2, ← hg]
  have HG := Lib.hid hown
  have HF2 := Lib.hid (HF1.out.trans hf12 (fun _ _ h => h))
  have HO2 : Hid (Rd w2 A1 288 (SyM.fixA.map natc) ∧ Rd w2 A2 32 (SyM.fixB.map natc) ∧ (∀ ad, A1 = some ad → ad.block < w2.heap.size) ∧ ∀ ad, A2 = some ad → ad.block < w2.heap.size) := Lib.hid (by
    have h1 := hf12.own HO1.out.1 (fun _ _ h => h)
    have h2 := hf12.own HO1.out.2 (fun _ _ h => h)
    exact ⟨Rd.of_own h1, Rd.of_own h2, fun ad h => (h1.lt ad.block (by rw [h]; rfl)).2, fun ad h => (h2.lt ad.block (by rw [h]; rfl)).2⟩)
  clear hown hf12 hw2 hg HO1
  refine (HP.out w2 HF2.out).mono ?_
  rintro e w3 ⟨A3, c3, rfl, ho3, hf3⟩
  have ht3 := ho3.toks
  rw [← HTL.out] at ht3
  have HTK := Lib.hid (rTokens_any A3 A1 A2 tn c3 288 c1 32 c2 T SyM.fixA SyM.fixB w3 ht3 htb HTF.out (HO2.out.1.fr hf3 (fun _ _ h => h)) (HO2.out.2.1.fr hf3 (fun _ _ h => h)) (fun ad h => Nat.lt_of_lt_of_le (HO2.out.2.2.1 ad h) hf3.size) (fun ad h => Nat.lt_of_lt_of_le (HO2.out.2.2.2 ad h) hf3.size) (by omega) (by omega) (by omega) (by omega) fixA_15.1 fixA_15.2)
  have HF3 := Lib.hid (HF2.out.trans hf3 (fun _ _ h => h))
  have HG3 := Lib.hid (hf3.own HG.out (fun _ _ h => h))
  clear ho3 ht3 hf3 HP HO2 HG
  go_wp2_with fail
  refine HTK.out.mono ?_
  rintro e w4 ⟨A4, c4, rfl, ho4, hf4⟩
  rw [← HX.out] at ho4 ⊢
  have HR4 := Lib.hid (Rd.of_own ho4)
  have HF4 := Lib.hid (HF3.out.trans hf4 (fun _ _ h => h))
  have HG4 := Lib.hid (hf4.own HG3.out (fun _ _ h => h))
  obtain ⟨xn, hxn⟩ : ∃ x, x = X.length := ⟨_, rfl⟩
  rw [← hxn] at HR4 ⊢
  have HXN : Hid (N = 3 + xn) := Lib.hid (by rw [HN.out, hxn])
  have hbase : w.heap.size ≤ w4.heap.size := HF4.out.size
  have HBS := Lib.hid hbase
  clear ho4 hf4 HTK HG3 hxn hbase
  go_wp2_with (at_builtin; refine wpList_appN u8T _ rfl _ _ rfl w.heap.size _ 3 _ rfl HG4.out _ xn _ _ rfl HR4.out (bitc_one _) N HXN.out (by unfold maxLen; omega) (by omega) HBS.out ?_)
  intro A5 c5 w5 _ _ hown5 hf5 _
  have HO5 : Hid (w5.ownsRow w.heap.size 5 1 (.slice A5 N c5) N ((DeM.fixedBits B).map bitc)) := Lib.hid (own_list hown5 (by rw [HFX.out]; simp [bitc]))
  have HF5 : Hid (Fr (fun _ => False) w w5) := Lib.hid (HF4.out.trans hf5 (fun b hb h => by have h1 := (HG4.out.lt b h).1; omega))
  clear hown5 hf5
  go_wp2_with fail
  go_ret
  exact ⟨A5, c5, rfl, HO5.out, HF5.out⟩

set_option maxHeartbeats 6400000 in
theorem rDynamic_any (A : Option Addr) (n c : Nat) (B : List UInt8) (w : World) (hr : Rd w A n (B.map bytec)) (hn : n ≤ 10000) :
    Calls Tryz.prog 8 #[.slice A n c] w fun e w' => ∃ A' c', e = .returned (.slice A' (DeM.dynBits B).length c') ∧ w'.ownsRow w.heap.size 5 1 (.slice A' (DeM.dynBits B).length c') (DeM.dynBits B).length ((DeM.dynBits B).map bitc) ∧ Fr (fun _ => False) w w' := by
  have hbl : B.length = n := by simpa using hr.1
  obtain ⟨T, hT⟩ : ∃ T, T = LzM.press B := ⟨_, rfl⟩
  have hTn : T.length ≤ n := by rw [hT, ← hbl]; exact LzV.press_len B
  obtain ⟨dl1, dl2, dl3, dl4, dl5, dl6⟩ := dyn_is T
  obtain ⟨dw1, dw2⟩ := weigh_le T SyM.start 1 start_le.1 start_le.2
  have hwl := SyM.weigh_length T SyM.start
  rw [start_len.1, start_len.2] at hwl
  obtain ⟨U, hU⟩ : ∃ U, U = (SyM.weigh T SyM.start).1 := ⟨_, rfl⟩
  obtain ⟨V, hV⟩ : ∃ V, V = (SyM.weigh T SyM.start).2 := ⟨_, rfl⟩
  obtain ⟨x, hx⟩ : ∃ x, x = DeM.dynX T := ⟨_, rfl⟩
  obtain ⟨y, hy⟩ : ∃ y, y = DeM.dynY T := ⟨_, rfl⟩
  have hxU : x = HuffM.lens 15 U := by rw [hx, hU]; rfl
  have hyV : y = HuffM.lens 15 V := by rw [hy, hV]; rfl
  have hpl := dyn_put T
  rw [← hx, ← hy] at hpl
  rw [← hx] at dl1 dl3
  rw [← hy] at dl2 dl4
  rw [← hU] at dl5 dw1 hwl
  rw [← hV] at dl6 dw2 hwl
  obtain ⟨P, hP⟩ : ∃ P, P = CoM.putBits (CoM.trimL x 257) (CoM.trimL y 1) := ⟨_, rfl⟩
  rw [← hP] at hpl
  obtain ⟨X, hX⟩ : ∃ X, X = DeM.toksBits x y T := ⟨_, rfl⟩
  have hXl := toksBits_len x y T
  rw [← hX] at hXl
  obtain ⟨N1, hN1⟩ : ∃ N, N = 3 + P.length := ⟨_, rfl⟩
  obtain ⟨N, hN⟩ : ∃ N, N = N1 + X.length := ⟨_, rfl⟩
  have hfix : DeM.dynBits B = [true, false, true] ++ P ++ X := by rw [hX, hP, hx, hy, hT]; rfl
  have hfl : (DeM.dynBits B).length = N := by rw [hfix, hN, hN1]; simp; omega
  rw [hfl]
  have HP : Hid (Calls Tryz.prog 20 #[.slice A n c] w fun e w'' => ∃ A' c', e = .returned (.slice A' T.length c') ∧ OwnT w'' w.heap.size A' c' T ∧ Fr (fun _ => False) w w'') := Lib.hid (by
    rw [hT]
    exact rPress_any A n c B w hr (by omega))
  have HFX := Lib.hid hfix
  have HNN := Lib.hid (And.intro hN1 hN)
  have HPX := Lib.hid (And.intro hP hX)
  have HTF : Hid (∀ t ∈ T, Fits t) := Lib.hid (by rw [hT]; exact press_fits B)
  have HUV := Lib.hid (And.intro hU hV)
  have HXY := Lib.hid (And.intro hxU hyV)
  have HD := Lib.hid (And.intro dl1 (And.intro dl2 (And.intro dl3 dl4)))
  have HC : Hid (HuffM.cnt U ≤ 2 ^ 15 ∧ HuffM.cnt V ≤ 2 ^ 15 ∧ (∀ x ∈ U, x ≤ 1073741824) ∧ (∀ x ∈ V, x ≤ 1073741824)) := Lib.hid ⟨dl5, dl6, fun x hx => by have := dw1 x hx; omega, fun x hx => by have := dw2 x hx; omega⟩
  have HWL := Lib.hid hwl
  have hNb : N ≤ 10000000 := by omega
  have hN1b : N1 ≤ 10000000 := by omega
  obtain ⟨tn, htn⟩ : ∃ t, t = T.length := ⟨_, rfl⟩
  rw [← htn] at HP
  have HTL := Lib.hid htn
  have htb : tn ≤ 10000 := by omega
  clear hr hbl hT hTn hX hXl hN hN1 hfix hfl htn dl1 dl2 dl3 dl4 dl5 dl6 dw1 dw2 hwl hU hV hx hy hxU hyV hpl hP
  go_enter Tryz.func8, Tryz.ntmps8
  go_wp2_with fail
  refine HP.out.mono ?_
  rintro e w1 ⟨A3, c3, rfl, ho3, hf1⟩
  have ht3 := ho3.toks
  rw [← HTL.out] at ht3
  have HT1 := Lib.hid ht3
  have HF1 := Lib.hid hf1
  have HWE := Lib.hid (rWeights_any A3 tn c3 T w1 ht3 (by omega) HTF.out)
  clear ho3 ht3 hf1 HP
  go_wp2_with fail
  refine HWE.out.mono ?_
  rintro e w2 ⟨ga, gb, rfl, hna, hnb, hf2⟩
  rw [← HUV.out.1] at hna
  rw [← HUV.out.2] at hnb
  have hra : Rd w2 (some ⟨ga, 0, none⟩) 286 (U.map natc) := by
    have h := Row.rd hna 0 286 (by rw [List.length_map, HWL.out.1]; omega)
    rw [List.drop_zero, List.take_of_length_le (by rw [List.length_map, HWL.out.1]; omega)] at h
    exact h
  have hrb : Rd w2 (some ⟨gb, 0, none⟩) 30 (V.map natc) := by
    have h := Row.rd hnb 0 30 (by rw [List.length_map, HWL.out.2]; omega)
    rw [List.drop_zero, List.take_of_length_le (by rw [List.length_map, HWL.out.2]; omega)] at h
    exact h
  have HF2 := Lib.hid (HF1.out.trans hf2 (fun _ _ h => h))
  have HT2 := Lib.hid (HT1.out.fr hf2 (fun _ _ h => h))
  have HLA : Hid (Calls Tryz.prog 22 #[.int .i64 15, .slice (some ⟨ga, 0, none⟩) 286 286] w2 fun e w' => ∃ A' c', e = .returned (.slice A' 286 c') ∧ 286 ≤ c' ∧ Rd w' A' 286 (x.map natc) ∧ Fr (fun _ => False) w2 w' ∧ ∀ ad, A' = some ad → ad.block < w'.heap.size) := Lib.hid (by
    rw [HXY.out.1]
    exact rLengths_any onceC (some ⟨ga, 0, none⟩) 286 286 15 U w2 hra (by omega) (by omega) (fun ad h => hra.lt (by omega) ad h) HC.out.2.2.1 (by omega) (by omega) HC.out.1)
  have HRB2 := Lib.hid hrb
  clear hna hnb hf2 hra hrb HWE HT1
  go_wp2_with fail
  refine HLA.out.mono ?_
  rintro e w3 ⟨Ax, cx, rfl, hcx, hrx, hf3, hbx⟩
  have hrb3 := HRB2.out.fr hf3 (fun _ _ h => h)
  have HLB : Hid (Calls Tryz.prog 22 #[.int .i64 15, .slice (some ⟨gb, 0, none⟩) 30 30] w3 fun e w' => ∃ A' c', e = .returned (.slice A' 30 c') ∧ 30 ≤ c' ∧ Rd w' A' 30 (y.map natc) ∧ Fr (fun _ => False) w3 w' ∧ ∀ ad, A' = some ad → ad.block < w'.heap.size) := Lib.hid (by
    rw [HXY.out.2]
    exact rLengths_any onceC (some ⟨gb, 0, none⟩) 30 30 15 V w3 hrb3 (by omega) (by omega) (fun ad h => hrb3.lt (by omega) ad h) HC.out.2.2.2 (by omega) (by omega) HC.out.2.1)
  have HF3 := Lib.hid (HF2.out.trans hf3 (fun _ _ h => h))
  have HT3 := Lib.hid (HT2.out.fr hf3 (fun _ _ h => h))
  have HRX3 := Lib.hid (And.intro hrx (And.intro hbx hcx))
  clear hrb3 hf3 hrx hbx hcx HLA HRB2 HT2
  go_wp2_with fail
  refine HLB.out.mono ?_
  rintro e w4 ⟨Ay, cy, rfl, hcy, hry, hf4, hby⟩
  have HF4 := Lib.hid (HF3.out.trans hf4 (fun _ _ h => h))
  have HT4 := Lib.hid (HT3.out.fr hf4 (fun _ _ h => h))
  have HRX4 := Lib.hid (And.intro (HRX3.out.1.fr hf4 (fun _ _ h => h)) (And.intro (fun ad h => Nat.lt_of_lt_of_le (HRX3.out.2.1 ad h) hf4.size) HRX3.out.2.2))
  have HRY4 := Lib.hid (And.intro hry (And.intro hby hcy))
  clear hf4 hry hby hcy HLB HRX3 HT3
  go_wp2_with fail
  obtain ⟨w5, hw5⟩ : ∃ w5, w5 = w4.alloc (.cells #[Value.int .u8 1, .int .u8 0, .int .u8 1] 5) := ⟨_, rfl⟩
  obtain ⟨g, hg⟩ : ∃ g, g = w4.heap.size := ⟨_, rfl⟩
  have hown : w5.ownsRow w.heap.size 5 1 (.slice (some ⟨g, 0, none⟩) 3 3) 3 [.int .u8 1, .int .u8 0, .int .u8 1] := by
    rw [hw5]
    exact own_full hg (by rw [hg]; exact HF4.out.size) _ [.int .u8 1, .int .u8 0, .int .u8 1] (by simp [maxLen])
  have hf45 : Fr (fun _ => False) w4 w5 := by rw [hw5]; exact (Fr.refl _ w4).alloc _
  rw [← hw5, ← hg]
  have HG := Lib.hid hown
  have HF5 := Lib.hid (HF4.out.trans hf45 (fun _ _ h => h))
  have HF45 := Lib.hid hf45
  have HGB : Hid (w4.heap.size ≤ g) := Lib.hid (by omega)
  have HRX5 := Lib.hid (And.intro (HRX4.out.1.fr hf45 (fun _ _ h => h)) (fun (ad : Addr) (h : Ax = some ad) => Nat.lt_of_lt_of_le (HRX4.out.2.1 ad h) hf45.size))
  have HRY5 := Lib.hid (And.intro (HRY4.out.1.fr hf45 (fun _ _ h => h)) (fun (ad : Addr) (h : Ay = some ad) => Nat.lt_of_lt_of_le (HRY4.out.2.1 ad h) hf45.size))
  have HPT := Lib.hid (rPut_any (rLengths_any onceC) Ax Ay 286 cx 30 cy x y w5 HRX5.out.1 HRY5.out.1 HRX4.out.2.2 HRY4.out.2.2 (by omega) (by omega) (by omega) (by omega) HD.out.2.2.1 HD.out.2.2.2)
  clear hown hf45 hw5 hg
  refine HPT.out.mono ?_
  rintro e w6 ⟨A6, c6, rfl, hr6, hf6⟩
  rw [← HPX.out.1] at hr6 ⊢
  obtain ⟨pn, hpn⟩ : ∃ x, x = P.length := ⟨_, rfl⟩
  rw [← hpn] at hr6 ⊢
  have HPN : Hid (N1 = 3 + pn) := Lib.hid (by rw [HNN.out.1, hpn])
  have HR6 := Lib.hid hr6
  have HF6 := Lib.hid (HF5.out.trans hf6 (fun _ _ h => h))
  have HG6 := Lib.hid (hf6.own HG.out (fun _ _ h => h))
  have HF46 := Lib.hid (HF45.out.trans hf6 (fun _ _ h => h))
  clear hr6 hf6 hpn HPT HRX5 HRY5 HG
  go_wp2_with (at_builtin; refine wpList_appN u8T _ rfl _ _ rfl w.heap.size _ 3 _ rfl HG6.out _ pn _ _ rfl HR6.out (bitc_one _) N1 HPN.out (by unfold maxLen; omega) (by omega) HF6.out.size ?_)
  intro A7 c7 w7 _ _ hown7 hf7 _
  have hf47 : Fr (fun _ => False) w4 w7 := HF46.out.trans hf7 (fun b hb h => by simp [Value.ownBlock] at h; have := HGB.out; omega)
  have HF7 : Hid (Fr (fun _ => False) w w7) := Lib.hid (HF4.out.trans hf47 (fun _ _ h => h))
  have HO7 : Hid (w7.ownsRow w.heap.size 5 1 (.slice A7 N1 c7) N1 (([true, false, true] ++ P).map bitc)) := Lib.hid (own_list hown7 (by simp [bitc]))
  have HTK := Lib.hid (rTokens_any A3 Ax Ay tn c3 286 cx 30 cy T x y w7 (HT4.out.fr hf47 (fun _ _ h => h)) htb HTF.out (HRX4.out.1.fr hf47 (fun _ _ h => h)) (HRY4.out.1.fr hf47 (fun _ _ h => h)) (fun ad h => Nat.lt_of_lt_of_le (HRX4.out.2.1 ad h) hf47.size) (fun ad h => Nat.lt_of_lt_of_le (HRY4.out.2.1 ad h) hf47.size) (by omega) (by omega) (by omega) (by omega) HD.out.2.2.1 HD.out.2.2.2)
  clear hown7 hf7 hf47
  go_wp2_with fail
  refine HTK.out.mono ?_
  rintro e w8 ⟨A8, c8, rfl, ho8, hf8⟩
  rw [← HPX.out.2] at ho8 ⊢
  have HR8 := Lib.hid (Rd.of_own ho8)
  have HF8 := Lib.hid (HF7.out.trans hf8 (fun _ _ h => h))
  have HO8 := Lib.hid (hf8.own HO7.out (fun _ _ h => h))
  obtain ⟨xn, hxn⟩ : ∃ x, x = X.length := ⟨_, rfl⟩
  rw [← hxn] at HR8 ⊢
  have HXN : Hid (N = N1 + xn) := Lib.hid (by rw [HNN.out.2, hxn])
  clear ho8 hf8 hxn HTK HO7
  go_wp2_with (at_builtin; refine wpList_appN u8T _ rfl _ _ rfl w.heap.size _ N1 _ rfl HO8.out _ xn _ _ rfl HR8.out (bitc_one _) N HXN.out (by unfold maxLen; omega) (by omega) HF8.out.size ?_)
  intro A9 c9 w9 _ _ hown9 hf9 _
  have HO9 : Hid (w9.ownsRow w.heap.size 5 1 (.slice A9 N c9) N ((DeM.dynBits B).map bitc)) := Lib.hid (own_list hown9 (by rw [HFX.out]; simp [bitc]))
  have HF9 : Hid (Fr (fun _ => False) w w9) := Lib.hid (HF8.out.trans hf9 (fun b hb h => by have h1 := (HO8.out.lt b h).1; omega))
  clear hown9 hf9
  go_wp2_with fail
  go_ret
  exact ⟨A9, c9, rfl, HO9.out, HF9.out⟩
end Go.Proofs.YtahfmcdhcbfkaaaGreatDoor
namespace Go.Proofs.YtahfmcdhcbfkaaaGreatDoor
open Go.RowKit SyM LzM Mem Go.Lib
attribute [local go_sem ↓] Go.wp_at_zero Go.wp_at_succ
set_option linter.unusedVariables false

/-- a symbol, as a value -/
def symv (s b x : Nat) : Value := .agg #[.int .i64 (s : Int), .int .i64 (b : Int), .int .u64 (x : Int)]
theorem symv_one (s b x : Nat) : (#[Value.int .i64 (s : Int), .int .i64 (b : Int), .int .u64 (x : Int)] : Array Value).all (·.oneCell') = true := by simp [Value.oneCell']
theorem symv_equal (s b x s' b' x' : Nat) (w : World) : (Op.equalIn 10000 84 (symv s b x) (symv s' b' x')).run Tryz.prog w = .ok (decide (s = s' ∧ b = b' ∧ x = x')) w := by
  unfold symv
  have h := run_equalIn_agg (P := Tryz.prog) w 9999 84 #[.int .i64 (s : Int), .int .i64 (b : Int), .int .u64 (x : Int)] #[.int .i64 (s' : Int), .int .i64 (b' : Int), .int .u64 (x' : Int)] (by unfold Program.fieldsOf; rw [Tryz.underlying84]) (by kernel_rfl)
  rw [h]
  clear h
  unfold Program.fieldsOf
  rw [Tryz.underlying84]
  go_simp
  by_cases h1 : s = s'
  · by_cases h2 : b = b'
    · by_cases h3 : x = x'
      · simp [h1, h2, h3]
      · have h4 : ¬ (x : Int) = (x' : Int) := by omega
        simp [h1, h2, h3, h4]
    · have h4 : ¬ (b : Int) = (b' : Int) := by omega
      simp [h1, h2, h4]
  · have h4 : ¬ (s : Int) = (s' : Int) := by omega
    simp [h1, h4]
theorem symv_eql (s b x s' b' x' : Nat) : (∀ (p q : Operand) (w : World), (eqGuard .eql 84 p q (symv s b x) (symv s' b' x')).run Tryz.prog w = .ok () w) ∧ (∀ w : World, (binOp .eql 84 (symv s b x) (symv s' b' x')).run Tryz.prog w = .ok (.bool (decide (s = s' ∧ b = b' ∧ x = x'))) w) := by
  refine ⟨fun p q w => run_eqGuard_agg w .eql _ p q _ _ (by kernel_rfl), fun w => ?_⟩
  have h := symv_equal s b x s' b' x' w
  unfold symv at h ⊢
  rw [run_eql_struct, h]
  rfl

def inI (n : Int) : Prop := -9223372036854775808 ≤ n ∧ n ≤ 9223372036854775807
def lenOfV (s : Int) : Nat × Nat × Bool := if 257 ≤ s ∧ s ≤ 285 then (least lens (s - 257).toNat, wid lens (s - 257).toNat, true) else (0, 0, false)
def distOfV (s : Int) : Nat × Nat × Bool := if 0 ≤ s ∧ s < 30 then (least dists s.toNat, wid dists s.toNat, true) else (0, 0, false)
def trip (p : Nat × Nat × Bool) : Value := .tuple #[.int .i64 (p.1 : Int), .int .i64 (p.2.1 : Int), .bool p.2.2]
/-- a call answers two slices of numbers -/
def Two (w : World) (X Y : List Nat) (e : Ending) (w' : World) : Prop :=
  ∃ Aa ca Ab cb, e = .returned (.tuple #[.slice Aa X.length ca, .slice Ab Y.length cb]) ∧ Rd w' Aa X.length (X.map natc) ∧ Rd w' Ab Y.length (Y.map natc) ∧ Fr (fun _ => False) w w'
theorem run_max7 (n k m : Int) (h : m = max n k) (w : World) : (Builtin.max_ #[3, 3] 3 #[.int .i64 n, .int .i64 k]).run Tryz.prog w = .ok (.int .i64 m) w := by
  rw [h]
  go_simp
  split <;> omega
theorem run_min7 (n k m : Int) (h : m = min n k) (w : World) : (Builtin.min_ #[3, 3] 3 #[.int .i64 n, .int .i64 k]).run Tryz.prog w = .ok (.int .i64 m) w := by
  rw [h]
  go_simp
  split <;> omega

theorem run_cv (e : Nat) (he : e ≤ 32768) (w : World) : (convert 3 46 (.int .i64 (e : Int))).run Tryz.prog w = .ok (.int .u64 (e : Int)) w := by
  go_simp
  unfold IntKind.wrap
  simp [IntKind.bits, IntKind.signed]
  omega
end Go.Proofs.YtahfmcdhcbfkaaaGreatDoor
namespace Go.Proofs.YtahfmcdhcbfkaaaGreatDoor
open Go.RowKit SyM LzM Mem Go.Lib
attribute [local go_sem ↓] Go.wp_at_zero Go.wp_at_succ
set_option linter.unusedVariables false

/-- a table of pairs lies in a block -/
def TabG (w : World) (g : Nat) (R : List (Nat × Nat)) : Prop := ∀ i, i < R.length → w.cell? ⟨g, i * 2, none⟩ = some (.int .i64 (least R i : Int)) ∧ w.cell? ⟨g, i * 2 + 1, none⟩ = some (.int .i64 (wid R i : Int))
/-- the program's tables lie in their variables -/
def Gl (w : World) : Prop := TabG w 0 lens ∧ TabG w 1 dists
/-- the tables lie below this block -/
def top7 : Nat := max 0 1 + 1
theorem TabG.fr {S : Nat → Prop} {w w' : World} {g : Nat} {R : List (Nat × Nat)} (h : TabG w g R) (hf : Fr S w w') (hg : ¬ S g) : TabG w' g R := fun i hi => ⟨hf.cell (h i hi).1 hg, hf.cell (h i hi).2 hg⟩
theorem Gl.fr0 {w w' : World} (h : Gl w) (hf : Fr (fun _ => False) w w') : Gl w' := ⟨h.1.fr hf (fun h => h), h.2.fr hf (fun h => h)⟩
theorem Gl.size {w : World} (h : Gl w) : top7 ≤ w.heap.size := by
  have h1 : (⟨0, 0 * 2, none⟩ : Addr).block < w.heap.size := World.block_lt_of_cell? w ⟨0, 0 * 2, none⟩ (h.1 0 (by decide)).1
  have h2 : (⟨1, 0 * 2, none⟩ : Addr).block < w.heap.size := World.block_lt_of_cell? w ⟨1, 0 * 2, none⟩ (h.2 0 (by decide)).1
  simp at h1 h2
  unfold top7
  omega

theorem clamp_any (n lo hi : Int) (w : World) : Calls Tryz.prog 72 #[.int .i64 n, .int .i64 lo, .int .i64 hi] w fun e w' => e = .returned (.int .i64 (clampI n lo hi)) ∧ w = w' := by
  obtain ⟨m, hm⟩ : ∃ m, m = max n lo := ⟨_, rfl⟩
  obtain ⟨c, hc⟩ : ∃ c, c = min m hi := ⟨_, rfl⟩
  have hcl : clampI n lo hi = c := by unfold clampI; omega
  rw [hcl]
  have q1 := run_max7 n lo m hm
  have q2 := run_min7 m hi c hc
  clear hm hc hcl
  go_enter Tryz.func72, Tryz.ntmps72
  go_wp2_with fail
  go_ret
  exact ⟨rfl, rfl⟩

set_option maxRecDepth 100000 in
theorem len1_any (i p n : Nat) (w : World) (hG : TabG w 0 lens) (hi : i < 29) (hp : w.cell? ⟨p, 0, none⟩ = some (.int .i64 (n : Int))) :
    Calls Tryz.prog 74 #[.int .i64 (i : Int), .pointer (some ⟨p, 0, none⟩)] w fun e w' => e = .returned (.bool (decide (n < least lens i))) ∧ Fr (fun _ => False) w w' := by
  obtain ⟨m, hm⟩ : ∃ m, m = least lens i := ⟨_, rfl⟩
  have h0 := (hG i hi).1
  rw [← hm] at h0
  rw [← hm]
  have hii : (i : Int) < 29 := by omega
  clear hG hm
  go_enter Tryz.func74, Tryz.ntmps74
  go_upto_region 1 with fail
  go_still (by kernel_rfl)
  go_wp2_with fail
  go_ret
  exact ⟨rfl, (Fr.refl _ w).drew⟩

set_option maxRecDepth 100000 in
theorem dist1_any (i p n : Nat) (w : World) (hG : TabG w 1 dists) (hi : i < 30) (hp : w.cell? ⟨p, 0, none⟩ = some (.int .i64 (n : Int))) :
    Calls Tryz.prog 76 #[.int .i64 (i : Int), .pointer (some ⟨p, 0, none⟩)] w fun e w' => e = .returned (.bool (decide (n < least dists i))) ∧ Fr (fun _ => False) w w' := by
  obtain ⟨m, hm⟩ : ∃ m, m = least dists i := ⟨_, rfl⟩
  have h0 := (hG i hi).1
  rw [← hm] at h0
  rw [← hm]
  have hii : (i : Int) < 30 := by omega
  clear hG hm
  go_enter Tryz.func76, Tryz.ntmps76
  go_upto_region 1 with fail
  go_still (by kernel_rfl)
  go_wp2_with fail
  go_ret
  exact ⟨rfl, (Fr.refl _ w).drew⟩

end Go.Proofs.YtahfmcdhcbfkaaaGreatDoor
namespace Go.Proofs.YtahfmcdhcbfkaaaGreatDoor
open Go.RowKit Mem Go.Lib
set_option linter.unusedVariables false

theorem store_st {P : Program} {ty : TypeId} {n : Nat} (hs : (P.info? ty).map (·.size) = some n) {ops : Array Oper} {rest : List Oper} {op : Oper} {a : Act} {w : World} {Q : Exit → Act → World → Prop} (hgd : op.guard = none) (x y : Operand) (ho : op.op = .store ty x y)
    (g : Nat) (hx : a.eval x = .pointer (some ⟨g, 0, none⟩)) (L : List Value) (hy : a.eval y = .agg L.toArray) (old : Array Value) (t : TypeId) (hb : w.heap[g]? = some (.cells old t (0, 0))) (hn : L.length = n) (ho2 : old.size = n) (h1 : L.toArray.all (·.oneCell') = true)
    (h : ∀ w', Row w' g t L → Fr (fun b => b = g) w w' → wpList P ops Q rest (a.put op.dst undef) w') : wpList P ops Q (op :: rest) a w := by
  refine wpList_plain hgd fun K hK => ?_
  unfold Oper.wp execOp
  simp only [ho, hx, hy, Instr.storeAt, Instr.sureAddr, Sem.run_bind, Sem.run_pure, Result.andThen_ok, run_storeVar_row w g t ty old L.toArray hb (by rw [hs]; simp [hn]) (by rw [ho2]; simp [hn]) h1]
  exact hK _ _ (h _ (setRow_heap w g old L.toArray t (0, 0) hb) ⟨rfl, rfl, rfl, by simp [World.setRow], fun b _ hs => setRow_other w g b _ hs⟩)
end Go.Proofs.YtahfmcdhcbfkaaaGreatDoor
namespace Go.Proofs.YtahfmcdhcbfkaaaGreatDoor
open Go.RowKit CoM Mem Go.Lib
attribute [local go_sem ↓] Go.wp_at_zero Go.wp_at_succ
set_option linter.unusedVariables false

/-- how often an item tells a length: least, most, bits -/
def spn : List (Nat × Nat × Nat) := [(3, 6, 2), (3, 10, 3), (11, 138, 7)]
/-- the tables lie below this block -/
def top8 : Nat := max 2 3 + 1
/-- how often each tells lies in its variable -/
def GlS (w : World) : Prop := ∀ i a b c : Nat, spn[i]? = some (a, b, c) → w.cell? ⟨3, i * 3, none⟩ = some (.int .i64 (a : Int)) ∧ w.cell? ⟨3, i * 3 + 1, none⟩ = some (.int .i64 (b : Int)) ∧ w.cell? ⟨3, i * 3 + 2, none⟩ = some (.int .i64 (c : Int))
theorem GlS.fr {S : Nat → Prop} {w w' : World} (h : GlS w) (hf : Fr S w w') (hS : ¬ S 3) : GlS w' :=
  fun i a b c hx => ⟨hf.cell (h i a b c hx).1 hS, hf.cell (h i a b c hx).2.1 hS, hf.cell (h i a b c hx).2.2 hS⟩
theorem GlS.fr0 {w w' : World} (h : GlS w) (hf : Fr (fun _ => False) w w') : GlS w' := h.fr hf (fun h => h)
/-- the order of the items' lengths lies in its variable, too -/
def Gl8 (w : World) : Prop := (∀ i x : Nat, ord[i]? = some x → w.cell? ⟨2, i, none⟩ = some (.int .i64 (x : Int))) ∧ GlS w
theorem Gl8.fr {S : Nat → Prop} {w w' : World} (h : Gl8 w) (hf : Fr S w w') (hS : ∀ k, S k → top8 ≤ k) : Gl8 w' :=
  ⟨fun i x hx => hf.cell (h.1 i x hx) (fun h => by have := hS _ h; unfold top8 at this; (simp at this) <;> omega), h.2.fr hf (fun h => by have := hS _ h; unfold top8 at this; omega)⟩
theorem Gl8.fr0 {w w' : World} (h : Gl8 w) (hf : Fr (fun _ => False) w w') : Gl8 w' := h.fr hf (fun _ h => h.elim)
theorem Gl8.size {w : World} (h : Gl8 w) : top8 ≤ w.heap.size := by
  have h1 : (⟨2, 0, none⟩ : Addr).block < w.heap.size := World.block_lt_of_cell? w ⟨2, 0, none⟩ (h.1 0 16 rfl)
  have h2 : (⟨3, 0 * 3, none⟩ : Addr).block < w.heap.size := World.block_lt_of_cell? w ⟨3, 0 * 3, none⟩ (h.2 0 3 6 2 rfl).1
  simp at h1 h2
  unfold top8
  omega

theorem spanSz : (Tryz.prog.info? 140).map (·.size) = some 3 := by kernel_rfl
theorem spv_one (a b c : Nat) : [Value.int .i64 (a : Int), .int .i64 (b : Int), .int .i64 (c : Int)].toArray.all (·.oneCell') = true := by simp [Value.oneCell']
def spv (a b c : Nat) : Value := .agg #[.int .i64 (a : Int), .int .i64 (b : Int), .int .i64 (c : Int)]
set_option maxRecDepth 100000 in
set_option maxHeartbeats 1600000 in
theorem spanOf_any (s k a b c : Nat) (hk : s = 16 + k) (h : spn[k]? = some (a, b, c)) (w : World) (hG : GlS w) :
    Calls Tryz.prog 92 #[.int .i64 (s : Int)] w fun e w' => e = .returned (spv a b c) ∧ Fr (fun _ => False) w w' := by
  have hk3 : k < 3 := (List.getElem?_eq_some_iff.1 h).1
  have hki : (k : Int) < 3 := by omega
  have hsk : (s : Int) - 16 = (k : Int) := by omega
  have hsw : IntKind.i64.wrap ((s : Int) - 16) = (k : Int) := by rw [IntKind.wrap_i64]; omega
  have HG := Lib.hid hG
  have HX := Lib.hid h
  unfold spv
  clear hG h hk hk3
  go_enter Tryz.func92, Tryz.ntmps92
  go_upto_region 1 with fail
  obtain ⟨w1, hw1⟩ : ∃ w1, w1 = w.alloc (.cells #[Value.int .i64 0, .int .i64 0, .int .i64 0] 140) := ⟨_, rfl⟩
  have hr1 : Row w1 w.heap.size 140 [Value.int .i64 0, .int .i64 0, .int .i64 0] := by rw [hw1]; exact Row.new w _ _
  have hf1 : Fr (fun _ => False) w w1 := by rw [hw1]; exact (Fr.refl _ w).alloc _
  obtain ⟨h0, h1, h2⟩ := (HG.out.fr0 hf1) k a b c HX.out
  obtain ⟨r, hr⟩ : ∃ r, r = w.heap.size := ⟨_, rfl⟩
  rw [← hw1]
  rw [← hr] at hr1 ⊢
  have HF1 := Lib.hid hf1
  have HR1 := Lib.hid hr1
  have HRW : Hid (w.heap.size ≤ r) := Lib.hid (by omega)
  clear hw1 hf1 hr1 hr
  go_wp2_with (refine store_st spanSz rfl (.tmp 2) (.tmp 6) rfl r (by rfl) [.int .i64 (a : Int), .int .i64 (b : Int), .int .i64 (c : Int)] (by rfl) _ _ HR1.out rfl rfl (spv_one a b c) ?_)
  intro w4 hr4 hf4
  have HF4 := Lib.hid (HF1.out.trans hf4 (fun b hb h => by have := HRW.out; omega))
  have d0 : w4.cell? ⟨r, 0, none⟩ = some (.int .i64 (a : Int)) := hr4.cell rfl
  have d1 : w4.cell? ⟨r, 1, none⟩ = some (.int .i64 (b : Int)) := hr4.cell rfl
  have d2 : w4.cell? ⟨r, 2, none⟩ = some (.int .i64 (c : Int)) := hr4.cell rfl
  clear hr4 hf4
  go_wp2_with fail
  exact bodyPost_ret (v := .agg #[.int .i64 (a : Int), .int .i64 (b : Int), .int .i64 (c : Int)]) (by simp [results, Tryz.results92, go_sem, d0, d1, d2]) rfl ⟨rfl, HF4.out⟩
end Go.Proofs.YtahfmcdhcbfkaaaGreatDoor
