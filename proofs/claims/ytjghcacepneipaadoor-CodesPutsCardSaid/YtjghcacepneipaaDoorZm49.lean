/-
  Contract of layer 5's reference once (written by gen_once4.py).
  Layer 8's program: Get; all its contracts.
-/
import Derived.Test.YtjghcacepneipaaDoorZm48
import Derived.Test.YtjghcacepneipaaDoorZm44
import Derived.Test.YtjghcacepneipaaDoorZm47
namespace Go.Proofs.YtjghcacepneipaaDoor
open Go.RowKit HuffM Mem Go.Lib
attribute [local go_sem ↓] Go.wp_at_zero Go.wp_at_succ
set_option linter.unusedVariables false

theorem made_int (m : Nat) : madeCells (Value.int .i64 0).cells (m * 1) = Array.replicate m (.int .i64 0) := by
  apply Array.ext_getElem?
  intro i
  by_cases h : i < m
  · simp [madeCells, Value.cells, h, Nat.mod_one]
  · simp [madeCells, Value.cells, h]
theorem sum_le {W : List Nat} (h : ∀ x ∈ W, x ≤ 1073741824) : W.sum ≤ W.length * 1073741824 := by
  induction W with
  | nil => simp
  | cons x W ih =>
    have h1 := ih (fun y hy => h y (List.mem_cons_of_mem _ hy))
    have h2 := h x (List.mem_cons_self ..)
    rw [List.sum_cons, List.length_cons]
    omega
theorem gI_le (W : List Nat) (i : Nat) : (gI W i).length ≤ i := by
  induction i with
  | zero => exact Nat.le_refl _
  | succ i ih =>
    rw [gI_step]
    split
    · rw [List.length_append]; simp; omega
    · omega
theorem good_one {W : List Nat} {l : List Grp} (hl : l = gI W W.length) {s : Nat} (hs : s ∈ sy l) : HuffM.Good l ((once0 W).set s 1) := by
  have h := good0 W
  rw [← hl] at h
  refine ⟨h.nd, fun x hx => by rw [List.length_set]; exact h.lt x hx, fun x hx => ?_⟩
  have hne : s ≠ x := fun e => hx (e ▸ hs)
  have h0 := h.out x hx
  unfold oat at h0 ⊢
  rw [List.getD_eq_getElem?_getD, List.getElem?_set_ne hne, ← List.getD_eq_getElem?_getD]
  exact h0
theorem set_le (W : List Nat) (s t : Nat) : oat ((once0 W).set s 1) t ≤ 1 := by
  unfold oat
  rw [List.getD_eq_getElem?_getD, List.getElem?_set]
  split
  · split
    · exact Nat.le_refl _
    · exact Nat.zero_le _
  · rw [← List.getD_eq_getElem?_getD]
    have := zero_at W.length t
    unfold oat at this
    unfold once0
    omega

theorem onceC_end {w w5 : World} {go n : Nat} {W : List Nat} (hi : Ints w5 go (onceL W)) (hf : Fr (fun _ => False) w w5) (hg : go = w.heap.size) (hW : W.length = n) :
    ∃ A' c', Ending.returned (.slice (some ⟨go, 0, none⟩) n n) = .returned (.slice A' n c') ∧ n ≤ c' ∧ Rd w5 A' n ((onceL W).map natc) ∧ Fr (fun _ => False) w w5 ∧ ∀ ad, A' = some ad → w.heap.size ≤ ad.block ∧ ad.block < w5.heap.size := by
  have hr := hi.rd
  rw [onceL_len, hW] at hr
  refine ⟨_, n, rfl, Nat.le_refl _, hr, hf, fun ad h => ?_⟩
  injection h with h
  subst h
  exact ⟨by show w.heap.size ≤ go; omega, lt_of_heap (show w5.heap[go]? = _ from hi)⟩

set_option maxRecDepth 1000000 in
set_option maxHeartbeats 6400000 in
theorem onceC : OnceC := by
  intro A n c W w hr hc hn hA hW
  have hWn : W.length = n := by simpa using hr.1
  have hmk := mk_int n (by omega) w
  have HR := Lib.hid hr
  have HWN := Lib.hid hWn
  have HW := Lib.hid hW
  clear hr hWn hW hA
  go_enter Tryd.func54, Tryd.ntmps54
  go_wp2_with fail
  obtain ⟨go, hgo⟩ : ∃ go, go = w.heap.size := ⟨_, rfl⟩
  obtain ⟨w1, hw1⟩ : ∃ w1, w.alloc (.cells (Array.replicate n (.int .i64 0)) 3) = w1 := ⟨_, rfl⟩
  have hi1 : Ints w1 go (once0 W) := by
    unfold Ints once0
    rw [← hw1, hgo, HWN.out, List.map_replicate, List.toArray_replicate]
    exact heap_alloc_new w _
  have hf1 : Fr (fun _ => False) w w1 := by rw [← hw1]; exact (Fr.refl _ _).alloc _
  have hgl : go < w1.heap.size := lt_of_heap (show w1.heap[go]? = _ from hi1)
  rw [hw1, ← hgo]
  have HI1 := Lib.hid hi1
  have HF1 := Lib.hid hf1
  have HGO := Lib.hid hgo
  have HR1 := Lib.hid (HR.out.fr hf1 (fun _ _ h => h))
  clear hmk hgo hw1 hi1 hf1
  refine mkg_loop _ _ _ _ _ _ _ _ _ _ _ _ _ _ _ _ _ _ _ _ _ _ _ _ _ _ _ _ _ _ _ _ _ _ _ _ _ _ _ _ _ _ _ _ _ _ _ _ _ _ _ _ _ _ _ _ _ _ _ _ _ _ _ _ _ _ _ _ _ _ _ _ _ _ _ _ _ _ _ _ _ _ _ _ _ _ _ _ _ _ _ _ _ _ _ _ _ _ _ _ _ _ _ _ _ _ _ _ _ _ _ _ _ _ _ _ _ _ _ _ _ _ _ _ _ _ _ _ _ _ _ _ _ _ _ _ _ _ _ _ _ _ _ _ _ _ _ _ _ _ _ _ _ _ _ _ _ _ _ _ _ _ _  A n c go W w1 HR1 HWN.out hn HW.out hgl ?_
  intro A4 q c4 E w2 r5 r17 r18 r19 r20 r21 r22 r23 r24 r25 r26 r27 r28 r29 r30 r31 r32 r33 r34 r35 r36 r37 HO HQ HGS HSy hf2
  have HF2 := Lib.hid hf2
  have HI2 := Lib.hid (HI1.out.fr hf2 (fun h => h))
  have HL := Lib.hid HQ.out.1
  have hqn : q ≤ n := HQ.out.2.1
  have hqc : q ≤ c4 := HQ.out.2.2
  have HGS2 : Hid (gs E = gI W W.length) := Lib.hid (by rw [HGS.out, HWN.out])
  have HSUM : Hid (sumW (gs E) ≤ 1099511627776) := Lib.hid (by
    rw [HGS2.out, gI_sum W W.length (Nat.le_refl _), List.take_length]
    have h1 := sum_le HW.out
    have h2 := HWN.out
    have h3 : W.length * 1073741824 ≤ 1000 * 1073741824 := Nat.mul_le_mul_right _ (by omega)
    omega)
  have HGLEN : Hid ((gI W W.length).length = q) := Lib.hid (by rw [← HGS2.out, gs_len, HL.out])
  have HO0 : Hid ((once0 W).length = n) := Lib.hid (by unfold once0; rw [List.length_replicate, HWN.out])
  clear hf2 HI1 HR HR1 HGS
  by_cases h1 : q = 1
  · obtain ⟨p, hp⟩ : ∃ p, E[0]? = some p := ⟨_, List.getElem?_eq_getElem (by rw [HL.out]; omega)⟩
    obtain ⟨⟨wa, sa⟩, va⟩ := p
    obtain ⟨Aa, ca, e1, hca, hra, hba⟩ := HSy.out _ (List.mem_of_getElem? hp)
    simp only at e1 hca hra
    subst e1
    obtain ⟨g4, hA4, x1, x2⟩ := HO.out.at_ hp
    subst hA4
    have hgm : (⟨wa, sa⟩ : Grp) ∈ gI W W.length := by rw [← HGS2.out]; exact List.mem_map.2 ⟨_, List.mem_of_getElem? hp, rfl⟩
    obtain ⟨_, s, hs1, _, hs2⟩ := gI_w W W.length _ hgm
    simp only at hs2
    subst hs2
    have hsn : s < n := by rw [← HWN.out]; exact hs1
    obtain ⟨ad, u, hAa, hu, hcu⟩ := hra.at_ (show 0 < [s].length by simp)
    subst hAa
    simp at hu
    subst hu
    have hcu2 : w2.cell? ad = some (.int .i64 (s : Int)) := by simpa [Addr.add, natc] using hcu
    have hcell2 : w2.cell? ⟨g4, 1, none⟩ = some (.slice (some ad) 1 ca) := by simpa using x2
    obtain ⟨hco, hfo⟩ := HI2.out.cell (i := s) (by rw [HO0.out]; exact hsn)
    have hset := HI2.out.set s 1
    have hb1 : (s : Int) < (n : Int) := by omega
    have hsy : s ∈ sy (gs E) := by rw [HGS2.out]; exact mem_sy hgm (by simp)
    have hg0 : gat (gI W W.length) 0 = ⟨wa, [s]⟩ := by rw [← HGS2.out]; exact gat_of hp
    have HSET := Lib.hid hset
    have HG1 : Hid (HuffM.Good (gs E) ((once0 W).set s 1)) := Lib.hid (good_one HGS2.out hsy)
    have HT1 : Hid (onceL W = mergeF q (gs E) ((once0 W).set s 1)) := Lib.hid (by
      have h := HGLEN.out
      unfold onceL
      simp only [h, h1, if_pos, hg0, HGS2.out]
      rfl)
    have HNE : Hid ((Value.slice (some ⟨g4, 0, none⟩) E.length c4).ownBlock ≠ some go) := Lib.hid (HO.out.ne HI2.out)
    clear hp hca hra hba x1 x2 hgm hs1 hcu hsy hg0 hset
    obtain ⟨O1, hO1⟩ : ∃ O1, O1 = (once0 W).set s 1 := ⟨_, rfl⟩
    have HOl1 : Hid (O1.length = n) := Lib.hid (by rw [hO1, List.length_set]; exact HO0.out)
    have HB1 : Hid (∀ t, oat O1 t + q ≤ 1002) := Lib.hid (fun t => by have := set_le W s t; rw [hO1]; omega)
    rw [← hO1] at HG1 HT1 HSET
    clear hO1
    have tq : ((q : Int) == 1) = true := by simp; omega
    subst h1
    obtain ⟨w3, hw3⟩ : ∃ w3, w3 = w2.setCell ⟨go, s, none⟩ (.int .i64 1) := ⟨_, rfl⟩
    have hf3 : Fr (fun b => b = go) w2 w3 := by rw [hw3]; exact (Fr.refl (fun b => b = go) w2).setCell (p := ⟨go, s, none⟩) (fun _ => rfl) _
    have HSET3 : Hid (Ints w3 go O1) := Lib.hid (by rw [hw3]; exact HSET.out)
    have HO3 : Hid (OwnG w3 w1.heap.size (some ⟨g4, 0, none⟩) c4 E) := Lib.hid (HO.out.fr hf3 (fun k hk e => HNE.out (by rw [hk, e])))
    have HSy3 := Lib.hid (HSy.out.fr hf3 (fun b e => by omega))
    have HF3 := Lib.hid ((HF2.out.mono (T := fun b => b = go) (fun _ _ h => h.elim)).trans hf3 (fun _ _ h => h))
    have HW3 := Lib.hid hw3
    clear hf3 HSET hw3
    go_wp2_with fail
    rw [← HW3.out]
    refine joins_loop _ _ _ _ _ _ _ _ _ _ _ _ _ _ _ _ _ _ _ _ _ _ _ _ _ _ _ _ _ _ _ _ _ _ _ _ _ _ _ _ _ _ _ _ _ _ _ _ _ _ _ _ _ _ _ _ _ _ _ _ _ _ _ _ _ _ _ _ _ _ _ _ _ _ _ _ _ _ _ _ _ _ _ _ _ _ _ _ _ _ _ _ _ _ _ _ _ _ _ _ _ _ _ _ _ _ _ _ _ _ _ _ _ _ _ _ _ _ _ _ _ _ _ _ _ _ _ _ _ _ _ _ _ _ _ _ _ _ _ _ _ _ _ _ _ _ _ _ _ _ _ _ _ _ _ _ _ _ _ _ _ _ _ _  (some ⟨g4, 0, none⟩) 1 c4 go n w1.heap.size E O1 (onceL W) w3 (by omega) hqc HL HO3 HF3.out.size HSy3 HSET3 HG1 HOl1 hn HB1 HSUM HT1 ?_
    intro w5 r4 r6 r7 r8 r9 r10 r11 r12 r13 r49 r50 r51 r52 r53 r54 r55 r56 r57 r58 r59 r60 r61 r62 r63 r64 r65 r66 r67 r68 r69 r70 r71 r72 r73 r74 r75 r76 r77 r78 r79 r80 r81 r82 r83 r84 r85 r86 r87 r88 r89 r90 r91 r92 r93 r94 r95 r96 r97 r98 r99 r100 r101 r102 r103 r104 r105 r106 r107 r108 r109 r110 r111 r112 r113 r114 r115 r116 r117 r118 r119 r120 r121 r122 r123 r124 r125 r126 r127 r128 r129 r130 r131 r132 r133 r134 r135 r136 r137 r138 r139 r140 r141 r142 r143 r144 r145 r146 r147 r148 r149 r150 r151 r152 r153 r154 r155 r156 r157 r158 r159 r160 r161 r162 r163 HI5 hf5
    have hfw : Fr (fun _ => False) w w5 := (HF1.out.trans HF3.out (fun b hb e => by have := HGO.out; omega)).trans hf5 (fun b hb e => by have := HGO.out; omega)
    have HFW := Lib.hid hfw
    clear hf5 hfw
    go_wp2_with fail
    go_ret
    exact onceC_end HI5.out HFW.out HGO.out HWN.out
  · have tq : ((q : Int) == 1) = false := by simp; omega
    have HT1 : Hid (onceL W = mergeF q (gs E) (once0 W)) := Lib.hid (by
      have h := HGLEN.out
      unfold onceL
      simp only [h, if_neg h1, HGS2.out])
    have HG1 : Hid (HuffM.Good (gs E) (once0 W)) := Lib.hid (by rw [HGS2.out]; exact good0 W)
    have HB1 : Hid (∀ t, oat (once0 W) t + q ≤ 1002) := Lib.hid (fun t => by unfold once0; rw [zero_at]; omega)
    go_wp2_with fail
    refine joins_loop _ _ _ _ _ _ _ _ _ _ _ _ _ _ _ _ _ _ _ _ _ _ _ _ _ _ _ _ _ _ _ _ _ _ _ _ _ _ _ _ _ _ _ _ _ _ _ _ _ _ _ _ _ _ _ _ _ _ _ _ _ _ _ _ _ _ _ _ _ _ _ _ _ _ _ _ _ _ _ _ _ _ _ _ _ _ _ _ _ _ _ _ _ _ _ _ _ _ _ _ _ _ _ _ _ _ _ _ _ _ _ _ _ _ _ _ _ _ _ _ _ _ _ _ _ _ _ _ _ _ _ _ _ _ _ _ _ _ _ _ _ _ _ _ _ _ _ _ _ _ _ _ _ _ _ _ _ _ _ _ _ _ _ _  A4 q c4 go n w1.heap.size E (once0 W) (onceL W) w2 (by omega) hqc HL HO HF2.out.size HSy HI2 HG1 HO0 hn HB1 HSUM HT1 ?_
    intro w5 r4 r6 r7 r8 r9 r10 r11 r12 r13 r49 r50 r51 r52 r53 r54 r55 r56 r57 r58 r59 r60 r61 r62 r63 r64 r65 r66 r67 r68 r69 r70 r71 r72 r73 r74 r75 r76 r77 r78 r79 r80 r81 r82 r83 r84 r85 r86 r87 r88 r89 r90 r91 r92 r93 r94 r95 r96 r97 r98 r99 r100 r101 r102 r103 r104 r105 r106 r107 r108 r109 r110 r111 r112 r113 r114 r115 r116 r117 r118 r119 r120 r121 r122 r123 r124 r125 r126 r127 r128 r129 r130 r131 r132 r133 r134 r135 r136 r137 r138 r139 r140 r141 r142 r143 r144 r145 r146 r147 r148 r149 r150 r151 r152 r153 r154 r155 r156 r157 r158 r159 r160 r161 r162 r163 HI5 hf5
    have hfw : Fr (fun _ => False) w w5 := ((HF1.out.trans HF2.out (fun _ _ h => h)).trans hf5 (fun b hb e => by have := HGO.out; omega))
    have HFW := Lib.hid hfw
    clear hf5 hfw
    go_wp2_with fail
    go_ret
    exact onceC_end HI5.out HFW.out HGO.out HWN.out
end Go.Proofs.YtjghcacepneipaaDoor
namespace Go.Proofs.YtjghcacepneipaaDoor
open Go.RowKit CoM BitsM HuffM Mem Go.Lib
attribute [local go_sem ↓] Go.wp_at_zero Go.wp_at_succ
set_option linter.unusedVariables false
set_option maxRecDepth 100000

theorem readerSz : (Tryd.prog.info? 71).map (·.size) = some 2 := by kernel_rfl
theorem rdr_one (A : Option Addr) (n c : Nat) (p : Int) : [Value.slice A n c, .int .i64 p].toArray.all (·.oneCell') = true := by simp [Value.oneCell']
set_option maxHeartbeats 3200000 in
theorem pGet_any (r c p : Nat) (A : Option Addr) (B : List UInt8) (w : World) (hG : Gl8 w) (hr2 : 2 ≤ r) (h : Re w r A c B p) (hB : B.length ≤ 1000000) :
    Calls Tryd.prog 20 #[.pointer (some ⟨r, 0, none⟩)] w fun e w' => ∃ p', Re w' r A c B p' ∧ Fr (fun k => k = r) w w' ∧ GotP w.heap.size (bitsOf B) w' e p' (getB ((bitsOf B).drop p)) := by
  obtain ⟨RES, hRES⟩ : ∃ R, R = getB ((bitsOf B).drop p) := ⟨_, rfl⟩
  rw [← hRES]
  have HRES := Lib.hid hRES
  have hrow : Row w r 71 [.slice A B.length c, .int .i64 (p : Int)] := h.1
  have c0 : w.cell? ⟨r, 0, none⟩ = some (.slice A B.length c) := hrow.cell rfl
  have c1 : w.cell? ⟨r, 1, none⟩ = some (.int .i64 (p : Int)) := hrow.cell rfl
  have HRE := Lib.hid h
  have HG := Lib.hid hG
  have HR2 := Lib.hid hr2
  clear hRES hrow h hG hr2
  go_enter Tryd.func20, Tryd.ntmps20
  go_upto_region 2 with fail
  obtain ⟨w1, hw1⟩ : ∃ w1, w1 = w.alloc (.cells #[Value.slice A B.length c, .int .i64 (p : Int)] 71) := ⟨_, rfl⟩
  have hr1 : Row w1 w.heap.size 71 [Value.slice A B.length c, .int .i64 (p : Int)] := by rw [hw1]; exact Row.new w _ _
  have hf1 : Fr (fun _ => False) w w1 := by rw [hw1]; exact (Fr.refl _ w).alloc _
  obtain ⟨q, hq⟩ : ∃ q, q = w.heap.size := ⟨_, rfl⟩
  rw [← hw1]
  rw [← hq] at hr1 ⊢
  have HR1 := Lib.hid hr1
  have HF1 := Lib.hid hf1
  have HQR : Hid (q ≠ r) := Lib.hid (by have := HRE.out.lt.1; omega)
  have HRD : Hid (Calls Tryd.prog 42 #[.pointer (some ⟨r, 0, none⟩)] w1 fun e w' => ReadP w1.heap.size w' e r c A B RES ∧ Fr (fun k => k = r) w1 w') := Lib.hid (by
    rw [HRES.out]
    exact read_any r c p A B w1 (HG.out.fr0 hf1) (HRE.out.fr hf1 (fun h => h) (fun _ _ h => h)) HR2.out hB)
  clear hw1 hr1 hf1 hq c0 c1
  go_wp2_with fail
  refine HRD.out.mono ?_
  rintro e w2 ⟨hrp, hf2⟩
  have HF2 : Hid (Fr (fun k => k = r) w w2) := Lib.hid ((Fr.none HF1.out).trans hf2 (fun _ _ h => h))
  have hr2 := Row.fr HR1.out hf2 (fun h => HQR.out h)
  have HSZ := Lib.hid HF1.out.size
  cases RES with
  | none =>
    obtain ⟨p', rfl, hre⟩ := hrp
    have d0 : w2.cell? ⟨q, 0, none⟩ = some (.slice A B.length c) := hr2.cell rfl
    have d1 : w2.cell? ⟨q, 1, none⟩ = some (.int .i64 (p : Int)) := hr2.cell rfl
    have HRE2 := Lib.hid hre
    clear hre hr2 hf2 HRD
    go_wp2_with (refine store_st readerSz rfl (.tmp 22) (.tmp 21) rfl r (by rfl) [.slice A B.length c, .int .i64 (p : Int)] (by rfl) _ _ HRE2.out.1 rfl rfl (rdr_one A B.length c (p : Int)) ?_)
    intro w3 hr3 hf3
    have HRE3 : Hid (Re w3 r A c B p) := Lib.hid ⟨hr3, hf3.own HRE2.out.2.1 (fun k hk h => own_ne HRE2.out.2.1 HRE2.out.1 (by decide) (by rw [hk, h])), HRE.out.2.2⟩
    have HF3 := Lib.hid (HF2.out.trans hf3 (fun _ _ h => h))
    clear hr3 hf3 d0 d1
    go_wp2_with fail
    exact bodyPost_ret (v := .tuple #[.slice none 0 0, .slice none 0 0, .bool false]) (by simp [results, Tryd.results20, go_sem]) rfl
      ⟨p, HRE3.out, HF3.out, none, 0, none, 0, rfl⟩
  | some uvr =>
    obtain ⟨u, v, rest⟩ := uvr
    obtain ⟨A1, A2, p', rfl, h1, h2, h3, h4, h5, hre⟩ := hrp
    obtain ⟨nu, hnu⟩ : ∃ n, n = u.length := ⟨_, rfl⟩
    obtain ⟨nv, hnv⟩ : ∃ n, n = v.length := ⟨_, rfl⟩
    have HX : Hid (GotP w.heap.size (bitsOf B) w2 (.returned (.tuple #[.slice A1 nu nu, .slice A2 nv nv, .bool true])) p' (some (u, v, rest))) := Lib.hid ⟨A1, nu, A2, nv, by rw [hnu, hnv], by omega, by omega, h1, h2, fun ad h => Nat.le_trans HSZ.out (h3 ad h), fun ad h => Nat.le_trans HSZ.out (h4 ad h), h5⟩
    have HRE2 := Lib.hid hre
    rw [← hnu, ← hnv]
    clear hre hr2 hf2 HRD h1 h2 h3 h4 h5 hnu hnv
    go_wp2_with fail
    exact bodyPost_ret (v := .tuple #[.slice A1 nu nu, .slice A2 nv nv, .bool true]) (by simp [results, Tryd.results20, go_sem]) rfl
      ⟨p', HRE2.out, HF2.out, HX.out⟩
/-- the program's contracts -/
theorem codesC : CodesC 2 Gl8 where
  fr := fun h hf hS => h.fr hf hS
  size := fun h => h.size
  press := fun w hG => pPress_any w hG.2
  put := fun g c A bs A1 A2 n1 c1 n2 c2 X Y w hG h1 h2 h3 h4 h5 h6 h7 h8 h9 h10 h11 h12 h13 h14 h15 h16 => pPut8_any g c A bs A1 A2 n1 c1 n2 c2 X Y w hG h1 h2 h3 h4 h5 h6 h7 h8 h9 h10 h11 h12 h13 h14 h15 h16
  get := fun r c p A B w hG h1 h2 h3 => pGet_any r c p A B w hG h1 h2 h3
/-- the reference's Lengths -/
theorem refLens8 : LensC 35 := rLengths_any onceC
end Go.Proofs.YtjghcacepneipaaDoor
