/-
  The main loop of layer 5's reference once: groups are joined as long as there are two (written by gen_once3.py).
  Contract of layer 5's reference once (written by gen_once4.py).
-/
import Derived.Test.YtahfmcdhcbfkaaaDoorZm45
import Derived.Deep.CutRange
namespace Go.Proofs.YtahfmcdhcbfkaaaDoor
open Go.RowKit HuffM Mem Go.Lib
attribute [local go_sem ↓] Go.wp_at_zero Go.wp_at_succ
set_option linter.unusedVariables false

theorem gs_len (E : List (Grp × Value)) : (gs E).length = E.length := by simp [gs]
theorem OwnG.base {w : World} {b b' c : Nat} {A : Option Addr} {E : List (Grp × Value)} (h : OwnG w b A c E) (hb : b' ≤ b) : OwnG w b' A c E := own_base h hb
theorem OwnG.fr {S : Nat → Prop} {w w' : World} {b c : Nat} {A : Option Addr} {E : List (Grp × Value)} (h : OwnG w b A c E) (hf : Fr S w w') (hS : ∀ k, (Value.slice A E.length c).ownBlock = some k → ¬ S k) : OwnG w' b A c E := hf.own h hS
theorem Ints.fr {S : Nat → Prop} {w w' : World} {g : Nat} {l : List Nat} (h : Ints w g l) (hf : Fr S w w') (hS : ¬ S g) : Ints w' g l := hf.blk h hS
/-- a row of groups doesn't lie where ints lie -/
theorem OwnG.ne {w : World} {b c g : Nat} {A : Option Addr} {E : List (Grp × Value)} {l : List Nat} (h : OwnG w b A c E) (hi : Ints w g l) : (Value.slice A E.length c).ownBlock ≠ some g := own_ne h hi (by decide)
theorem merge_step {f : Nat} {l : List Grp} {o : List Nat} (h : 2 ≤ l.length) : mergeF (f + 1) l o = mergeF f (joinG l) (incs o (grp l).s) := by rw [mergeF, if_neg (by omega)]
theorem nodup_le : ∀ (n : Nat) {S : List Nat}, S.Nodup → (∀ s ∈ S, s < n) → S.length ≤ n
  | 0, S, _, h => by
    cases S with
    | nil => exact Nat.le_refl _
    | cons a S => have := h a (List.mem_cons_self ..); omega
  | n + 1, S, hn, h => by
    by_cases hm : n ∈ S
    · have h1 := nodup_le n (hn.erase n) (fun s hs => by
        have h2 := h s (List.mem_of_mem_erase hs)
        have h3 : s ≠ n := fun e => hn.not_mem_erase (e ▸ hs)
        omega)
      rw [List.length_erase_of_mem hm] at h1
      omega
    · have h1 := nodup_le n hn (fun s hs => by
        have h2 := h s hs
        have h3 : s ≠ n := fun e => hm (e ▸ hs)
        omega)
      omega

theorem inc_ge (o : List Nat) (s t : Nat) : oat o t ≤ oat (inc o s) t := by
  by_cases hs : s < o.length
  · rw [inc_at o s t hs]; split <;> omega
  · unfold inc
    rw [List.set_eq_of_length_le (by omega)]
    exact Nat.le_refl _
theorem incs_ge (o S : List Nat) (t : Nat) : oat o t ≤ oat (incs o S) t := by
  induction S generalizing o with
  | nil => exact Nat.le_refl _
  | cons s S ih => exact Nat.le_trans (inc_ge o s t) (ih (inc o s))
set_option maxRecDepth 1000000 in
noncomputable def joinsBody : Code := ((Tryd.f68.body.bind (loopAt 34)).getD .skip)
set_option maxRecDepth 1000000 in
set_option maxHeartbeats 6400000 in
theorem joins_loop (Q0 : Exit → Act → World → Prop) (s0 s1 s2 s5 s6 s7 s8 s9 s10 s11 s12 s13 s14 s15 s16 s17 s18 s19 s20 s21 s22 s23 s24 s25 s26 s27 s28 s29 s30 s31 s32 s33 s34 s35 s36 s37 s38 s39 s40 s41 s42 s43 s44 s45 s46 s47 s48 s49 s50 s51 s52 s53 s54 s55 s56 s57 s58 s59 s60 s61 s62 s63 s64 s65 s66 s67 s68 s69 s70 s71 s72 s73 s74 s75 s76 s77 s78 s79 s80 s81 s82 s83 s84 s85 s86 s87 s88 s89 s90 s91 s92 s93 s94 s95 s96 s97 s98 s99 s100 s101 s102 s103 s104 s105 s106 s107 s108 s109 s110 s111 s112 s113 s114 s115 s116 s117 s118 s119 s120 s121 s122 s123 s124 s125 s126 s127 s128 s129 s130 s131 s132 s133 s134 s135 s136 s137 s138 s139 s140 s141 s142 s143 s144 s145 s146 s147 s148 s149 s150 s151 s152 s153 s154 s155 s156 s157 s158 s159 s160 s161 s162 s163 s164 : Value) (A4 : Option Addr) (nl c4 go n base : Nat) (E : List (Grp × Value)) (O T : List Nat) (w0 : World)
    (hnl : nl ≤ 1000) (hc4 : nl ≤ c4) (HL : Hid (E.length = nl)) (HO : Hid (OwnG w0 base A4 c4 E)) (hbase : base ≤ w0.heap.size) (HSy : Hid (SymOk w0 go E)) (HI : Hid (Ints w0 go O)) (HG : Hid (HuffM.Good (gs E) O)) (HOl : Hid (O.length = n)) (hn : n ≤ 1000)
    (HB : Hid (∀ t, oat O t + nl ≤ 1002)) (HS : Hid (sumW (gs E) ≤ 1099511627776)) (HT : Hid (T = mergeF nl (gs E) O))
    (hexit : ∀ (w'' : World) (r4 r6 r7 r8 r9 r10 r11 r12 r13 r49 r50 r51 r52 r53 r54 r55 r56 r57 r58 r59 r60 r61 r62 r63 r64 r65 r66 r67 r68 r69 r70 r71 r72 r73 r74 r75 r76 r77 r78 r79 r80 r81 r82 r83 r84 r85 r86 r87 r88 r89 r90 r91 r92 r93 r94 r95 r96 r97 r98 r99 r100 r101 r102 r103 r104 r105 r106 r107 r108 r109 r110 r111 r112 r113 r114 r115 r116 r117 r118 r119 r120 r121 r122 r123 r124 r125 r126 r127 r128 r129 r130 r131 r132 r133 r134 r135 r136 r137 r138 r139 r140 r141 r142 r143 r144 r145 r146 r147 r148 r149 r150 r151 r152 r153 r154 r155 r156 r157 r158 r159 r160 r161 r162 r163 : Value), Hid (Ints w'' go T) → Fr (fun b => b = go) w0 w'' → Q0 (.exit 2) ⟨List.toArray (s0 :: s1 :: s2 :: .slice (some ⟨go, 0, none⟩) n n :: r4 :: s5 :: r6 :: r7 :: r8 :: r9 :: r10 :: r11 :: r12 :: r13 :: s14 :: s15 :: s16 :: s17 :: s18 :: s19 :: s20 :: s21 :: s22 :: s23 :: s24 :: s25 :: s26 :: s27 :: s28 :: s29 :: s30 :: s31 :: s32 :: s33 :: s34 :: s35 :: s36 :: s37 :: s38 :: s39 :: s40 :: s41 :: s42 :: s43 :: s44 :: s45 :: s46 :: s47 :: s48 :: r49 :: r50 :: r51 :: r52 :: r53 :: r54 :: r55 :: r56 :: r57 :: r58 :: r59 :: r60 :: r61 :: r62 :: r63 :: r64 :: r65 :: r66 :: r67 :: r68 :: r69 :: r70 :: r71 :: r72 :: r73 :: r74 :: r75 :: r76 :: r77 :: r78 :: r79 :: r80 :: r81 :: r82 :: r83 :: r84 :: r85 :: r86 :: r87 :: r88 :: r89 :: r90 :: r91 :: r92 :: r93 :: r94 :: r95 :: r96 :: r97 :: r98 :: r99 :: r100 :: r101 :: r102 :: r103 :: r104 :: r105 :: r106 :: r107 :: r108 :: r109 :: r110 :: r111 :: r112 :: r113 :: r114 :: r115 :: r116 :: r117 :: r118 :: r119 :: r120 :: r121 :: r122 :: r123 :: r124 :: r125 :: r126 :: r127 :: r128 :: r129 :: r130 :: r131 :: r132 :: r133 :: r134 :: r135 :: r136 :: r137 :: r138 :: r139 :: r140 :: r141 :: r142 :: r143 :: r144 :: r145 :: r146 :: r147 :: r148 :: r149 :: r150 :: r151 :: r152 :: r153 :: r154 :: r155 :: r156 :: r157 :: r158 :: r159 :: r160 :: r161 :: r162 :: r163 :: s164 :: []), []⟩ w'') :
    Code.wp Tryd.prog (Code.loop joinsBody) Q0 ⟨List.toArray (s0 :: s1 :: s2 :: .slice (some ⟨go, 0, none⟩) n n :: .slice A4 nl c4 :: s5 :: s6 :: s7 :: s8 :: s9 :: s10 :: s11 :: s12 :: s13 :: s14 :: s15 :: s16 :: s17 :: s18 :: s19 :: s20 :: s21 :: s22 :: s23 :: s24 :: s25 :: s26 :: s27 :: s28 :: s29 :: s30 :: s31 :: s32 :: s33 :: s34 :: s35 :: s36 :: s37 :: s38 :: s39 :: s40 :: s41 :: s42 :: s43 :: s44 :: s45 :: s46 :: s47 :: s48 :: s49 :: s50 :: s51 :: s52 :: s53 :: s54 :: s55 :: s56 :: s57 :: s58 :: s59 :: s60 :: s61 :: s62 :: s63 :: s64 :: s65 :: s66 :: s67 :: s68 :: s69 :: s70 :: s71 :: s72 :: s73 :: s74 :: s75 :: s76 :: s77 :: s78 :: s79 :: s80 :: s81 :: s82 :: s83 :: s84 :: s85 :: s86 :: s87 :: s88 :: s89 :: s90 :: s91 :: s92 :: s93 :: s94 :: s95 :: s96 :: s97 :: s98 :: s99 :: s100 :: s101 :: s102 :: s103 :: s104 :: s105 :: s106 :: s107 :: s108 :: s109 :: s110 :: s111 :: s112 :: s113 :: s114 :: s115 :: s116 :: s117 :: s118 :: s119 :: s120 :: s121 :: s122 :: s123 :: s124 :: s125 :: s126 :: s127 :: s128 :: s129 :: s130 :: s131 :: s132 :: s133 :: s134 :: s135 :: s136 :: s137 :: s138 :: s139 :: s140 :: s141 :: s142 :: s143 :: s144 :: s145 :: s146 :: s147 :: s148 :: s149 :: s150 :: s151 :: s152 :: s153 :: s154 :: s155 :: s156 :: s157 :: s158 :: s159 :: s160 :: s161 :: s162 :: s163 :: s164 :: []), []⟩ w0 := by
  conv => arg 2; arg 1; whnf
  go_loopw [4] (fun v wr => ∃ (m c' : Nat) (A' : Option Addr) (E' : List (Grp × Value)) (O' : List Nat), v = .slice A' m c' ∧ m ≤ 1000 ∧ m ≤ c' ∧ Hid (E'.length = m) ∧ Hid (OwnG wr base A' c' E') ∧ Hid (SymOk wr go E') ∧ Hid (Ints wr go O') ∧ Hid (HuffM.Good (gs E') O') ∧ Hid (O'.length = n) ∧ Hid (∀ t, oat O' t + m ≤ 1002) ∧ Hid (sumW (gs E') ≤ 1099511627776) ∧ Hid (T = mergeF m (gs E') O') ∧ Fr (fun b => b = go) w0 wr)
    (fun v _ => match v with | .slice _ m _ => m | _ => 0)
  case atStart => exact ⟨nl, c4, A4, E, O, rfl, hnl, hc4, HL, HO, HSy, HI, HG, HOl, HB, HS, HT, Fr.refl _ _⟩
  case round =>
    obtain ⟨m, c5, A5, E5, O5, rfl, hm, hc5, HL5, HO5, HSy5, HI5, HG5, HOl5, HB5, HS5, HT5, hfr⟩ := hrel
    clear HL HO HSy HI HG HOl HB HS HT hnl hc4
    by_cases h2 : 1 < m
    · have hgl : (gs E5).length = m := by rw [gs_len, HL5.out]
      obtain ⟨k1, k2, k3, _, _⟩ := pick (l := gs E5) (by omega)
      obtain ⟨ja, hja⟩ : ∃ ja, ja = pa (gs E5) := ⟨_, rfl⟩
      obtain ⟨jb, hjb⟩ : ∃ jb, jb = pb (gs E5) := ⟨_, rfl⟩
      have hja2 : aI (gs E5) m = ja := by rw [hja, pa, hgl]
      have hbv : bval (bI (gs E5) ja m) = (jb : Int) := by
        have hh : bI (gs E5) (pa (gs E5)) (gs E5).length ≠ none := by
          intro h
          have h0 := bI_none h 0 (by omega)
          have h1 := bI_none h 1 (by omega)
          omega
        rw [hgl, ← hja] at hh
        rw [hjb, pb, hgl, ← hja]
        cases hb : bI (gs E5) ja m with
        | none => exact absurd hb hh
        | some b => rfl
      have hjam : ja < m := by rw [hja]; omega
      have hjbm : jb < m := by rw [hjb]; omega
      obtain ⟨p, hp⟩ : ∃ p, E5[ja]? = some p := ⟨_, List.getElem?_eq_getElem (by rw [HL5.out]; exact hjam)⟩
      obtain ⟨q, hq⟩ : ∃ q, E5[jb]? = some q := ⟨_, List.getElem?_eq_getElem (by rw [HL5.out]; exact hjbm)⟩
      obtain ⟨⟨wa, sa⟩, va⟩ := p
      obtain ⟨⟨wb, sb⟩, vb⟩ := q
      obtain ⟨Aa, ca, e1, hca, hra, hba⟩ := HSy5.out _ (List.mem_of_getElem? hp)
      obtain ⟨Ab, cb, e2, hcb, hrb, hbb⟩ := HSy5.out _ (List.mem_of_getElem? hq)
      simp only at e1 e2 hca hcb hra hrb
      subst e1 e2
      obtain ⟨g5, hA5, x1, x2⟩ := HO5.out.at_ hp
      obtain ⟨g5', hA5', y1, y2⟩ := HO5.out.at_ hq
      obtain rfl : g5 = g5' := by rw [hA5] at hA5'; injection hA5' with h; injection h
      subst hA5
      simp only at x1 x2 y1 y2
      unfold natc at x1 y1
      have hgr : grp (gs E5) = ⟨wa + wb, sa ++ sb⟩ := by
        unfold grp wt
        rw [← hja, ← hjb, gat_of hp, gat_of hq]
      have hmem : ∀ s ∈ sa ++ sb, s ∈ sy (gs E5) := by
        intro s hs
        rcases List.mem_append.1 hs with h | h
        · exact mem_sy (g := ⟨wa, sa⟩) (List.mem_map.2 ⟨_, List.mem_of_getElem? hp, rfl⟩) h
        · exact mem_sy (g := ⟨wb, sb⟩) (List.mem_map.2 ⟨_, List.mem_of_getElem? hq, rfl⟩) h
      obtain ⟨hgd, hin, hout⟩ := HG5.out.join (by omega : 2 ≤ (gs E5).length)
      rw [hgr] at hgd hin hout
      simp only at hgd hin hout
      have hlt : ∀ s ∈ sa ++ sb, s < n := fun s hs => by have := HG5.out.lt s (hmem s hs); rw [HOl5.out] at this; exact this
      have hnd : (sa ++ sb).Nodup := by
        have h := (sy_join (by omega : 2 ≤ (gs E5).length)).nodup_iff.2 HG5.out.nd
        unfold joinG sy at h
        rw [List.flatMap_append, List.nodup_append] at h
        have h3 := h.2.1
        rw [hgr] at h3
        simpa using h3
      have hlen : (sa ++ sb).length ≤ n := nodup_le n hnd hlt
      have hsum : sumW (joinG (gs E5)) ≤ 1099511627776 := by rw [sum_join (by omega)]; exact HS5.out
      have hwab : wa + wb ≤ 1099511627776 := by
        have h := hsum
        unfold joinG sumW at h
        rw [hgr] at h
        simp at h
        omega
      obtain ⟨f, hf⟩ : ∃ f, m = f + 1 := ⟨m - 1, by omega⟩
      have hT2 : T = mergeF f (joinG (gs E5)) (incs O5 (sa ++ sb)) := by rw [HT5.out, hf, merge_step (by omega), hgr]
      have hjG : joinG (gs E5) = rI (gs E5) ja jb m ++ [⟨wa + wb, sa ++ sb⟩] := by rw [joinG, ← hja, ← hjb, hgl, hgr]
      have hO2 : ∀ t, oat (incs O5 (sa ++ sb)) t + f ≤ 1002 - 0 := by
        intro t
        have h1 := HB5.out t
        by_cases ht : t ∈ sa ++ sb
        · rw [hin t ht]; omega
        · rw [hout t ht]; omega
      obtain ⟨S, hS⟩ : ∃ S, S = sa ++ sb := ⟨_, rfl⟩
      obtain ⟨wc, hwc⟩ : ∃ wc, wc = wa + wb := ⟨_, rfl⟩
      have hSl : S.length = sa.length + sb.length := by rw [hS, List.length_append]
      rw [← hS] at hgd hlt hlen hT2 hjG hO2
      rw [← hwc] at hjG hwab
      have HJA := Lib.hid hja2
      have HBV := Lib.hid hbv
      have HRA := Lib.hid hra
      have HRB := Lib.hid hrb
      have HGD := Lib.hid hgd
      have HLT := Lib.hid hlt
      have HLEN := Lib.hid hlen
      have HT2 := Lib.hid hT2
      have HJG := Lib.hid hjG
      have HO2 := Lib.hid hO2
      have HSS := Lib.hid hS
      have HWC := Lib.hid hwc
      have HSL := Lib.hid hSl
      have HSUM := Lib.hid hsum
      have HX := Lib.hid (And.intro x1 (And.intro x2 (And.intro y1 y2)))
      have HM := Lib.hid hf
      have HFR := Lib.hid hfr
      have hmi : (1 : Int) < (m : Int) := by omega
      have hna : sa.length ≤ 1000 := by omega
      have hnb : sb.length ≤ 1000 := by omega
      clear hgl k1 k2 k3 hja hjb hja2 hbv hp hq hca hcb hra hrb hba hbb hA5' x1 x2 y1 y2 hgr hmem hgd hin hout hlt hnd hlen hsum hT2 hjG hO2 hS hwc hSl hf hfr HS5 HT5 HB5
      rename World => wa0
      go_wp2_with fail
      refine pickA_loop _ _ _ _ _ _ _ _ _ _ _ _ _ _ _ _ _ _ _ _ _ _ _ _ _ _ _ _ _ _ _ _ _ _ _ _ _ _ _ _ _ _ _ _ _ _ _ _ _ _ _ _ _ _ _ _ _ _ _ _ _ _ _ _ _ _ _ _ _ _ _ _ _ _ _ _ _ _ _ _ _ _ _ _ _ _ _ _ _ _ _ _ _ _ _ _ _ _ _ _ _ _ _ _ _ _ _ _ _ _ _ _ _ _ _ _ _ _ _ _ _ _ _ _ _ _ _ _ _ _ _ _ _ _ _ _ _ _ _ _ _ _ _ _ _ _ _ _ _ _ _ _ _ _ _ _ _ _ _ _ _ _ _  (some ⟨g5, 0, none⟩) m c5 base E5 wa0 HO5 HL5.out hm hc5 (by omega) ?_
      intro w1 ar7 ar52 ar53 ar54 ar55 ar56 ar57 ar58 ar59 ar60 ar61 ar62 ar63 ar64 ar65 ar66 ar67 ar68 ar69 hf1
      rw [HJA.out]
      have HF1 := Lib.hid hf1
      have HO6 : Hid (OwnG w1 base (some ⟨g5, 0, none⟩) c5 E5) := Lib.hid (HO5.out.fr hf1 (fun _ _ h => h))
      clear hf1
      go_wp2_with fail
      refine pickB_loop _ _ _ _ _ _ _ _ _ _ _ _ _ _ _ _ _ _ _ _ _ _ _ _ _ _ _ _ _ _ _ _ _ _ _ _ _ _ _ _ _ _ _ _ _ _ _ _ _ _ _ _ _ _ _ _ _ _ _ _ _ _ _ _ _ _ _ _ _ _ _ _ _ _ _ _ _ _ _ _ _ _ _ _ _ _ _ _ _ _ _ _ _ _ _ _ _ _ _ _ _ _ _ _ _ _ _ _ _ _ _ _ _ _ _ _ _ _ _ _ _ _ _ _ _ _ _ _ _ _ _ _ _ _ _ _ _ _ _ _ _ _ _ _ _ _ _ _ _ _ _ _ _ _ _ _ _ _ _ _ _ _  (some ⟨g5, 0, none⟩) m c5 base ja E5 w1 HO6 HL5.out hm hc5 hjam ?_
      intro w2 br9 br70 br71 br72 br73 br74 br75 br76 br77 br78 br79 br80 br81 br82 br83 br84 br85 br86 br87 br88 br89 br90 br91 br92 br93 br94 br95 br96 hf2
      rw [HBV.out]
      have HF2 := Lib.hid (HF1.out.trans hf2 (fun _ _ h => h))
      clear hf2 HO6 HF1
      go_upto_region 23 with fail
      obtain ⟨x1, x2, y1, y2⟩ := HX.out
      refine join_region _ _ _ _ _ _ _ _ _ _ _ _ _ _ _ _ _ _ _ _ _ _ _ _ _ _ _ _ _ _ _ _ _ _ _ _ _ _ _ _ _ _ _ _ _ _ _ _ _ _ _ _ _ _ _ _ _ _ _ _ _ _ _ _ _ _ _ _ _ _ _ _ _ _ _ _ _ _ _ _ _ _ _ _ _ _ _ _ _ _ _ _ _ _ _ _ _ _ _ _ _ _ _ _ _ _ _ _ _ _ _ _ _ _ _ _ _ _ _ _ _ _ _ _ _ _ _ _ _ _ _ _ _ _ _ _ _ _ _ _ _ _ _ _ _ _ _ _ _ _ _ _ _ _ _ _ _ _ _ _ _ _ _  g5 m c5 ja jb wa wb wc sa.length ca sb.length cb S.length Aa Ab sa sb S w2 (HF2.out.cell x1 (fun h => h)) (HF2.out.cell x2 (fun h => h)) (HF2.out.cell y1 (fun h => h)) (HF2.out.cell y2 (fun h => h)) hjam hjbm hm (by have := HWC.out; omega) HWC.out (Lib.hid (HRA.out.fr HF2.out (fun _ _ h => h))) (Lib.hid (HRB.out.fr HF2.out (fun _ _ h => h))) hna hnb HSL.out HSS.out ?_
      intro g2 A2 c2 w3 jr97 jr98 jr99 jr100 jr101 jr102 jr103 jr104 jr105 jr106 jr107 jr108 jr109 jr110 jr111 jr112 jr113 jr114 jr115 jr116 jr117 jr118 jr119 jr120 jr121 HBL HOW HC2 HGL HF3
      clear x1 x2 y1 y2 HX HRA HRB
      have hgo : go < wa0.heap.size := lt_of_heap (show wa0.heap[go]? = _ from HI5.out)
      have hg2 : g2 ≠ go := by have := HGL.out; have := HF2.out.size; omega
      have hA2 : ∀ ad, A2 = some ad → ad.block ≠ go := by
        intro ad h
        subst h
        have := (HOW.out.lt ad.block rfl).1
        have := HF2.out.size
        omega
      have hf03 := HF2.out.trans HF3.out (fun _ _ h => h)
      have HI3 := Lib.hid (HI5.out.fr hf03 (fun h => h))
      have HO3 : Hid (OwnG w3 base (some ⟨g5, 0, none⟩) c5 E5) := Lib.hid (HO5.out.fr hf03 (fun _ _ h => h))
      have HSy3 := Lib.hid (HSy5.out.fr hf03 (fun b h => h.elim))
      have hob : ∀ t, oat O5 t ≤ 1000000 := by
        intro t
        have h1 := HO2.out t
        have h2 := HM.out
        by_cases ht : t < O5.length
        · have h3 : oat O5 t ≤ oat (incs O5 S) t := incs_ge O5 S t
          omega
        · unfold oat
          rw [List.getD_eq_getElem?_getD, List.getElem?_eq_none (by omega)]
          simp
      have HF03 := Lib.hid hf03
      have HG2 := Lib.hid hg2
      have HA2 := Lib.hid hA2
      have HOB := Lib.hid hob
      clear hf03 hg2 hA2 HF3 HO5 HSy5 HI5 hob
      go_wp2_with fail
      refine incr_loop _ _ _ _ _ _ _ _ _ _ _ _ _ _ _ _ _ _ _ _ _ _ _ _ _ _ _ _ _ _ _ _ _ _ _ _ _ _ _ _ _ _ _ _ _ _ _ _ _ _ _ _ _ _ _ _ _ _ _ _ _ _ _ _ _ _ _ _ _ _ _ _ _ _ _ _ _ _ _ _ _ _ _ _ _ _ _ _ _ _ _ _ _ _ _ _ _ _ _ _ _ _ _ _ _ _ _ _ _ _ _ _ _ _ _ _ _ _ _ _ _ _ _ _ _ _ _ _ _ _ _ _ _ _ _ _ _ _ _ _ _ _ _ _ _ _ _ _ _ _ _ _ _ _ _ _ _ _ _ _ _ _ _  go g2 n wc c2 A2 S O5 w3 HBL (Lib.hid (Rd.of_own HOW.out)) (by have := HLEN.out; omega) HLT.out HI3 HOl5.out hn HOB.out HG2.out HA2.out ?_
      intro w4 ir11 ir122 ir123 ir124 ir125 ir126 ir127 ir128 ir129 ir130 ir131 ir132 ir133 ir134 ir135 ir136 ir137 ir138 HI4 hf4
      have HBL4 := Lib.hid (hf4.blk HBL.out HG2.out)
      have HOW4 := Lib.hid (hf4.own HOW.out (fun k hk e => by have := (HOW.out.lt k hk).1; have := HF2.out.size; omega))
      have HO4 : Hid (OwnG w4 base (some ⟨g5, 0, none⟩) c5 E5) := Lib.hid (HO3.out.fr hf4 (fun k hk e => HO3.out.ne HI3.out (by rw [hk, e])))
      have HSy4 := Lib.hid (HSy3.out.fr hf4 (fun b e => by omega))
      have HF4 := Lib.hid ((HF03.out.mono (T := fun b => b = go) (fun _ _ h => h.elim)).trans hf4 (fun _ _ h => h))
      clear hf4 HBL HOW HO3 HSy3 HI3 HF03
      go_wp2_with fail
      refine rest_loop _ _ _ _ _ _ _ _ _ _ _ _ _ _ _ _ _ _ _ _ _ _ _ _ _ _ _ _ _ _ _ _ _ _ _ _ _ _ _ _ _ _ _ _ _ _ _ _ _ _ _ _ _ _ _ _ _ _ _ _ _ _ _ _ _ _ _ _ _ _ _ _ _ _ _ _ _ _ _ _ _ _ _ _ _ _ _ _ _ _ _ _ _ _ _ _ _ _ _ _ _ _ _ _ _ _ _ _ _ _ _ _ _ _ _ _ _ _ _ _ _ _ _ _ _ _ _ _ _ _ _ _ _ _ _ _ _ _ _ _ _ _ _ _ _ _ _ _ _ _ _ _ _ _ _ _ _ _ _ _ _  (some ⟨g5, 0, none⟩) m c5 base ja jb go E5 w4 HO4 HL5.out hm hc5 HSy4 ?_
      intro A6 q6 c6 E6 w5 kr13 kr139 kr140 kr141 kr142 kr143 kr144 kr145 kr146 kr147 kr148 kr149 kr150 kr151 kr152 kr153 kr154 kr155 kr156 kr157 kr158 kr159 HO6 HQ6 HGS6 HSy6 hf5
      have HBL5 := Lib.hid (hf5.blk HBL4.out (fun h => h))
      have HOW5 := Lib.hid (hf5.own HOW4.out (fun _ _ h => h))
      have HI6 := Lib.hid (HI4.out.fr hf5 (fun h => h))
      have HF5 := Lib.hid (HF4.out.trans hf5 (fun _ _ h => h.elim))
      have hcell1 : w5.cell? ⟨g2, 0, none⟩ = some (.int .i64 (wc : Int)) := by rw [cell_of HBL5.out]; rfl
      have hcell2 : w5.cell? ⟨g2, 1, none⟩ = some (.slice A2 S.length c2) := by rw [cell_of HBL5.out]; rfl
      have hrow := HO6.out.row HQ6.out.1
      have hq1000 : q6 ≤ 1000 := by have := HQ6.out.2.1; omega
      have HS45 := Lib.hid hf5.size
      have HS04 := Lib.hid HF4.out.size
      clear hf5 HBL4 HOW4 HO4 HSy4 HI4 HF4
      go_wp2_with (at_builtin; refine wpList_appS grpT _ rfl _ _ rfl w4.heap.size _ _ _ rfl (hrow.alloc _) _ _ _ rfl rfl (news2 rfl (natc wc) (.slice A2 S.length c2) _) one_pair (q6 + 1) rfl (by unfold maxLen; omega) (by omega) (by have := HS45.out; simp; omega) ?_)
      intro A7 c7 w7 hown7 hc7 hfr7
      have hfa : Fr (fun _ => False) w5 (w5.alloc (.cells #[natc wc, .slice A2 S.length c2] 132)) := (Fr.refl _ w5).alloc _
      have ho7 : OwnG w7 w4.heap.size A7 c7 (E6 ++ [((⟨wc, S⟩ : Grp), Value.slice A2 S.length c2)]) := OwnG.of_row (p := ((⟨wc, S⟩ : Grp), Value.slice A2 S.length c2)) hown7 HQ6.out.1
      have hne6 : (Value.slice A6 q6 c6).ownBlock ≠ some go := by have h := HO6.out.ne HI6.out; rw [HQ6.out.1] at h; exact h
      have hi7 := (HI6.out.fr hfa (fun h => h)).fr hfr7 hne6
      have hf7 : Fr (fun b => b = go) wa0 w7 := (HF5.out.trans hfa (fun _ _ h => h.elim)).trans hfr7 (fun b hb h => by have := (hrow.lt b h).1; have := HS04.out; omega)
      have hgs7 : gs (E6 ++ [((⟨wc, S⟩ : Grp), Value.slice A2 S.length c2)]) = joinG (gs E5) := by rw [gs_snoc, HGS6.out, HJG.out]
      have hqf : q6 + 1 = f := by
        have h1 := congrArg List.length hgs7
        rw [gs_len, List.length_append, HQ6.out.1, join_len (by rw [gs_len, HL5.out]; omega), gs_len, HL5.out] at h1
        have h2 := HM.out
        simp at h1
        omega
      have how7 : w7.ownsRow w2.heap.size 3 1 (.slice A2 S.length c2) S.length (S.map natc) := by
        refine hfr7.own (hfa.own HOW5.out (fun _ _ h => h)) (fun k hk e => ?_)
        rcases HOW5.out.2 with ⟨hv, _⟩ | ⟨gg, cap, cur, hv, _, hgg, _⟩
        · rw [hv] at hk; cases hk
        · rw [hv] at hk
          have hk2 : gg = k := by simpa [Value.ownBlock] using hk
          subst hk2
          exact own_ne hrow hgg (by decide) e
      have hsy7 : SymOk w7 go (E6 ++ [((⟨wc, S⟩ : Grp), Value.slice A2 S.length c2)]) := by
        intro p hp
        rcases List.mem_append.1 hp with hp | hp
        · exact ((HSy6.out.fr hfa (fun b h => h.elim)).row (hfa.own hrow (fun _ _ h => h)) hfr7) p hp
        · simp at hp
          subst hp
          refine ⟨A2, c2, rfl, HC2.out, Rd.of_own how7, fun ad h => ?_⟩
          subst h
          rcases how7.2 with ⟨hv, _⟩ | ⟨gg, cap, cur, hv, hb, hgg, _⟩
          · cases hv
          · have h3 : ad = ⟨gg, 0, none⟩ := by injection hv with h3; injection h3
            subst h3
            exact ⟨by show go < gg; have := HF2.out.size; omega, _, _, hgg⟩
      have ho8 := ho7.base (b' := base) (by have := HS04.out; have := HFR.out.size; omega)
      obtain ⟨E8, hE8⟩ : ∃ E8, E8 = E6 ++ [((⟨wc, S⟩ : Grp), Value.slice A2 S.length c2)] := ⟨_, rfl⟩
      have hl8 : E8.length = f := by rw [hE8, List.length_append, HQ6.out.1]; exact hqf
      rw [← hE8] at hgs7 hsy7 ho8
      rw [hqf] at hc7 ⊢
      have HO8 := Lib.hid ho8
      have HSY8 := Lib.hid hsy7
      have HI8 := Lib.hid hi7
      have HG8 : Hid (HuffM.Good (gs E8) (incs O5 S)) := Lib.hid (by rw [hgs7]; exact HGD.out)
      have HS8 : Hid (sumW (gs E8) ≤ 1099511627776) := Lib.hid (by rw [hgs7]; exact HSUM.out)
      have HT8 : Hid (T = mergeF f (gs E8) (incs O5 S)) := Lib.hid (by rw [hgs7]; exact HT2.out)
      have HL8 := Lib.hid hl8
      have HOl8 : Hid ((incs O5 S).length = n) := Lib.hid (by rw [incs_len]; exact HOl5.out)
      have HF8 := Lib.hid (HFR.out.trans hf7 (fun _ _ h => h))
      have hfm : f < m := by have := HM.out; omega
      clear ho7 hown7 hfr7 hfa hne6 hi7 hf7 hgs7 hqf how7 hsy7 ho8 hE8 hl8 hrow hcell1 hcell2
      go_wp2_with fail
      exact ⟨⟨f, c7, A7, E8, incs O5 S, rfl, by omega, hc7, HL8, HO8, HSY8, HI8, HG8, HOl8, HO2, HS8, HT8, HF8.out⟩, by simp; omega⟩
    · have hTe : T = O5 := by
        rw [HT5.out]
        cases m with
        | zero => rfl
        | succ f => rw [mergeF, if_pos (by rw [gs_len, HL5.out]; omega)]
      have HIe : Hid (Ints wr go T) := Lib.hid (by rw [hTe]; exact HI5.out)
      clear hTe
      go_wp2_with fail
      all_goals exact hexit _ _ _ _ _ _ _ _ _ _ _ _ _ _ _ _ _ _ _ _ _ _ _ _ _ _ _ _ _ _ _ _ _ _ _ _ _ _ _ _ _ _ _ _ _ _ _ _ _ _ _ _ _ _ _ _ _ _ _ _ _ _ _ _ _ _ _ _ _ _ _ _ _ _ _ _ _ _ _ _ _ _ _ _ _ _ _ _ _ _ _ _ _ _ _ _ _ _ _ _ _ _ _ _ _ _ _ _ _ _ _ _ _ _ _ _ _ _ _ _ _ _ _ _ _ HIe hfr
end Go.Proofs.YtahfmcdhcbfkaaaDoor
namespace Go.Proofs.YtahfmcdhcbfkaaaDoor
open Go.RowKit HuffM Mem Go.Lib
attribute [local go_sem ↓] Go.wp_at_zero Go.wp_at_succ
set_option linter.unusedVariables false

theorem made_int (m : Nat) : madeCells (Value.int .i64 0).cells (m * 1) = Array.replicate m (.int .i64 0) := by
  apply Array.ext_getElem?
  intro i
  by_cases h : i < m
  · simp [madeCells, Value.cells, h, Nat.mod_one]
  · simp [madeCells, Value.cells, h]
theorem sum_le {W : List Nat} (h : ∀ x ∈ W, x ≤ 1073741824) : W.sum ≤ W.length * 1073741824 := by
  induction W with
  | nil => simp
  | cons x W ih =>
    have h1 := ih (fun y hy => h y (List.mem_cons_of_mem _ hy))
    have h2 := h x (List.mem_cons_self ..)
    rw [List.sum_cons, List.length_cons]
    omega
theorem gI_le (W : List Nat) (i : Nat) : (gI W i).length ≤ i := by
  induction i with
  | zero => exact Nat.le_refl _
  | succ i ih =>
    rw [gI_step]
    split
    · rw [List.length_append]; simp; omega
    · omega
theorem good_one {W : List Nat} {l : List Grp} (hl : l = gI W W.length) {s : Nat} (hs : s ∈ sy l) : HuffM.Good l ((once0 W).set s 1) := by
  have h := good0 W
  rw [← hl] at h
  refine ⟨h.nd, fun x hx => by rw [List.length_set]; exact h.lt x hx, fun x hx => ?_⟩
  have hne : s ≠ x := fun e => hx (e ▸ hs)
  have h0 := h.out x hx
  unfold oat at h0 ⊢
  rw [List.getD_eq_getElem?_getD, List.getElem?_set_ne hne, ← List.getD_eq_getElem?_getD]
  exact h0
theorem set_le (W : List Nat) (s t : Nat) : oat ((once0 W).set s 1) t ≤ 1 := by
  unfold oat
  rw [List.getD_eq_getElem?_getD, List.getElem?_set]
  split
  · split
    · exact Nat.le_refl _
    · exact Nat.zero_le _
  · rw [← List.getD_eq_getElem?_getD]
    have := zero_at W.length t
    unfold oat at this
    unfold once0
    omega

theorem onceC_end {w w5 : World} {go n : Nat} {W : List Nat} (hi : Ints w5 go (onceL W)) (hf : Fr (fun _ => False) w w5) (hg : go = w.heap.size) (hW : W.length = n) :
    ∃ A' c', Ending.returned (.slice (some ⟨go, 0, none⟩) n n) = .returned (.slice A' n c') ∧ n ≤ c' ∧ Rd w5 A' n ((onceL W).map natc) ∧ Fr (fun _ => False) w w5 ∧ ∀ ad, A' = some ad → w.heap.size ≤ ad.block ∧ ad.block < w5.heap.size := by
  have hr := hi.rd
  rw [onceL_len, hW] at hr
  refine ⟨_, n, rfl, Nat.le_refl _, hr, hf, fun ad h => ?_⟩
  injection h with h
  subst h
  exact ⟨by show w.heap.size ≤ go; omega, lt_of_heap (show w5.heap[go]? = _ from hi)⟩

set_option maxRecDepth 1000000 in
set_option maxHeartbeats 6400000 in
theorem onceC : OnceC := by
  intro A n c W w hr hc hn hA hW
  have hWn : W.length = n := by simpa using hr.1
  have hmk := mk_int n (by omega) w
  have HR := Lib.hid hr
  have HWN := Lib.hid hWn
  have HW := Lib.hid hW
  clear hr hWn hW hA
  go_enter Tryd.func68, Tryd.ntmps68
  go_wp2_with fail
  obtain ⟨go, hgo⟩ : ∃ go, go = w.heap.size := ⟨_, rfl⟩
  obtain ⟨w1, hw1⟩ : ∃ w1, w.alloc (.cells (Array.replicate n (.int .i64 0)) 3) = w1 := ⟨_, rfl⟩
  have hi1 : Ints w1 go (once0 W) := by
    unfold Ints once0
    rw [← hw1, hgo, HWN.out, List.map_replicate, List.toArray_replicate]
    exact heap_alloc_new w _
  have hf1 : Fr (fun _ => False) w w1 := by rw [← hw1]; exact (Fr.refl _ _).alloc _
  have hgl : go < w1.heap.size := lt_of_heap (show w1.heap[go]? = _ from hi1)
  rw [hw1, ← hgo]
  have HI1 := Lib.hid hi1
  have HF1 := Lib.hid hf1
  have HGO := Lib.hid hgo
  have HR1 := Lib.hid (HR.out.fr hf1 (fun _ _ h => h))
  clear hmk hgo hw1 hi1 hf1
  refine mkg_loop _ _ _ _ _ _ _ _ _ _ _ _ _ _ _ _ _ _ _ _ _ _ _ _ _ _ _ _ _ _ _ _ _ _ _ _ _ _ _ _ _ _ _ _ _ _ _ _ _ _ _ _ _ _ _ _ _ _ _ _ _ _ _ _ _ _ _ _ _ _ _ _ _ _ _ _ _ _ _ _ _ _ _ _ _ _ _ _ _ _ _ _ _ _ _ _ _ _ _ _ _ _ _ _ _ _ _ _ _ _ _ _ _ _ _ _ _ _ _ _ _ _ _ _ _ _ _ _ _ _ _ _ _ _ _ _ _ _ _ _ _ _ _ _ _ _ _ _ _ _ _ _ _ _ _ _ _ _ _ _ _ _ _  A n c go W w1 HR1 HWN.out hn HW.out hgl ?_
  intro A4 q c4 E w2 r5 r17 r18 r19 r20 r21 r22 r23 r24 r25 r26 r27 r28 r29 r30 r31 r32 r33 r34 r35 r36 r37 HO HQ HGS HSy hf2
  have HF2 := Lib.hid hf2
  have HI2 := Lib.hid (HI1.out.fr hf2 (fun h => h))
  have HL := Lib.hid HQ.out.1
  have hqn : q ≤ n := HQ.out.2.1
  have hqc : q ≤ c4 := HQ.out.2.2
  have HGS2 : Hid (gs E = gI W W.length) := Lib.hid (by rw [HGS.out, HWN.out])
  have HSUM : Hid (sumW (gs E) ≤ 1099511627776) := Lib.hid (by
    rw [HGS2.out, gI_sum W W.length (Nat.le_refl _), List.take_length]
    have h1 := sum_le HW.out
    have h2 := HWN.out
    have h3 : W.length * 1073741824 ≤ 1000 * 1073741824 := Nat.mul_le_mul_right _ (by omega)
    omega)
  have HGLEN : Hid ((gI W W.length).length = q) := Lib.hid (by rw [← HGS2.out, gs_len, HL.out])
  have HO0 : Hid ((once0 W).length = n) := Lib.hid (by unfold once0; rw [List.length_replicate, HWN.out])
  clear hf2 HI1 HR HR1 HGS
  by_cases h1 : q = 1
  · obtain ⟨p, hp⟩ : ∃ p, E[0]? = some p := ⟨_, List.getElem?_eq_getElem (by rw [HL.out]; omega)⟩
    obtain ⟨⟨wa, sa⟩, va⟩ := p
    obtain ⟨Aa, ca, e1, hca, hra, hba⟩ := HSy.out _ (List.mem_of_getElem? hp)
    simp only at e1 hca hra
    subst e1
    obtain ⟨g4, hA4, x1, x2⟩ := HO.out.at_ hp
    subst hA4
    have hgm : (⟨wa, sa⟩ : Grp) ∈ gI W W.length := by rw [← HGS2.out]; exact List.mem_map.2 ⟨_, List.mem_of_getElem? hp, rfl⟩
    obtain ⟨_, s, hs1, _, hs2⟩ := gI_w W W.length _ hgm
    simp only at hs2
    subst hs2
    have hsn : s < n := by rw [← HWN.out]; exact hs1
    obtain ⟨ad, u, hAa, hu, hcu⟩ := hra.at_ (show 0 < [s].length by simp)
    subst hAa
    simp at hu
    subst hu
    have hcu2 : w2.cell? ad = some (.int .i64 (s : Int)) := by simpa [Addr.add, natc] using hcu
    have hcell2 : w2.cell? ⟨g4, 1, none⟩ = some (.slice (some ad) 1 ca) := by simpa using x2
    obtain ⟨hco, hfo⟩ := HI2.out.cell (i := s) (by rw [HO0.out]; exact hsn)
    have hset := HI2.out.set s 1
    have hb1 : (s : Int) < (n : Int) := by omega
    have hsy : s ∈ sy (gs E) := by rw [HGS2.out]; exact mem_sy hgm (by simp)
    have hg0 : gat (gI W W.length) 0 = ⟨wa, [s]⟩ := by rw [← HGS2.out]; exact gat_of hp
    have HSET := Lib.hid hset
    have HG1 : Hid (HuffM.Good (gs E) ((once0 W).set s 1)) := Lib.hid (good_one HGS2.out hsy)
    have HT1 : Hid (onceL W = mergeF q (gs E) ((once0 W).set s 1)) := Lib.hid (by
      have h := HGLEN.out
      unfold onceL
      simp only [h, h1, if_pos, hg0, HGS2.out]
      rfl)
    have HNE : Hid ((Value.slice (some ⟨g4, 0, none⟩) E.length c4).ownBlock ≠ some go) := Lib.hid (HO.out.ne HI2.out)
    clear hp hca hra hba x1 x2 hgm hs1 hcu hsy hg0 hset
    obtain ⟨O1, hO1⟩ : ∃ O1, O1 = (once0 W).set s 1 := ⟨_, rfl⟩
    have HOl1 : Hid (O1.length = n) := Lib.hid (by rw [hO1, List.length_set]; exact HO0.out)
    have HB1 : Hid (∀ t, oat O1 t + q ≤ 1002) := Lib.hid (fun t => by have := set_le W s t; rw [hO1]; omega)
    rw [← hO1] at HG1 HT1 HSET
    clear hO1
    have tq : ((q : Int) == 1) = true := by simp; omega
    subst h1
    obtain ⟨w3, hw3⟩ : ∃ w3, w3 = w2.setCell ⟨go, s, none⟩ (.int .i64 1) := ⟨_, rfl⟩
    have hf3 : Fr (fun b => b = go) w2 w3 := by rw [hw3]; exact (Fr.refl (fun b => b = go) w2).setCell (p := ⟨go, s, none⟩) (fun _ => rfl) _
    have HSET3 : Hid (Ints w3 go O1) := Lib.hid (by rw [hw3]; exact HSET.out)
    have HO3 : Hid (OwnG w3 w1.heap.size (some ⟨g4, 0, none⟩) c4 E) := Lib.hid (HO.out.fr hf3 (fun k hk e => HNE.out (by rw [hk, e])))
    have HSy3 := Lib.hid (HSy.out.fr hf3 (fun b e => by omega))
    have HF3 := Lib.hid ((HF2.out.mono (T := fun b => b = go) (fun _ _ h => h.elim)).trans hf3 (fun _ _ h => h))
    have HW3 := Lib.hid hw3
    clear hf3 HSET hw3
    go_wp2_with fail
    rw [← HW3.out]
    refine joins_loop _ _ _ _ _ _ _ _ _ _ _ _ _ _ _ _ _ _ _ _ _ _ _ _ _ _ _ _ _ _ _ _ _ _ _ _ _ _ _ _ _ _ _ _ _ _ _ _ _ _ _ _ _ _ _ _ _ _ _ _ _ _ _ _ _ _ _ _ _ _ _ _ _ _ _ _ _ _ _ _ _ _ _ _ _ _ _ _ _ _ _ _ _ _ _ _ _ _ _ _ _ _ _ _ _ _ _ _ _ _ _ _ _ _ _ _ _ _ _ _ _ _ _ _ _ _ _ _ _ _ _ _ _ _ _ _ _ _ _ _ _ _ _ _ _ _ _ _ _ _ _ _ _ _ _ _ _ _ _ _ _ _ _ _  (some ⟨g4, 0, none⟩) 1 c4 go n w1.heap.size E O1 (onceL W) w3 (by omega) hqc HL HO3 HF3.out.size HSy3 HSET3 HG1 HOl1 hn HB1 HSUM HT1 ?_
    intro w5 r4 r6 r7 r8 r9 r10 r11 r12 r13 r49 r50 r51 r52 r53 r54 r55 r56 r57 r58 r59 r60 r61 r62 r63 r64 r65 r66 r67 r68 r69 r70 r71 r72 r73 r74 r75 r76 r77 r78 r79 r80 r81 r82 r83 r84 r85 r86 r87 r88 r89 r90 r91 r92 r93 r94 r95 r96 r97 r98 r99 r100 r101 r102 r103 r104 r105 r106 r107 r108 r109 r110 r111 r112 r113 r114 r115 r116 r117 r118 r119 r120 r121 r122 r123 r124 r125 r126 r127 r128 r129 r130 r131 r132 r133 r134 r135 r136 r137 r138 r139 r140 r141 r142 r143 r144 r145 r146 r147 r148 r149 r150 r151 r152 r153 r154 r155 r156 r157 r158 r159 r160 r161 r162 r163 HI5 hf5
    have hfw : Fr (fun _ => False) w w5 := (HF1.out.trans HF3.out (fun b hb e => by have := HGO.out; omega)).trans hf5 (fun b hb e => by have := HGO.out; omega)
    have HFW := Lib.hid hfw
    clear hf5 hfw
    go_wp2_with fail
    go_ret
    exact onceC_end HI5.out HFW.out HGO.out HWN.out
  · have tq : ((q : Int) == 1) = false := by simp; omega
    have HT1 : Hid (onceL W = mergeF q (gs E) (once0 W)) := Lib.hid (by
      have h := HGLEN.out
      unfold onceL
      simp only [h, if_neg h1, HGS2.out])
    have HG1 : Hid (HuffM.Good (gs E) (once0 W)) := Lib.hid (by rw [HGS2.out]; exact good0 W)
    have HB1 : Hid (∀ t, oat (once0 W) t + q ≤ 1002) := Lib.hid (fun t => by unfold once0; rw [zero_at]; omega)
    go_wp2_with fail
    refine joins_loop _ _ _ _ _ _ _ _ _ _ _ _ _ _ _ _ _ _ _ _ _ _ _ _ _ _ _ _ _ _ _ _ _ _ _ _ _ _ _ _ _ _ _ _ _ _ _ _ _ _ _ _ _ _ _ _ _ _ _ _ _ _ _ _ _ _ _ _ _ _ _ _ _ _ _ _ _ _ _ _ _ _ _ _ _ _ _ _ _ _ _ _ _ _ _ _ _ _ _ _ _ _ _ _ _ _ _ _ _ _ _ _ _ _ _ _ _ _ _ _ _ _ _ _ _ _ _ _ _ _ _ _ _ _ _ _ _ _ _ _ _ _ _ _ _ _ _ _ _ _ _ _ _ _ _ _ _ _ _ _ _ _ _ _  A4 q c4 go n w1.heap.size E (once0 W) (onceL W) w2 (by omega) hqc HL HO HF2.out.size HSy HI2 HG1 HO0 hn HB1 HSUM HT1 ?_
    intro w5 r4 r6 r7 r8 r9 r10 r11 r12 r13 r49 r50 r51 r52 r53 r54 r55 r56 r57 r58 r59 r60 r61 r62 r63 r64 r65 r66 r67 r68 r69 r70 r71 r72 r73 r74 r75 r76 r77 r78 r79 r80 r81 r82 r83 r84 r85 r86 r87 r88 r89 r90 r91 r92 r93 r94 r95 r96 r97 r98 r99 r100 r101 r102 r103 r104 r105 r106 r107 r108 r109 r110 r111 r112 r113 r114 r115 r116 r117 r118 r119 r120 r121 r122 r123 r124 r125 r126 r127 r128 r129 r130 r131 r132 r133 r134 r135 r136 r137 r138 r139 r140 r141 r142 r143 r144 r145 r146 r147 r148 r149 r150 r151 r152 r153 r154 r155 r156 r157 r158 r159 r160 r161 r162 r163 HI5 hf5
    have hfw : Fr (fun _ => False) w w5 := ((HF1.out.trans HF2.out (fun _ _ h => h)).trans hf5 (fun b hb e => by have := HGO.out; omega))
    have HFW := Lib.hid hfw
    clear hf5 hfw
    go_wp2_with fail
    go_ret
    exact onceC_end HI5.out HFW.out HGO.out HWN.out
end Go.Proofs.YtahfmcdhcbfkaaaDoor
