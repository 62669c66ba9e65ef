/-
  The loop of layer 5's reference once that makes the groups (written by gen_once.py).
  Region 23 of layer 5's reference once: two groups are joined (written by gen_once2.py).
-/
import Derived.Test.YtahfmcdhcbfkaaaDoorZm29
import Derived.Test.YtahfmcdhcbfkaaaDoorZm06
namespace Go.Proofs.YtahfmcdhcbfkaaaDoor
open Go.RowKit HuffM Mem Go.Lib
attribute [local go_sem ↓] Go.wp_at_zero Go.wp_at_succ
set_option linter.unusedVariables false

set_option maxRecDepth 1000000 in
noncomputable def mkgBody : Code := ((Tryd.f68.body.bind (loopAt 7)).getD .skip)
set_option maxRecDepth 1000000 in
set_option maxHeartbeats 3200000 in
theorem mkg_loop (Q0 : Exit → Act → World → Prop) (s1 s2 s3 s6 s7 s8 s9 s10 s11 s12 s13 s14 s15 s16 s17 s18 s19 s20 s21 s22 s23 s24 s25 s26 s27 s28 s29 s30 s31 s32 s33 s34 s35 s36 s37 s38 s39 s40 s41 s42 s43 s44 s45 s46 s47 s48 s49 s50 s51 s52 s53 s54 s55 s56 s57 s58 s59 s60 s61 s62 s63 s64 s65 s66 s67 s68 s69 s70 s71 s72 s73 s74 s75 s76 s77 s78 s79 s80 s81 s82 s83 s84 s85 s86 s87 s88 s89 s90 s91 s92 s93 s94 s95 s96 s97 s98 s99 s100 s101 s102 s103 s104 s105 s106 s107 s108 s109 s110 s111 s112 s113 s114 s115 s116 s117 s118 s119 s120 s121 s122 s123 s124 s125 s126 s127 s128 s129 s130 s131 s132 s133 s134 s135 s136 s137 s138 s139 s140 s141 s142 s143 s144 s145 s146 s147 s148 s149 s150 s151 s152 s153 s154 s155 s156 s157 s158 s159 s160 s161 s162 s163 s164 : Value) (A : Option Addr) (n c lim : Nat) (W : List Nat) (w0 : World) (HR : Hid (Rd w0 A n (W.map natc))) (hWn : W.length = n) (hn : n ≤ 1000) (hW : ∀ x ∈ W, x ≤ 1073741824) (hlim : lim < w0.heap.size)
    (hexit : ∀ (A' : Option Addr) (q c' : Nat) (E : List (Grp × Value)) (w'' : World) (r5 r17 r18 r19 r20 r21 r22 r23 r24 r25 r26 r27 r28 r29 r30 r31 r32 r33 r34 r35 r36 r37 : Value), Hid (OwnG w'' w0.heap.size A' c' E) → Hid (E.length = q ∧ q ≤ n ∧ q ≤ c') → Hid (gs E = gI W n) → Hid (SymOk w'' lim E) → Fr (fun _ => False) w0 w'' → Q0 (.exit 0) ⟨List.toArray (.slice A n c :: s1 :: s2 :: s3 :: .slice A' q c' :: r5 :: s6 :: s7 :: s8 :: s9 :: s10 :: s11 :: s12 :: s13 :: s14 :: s15 :: s16 :: r17 :: r18 :: r19 :: r20 :: r21 :: r22 :: r23 :: r24 :: r25 :: r26 :: r27 :: r28 :: r29 :: r30 :: r31 :: r32 :: r33 :: r34 :: r35 :: r36 :: r37 :: s38 :: s39 :: s40 :: s41 :: s42 :: s43 :: s44 :: s45 :: s46 :: s47 :: s48 :: s49 :: s50 :: s51 :: s52 :: s53 :: s54 :: s55 :: s56 :: s57 :: s58 :: s59 :: s60 :: s61 :: s62 :: s63 :: s64 :: s65 :: s66 :: s67 :: s68 :: s69 :: s70 :: s71 :: s72 :: s73 :: s74 :: s75 :: s76 :: s77 :: s78 :: s79 :: s80 :: s81 :: s82 :: s83 :: s84 :: s85 :: s86 :: s87 :: s88 :: s89 :: s90 :: s91 :: s92 :: s93 :: s94 :: s95 :: s96 :: s97 :: s98 :: s99 :: s100 :: s101 :: s102 :: s103 :: s104 :: s105 :: s106 :: s107 :: s108 :: s109 :: s110 :: s111 :: s112 :: s113 :: s114 :: s115 :: s116 :: s117 :: s118 :: s119 :: s120 :: s121 :: s122 :: s123 :: s124 :: s125 :: s126 :: s127 :: s128 :: s129 :: s130 :: s131 :: s132 :: s133 :: s134 :: s135 :: s136 :: s137 :: s138 :: s139 :: s140 :: s141 :: s142 :: s143 :: s144 :: s145 :: s146 :: s147 :: s148 :: s149 :: s150 :: s151 :: s152 :: s153 :: s154 :: s155 :: s156 :: s157 :: s158 :: s159 :: s160 :: s161 :: s162 :: s163 :: s164 :: []), []⟩ w'') :
    Code.wp Tryd.prog (Code.loop mkgBody) Q0 ⟨List.toArray (.slice A n c :: s1 :: s2 :: s3 :: .slice none 0 0 :: .int .i64 0 :: s6 :: s7 :: s8 :: s9 :: s10 :: s11 :: s12 :: s13 :: s14 :: s15 :: s16 :: s17 :: s18 :: s19 :: s20 :: s21 :: s22 :: s23 :: s24 :: s25 :: s26 :: s27 :: s28 :: s29 :: s30 :: s31 :: s32 :: s33 :: s34 :: s35 :: s36 :: s37 :: s38 :: s39 :: s40 :: s41 :: s42 :: s43 :: s44 :: s45 :: s46 :: s47 :: s48 :: s49 :: s50 :: s51 :: s52 :: s53 :: s54 :: s55 :: s56 :: s57 :: s58 :: s59 :: s60 :: s61 :: s62 :: s63 :: s64 :: s65 :: s66 :: s67 :: s68 :: s69 :: s70 :: s71 :: s72 :: s73 :: s74 :: s75 :: s76 :: s77 :: s78 :: s79 :: s80 :: s81 :: s82 :: s83 :: s84 :: s85 :: s86 :: s87 :: s88 :: s89 :: s90 :: s91 :: s92 :: s93 :: s94 :: s95 :: s96 :: s97 :: s98 :: s99 :: s100 :: s101 :: s102 :: s103 :: s104 :: s105 :: s106 :: s107 :: s108 :: s109 :: s110 :: s111 :: s112 :: s113 :: s114 :: s115 :: s116 :: s117 :: s118 :: s119 :: s120 :: s121 :: s122 :: s123 :: s124 :: s125 :: s126 :: s127 :: s128 :: s129 :: s130 :: s131 :: s132 :: s133 :: s134 :: s135 :: s136 :: s137 :: s138 :: s139 :: s140 :: s141 :: s142 :: s143 :: s144 :: s145 :: s146 :: s147 :: s148 :: s149 :: s150 :: s151 :: s152 :: s153 :: s154 :: s155 :: s156 :: s157 :: s158 :: s159 :: s160 :: s161 :: s162 :: s163 :: s164 :: []), []⟩ w0 := by
  conv => arg 2; arg 1; whnf
  have HWN := Lib.hid hWn
  have HW := Lib.hid hW
  clear hWn hW
  go_loopw [4, 5] (fun a i wr => ∃ (k q : Nat) (A' : Option Addr) (c' : Nat) (E : List (Grp × Value)), k ≤ n ∧ i = .int .i64 (k : Int) ∧ a = .slice A' q c' ∧ q ≤ k ∧ q ≤ c' ∧ Hid (E.length = q) ∧ Hid (OwnG wr w0.heap.size A' c' E) ∧ Hid (gs E = gI W k) ∧ Hid (SymOk wr lim E) ∧ Fr (fun _ => False) w0 wr) (fun _ i _ => n - (intOf i).toNat)
  case atStart => exact ⟨0, 0, none, 0, [], by omega, rfl, rfl, by omega, by omega, rfl, OwnG.nil _ _, rfl, (fun p hp => by simp at hp), Fr.refl _ _⟩
  case round =>
    obtain ⟨k, q, A', c', E, hk, rfl, rfl, hqk, hqc, HQ, HOE, HGS, HSy, hfr⟩ := hrel
    by_cases hlt : k < n
    · obtain ⟨ad, u, rfl, hu, hcell⟩ := (HR.out.fr hfr (fun _ _ h => h)).at_ hlt
      obtain ⟨x, hx⟩ : ∃ x, W[k]? = some x := ⟨_, List.getElem?_eq_getElem (by have := HWN.out; omega)⟩
      obtain rfl : natc x = u := by simpa [hx] using hu
      unfold natc at hcell
      have hgd : W.getD k 0 = x := by rw [List.getD_eq_getElem?_getD, hx]; rfl
      have hxb := HW.out x (List.mem_of_getElem? hx)
      clear hu hx
      by_cases hx0 : 0 < x
      · have t : decide (0 < x) = true := by simpa using hx0
        have e : gI W (k + 1) = gI W k ++ [⟨x, [k]⟩] := by rw [gI_step, hgd, if_pos hx0]
        have hrow := HOE.out.row HQ.out
        have hsz := hfr.size
        obtain ⟨wb, hwb⟩ : ∃ wb, wr.alloc (.cells #[.int .i64 (k : Int)] 3) = wb := ⟨_, rfl⟩
        have hfb : Fr (fun _ => False) wr wb := by rw [← hwb]; exact (Fr.refl _ _).alloc _
        have hrb : Rd wb (some ⟨wr.heap.size, 0, none⟩) 1 ([k].map natc) := by rw [← hwb]; exact Rd.one' rfl _ _
        obtain ⟨b1, hb1⟩ : ∃ b1, b1 = wr.heap.size := ⟨_, rfl⟩
        have hbs : wb.heap.size = b1 + 1 := by rw [← hwb, hb1]; simp
        rw [← hb1] at hrb
        have hrowb := hfb.own hrow (fun _ _ h => h)
        have E1 := Lib.hid e
        have HFB := Lib.hid hfb
        have HRB := Lib.hid hrb
        have HSB := Lib.hid hbs
        have HB1 := Lib.hid hb1
        clear e hgd hwb hfb hrb hbs hb1 hx0
        go_wp2_with (at_builtin; refine wpList_appS grpT _ rfl _ _ rfl w0.heap.size _ _ _ rfl (((hrow.alloc _).alloc _)) _ _ _ rfl rfl (news2 (by simp) (natc x) (.slice (some ⟨wr.heap.size, 0, none⟩) 1 1) _) one_pair (q + 1) rfl (by unfold maxLen; omega) (by omega) (by simp; omega) ?_)
        intro A2 c2 w2 hown2 hc2 hfr2
        have hfa : Fr (fun _ => False) wr ((wr.alloc (.cells #[.int .i64 (k : Int)] 3)).alloc (.cells #[.int .i64 (x : Int), .slice (some ⟨wr.heap.size, 0, none⟩) 1 1] 132)) := ((Fr.refl _ wr).alloc _).alloc _
        have HO2 := Lib.hid (OwnG.of_row (p := ((⟨x, [k]⟩ : Grp), Value.slice (some ⟨wr.heap.size, 0, none⟩) 1 1)) hown2 HQ.out)
        have HF2 := Lib.hid (fr_row hfr hrow hfa hfr2)
        have hblk : w2.heap[wr.heap.size]? = some (.cells #[.int .i64 (k : Int)] 3 (0, 0)) := by
          have h1 : (wr.alloc (.cells #[.int .i64 (k : Int)] 3)).heap[wr.heap.size]? = some (.cells #[.int .i64 (k : Int)] 3 (0, 0)) := heap_alloc_new wr _
          have h2 := ((Fr.refl (fun _ => False) (wr.alloc (.cells #[.int .i64 (k : Int)] 3))).alloc (.cells #[.int .i64 (x : Int), .slice (some ⟨wr.heap.size, 0, none⟩) 1 1] 132)).blk h1 (fun h => h)
          exact hfr2.blk h2 (fun h => by have := (hrow.lt _ h).2; omega)
        have hsy : SymOk w2 lim (E ++ [((⟨x, [k]⟩ : Grp), Value.slice (some ⟨wr.heap.size, 0, none⟩) 1 1)]) := by
          intro p hp
          rcases List.mem_append.1 hp with hp | hp
          · exact ((HSy.out.fr hfa (fun b h => h.elim)).row (hfa.own hrow (fun _ _ h => h)) hfr2) p hp
          · simp at hp
            subst hp
            refine ⟨some ⟨wr.heap.size, 0, none⟩, 1, rfl, Nat.le_refl _, ?_, fun ad h => ?_⟩
            · exact rd_blk (xs := [natc k]) hblk
            · injection h with h
              subst h
              exact ⟨by show lim < wr.heap.size; omega, _, _, hblk⟩
        have hgs2 : gs (E ++ [((⟨x, [k]⟩ : Grp), Value.slice (some ⟨wr.heap.size, 0, none⟩) 1 1)]) = gI W (k + 1) := by rw [gs_snoc, HGS.out]; exact E1.out.symm
        have hql : (E ++ [((⟨x, [k]⟩ : Grp), Value.slice (some ⟨wr.heap.size, 0, none⟩) 1 1)]).length = q + 1 := by rw [List.length_append, HQ.out]; rfl
        obtain ⟨E3, hE3⟩ : ∃ E3, E3 = E ++ [((⟨x, [k]⟩ : Grp), Value.slice (some ⟨wr.heap.size, 0, none⟩) 1 1)] := ⟨_, rfl⟩
        rw [← hE3] at HO2 hsy hgs2 hql
        have HSY := Lib.hid hsy
        have HGS2 := Lib.hid hgs2
        have HQL := Lib.hid hql
        clear hown2 hfr2 hblk hsy hgs2 hql hfa hrow hrowb hE3
        go_wp2
        go_roundw
        case rel => exact ⟨k + 1, q + 1, A2, c2, E3, by omega, by go_num, rfl, by omega, hc2, HQL, HO2, HGS2, HSY, HF2.out⟩
        case measure => simp [intOf] <;> omega
      · have t : decide (0 < x) = false := by simpa using hx0
        have e : gs E = gI W (k + 1) := by rw [gI_step, hgd, if_neg hx0]; exact HGS.out
        have E1 := Lib.hid e
        clear e hgd hx0
        go_wp2
        go_roundw
        case rel => exact ⟨k + 1, q, A', c', E, by omega, by go_num, rfl, by omega, hqc, HQ, HOE, E1, HSy, hfr⟩
        case measure => simp [intOf] <;> omega
    · obtain rfl : k = n := by omega
      go_wp2_with fail
      all_goals exact hexit A' q c' E _ _ _ _ _ _ _ _ _ _ _ _ _ _ _ _ _ _ _ _ _ _ _ HOE (Lib.hid ⟨HQ.out, hqk, hqc⟩) HGS HSy hfr
end Go.Proofs.YtahfmcdhcbfkaaaDoor
namespace Go.Proofs.YtahfmcdhcbfkaaaDoor
open Go.RowKit HuffM Mem Go.Lib
attribute [local go_sem ↓] Go.wp_at_zero Go.wp_at_succ
set_option linter.unusedVariables false

theorem pair_all (x : Int) (A : Option Addr) (n c : Nat) : (#[Value.int .i64 x, Value.slice A n c]).all (·.oneCell') = true := by
  show ([Value.int .i64 x, Value.slice A n c].toArray).all (·.oneCell') = true
  rw [List.all_toArray]
  rfl
theorem grpSize : (Tryd.prog.info? 132).map (·.size) = some 2 := by kernel_rfl
set_option maxRecDepth 1000000 in
noncomputable def joinCode : Code := ((Tryd.f68.body.bind (regionAt 23)).getD .skip)
set_option maxRecDepth 1000000 in
set_option maxHeartbeats 6400000 in
theorem join_region (Q0 : Exit → Act → World → Prop) (s0 s1 s2 s3 s5 s7 s9 s10 s11 s12 s13 s14 s15 s16 s17 s18 s19 s20 s21 s22 s23 s24 s25 s26 s27 s28 s29 s30 s31 s32 s33 s34 s35 s36 s37 s38 s39 s40 s41 s42 s43 s44 s45 s46 s47 s48 s49 s50 s51 s52 s53 s54 s55 s56 s57 s58 s59 s60 s61 s62 s63 s64 s65 s66 s67 s68 s69 s70 s71 s72 s73 s74 s75 s76 s77 s78 s79 s80 s81 s82 s83 s84 s85 s86 s87 s88 s89 s90 s91 s92 s93 s94 s95 s96 s97 s98 s99 s100 s101 s102 s103 s104 s105 s106 s107 s108 s109 s110 s111 s112 s113 s114 s115 s116 s117 s118 s119 s120 s121 s122 s123 s124 s125 s126 s127 s128 s129 s130 s131 s132 s133 s134 s135 s136 s137 s138 s139 s140 s141 s142 s143 s144 s145 s146 s147 s148 s149 s150 s151 s152 s153 s154 s155 s156 s157 s158 s159 s160 s161 s162 s163 s164 : Value) (g4 nl c4 ja jb wa wb wc na ca nb cb nc : Nat) (Aa Ab : Option Addr) (sa sb sc : List Nat) (w0 : World)
    (hc1 : w0.cell? ⟨g4, ja * 2, none⟩ = some (.int .i64 (wa : Int))) (hc2 : w0.cell? ⟨g4, ja * 2 + 1, none⟩ = some (.slice Aa na ca)) (hc3 : w0.cell? ⟨g4, jb * 2, none⟩ = some (.int .i64 (wb : Int))) (hc4 : w0.cell? ⟨g4, jb * 2 + 1, none⟩ = some (.slice Ab nb cb))
    (hja : ja < nl) (hjb : jb < nl) (hnl : nl ≤ 1000) (hw : wa + wb ≤ 9007199254740992) (hwc : wc = wa + wb) (HRa : Hid (Rd w0 Aa na (sa.map natc))) (HRb : Hid (Rd w0 Ab nb (sb.map natc))) (hna : na ≤ 1000) (hnb : nb ≤ 1000) (hnc : nc = na + nb) (hsc : sc = sa ++ sb)
    (hexit : ∀ (g2 : Nat) (A2 : Option Addr) (c2 : Nat) (w'' : World) (r97 r98 r99 r100 r101 r102 r103 r104 r105 r106 r107 r108 r109 r110 r111 r112 r113 r114 r115 r116 r117 r118 r119 r120 r121 : Value), Hid (w''.heap[g2]? = some (.cells #[.int .i64 (wc : Int), .slice A2 nc c2] 132 (0, 0))) → Hid (w''.ownsRow w0.heap.size 3 1 (.slice A2 nc c2) nc (sc.map natc)) → Hid (nc ≤ c2) → Hid (w0.heap.size ≤ g2) → Hid (Fr (fun _ => False) w0 w'') → Q0 .normal ⟨List.toArray (s0 :: s1 :: s2 :: s3 :: .slice (some ⟨g4, 0, none⟩) nl c4 :: s5 :: .int .i64 (ja : Int) :: s7 :: .int .i64 (jb : Int) :: s9 :: .pointer (some ⟨g2, 0, none⟩) :: s11 :: s12 :: s13 :: s14 :: s15 :: s16 :: s17 :: s18 :: s19 :: s20 :: s21 :: s22 :: s23 :: s24 :: s25 :: s26 :: s27 :: s28 :: s29 :: s30 :: s31 :: s32 :: s33 :: s34 :: s35 :: s36 :: s37 :: s38 :: s39 :: s40 :: s41 :: s42 :: s43 :: s44 :: s45 :: s46 :: s47 :: s48 :: s49 :: s50 :: s51 :: s52 :: s53 :: s54 :: s55 :: s56 :: s57 :: s58 :: s59 :: s60 :: s61 :: s62 :: s63 :: s64 :: s65 :: s66 :: s67 :: s68 :: s69 :: s70 :: s71 :: s72 :: s73 :: s74 :: s75 :: s76 :: s77 :: s78 :: s79 :: s80 :: s81 :: s82 :: s83 :: s84 :: s85 :: s86 :: s87 :: s88 :: s89 :: s90 :: s91 :: s92 :: s93 :: s94 :: s95 :: s96 :: r97 :: r98 :: r99 :: r100 :: r101 :: r102 :: r103 :: r104 :: r105 :: r106 :: r107 :: r108 :: r109 :: r110 :: r111 :: r112 :: r113 :: r114 :: r115 :: r116 :: r117 :: r118 :: r119 :: r120 :: r121 :: s122 :: s123 :: s124 :: s125 :: s126 :: s127 :: s128 :: s129 :: s130 :: s131 :: s132 :: s133 :: s134 :: s135 :: s136 :: s137 :: s138 :: s139 :: s140 :: s141 :: s142 :: s143 :: s144 :: s145 :: s146 :: s147 :: s148 :: s149 :: s150 :: s151 :: s152 :: s153 :: s154 :: s155 :: s156 :: s157 :: s158 :: s159 :: s160 :: s161 :: s162 :: s163 :: s164 :: []), []⟩ w'') :
    Code.wp Tryd.prog joinCode Q0 ⟨List.toArray (s0 :: s1 :: s2 :: s3 :: .slice (some ⟨g4, 0, none⟩) nl c4 :: s5 :: .int .i64 (ja : Int) :: s7 :: .int .i64 (jb : Int) :: s9 :: s10 :: s11 :: s12 :: s13 :: s14 :: s15 :: s16 :: s17 :: s18 :: s19 :: s20 :: s21 :: s22 :: s23 :: s24 :: s25 :: s26 :: s27 :: s28 :: s29 :: s30 :: s31 :: s32 :: s33 :: s34 :: s35 :: s36 :: s37 :: s38 :: s39 :: s40 :: s41 :: s42 :: s43 :: s44 :: s45 :: s46 :: s47 :: s48 :: s49 :: s50 :: s51 :: s52 :: s53 :: s54 :: s55 :: s56 :: s57 :: s58 :: s59 :: s60 :: s61 :: s62 :: s63 :: s64 :: s65 :: s66 :: s67 :: s68 :: s69 :: s70 :: s71 :: s72 :: s73 :: s74 :: s75 :: s76 :: s77 :: s78 :: s79 :: s80 :: s81 :: s82 :: s83 :: s84 :: s85 :: s86 :: s87 :: s88 :: s89 :: s90 :: s91 :: s92 :: s93 :: s94 :: s95 :: s96 :: s97 :: s98 :: s99 :: s100 :: s101 :: s102 :: s103 :: s104 :: s105 :: s106 :: s107 :: s108 :: s109 :: s110 :: s111 :: s112 :: s113 :: s114 :: s115 :: s116 :: s117 :: s118 :: s119 :: s120 :: s121 :: s122 :: s123 :: s124 :: s125 :: s126 :: s127 :: s128 :: s129 :: s130 :: s131 :: s132 :: s133 :: s134 :: s135 :: s136 :: s137 :: s138 :: s139 :: s140 :: s141 :: s142 :: s143 :: s144 :: s145 :: s146 :: s147 :: s148 :: s149 :: s150 :: s151 :: s152 :: s153 :: s154 :: s155 :: s156 :: s157 :: s158 :: s159 :: s160 :: s161 :: s162 :: s163 :: s164 :: []), []⟩ w0 := by
  conv => arg 2; whnf
  have HMK : Hid (∀ w', Fr (fun _ => False) w0 w' → (fun w' => w'.cell? ⟨g4, ja * 2, none⟩ = some (.int .i64 (wa : Int)) ∧ w'.cell? ⟨g4, ja * 2 + 1, none⟩ = some (.slice Aa na ca) ∧ w'.cell? ⟨g4, jb * 2, none⟩ = some (.int .i64 (wb : Int)) ∧ w'.cell? ⟨g4, jb * 2 + 1, none⟩ = some (.slice Ab nb cb) ∧ Fr (fun _ => False) w0 w') w') := Lib.hid (fun w' hf => ⟨hf.cell hc1 (fun h => h), hf.cell hc2 (fun h => h), hf.cell hc3 (fun h => h), hf.cell hc4 (fun h => h), hf⟩)
  have e1 : IntKind.i64.wrap (wc : Int) = (wc : Int) := IntWalk.i64_in _ (by omega)
  have e2 : (wa : Int) + (wb : Int) = (wc : Int) := by omega
  have b1 : (ja : Int) < (nl : Int) := by omega
  have b2 : (jb : Int) < (nl : Int) := by omega
  have HNC := Lib.hid hnc
  have HSC := Lib.hid hsc
  have hnc2 : nc ≤ 2000 := by omega
  clear hc1 hc2 hc3 hc4 hwc hnc hsc
  refine wp_region_noPanic ?_
  refine wp_region_held_drew (S := (fun w' => w'.cell? ⟨g4, ja * 2, none⟩ = some (.int .i64 (wa : Int)) ∧ w'.cell? ⟨g4, ja * 2 + 1, none⟩ = some (.slice Aa na ca) ∧ w'.cell? ⟨g4, jb * 2, none⟩ = some (.int .i64 (wb : Int)) ∧ w'.cell? ⟨g4, jb * 2 + 1, none⟩ = some (.slice Ab nb cb) ∧ Fr (fun _ => False) w0 w')) (by kernel_rfl) ?_ (fun hHeld => ?_)
  · exact HMK.out _ (Fr.refl _ _).drew
  obtain ⟨wq, hwq⟩ : ∃ wq, wq = w0.drew := ⟨_, rfl⟩
  rw [← hwq] at hHeld ⊢
  have HFwq := Lib.hid (show Fr (fun _ => False) w0 wq by rw [hwq]; exact (Fr.refl _ _).drew)
  clear hwq
  refine wpAnyH_take (i := 0) (v := ?va0) rfl (by kernel_rfl) (by kernel_rfl) (by kernel_rfl) (fun _ _ _ h => h) (Or.inl ⟨by rfl, ?hya0⟩) hHeld ?resta0
  case hya0 => intro w hSw; (try dsimp only at hSw); go_simp; try (with_reducible rfl)
  (try simp only [Act.put, List.setIfInBounds_toArray, List.set_cons_zero, List.set_cons_succ, List.getElem_toArray, List.getElem_cons_zero])
  refine wpAnyH_take (i := 1) (v := ?va1) rfl (by kernel_rfl) (by kernel_rfl) (by kernel_rfl) (fun _ _ _ h => h) (Or.inl ⟨by rfl, ?hya1⟩) hHeld ?resta1
  case hya1 => intro w hSw; (try dsimp only at hSw); go_simp; try (with_reducible rfl)
  (try simp only [Act.put, List.setIfInBounds_toArray, List.set_cons_zero, List.set_cons_succ, List.getElem_toArray, List.getElem_cons_zero, List.getElem_cons_succ])
  refine wpAnyH_take (i := 2) (v := ?va2) rfl (by kernel_rfl) (by kernel_rfl) (by kernel_rfl) (fun _ _ _ h => h) (Or.inl ⟨by rfl, ?hya2⟩) hHeld ?resta2
  case hya2 => intro w hSw; (try dsimp only at hSw); go_simp; try (with_reducible rfl)
  (try simp only [Act.put, List.setIfInBounds_toArray, List.set_cons_zero, List.set_cons_succ, List.getElem_toArray, List.getElem_cons_zero, List.getElem_cons_succ])
  refine wpAnyH_take (i := 3) (v := ?va3) rfl (by kernel_rfl) (by kernel_rfl) (by kernel_rfl) (fun _ _ _ h => h) (Or.inl ⟨by rfl, ?hya3⟩) hHeld ?resta3
  case hya3 => intro w hSw; (try dsimp only at hSw); go_simp; try (with_reducible rfl)
  (try simp only [Act.put, List.setIfInBounds_toArray, List.set_cons_zero, List.set_cons_succ, List.getElem_toArray, List.getElem_cons_zero, List.getElem_cons_succ])
  refine wpAnyH_take (i := 4) (v := ?va4) rfl (by kernel_rfl) (by kernel_rfl) (by kernel_rfl) (fun _ _ _ h => h) (Or.inl ⟨by rfl, ?hya4⟩) hHeld ?resta4
  case hya4 => intro w hSw; (try dsimp only at hSw); go_simp; try (with_reducible rfl)
  (try simp only [Act.put, List.setIfInBounds_toArray, List.set_cons_zero, List.set_cons_succ, List.getElem_toArray, List.getElem_cons_zero, List.getElem_cons_succ])
  refine wpAnyH_take (i := 5) (v := ?va5) rfl (by kernel_rfl) (by kernel_rfl) (by kernel_rfl) (fun _ _ _ h => h) (Or.inl ⟨by rfl, ?hya5⟩) hHeld ?resta5
  case hya5 => intro w hSw; (try dsimp only at hSw); go_simp; try (with_reducible rfl)
  (try simp only [Act.put, List.setIfInBounds_toArray, List.set_cons_zero, List.set_cons_succ, List.getElem_toArray, List.getElem_cons_zero, List.getElem_cons_succ])
  refine wpAnyH_take (i := 6) (v := ?va6) rfl (by kernel_rfl) (by kernel_rfl) (by kernel_rfl) (fun _ _ _ h => h) (Or.inl ⟨by rfl, ?hya6⟩) hHeld ?resta6
  case hya6 => intro w hSw; (try dsimp only at hSw); go_simp; try (with_reducible rfl)
  (try simp only [Act.put, List.setIfInBounds_toArray, List.set_cons_zero, List.set_cons_succ, List.getElem_toArray, List.getElem_cons_zero, List.getElem_cons_succ])
  refine wpAnyH_take (i := 7) (v := ?va7) rfl (by kernel_rfl) (by kernel_rfl) (by kernel_rfl) (fun _ _ _ h => h) (Or.inl ⟨by rfl, ?hya7⟩) hHeld ?resta7
  case hya7 => intro w hSw; (try dsimp only at hSw); go_simp; try (with_reducible rfl)
  (try simp only [Act.put, List.setIfInBounds_toArray, List.set_cons_zero, List.set_cons_succ, List.getElem_toArray, List.getElem_cons_zero, List.getElem_cons_succ])
  refine wpAnyH_take (i := 8) (v := ?va8) rfl (by kernel_rfl) (by kernel_rfl) (by kernel_rfl) (fun _ _ _ h => h) (Or.inl ⟨by rfl, ?hya8⟩) hHeld ?resta8
  case hya8 => intro w hSw; (try dsimp only at hSw); go_simp; try (with_reducible rfl)
  (try simp only [Act.put, List.setIfInBounds_toArray, List.set_cons_zero, List.set_cons_succ, List.getElem_toArray, List.getElem_cons_zero, List.getElem_cons_succ])
  refine wpAnyH_take (i := 9) (v := ?va9) rfl (by kernel_rfl) (by kernel_rfl) (by kernel_rfl) (fun _ _ _ h => h) (Or.inl ⟨by rfl, ?hya9⟩) hHeld ?resta9
  case hya9 => intro w hSw; (try dsimp only at hSw); go_simp; try (with_reducible rfl)
  (try simp only [Act.put, List.setIfInBounds_toArray, List.set_cons_zero, List.set_cons_succ, List.getElem_toArray, List.getElem_cons_zero, List.getElem_cons_succ])
  refine wpAnyH_take (i := 10) (v := ?va10) rfl (by kernel_rfl) (by kernel_rfl) (by kernel_rfl) (fun _ _ _ h => h) (Or.inl ⟨by rfl, ?hya10⟩) hHeld ?resta10
  case hya10 => intro w hSw; (try dsimp only at hSw); go_simp; try (with_reducible rfl)
  (try simp only [Act.put, List.setIfInBounds_toArray, List.set_cons_zero, List.set_cons_succ, List.getElem_toArray, List.getElem_cons_zero, List.getElem_cons_succ])
  refine wpAnyH_take (i := 12) (v := ?va12) rfl (by kernel_rfl) (by kernel_rfl) (by kernel_rfl) (fun _ _ _ h => h) (Or.inl ⟨by rfl, ?hya12⟩) hHeld ?resta12
  case hya12 => intro w hSw; (try dsimp only at hSw); go_simp; try (with_reducible rfl)
  (try simp only [Act.put, List.setIfInBounds_toArray, List.set_cons_zero, List.set_cons_succ, List.getElem_toArray, List.getElem_cons_zero, List.getElem_cons_succ])
  refine wpAnyH_take (i := 13) (v := ?va13) rfl (by kernel_rfl) (by kernel_rfl) (by kernel_rfl) (fun _ _ _ h => h) (Or.inl ⟨by rfl, ?hya13⟩) hHeld ?resta13
  case hya13 => intro w hSw; (try dsimp only at hSw); go_simp; try (with_reducible rfl)
  (try simp only [Act.put, List.setIfInBounds_toArray, List.set_cons_zero, List.set_cons_succ, List.getElem_toArray, List.getElem_cons_zero, List.getElem_cons_succ])
  refine wpAnyH_take (i := 14) (v := ?va14) rfl (by kernel_rfl) (by kernel_rfl) (by kernel_rfl) (fun _ _ _ h => h) (Or.inl ⟨by rfl, ?hya14⟩) hHeld ?resta14
  case hya14 => intro w hSw; (try dsimp only at hSw); go_simp; try (with_reducible rfl)
  (try simp only [Act.put, List.setIfInBounds_toArray, List.set_cons_zero, List.set_cons_succ, List.getElem_toArray, List.getElem_cons_zero, List.getElem_cons_succ])
  refine wpAnyH_take (i := 15) (v := ?va15) rfl (by kernel_rfl) (by kernel_rfl) (by kernel_rfl) (fun _ _ _ h => h) (Or.inl ⟨by rfl, ?hya15⟩) hHeld ?resta15
  case hya15 => intro w hSw; (try dsimp only at hSw); go_simp; try (with_reducible rfl)
  (try simp only [Act.put, List.setIfInBounds_toArray, List.set_cons_zero, List.set_cons_succ, List.getElem_toArray, List.getElem_cons_zero, List.getElem_cons_succ])
  refine wpAnyH_take (i := 16) (v := ?va16) rfl (by kernel_rfl) (by kernel_rfl) (by kernel_rfl) (fun _ _ _ h => h) (Or.inl ⟨by rfl, ?hya16⟩) hHeld ?resta16
  case hya16 => intro w hSw; (try dsimp only at hSw); go_simp; try (with_reducible rfl)
  (try simp only [Act.put, List.setIfInBounds_toArray, List.set_cons_zero, List.set_cons_succ, List.getElem_toArray, List.getElem_cons_zero, List.getElem_cons_succ])
  refine wpAnyH_take (i := 18) (v := ?va18) rfl (by kernel_rfl) (by kernel_rfl) (by kernel_rfl) (fun _ _ _ h => h) (Or.inl ⟨by rfl, ?hya18⟩) hHeld ?resta18
  case hya18 => intro w hSw; (try dsimp only at hSw); go_simp; try (with_reducible rfl)
  (try simp only [Act.put, List.setIfInBounds_toArray, List.set_cons_zero, List.set_cons_succ, List.getElem_toArray, List.getElem_cons_zero, List.getElem_cons_succ])
  refine wpAnyH_take (i := 19) (v := ?va19) rfl (by kernel_rfl) (by kernel_rfl) (by kernel_rfl) (fun _ _ _ h => h) (Or.inl ⟨by rfl, ?hya19⟩) hHeld ?resta19
  case hya19 => intro w hSw; (try dsimp only at hSw); go_simp; try (with_reducible rfl)
  (try simp only [Act.put, List.setIfInBounds_toArray, List.set_cons_zero, List.set_cons_succ, List.getElem_toArray, List.getElem_cons_zero, List.getElem_cons_succ])
  refine wpAnyH_take (i := 20) (v := ?va20) rfl (by kernel_rfl) (by kernel_rfl) (by kernel_rfl) (fun _ _ _ h => h) (Or.inl ⟨by rfl, ?hya20⟩) hHeld ?resta20
  case hya20 => intro w hSw; (try dsimp only at hSw); go_simp; try (with_reducible rfl)
  (try simp only [Act.put, List.setIfInBounds_toArray, List.set_cons_zero, List.set_cons_succ, List.getElem_toArray, List.getElem_cons_zero, List.getElem_cons_succ])
  refine wpAnyH_take (i := 21) (v := ?va21) rfl (by kernel_rfl) (by kernel_rfl) (by kernel_rfl) (fun _ _ _ h => h) (Or.inl ⟨by rfl, ?hya21⟩) hHeld ?resta21
  case hya21 => intro w hSw; (try dsimp only at hSw); go_simp; try (with_reducible rfl)
  (try simp only [Act.put, List.setIfInBounds_toArray, List.set_cons_zero, List.set_cons_succ, List.getElem_toArray, List.getElem_cons_zero, List.getElem_cons_succ])
  refine wpAnyH_take (i := 22) (v := ?va22) rfl (by kernel_rfl) (by kernel_rfl) (by kernel_rfl) (fun _ _ _ h => h) (Or.inl ⟨by rfl, ?hya22⟩) hHeld ?resta22
  case hya22 => intro w hSw; (try dsimp only at hSw); go_simp; try (with_reducible rfl)
  (try simp only [Act.put, List.setIfInBounds_toArray, List.set_cons_zero, List.set_cons_succ, List.getElem_toArray, List.getElem_cons_zero, List.getElem_cons_succ])
  refine wpAnyH_ready (rs := [11, 25]) (by kernel_rfl) (by simp) ?_
  refine AllReadyH.cons rfl (fun Kx hKx => ?_) ?_
  · go_simp
    obtain ⟨x1, hY⟩ : ∃ y, wq.alloc (.cells #[] 3) = y := ⟨_, rfl⟩
    rw [hY]
    have hoy := World.ownsRow_made (e := 3) (size := 1) (base := w0.heap.size) wq #[] 0 HFwq.out.size (Nat.zero_le _) rfl
    have hfy : Fr (fun _ => False) wq x1 := by rw [← hY]; exact (Fr.refl _ _).alloc _
    rw [hY] at hoy
    obtain ⟨gE, hgE⟩ : ∃ gE, gE = wq.heap.size := ⟨_, rfl⟩
    rw [← hgE] at hoy ⊢
    have HOx1 := Lib.hid hoy
    have HFx1 := Lib.hid (HFwq.out.trans hfy (fun _ _ h => h))
    clear hY hoy hfy hgE
    refine hKx.out _ _ ?_ (fun hHeld => ?_)
    · exact HMK.out _ HFx1.out
    clear hKx Kx
    (try simp only [Act.put, List.setIfInBounds_toArray, List.set_cons_zero, List.set_cons_succ, List.getElem_toArray, List.getElem_cons_zero, List.getElem_cons_succ])
    refine wpAnyH_ready (rs := [17, 25]) (by kernel_rfl) (by simp) ?_
    refine AllReadyH.cons rfl (fun Kx hKx => ?_) ?_
    · refine step_app intT _ (by rfl) _ _ (by rfl) w0.heap.size _ _ _ (by rfl) HOx1.out _ _ _ _ (by rfl) (HRa.out.fr HFx1.out (fun _ _ h => h)) (natc_one _) na (by omega) (by unfold maxLen; omega) (by omega) HFx1.out.size ?_
      intro A1 c1 x2 hcy hoy hfy
      have HOx2 := Lib.hid (own_list hoy (List.nil_append _))
      have HFx2 := Lib.hid (HFx1.out.trans hfy (fun b hb h => by have := (HOx1.out.lt b h).1; omega))
      clear hcy hoy hfy
      refine hKx.out _ _ ?_ (fun hHeld => ?_)
      · exact HMK.out _ HFx2.out
      clear hKx Kx
      (try simp only [Act.put, List.setIfInBounds_toArray, List.set_cons_zero, List.set_cons_succ, List.getElem_toArray, List.getElem_cons_zero, List.getElem_cons_succ])
      refine wpAnyH_ready (rs := [23, 25]) (by kernel_rfl) (by simp) ?_
      refine AllReadyH.cons rfl (fun Kx hKx => ?_) ?_
      · refine step_app intT _ (by rfl) _ _ (by rfl) w0.heap.size _ _ _ (by rfl) HOx2.out _ _ _ _ (by rfl) (HRb.out.fr HFx2.out (fun _ _ h => h)) (natc_one _) nc HNC.out (by unfold maxLen; omega) (by omega) HFx2.out.size ?_
        intro A2 c2 x3 hcy hoy hfy
        have HOx3 := Lib.hid (own_list hoy (show sa.map natc ++ sb.map natc = sc.map natc by rw [HSC.out, List.map_append]))
        have HCY := Lib.hid hcy
        have HFx3 := Lib.hid (HFx2.out.trans hfy (fun b hb h => by have := (HOx2.out.lt b h).1; omega))
        clear hcy hoy hfy
        refine hKx.out _ _ ?_ (fun hHeld => ?_)
        · exact HMK.out _ HFx3.out
        clear hKx Kx
        (try simp only [Act.put, List.setIfInBounds_toArray, List.set_cons_zero, List.set_cons_succ, List.getElem_toArray, List.getElem_cons_zero, List.getElem_cons_succ])
        refine wpAnyH_take (i := 24) (v := ?vd24) rfl (by kernel_rfl) (by kernel_rfl) (by kernel_rfl) (fun _ _ _ h => h) (Or.inl ⟨by rfl, ?hyd24⟩) hHeld ?restd24
        case hyd24 => intro w hSw; (try dsimp only at hSw); go_simp; try (with_reducible rfl)
        (try simp only [Act.put, List.setIfInBounds_toArray, List.set_cons_zero, List.set_cons_succ, List.getElem_toArray, List.getElem_cons_zero, List.getElem_cons_succ])
        refine wpAnyH_ready (rs := [25]) (by kernel_rfl) (by simp) ?_
        refine AllReadyH.cons rfl (fun Kx hKx => ?_) AllReadyH.nil
        go_simp
        obtain ⟨x4, hY⟩ : ∃ y, x3.alloc (.cells #[.int .i64 0, .slice none 0 0] 132) = y := ⟨_, rfl⟩
        rw [hY]
        have hfy : Fr (fun _ => False) x3 x4 := by rw [← hY]; exact (Fr.refl _ _).alloc _
        have hgy : x4.heap[x3.heap.size]? = some (.cells #[.int .i64 0, .slice none 0 0] 132 (0, 0)) := by rw [← hY]; exact heap_alloc_new _ _
        obtain ⟨g2, hg2⟩ : ∃ g2, g2 = x3.heap.size := ⟨_, rfl⟩
        rw [← hg2] at hgy ⊢
        have HGL := Lib.hid (show w0.heap.size ≤ g2 by have := HFx3.out.size; omega)
        have HGx4 := Lib.hid hgy
        have HOx4 := Lib.hid (hfy.own HOx3.out (fun _ _ h => h))
        have HFx4 := Lib.hid (HFx3.out.trans hfy (fun _ _ h => h))
        clear hY hfy hgy hg2
        refine hKx.out _ _ ?_ (fun hHeld => ?_)
        · exact HMK.out _ HFx4.out
        clear hKx Kx
        (try simp only [Act.put, List.setIfInBounds_toArray, List.set_cons_zero, List.set_cons_succ, List.getElem_toArray, List.getElem_cons_zero, List.getElem_cons_succ])
        refine wpAnyH_ready (rs := [26]) (by kernel_rfl) (by simp) ?_
        refine AllReadyH.cons rfl (fun Kx hKx => ?_) AllReadyH.nil
        refine step_store_whole grpSize (by rfl) _ _ (by rfl) g2 (by rfl) #[.int .i64 (wc : Int), .slice A2 nc c2] (by rfl) _ _ HGx4.out rfl rfl (pair_all _ _ _ _) ?_
        intro x5 hst hfs
        have HFx5 := Lib.hid (HFx4.out.trans hfs (fun b hb e => by have := HGL.out; omega))
        have HOx5 := Lib.hid (hfs.own HOx4.out (fun k hk e => own_ne HOx4.out HGx4.out (by decide) (by rw [hk, e])))
        have HST := Lib.hid hst
        clear hst hfs
        refine hKx.out _ _ ?_ (fun hHeld => ?_)
        · exact HMK.out _ HFx5.out
        clear hKx Kx
        (try simp only [Act.put])
        refine wpAnyH_done (by kernel_rfl) ?_ _
        refine NoPanic.normal ?_
        exact hexit g2 A2 c2 _ _ _ _ _ _ _ _ _ _ _ _ _ _ _ _ _ _ _ _ _ _ _ _ _ _ HST HOx5 HCY HGL HFx5
      refine AllReadyH.cons rfl (fun Kx hKx => ?_) AllReadyH.nil
      go_simp
      obtain ⟨x6, hY⟩ : ∃ y, x2.alloc (.cells #[.int .i64 0, .slice none 0 0] 132) = y := ⟨_, rfl⟩
      rw [hY]
      have hfy : Fr (fun _ => False) x2 x6 := by rw [← hY]; exact (Fr.refl _ _).alloc _
      have hgy : x6.heap[x2.heap.size]? = some (.cells #[.int .i64 0, .slice none 0 0] 132 (0, 0)) := by rw [← hY]; exact heap_alloc_new _ _
      obtain ⟨g2, hg2⟩ : ∃ g2, g2 = x2.heap.size := ⟨_, rfl⟩
      rw [← hg2] at hgy ⊢
      have HGL := Lib.hid (show w0.heap.size ≤ g2 by have := HFx2.out.size; omega)
      have HGx6 := Lib.hid hgy
      have HOx6 := Lib.hid (hfy.own HOx2.out (fun _ _ h => h))
      have HFx6 := Lib.hid (HFx2.out.trans hfy (fun _ _ h => h))
      clear hY hfy hgy hg2
      refine hKx.out _ _ ?_ (fun hHeld => ?_)
      · exact HMK.out _ HFx6.out
      clear hKx Kx
      (try simp only [Act.put, List.setIfInBounds_toArray, List.set_cons_zero, List.set_cons_succ, List.getElem_toArray, List.getElem_cons_zero, List.getElem_cons_succ])
      refine wpAnyH_ready (rs := [23]) (by kernel_rfl) (by simp) ?_
      refine AllReadyH.cons rfl (fun Kx hKx => ?_) AllReadyH.nil
      refine step_app intT _ (by rfl) _ _ (by rfl) w0.heap.size _ _ _ (by rfl) HOx6.out _ _ _ _ (by rfl) (HRb.out.fr HFx6.out (fun _ _ h => h)) (natc_one _) nc HNC.out (by unfold maxLen; omega) (by omega) HFx6.out.size ?_
      intro A2 c2 x7 hcy hoy hfy
      have HOx7 := Lib.hid (own_list hoy (show sa.map natc ++ sb.map natc = sc.map natc by rw [HSC.out, List.map_append]))
      have HCY := Lib.hid hcy
      have HGx7 : Hid (x7.heap[g2]? = _) := Lib.hid (hfy.blk HGx6.out (own_ne HOx6.out HGx6.out (by decide)))
      have HFx7 := Lib.hid (HFx6.out.trans hfy (fun b hb h => by have := (HOx6.out.lt b h).1; omega))
      clear hcy hoy hfy
      refine hKx.out _ _ ?_ (fun hHeld => ?_)
      · exact HMK.out _ HFx7.out
      clear hKx Kx
      (try simp only [Act.put, List.setIfInBounds_toArray, List.set_cons_zero, List.set_cons_succ, List.getElem_toArray, List.getElem_cons_zero, List.getElem_cons_succ])
      refine wpAnyH_take (i := 24) (v := ?ve24) rfl (by kernel_rfl) (by kernel_rfl) (by kernel_rfl) (fun _ _ _ h => h) (Or.inl ⟨by rfl, ?hye24⟩) hHeld ?reste24
      case hye24 => intro w hSw; (try dsimp only at hSw); go_simp; try (with_reducible rfl)
      (try simp only [Act.put, List.setIfInBounds_toArray, List.set_cons_zero, List.set_cons_succ, List.getElem_toArray, List.getElem_cons_zero, List.getElem_cons_succ])
      refine wpAnyH_ready (rs := [26]) (by kernel_rfl) (by simp) ?_
      refine AllReadyH.cons rfl (fun Kx hKx => ?_) AllReadyH.nil
      refine step_store_whole grpSize (by rfl) _ _ (by rfl) g2 (by rfl) #[.int .i64 (wc : Int), .slice A2 nc c2] (by rfl) _ _ HGx7.out rfl rfl (pair_all _ _ _ _) ?_
      intro x8 hst hfs
      have HFx8 := Lib.hid (HFx7.out.trans hfs (fun b hb e => by have := HGL.out; omega))
      have HOx8 := Lib.hid (hfs.own HOx7.out (fun k hk e => own_ne HOx7.out HGx7.out (by decide) (by rw [hk, e])))
      have HST := Lib.hid hst
      clear hst hfs
      refine hKx.out _ _ ?_ (fun hHeld => ?_)
      · exact HMK.out _ HFx8.out
      clear hKx Kx
      (try simp only [Act.put])
      refine wpAnyH_done (by kernel_rfl) ?_ _
      refine NoPanic.normal ?_
      exact hexit g2 A2 c2 _ _ _ _ _ _ _ _ _ _ _ _ _ _ _ _ _ _ _ _ _ _ _ _ _ _ HST HOx8 HCY HGL HFx8
    refine AllReadyH.cons rfl (fun Kx hKx => ?_) AllReadyH.nil
    go_simp
    obtain ⟨x9, hY⟩ : ∃ y, x1.alloc (.cells #[.int .i64 0, .slice none 0 0] 132) = y := ⟨_, rfl⟩
    rw [hY]
    have hfy : Fr (fun _ => False) x1 x9 := by rw [← hY]; exact (Fr.refl _ _).alloc _
    have hgy : x9.heap[x1.heap.size]? = some (.cells #[.int .i64 0, .slice none 0 0] 132 (0, 0)) := by rw [← hY]; exact heap_alloc_new _ _
    obtain ⟨g2, hg2⟩ : ∃ g2, g2 = x1.heap.size := ⟨_, rfl⟩
    rw [← hg2] at hgy ⊢
    have HGL := Lib.hid (show w0.heap.size ≤ g2 by have := HFx1.out.size; omega)
    have HGx9 := Lib.hid hgy
    have HOx9 := Lib.hid (hfy.own HOx1.out (fun _ _ h => h))
    have HFx9 := Lib.hid (HFx1.out.trans hfy (fun _ _ h => h))
    clear hY hfy hgy hg2
    refine hKx.out _ _ ?_ (fun hHeld => ?_)
    · exact HMK.out _ HFx9.out
    clear hKx Kx
    (try simp only [Act.put, List.setIfInBounds_toArray, List.set_cons_zero, List.set_cons_succ, List.getElem_toArray, List.getElem_cons_zero, List.getElem_cons_succ])
    refine wpAnyH_ready (rs := [17]) (by kernel_rfl) (by simp) ?_
    refine AllReadyH.cons rfl (fun Kx hKx => ?_) AllReadyH.nil
    refine step_app intT _ (by rfl) _ _ (by rfl) w0.heap.size _ _ _ (by rfl) HOx9.out _ _ _ _ (by rfl) (HRa.out.fr HFx9.out (fun _ _ h => h)) (natc_one _) na (by omega) (by unfold maxLen; omega) (by omega) HFx9.out.size ?_
    intro A1 c1 x10 hcy hoy hfy
    have HOx10 := Lib.hid (own_list hoy (List.nil_append _))
    have HGx10 : Hid (x10.heap[g2]? = _) := Lib.hid (hfy.blk HGx9.out (own_ne HOx9.out HGx9.out (by decide)))
    have HFx10 := Lib.hid (HFx9.out.trans hfy (fun b hb h => by have := (HOx9.out.lt b h).1; omega))
    clear hcy hoy hfy
    refine hKx.out _ _ ?_ (fun hHeld => ?_)
    · exact HMK.out _ HFx10.out
    clear hKx Kx
    (try simp only [Act.put, List.setIfInBounds_toArray, List.set_cons_zero, List.set_cons_succ, List.getElem_toArray, List.getElem_cons_zero, List.getElem_cons_succ])
    refine wpAnyH_ready (rs := [23]) (by kernel_rfl) (by simp) ?_
    refine AllReadyH.cons rfl (fun Kx hKx => ?_) AllReadyH.nil
    refine step_app intT _ (by rfl) _ _ (by rfl) w0.heap.size _ _ _ (by rfl) HOx10.out _ _ _ _ (by rfl) (HRb.out.fr HFx10.out (fun _ _ h => h)) (natc_one _) nc HNC.out (by unfold maxLen; omega) (by omega) HFx10.out.size ?_
    intro A2 c2 x11 hcy hoy hfy
    have HOx11 := Lib.hid (own_list hoy (show sa.map natc ++ sb.map natc = sc.map natc by rw [HSC.out, List.map_append]))
    have HCY := Lib.hid hcy
    have HGx11 : Hid (x11.heap[g2]? = _) := Lib.hid (hfy.blk HGx10.out (own_ne HOx10.out HGx10.out (by decide)))
    have HFx11 := Lib.hid (HFx10.out.trans hfy (fun b hb h => by have := (HOx10.out.lt b h).1; omega))
    clear hcy hoy hfy
    refine hKx.out _ _ ?_ (fun hHeld => ?_)
    · exact HMK.out _ HFx11.out
    clear hKx Kx
    (try simp only [Act.put, List.setIfInBounds_toArray, List.set_cons_zero, List.set_cons_succ, List.getElem_toArray, List.getElem_cons_zero, List.getElem_cons_succ])
    refine wpAnyH_take (i := 24) (v := ?vf24) rfl (by kernel_rfl) (by kernel_rfl) (by kernel_rfl) (fun _ _ _ h => h) (Or.inl ⟨by rfl, ?hyf24⟩) hHeld ?restf24
    case hyf24 => intro w hSw; (try dsimp only at hSw); go_simp; try (with_reducible rfl)
    (try simp only [Act.put, List.setIfInBounds_toArray, List.set_cons_zero, List.set_cons_succ, List.getElem_toArray, List.getElem_cons_zero, List.getElem_cons_succ])
    refine wpAnyH_ready (rs := [26]) (by kernel_rfl) (by simp) ?_
    refine AllReadyH.cons rfl (fun Kx hKx => ?_) AllReadyH.nil
    refine step_store_whole grpSize (by rfl) _ _ (by rfl) g2 (by rfl) #[.int .i64 (wc : Int), .slice A2 nc c2] (by rfl) _ _ HGx11.out rfl rfl (pair_all _ _ _ _) ?_
    intro x12 hst hfs
    have HFx12 := Lib.hid (HFx11.out.trans hfs (fun b hb e => by have := HGL.out; omega))
    have HOx12 := Lib.hid (hfs.own HOx11.out (fun k hk e => own_ne HOx11.out HGx11.out (by decide) (by rw [hk, e])))
    have HST := Lib.hid hst
    clear hst hfs
    refine hKx.out _ _ ?_ (fun hHeld => ?_)
    · exact HMK.out _ HFx12.out
    clear hKx Kx
    (try simp only [Act.put])
    refine wpAnyH_done (by kernel_rfl) ?_ _
    refine NoPanic.normal ?_
    exact hexit g2 A2 c2 _ _ _ _ _ _ _ _ _ _ _ _ _ _ _ _ _ _ _ _ _ _ _ _ _ _ HST HOx12 HCY HGL HFx12
  refine AllReadyH.cons rfl (fun Kx hKx => ?_) AllReadyH.nil
  go_simp
  obtain ⟨x13, hY⟩ : ∃ y, wq.alloc (.cells #[.int .i64 0, .slice none 0 0] 132) = y := ⟨_, rfl⟩
  rw [hY]
  have hfy : Fr (fun _ => False) wq x13 := by rw [← hY]; exact (Fr.refl _ _).alloc _
  have hgy : x13.heap[wq.heap.size]? = some (.cells #[.int .i64 0, .slice none 0 0] 132 (0, 0)) := by rw [← hY]; exact heap_alloc_new _ _
  obtain ⟨g2, hg2⟩ : ∃ g2, g2 = wq.heap.size := ⟨_, rfl⟩
  rw [← hg2] at hgy ⊢
  have HGL := Lib.hid (show w0.heap.size ≤ g2 by have := HFwq.out.size; omega)
  have HGx13 := Lib.hid hgy
  have HFx13 := Lib.hid (HFwq.out.trans hfy (fun _ _ h => h))
  clear hY hfy hgy hg2
  refine hKx.out _ _ ?_ (fun hHeld => ?_)
  · exact HMK.out _ HFx13.out
  clear hKx Kx
  (try simp only [Act.put, List.setIfInBounds_toArray, List.set_cons_zero, List.set_cons_succ, List.getElem_toArray, List.getElem_cons_zero, List.getElem_cons_succ])
  refine wpAnyH_ready (rs := [11]) (by kernel_rfl) (by simp) ?_
  refine AllReadyH.cons rfl (fun Kx hKx => ?_) AllReadyH.nil
  go_simp
  obtain ⟨x14, hY⟩ : ∃ y, x13.alloc (.cells #[] 3) = y := ⟨_, rfl⟩
  rw [hY]
  have hoy := World.ownsRow_made (e := 3) (size := 1) (base := w0.heap.size) x13 #[] 0 HFx13.out.size (Nat.zero_le _) rfl
  have hfy : Fr (fun _ => False) x13 x14 := by rw [← hY]; exact (Fr.refl _ _).alloc _
  rw [hY] at hoy
  obtain ⟨gE, hgE⟩ : ∃ gE, gE = x13.heap.size := ⟨_, rfl⟩
  rw [← hgE] at hoy ⊢
  have HOx14 := Lib.hid hoy
  have HGx14 : Hid (x14.heap[g2]? = _) := Lib.hid (hfy.blk HGx13.out (fun h => h))
  have HFx14 := Lib.hid (HFx13.out.trans hfy (fun _ _ h => h))
  clear hY hoy hfy hgE
  refine hKx.out _ _ ?_ (fun hHeld => ?_)
  · exact HMK.out _ HFx14.out
  clear hKx Kx
  (try simp only [Act.put, List.setIfInBounds_toArray, List.set_cons_zero, List.set_cons_succ, List.getElem_toArray, List.getElem_cons_zero, List.getElem_cons_succ])
  refine wpAnyH_ready (rs := [17]) (by kernel_rfl) (by simp) ?_
  refine AllReadyH.cons rfl (fun Kx hKx => ?_) AllReadyH.nil
  refine step_app intT _ (by rfl) _ _ (by rfl) w0.heap.size _ _ _ (by rfl) HOx14.out _ _ _ _ (by rfl) (HRa.out.fr HFx14.out (fun _ _ h => h)) (natc_one _) na (by omega) (by unfold maxLen; omega) (by omega) HFx14.out.size ?_
  intro A1 c1 x15 hcy hoy hfy
  have HOx15 := Lib.hid (own_list hoy (List.nil_append _))
  have HGx15 : Hid (x15.heap[g2]? = _) := Lib.hid (hfy.blk HGx14.out (own_ne HOx14.out HGx14.out (by decide)))
  have HFx15 := Lib.hid (HFx14.out.trans hfy (fun b hb h => by have := (HOx14.out.lt b h).1; omega))
  clear hcy hoy hfy
  refine hKx.out _ _ ?_ (fun hHeld => ?_)
  · exact HMK.out _ HFx15.out
  clear hKx Kx
  (try simp only [Act.put, List.setIfInBounds_toArray, List.set_cons_zero, List.set_cons_succ, List.getElem_toArray, List.getElem_cons_zero, List.getElem_cons_succ])
  refine wpAnyH_ready (rs := [23]) (by kernel_rfl) (by simp) ?_
  refine AllReadyH.cons rfl (fun Kx hKx => ?_) AllReadyH.nil
  refine step_app intT _ (by rfl) _ _ (by rfl) w0.heap.size _ _ _ (by rfl) HOx15.out _ _ _ _ (by rfl) (HRb.out.fr HFx15.out (fun _ _ h => h)) (natc_one _) nc HNC.out (by unfold maxLen; omega) (by omega) HFx15.out.size ?_
  intro A2 c2 x16 hcy hoy hfy
  have HOx16 := Lib.hid (own_list hoy (show sa.map natc ++ sb.map natc = sc.map natc by rw [HSC.out, List.map_append]))
  have HCY := Lib.hid hcy
  have HGx16 : Hid (x16.heap[g2]? = _) := Lib.hid (hfy.blk HGx15.out (own_ne HOx15.out HGx15.out (by decide)))
  have HFx16 := Lib.hid (HFx15.out.trans hfy (fun b hb h => by have := (HOx15.out.lt b h).1; omega))
  clear hcy hoy hfy
  refine hKx.out _ _ ?_ (fun hHeld => ?_)
  · exact HMK.out _ HFx16.out
  clear hKx Kx
  (try simp only [Act.put, List.setIfInBounds_toArray, List.set_cons_zero, List.set_cons_succ, List.getElem_toArray, List.getElem_cons_zero, List.getElem_cons_succ])
  refine wpAnyH_take (i := 24) (v := ?vg24) rfl (by kernel_rfl) (by kernel_rfl) (by kernel_rfl) (fun _ _ _ h => h) (Or.inl ⟨by rfl, ?hyg24⟩) hHeld ?restg24
  case hyg24 => intro w hSw; (try dsimp only at hSw); go_simp; try (with_reducible rfl)
  (try simp only [Act.put, List.setIfInBounds_toArray, List.set_cons_zero, List.set_cons_succ, List.getElem_toArray, List.getElem_cons_zero, List.getElem_cons_succ])
  refine wpAnyH_ready (rs := [26]) (by kernel_rfl) (by simp) ?_
  refine AllReadyH.cons rfl (fun Kx hKx => ?_) AllReadyH.nil
  refine step_store_whole grpSize (by rfl) _ _ (by rfl) g2 (by rfl) #[.int .i64 (wc : Int), .slice A2 nc c2] (by rfl) _ _ HGx16.out rfl rfl (pair_all _ _ _ _) ?_
  intro x17 hst hfs
  have HFx17 := Lib.hid (HFx16.out.trans hfs (fun b hb e => by have := HGL.out; omega))
  have HOx17 := Lib.hid (hfs.own HOx16.out (fun k hk e => own_ne HOx16.out HGx16.out (by decide) (by rw [hk, e])))
  have HST := Lib.hid hst
  clear hst hfs
  refine hKx.out _ _ ?_ (fun hHeld => ?_)
  · exact HMK.out _ HFx17.out
  clear hKx Kx
  (try simp only [Act.put])
  refine wpAnyH_done (by kernel_rfl) ?_ _
  refine NoPanic.normal ?_
  exact hexit g2 A2 c2 _ _ _ _ _ _ _ _ _ _ _ _ _ _ _ _ _ _ _ _ _ _ _ _ _ _ HST HOx17 HCY HGL HFx17
end Go.Proofs.YtahfmcdhcbfkaaaDoor
