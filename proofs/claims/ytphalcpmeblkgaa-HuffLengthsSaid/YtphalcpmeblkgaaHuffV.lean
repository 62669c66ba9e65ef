/-
  The loop of layer 5's reference once that makes the groups (written by gen_once.py).
-/
import Derived.Test.YtphalcpmeblkgaaHuffZ
namespace Go.Proofs.Ytphalcpmeblkgaa
open Go.RowKit HuffM Mem Go.Lib
attribute [local go_sem ↓] Go.wp_at_zero Go.wp_at_succ
set_option linter.unusedVariables false

set_option maxRecDepth 1000000 in
noncomputable def mkgBody : Code := ((Try.f25.body.bind (loopAt 7)).getD .skip)
set_option maxRecDepth 1000000 in
set_option maxHeartbeats 3200000 in
theorem mkg_loop (Q0 : Exit → Act → World → Prop) (s1 s2 s3 s6 s7 s8 s9 s10 s11 s12 s13 s14 s15 s16 s17 s18 s19 s20 s21 s22 s23 s24 s25 s26 s27 s28 s29 s30 s31 s32 s33 s34 s35 s36 s37 s38 s39 s40 s41 s42 s43 s44 s45 s46 s47 s48 s49 s50 s51 s52 s53 s54 s55 s56 s57 s58 s59 s60 s61 s62 s63 s64 s65 s66 s67 s68 s69 s70 s71 s72 s73 s74 s75 s76 s77 s78 s79 s80 s81 s82 s83 s84 s85 s86 s87 s88 s89 s90 s91 s92 s93 s94 s95 s96 s97 s98 s99 s100 s101 s102 s103 s104 s105 s106 s107 s108 s109 s110 s111 s112 s113 s114 s115 s116 s117 s118 s119 s120 s121 s122 s123 s124 s125 s126 s127 s128 s129 s130 s131 s132 s133 s134 s135 s136 s137 s138 s139 s140 s141 s142 s143 s144 s145 s146 s147 s148 s149 s150 s151 s152 s153 s154 s155 s156 s157 s158 s159 s160 s161 s162 s163 s164 : Value) (A : Option Addr) (n c lim : Nat) (W : List Nat) (w0 : World) (HR : Hid (Rd w0 A n (W.map natc))) (hWn : W.length = n) (hn : n ≤ 1000) (hW : ∀ x ∈ W, x ≤ 1073741824) (hlim : lim < w0.heap.size)
    (hexit : ∀ (A' : Option Addr) (q c' : Nat) (E : List (Grp × Value)) (w'' : World) (r5 r17 r18 r19 r20 r21 r22 r23 r24 r25 r26 r27 r28 r29 r30 r31 r32 r33 r34 r35 r36 r37 : Value), Hid (OwnG w'' w0.heap.size A' c' E) → Hid (E.length = q ∧ q ≤ n ∧ q ≤ c') → Hid (gs E = gI W n) → Hid (SymOk w'' lim E) → Fr (fun _ => False) w0 w'' → Q0 (.exit 0) ⟨List.toArray (.slice A n c :: s1 :: s2 :: s3 :: .slice A' q c' :: r5 :: s6 :: s7 :: s8 :: s9 :: s10 :: s11 :: s12 :: s13 :: s14 :: s15 :: s16 :: r17 :: r18 :: r19 :: r20 :: r21 :: r22 :: r23 :: r24 :: r25 :: r26 :: r27 :: r28 :: r29 :: r30 :: r31 :: r32 :: r33 :: r34 :: r35 :: r36 :: r37 :: s38 :: s39 :: s40 :: s41 :: s42 :: s43 :: s44 :: s45 :: s46 :: s47 :: s48 :: s49 :: s50 :: s51 :: s52 :: s53 :: s54 :: s55 :: s56 :: s57 :: s58 :: s59 :: s60 :: s61 :: s62 :: s63 :: s64 :: s65 :: s66 :: s67 :: s68 :: s69 :: s70 :: s71 :: s72 :: s73 :: s74 :: s75 :: s76 :: s77 :: s78 :: s79 :: s80 :: s81 :: s82 :: s83 :: s84 :: s85 :: s86 :: s87 :: s88 :: s89 :: s90 :: s91 :: s92 :: s93 :: s94 :: s95 :: s96 :: s97 :: s98 :: s99 :: s100 :: s101 :: s102 :: s103 :: s104 :: s105 :: s106 :: s107 :: s108 :: s109 :: s110 :: s111 :: s112 :: s113 :: s114 :: s115 :: s116 :: s117 :: s118 :: s119 :: s120 :: s121 :: s122 :: s123 :: s124 :: s125 :: s126 :: s127 :: s128 :: s129 :: s130 :: s131 :: s132 :: s133 :: s134 :: s135 :: s136 :: s137 :: s138 :: s139 :: s140 :: s141 :: s142 :: s143 :: s144 :: s145 :: s146 :: s147 :: s148 :: s149 :: s150 :: s151 :: s152 :: s153 :: s154 :: s155 :: s156 :: s157 :: s158 :: s159 :: s160 :: s161 :: s162 :: s163 :: s164 :: []), []⟩ w'') :
    Code.wp Try.prog (Code.loop mkgBody) Q0 ⟨List.toArray (.slice A n c :: s1 :: s2 :: s3 :: .slice none 0 0 :: .int .i64 0 :: s6 :: s7 :: s8 :: s9 :: s10 :: s11 :: s12 :: s13 :: s14 :: s15 :: s16 :: s17 :: s18 :: s19 :: s20 :: s21 :: s22 :: s23 :: s24 :: s25 :: s26 :: s27 :: s28 :: s29 :: s30 :: s31 :: s32 :: s33 :: s34 :: s35 :: s36 :: s37 :: s38 :: s39 :: s40 :: s41 :: s42 :: s43 :: s44 :: s45 :: s46 :: s47 :: s48 :: s49 :: s50 :: s51 :: s52 :: s53 :: s54 :: s55 :: s56 :: s57 :: s58 :: s59 :: s60 :: s61 :: s62 :: s63 :: s64 :: s65 :: s66 :: s67 :: s68 :: s69 :: s70 :: s71 :: s72 :: s73 :: s74 :: s75 :: s76 :: s77 :: s78 :: s79 :: s80 :: s81 :: s82 :: s83 :: s84 :: s85 :: s86 :: s87 :: s88 :: s89 :: s90 :: s91 :: s92 :: s93 :: s94 :: s95 :: s96 :: s97 :: s98 :: s99 :: s100 :: s101 :: s102 :: s103 :: s104 :: s105 :: s106 :: s107 :: s108 :: s109 :: s110 :: s111 :: s112 :: s113 :: s114 :: s115 :: s116 :: s117 :: s118 :: s119 :: s120 :: s121 :: s122 :: s123 :: s124 :: s125 :: s126 :: s127 :: s128 :: s129 :: s130 :: s131 :: s132 :: s133 :: s134 :: s135 :: s136 :: s137 :: s138 :: s139 :: s140 :: s141 :: s142 :: s143 :: s144 :: s145 :: s146 :: s147 :: s148 :: s149 :: s150 :: s151 :: s152 :: s153 :: s154 :: s155 :: s156 :: s157 :: s158 :: s159 :: s160 :: s161 :: s162 :: s163 :: s164 :: []), []⟩ w0 := by
  conv => arg 2; arg 1; whnf
  have HWN := Lib.hid hWn
  have HW := Lib.hid hW
  clear hWn hW
  go_loopw [4, 5] (fun a i wr => ∃ (k q : Nat) (A' : Option Addr) (c' : Nat) (E : List (Grp × Value)), k ≤ n ∧ i = .int .i64 (k : Int) ∧ a = .slice A' q c' ∧ q ≤ k ∧ q ≤ c' ∧ Hid (E.length = q) ∧ Hid (OwnG wr w0.heap.size A' c' E) ∧ Hid (gs E = gI W k) ∧ Hid (SymOk wr lim E) ∧ Fr (fun _ => False) w0 wr) (fun _ i _ => n - (intOf i).toNat)
  case atStart => exact ⟨0, 0, none, 0, [], by omega, rfl, rfl, by omega, by omega, rfl, OwnG.nil _ _, rfl, (fun p hp => by simp at hp), Fr.refl _ _⟩
  case round =>
    obtain ⟨k, q, A', c', E, hk, rfl, rfl, hqk, hqc, HQ, HOE, HGS, HSy, hfr⟩ := hrel
    by_cases hlt : k < n
    · obtain ⟨ad, u, rfl, hu, hcell⟩ := (HR.out.fr hfr (fun _ _ h => h)).at_ hlt
      obtain ⟨x, hx⟩ : ∃ x, W[k]? = some x := ⟨_, List.getElem?_eq_getElem (by have := HWN.out; omega)⟩
      obtain rfl : natc x = u := by simpa [hx] using hu
      unfold natc at hcell
      have hgd : W.getD k 0 = x := by rw [List.getD_eq_getElem?_getD, hx]; rfl
      have hxb := HW.out x (List.mem_of_getElem? hx)
      clear hu hx
      by_cases hx0 : 0 < x
      · have t : decide (0 < x) = true := by simpa using hx0
        have e : gI W (k + 1) = gI W k ++ [⟨x, [k]⟩] := by rw [gI_step, hgd, if_pos hx0]
        have hrow := HOE.out.row HQ.out
        have hsz := hfr.size
        obtain ⟨wb, hwb⟩ : ∃ wb, wr.alloc (.cells #[.int .i64 (k : Int)] 3) = wb := ⟨_, rfl⟩
        have hfb : Fr (fun _ => False) wr wb := by rw [← hwb]; exact (Fr.refl _ _).alloc _
        have hrb : Rd wb (some ⟨wr.heap.size, 0, none⟩) 1 ([k].map natc) := by rw [← hwb]; exact Rd.one' rfl _ _
        obtain ⟨b1, hb1⟩ : ∃ b1, b1 = wr.heap.size := ⟨_, rfl⟩
        have hbs : wb.heap.size = b1 + 1 := by rw [← hwb, hb1]; simp
        rw [← hb1] at hrb
        have hrowb := hfb.own hrow (fun _ _ h => h)
        have E1 := Lib.hid e
        have HFB := Lib.hid hfb
        have HRB := Lib.hid hrb
        have HSB := Lib.hid hbs
        have HB1 := Lib.hid hb1
        clear e hgd hwb hfb hrb hbs hb1 hx0
        go_wp2_with (at_builtin; refine wpList_appS grpT _ rfl _ _ rfl w0.heap.size _ _ _ rfl (((hrow.alloc _).alloc _)) _ _ _ rfl rfl (news2 (by simp) (natc x) (.slice (some ⟨wr.heap.size, 0, none⟩) 1 1) _) one_pair (q + 1) rfl (by unfold maxLen; omega) (by omega) (by simp; omega) ?_)
        intro A2 c2 w2 hown2 hc2 hfr2
        have hfa : Fr (fun _ => False) wr ((wr.alloc (.cells #[.int .i64 (k : Int)] 3)).alloc (.cells #[.int .i64 (x : Int), .slice (some ⟨wr.heap.size, 0, none⟩) 1 1] 69)) := ((Fr.refl _ wr).alloc _).alloc _
        have HO2 := Lib.hid (OwnG.of_row (p := ((⟨x, [k]⟩ : Grp), Value.slice (some ⟨wr.heap.size, 0, none⟩) 1 1)) hown2 HQ.out)
        have HF2 := Lib.hid (fr_row hfr hrow hfa hfr2)
        have hblk : w2.heap[wr.heap.size]? = some (.cells #[.int .i64 (k : Int)] 3 (0, 0)) := by
          have h1 : (wr.alloc (.cells #[.int .i64 (k : Int)] 3)).heap[wr.heap.size]? = some (.cells #[.int .i64 (k : Int)] 3 (0, 0)) := heap_alloc_new wr _
          have h2 := ((Fr.refl (fun _ => False) (wr.alloc (.cells #[.int .i64 (k : Int)] 3))).alloc (.cells #[.int .i64 (x : Int), .slice (some ⟨wr.heap.size, 0, none⟩) 1 1] 69)).blk h1 (fun h => h)
          exact hfr2.blk h2 (fun h => by have := (hrow.lt _ h).2; omega)
        have hsy : SymOk w2 lim (E ++ [((⟨x, [k]⟩ : Grp), Value.slice (some ⟨wr.heap.size, 0, none⟩) 1 1)]) := by
          intro p hp
          rcases List.mem_append.1 hp with hp | hp
          · exact ((HSy.out.fr hfa (fun b h => h.elim)).row (hfa.own hrow (fun _ _ h => h)) hfr2) p hp
          · simp at hp
            subst hp
            refine ⟨some ⟨wr.heap.size, 0, none⟩, 1, rfl, Nat.le_refl _, ?_, fun ad h => ?_⟩
            · exact rd_blk (xs := [natc k]) hblk
            · injection h with h
              subst h
              exact ⟨by show lim < wr.heap.size; omega, _, _, hblk⟩
        have hgs2 : gs (E ++ [((⟨x, [k]⟩ : Grp), Value.slice (some ⟨wr.heap.size, 0, none⟩) 1 1)]) = gI W (k + 1) := by rw [gs_snoc, HGS.out]; exact E1.out.symm
        have hql : (E ++ [((⟨x, [k]⟩ : Grp), Value.slice (some ⟨wr.heap.size, 0, none⟩) 1 1)]).length = q + 1 := by rw [List.length_append, HQ.out]; rfl
        obtain ⟨E3, hE3⟩ : ∃ E3, E3 = E ++ [((⟨x, [k]⟩ : Grp), Value.slice (some ⟨wr.heap.size, 0, none⟩) 1 1)] := ⟨_, rfl⟩
        rw [← hE3] at HO2 hsy hgs2 hql
        have HSY := Lib.hid hsy
        have HGS2 := Lib.hid hgs2
        have HQL := Lib.hid hql
        clear hown2 hfr2 hblk hsy hgs2 hql hfa hrow hrowb hE3
        go_wp2
        go_roundw
        case rel => exact ⟨k + 1, q + 1, A2, c2, E3, by omega, by go_num, rfl, by omega, hc2, HQL, HO2, HGS2, HSY, HF2.out⟩
        case measure => simp [intOf] <;> omega
      · have t : decide (0 < x) = false := by simpa using hx0
        have e : gs E = gI W (k + 1) := by rw [gI_step, hgd, if_neg hx0]; exact HGS.out
        have E1 := Lib.hid e
        clear e hgd hx0
        go_wp2
        go_roundw
        case rel => exact ⟨k + 1, q, A', c', E, by omega, by go_num, rfl, by omega, hqc, HQ, HOE, E1, HSy, hfr⟩
        case measure => simp [intOf] <;> omega
    · obtain rfl : k = n := by omega
      go_wp2_with fail
      all_goals exact hexit A' q c' E _ _ _ _ _ _ _ _ _ _ _ _ _ _ _ _ _ _ _ _ _ _ _ HOE (Lib.hid ⟨HQ.out, hqk, hqc⟩) HGS HSy hfr
end Go.Proofs.Ytphalcpmeblkgaa
