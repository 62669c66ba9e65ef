/-
  Layer 17, the program: rightOp, Right.
  Layer 17, the program: Names.
-/
import Derived.Test.YtbnkahjmeobblaaZm26
import Derived.Test.YtbnkahjmeobblaaZm25
import Derived.Test.YtbnkahjmeobblaaZm24
namespace Go.Proofs.Ytbnkahjmeobblaa
open Go.RowKit Mem Go.Lib LebM UtfM VaM OpM
attribute [local go_sem ↓] Go.wp_at_zero Go.wp_at_succ
set_option linter.unusedVariables false

def rightsB (L : List Om) : Bool := L.all fun x => rightO x.o
def zeroM : Om := ⟨zeroO, none, 0⟩
theorem new_zero (w : World) : ∃ g w1, w.heap.size = g ∧ w.alloc (.cells #[.int .i64 0, .string ⟨#[]⟩, .string ⟨#[]⟩, .bool false, .int .i64 0, .string ⟨#[]⟩, .bool false, .int .i64 0, .int .i64 0, .int .u64 0, .int .i64 0, .string ⟨#[]⟩, .slice none 0 0] 50) = w1 ∧ RowO w1 g zeroM ∧ Fr (fun _ => False) w w1 := ⟨_, _, rfl, rfl, RowO.new w zeroM, (Fr.refl _ _).alloc _⟩
end Go.Proofs.Ytbnkahjmeobblaa
namespace Go.Proofs.Ytbnkahjmeobblaa
open Go.RowKit Mem Go.Lib LebM UtfM VaM OpM
attribute [local go_sem ↓] Go.wp_at_zero Go.wp_at_succ
set_option linter.unusedVariables false

def namesM (L : List Om) : List Nm := L.flatMap fun x => namesO x.o
theorem namesM_len {L : List Om} (h : ∀ x ∈ L, x.o.pr.length ≤ 1000) : (namesM L).length ≤ L.length * 1002 := by
  induction L with
  | nil => simp [namesM]
  | cons x L ih =>
    have h1 := h x (List.mem_cons_self ..)
    have h2 := ih (fun y hy => h y (List.mem_cons_of_mem _ hy))
    have h3 : (namesO x.o).length ≤ 1002 := by
      have := List.length_filter_le (fun x => !zeroB x) (x.o.obj :: x.o.elem :: x.o.pr)
      unfold namesO
      simp only [List.length_cons] at this
      omega
    unfold namesM at h2 ⊢
    rw [List.flatMap_cons, List.length_append, List.length_cons]
    omega
set_option maxRecDepth 100000 in
set_option maxHeartbeats 6400000 in
theorem names_any (A : Option Addr) (n c : Nat) (L : List Om) (w : World) (hL : Ops w A n L) (hn : n ≤ 3000) (hok : ∀ x ∈ L, x.short ∧ x.o.pr.length ≤ 1000) :
    Calls Try.prog 52 #[.slice A n c] w fun e w' => ∃ A' c', e = .returned (.slice A' (namesM L).length c') ∧ OwnN w' w.heap.size A' c' (namesM L) ∧ Fr (fun _ => False) w w' := by
  have hln := hL.len
  have hbig : ∀ k, (namesM (L.take k)).length ≤ 3006000 := fun k => by
    have h1 := namesM_len (L := L.take k) (fun x hx => (hok x (List.mem_of_mem_take hx)).2)
    have h2 : (L.take k).length ≤ 3000 := by rw [List.length_take]; omega
    omega
  obtain ⟨R, hR⟩ : ∃ R, namesM L = R := ⟨_, rfl⟩
  rw [hR]
  have HR := Lib.hid hR
  have HL := Lib.hid hL
  have HLN := Lib.hid hln
  have HOK := Lib.hid hok
  have HBIG := Lib.hid hbig
  clear hL hln hok hR hbig
  go_enter Try.func52, Try.ntmps52
  go_wp2_with fail
  go_loopw [3, 10] (fun v i wr => ∃ k : Nat, k ≤ n ∧ i = .int .i64 (k : Int) ∧ ∃ A1 c1 NL, v = .slice A1 NL.length c1 ∧ Hid (namesM (L.take k) = NL) ∧ Hid (OwnN wr w.heap.size A1 c1 NL) ∧ Hid (Fr (fun _ => False) w wr)) (fun _ i _ => n - (intOf i).toNat)
  case atStart => exact ⟨0, Nat.zero_le _, rfl, none, 0, [], rfl, (rfl : namesM (L.take 0) = []), OwnP.nil _ _ _, Fr.refl _ _⟩
  case round =>
    obtain ⟨k, hk, rfl, A1, c1, NL, rfl, HNL, HON, HF⟩ := hrel
    rename World => wr
    by_cases hlt : k < n
    · obtain ⟨x, hx⟩ : ∃ x, L[k]? = some x := ⟨_, List.getElem?_eq_getElem (by have := HLN.out; omega)⟩
      have hLr := HL.out.fr HF.out
      obtain ⟨b, o, rfl, hb, hat⟩ := hLr.1.2 k x hx
      obtain ⟨k0, k1, k2, k3, k4, k5, k6, k7, k8, k9, k10, k11, k12⟩ := hat
      have hpr := hLr.2 x (List.mem_of_getElem? hx)
      obtain ⟨hxs, hxp⟩ := HOK.out x (List.mem_of_getElem? hx)
      have hnext : namesM (L.take (k + 1)) = NL ++ namesO x.o := by
        have h := HNL.out
        unfold namesM at h ⊢
        rw [List.take_add_one, hx, List.flatMap_append, h, Option.toList_some, List.flatMap_singleton]
      obtain ⟨p, w1, hp, hw1, hr1, hf1⟩ := new_zero wr
      have HPR := Lib.hid hpr
      have HXS := Lib.hid hxs
      have HNX := Lib.hid hnext
      have HW1 := Lib.hid hr1
      have HP := Lib.hid hp
      have HF1 := Lib.hid hf1
      have HXP := Lib.hid hxp
      clear hx hnext hr1 hf1 hpr hxs hLr hxp
      go_wp2_with (refine store_st oSz rfl (.tmp 5) (.tmp 13) rfl p (by rfl) (ols x) (by rfl) _ _ HW1.out rfl rfl (o_one _) ?_)
      intro w2 hr2 hf2
      have hv2 : RowO w2 p x := hr2
      clear k0 k1 k2 k3 k4 k5 k6 k7 k8 k9 k10 k11 k12
      obtain ⟨d0, d1, d2, d3, d4, d5, d6, d7, d8, d9, d10, d11, d12⟩ := hv2.cells
      have HX2 : Hid (Fr (fun _ => False) wr w2) := Lib.hid (HF1.out.trans hf2 (fun b hb h => by have := HP.out; omega))
      have HF2 := Lib.hid (HF.out.trans HX2.out (fun _ _ h => h))
      clear hr2 hf2 hv2 hw1 hp
      obtain ⟨bm, hbm⟩ : ∃ bm, w2.heap.size = bm := ⟨_, rfl⟩
      obtain ⟨w3, hw3⟩ : ∃ w3, w2.alloc (.cells #[.int .i64 x.o.obj.c, .string (txt x.o.obj.a), .int .i64 x.o.elem.c, .string (txt x.o.elem.a)] 44) = w3 := ⟨_, rfl⟩
      have hf3 : Fr (fun _ => False) w2 w3 := by rw [← hw3]; exact (Fr.refl _ _).alloc _
      have hrow3 : Row w3 bm 44 ([x.o.obj, x.o.elem].flatMap (pcells ncc nac)) := by rw [← hw3, ← hbm]; exact Row.new w2 _ _
      have hw3s : bm < w3.heap.size := hrow3.lt
      have ho3 : OwnN w3 bm (some ⟨bm, 0, none⟩) 2 [x.o.obj, x.o.elem] := ⟨rfl, .inr ⟨bm, 2, _, rfl, Nat.le_refl _, hrow3, Nat.le_refl _, by unfold maxLen; omega, rfl, rfl⟩⟩
      have h30 := HF2.out.trans hf3 (fun _ _ h => h)
      have e0 : w3.cell? ⟨p, 12, none⟩ = some (.slice x.A x.o.pr.length x.c) := hf3.cell d12 (fun h => h)
      have HPR3 : Hid (Prd w3 x) := Lib.hid ((HPR.out.fr0 HX2.out).fr0 hf3)
      have HX3 := Lib.hid (HX2.out.trans hf3 (fun _ _ h => h))
      have HF3 := Lib.hid h30
      have HO3 := Lib.hid ho3
      have HB3 : Hid (bm ≤ w3.heap.size ∧ wr.heap.size ≤ bm ∧ w.heap.size ≤ wr.heap.size) := Lib.hid ⟨by omega, by have := HX2.out.size; omega, HF.out.size⟩
      clear hf3 hrow3 hw3s ho3 h30
      have hpx := HPR3.out.1
      have HPX := Lib.hid hpx
      clear hpx
      obtain ⟨M, hM⟩ : ∃ M, x.o.obj :: x.o.elem :: x.o.pr = M := ⟨_, rfl⟩
      have HM0 := Lib.hid hM
      clear hM
      go_wp2_with (at_builtin; refine wpList_appNm _ rfl _ _ rfl bm _ _ [x.o.obj, x.o.elem] rfl HO3.out _ _ _ x.o.pr rfl HPX.out M HM0.out.symm (by rw [← HM0.out]; have := HXP.out; simp; omega) HB3.out.1 ?_)
      intro A2 c2 w4 ho4 hf4 _
      have hM := HM0.out
      clear HM0
      obtain ⟨lm, hlm⟩ : ∃ l, M.length = l := ⟨_, rfl⟩
      rw [hlm]
      have hlm2 : lm ≤ 1002 := by rw [← hlm, ← hM]; have := HXP.out; simp; omega
      obtain ⟨gm, om, hA2, hgm, _, _⟩ := ho4.prs.2 0 x.o.obj (by rw [← hM]; rfl)
      have hgb : bm ≤ gm := (ho4.lt gm (by rw [hA2]; rfl)).1
      have hmm := ho4.prs
      rw [hlm, hA2] at hmm
      have hfw4 : Fr (fun _ => False) w2 w4 := ((Fr.refl _ w2).trans (hw3 ▸ (Fr.refl (fun _ => False) w2).alloc _) (fun _ _ h => h)).trans hf4 (fun b hb h => by simp [Value.ownBlock] at h; omega)
      have HM := Lib.hid hM
      have HLM := Lib.hid hlm
      have HLM2 := Lib.hid hlm2
      have HMM := Lib.hid hmm
      have HF4 := Lib.hid (HF2.out.trans hfw4 (fun _ _ h => h))
      have HON4 := Lib.hid ((HON.out.fr HX2.out).fr hfw4)
      have HAP : Hid (∀ b, (Value.slice A1 NL.length c1).ownBlock = some b → b ≠ gm) := Lib.hid (fun b hb => by
        have := (HON.out.lt b hb).2
        have := HB3.out
        omega)
      subst hA2
      clear ho4 hf4 hM hlm hgm hgb hmm hfw4 hw3 hbm d0 d1 d2 d3 d4 d5 d6 d7 d8 d9 d10 d11 d12 e0 HPR3 HPX HO3
      go_wp2_with fail
      go_loopw [3, 23] (fun v i wq => ∃ j : Nat, j ≤ lm ∧ i = .int .i64 (j : Int) ∧ ∃ A1 c1 NK, v = .slice A1 NK.length c1 ∧ Hid (NL ++ (M.take j).filter (fun x => !zeroB x) = NK) ∧ Hid (OwnN wq w.heap.size A1 c1 NK) ∧ Hid (∀ b, (Value.slice A1 NK.length c1).ownBlock = some b → b ≠ gm) ∧ Hid (Nms wq (some ⟨gm, om, none⟩) lm M) ∧ Hid (Fr (fun _ => False) w wq)) (fun _ i _ => lm - (intOf i).toNat)
      case atStart => exact ⟨0, Nat.zero_le _, rfl, A1, c1, NL, rfl, (by simp : NL ++ (M.take 0).filter (fun x => !zeroB x) = NL), HON4, HAP, HMM, HF4⟩
      case round =>
        obtain ⟨j, hj, rfl, A3, c3, NK, rfl, HNK, HOK3, HAP3, HMQ, HFQ⟩ := hrel
        rename World => wq
        by_cases hlt2 : j < lm
        · obtain ⟨y, hy⟩ : ∃ y, M[j]? = some y := ⟨_, List.getElem?_eq_getElem (by have := HLM.out; omega)⟩
          obtain ⟨gy, oy, hay, hby, n0, n1⟩ := HMQ.out.2 j y hy
          injection hay with hay
          injection hay with hay1 hay2
          subst hay1 hay2
          simp only [ncc, nac] at n0 n1
          have hyl : y.a.length ≤ 1000000 := by
            have hmem := List.mem_of_getElem? hy
            rw [← HM.out] at hmem
            rcases List.mem_cons.1 hmem with rfl | hmem
            · exact HXS.out.1
            · rcases List.mem_cons.1 hmem with rfl | hmem
              · exact HXS.out.2.1
              · exact HXS.out.2.2.2.2.2 y hmem
          have hstep : NL ++ (M.take (j + 1)).filter (fun x => !zeroB x) = NK ++ (if zeroB y = true then [] else [y]) := by
            rw [List.take_add_one, hy, List.filter_append, ← List.append_assoc, HNK.out]
            congr 1
            cases h : zeroB y <;> simp [h]
          obtain ⟨p2, hp2⟩ : ∃ p, wq.heap.size = p := ⟨_, rfl⟩
          obtain ⟨v1, hv1⟩ : ∃ v, wq.alloc (.cells #[.int .i64 0, .string ⟨#[]⟩] 44) = v := ⟨_, rfl⟩
          have hg1 : Fr (fun _ => False) wq v1 := by rw [← hv1]; exact (Fr.refl _ _).alloc _
          have hz1 : RowN v1 p2 zeroN := by rw [← hv1, ← hp2]; exact RowN.new wq zeroN
          have hzr := fun w => zero_any y w
          have hlk := fun w => like_any y w hyl
          obtain ⟨z, hze⟩ : ∃ z, zeroB y = z := ⟨_, rfl⟩
          rw [hze] at hstep
          simp only [hze] at hzr
          unfold nmc at hzr hlk
          have HZR := Lib.hid hzr
          have HLK := Lib.hid hlk
          have HST := Lib.hid hstep
          have HV1 := Lib.hid hz1
          have HG1 := Lib.hid hg1
          have HP2 := Lib.hid hp2
          clear hy hby hyl hstep hg1 hz1 hzr hlk hze
          go_wp2_with (refine store_st nSz rfl (.tmp 7) (.tmp 26) rfl p2 (by rfl) (nls y) (by rfl) _ _ HV1.out rfl rfl (n_one _) ?_)
          intro v2 hr2 hf2
          have hy2 : RowN v2 p2 y := hr2
          obtain ⟨d0, d1⟩ := hy2.cells
          have HY2 := Lib.hid hy2
          have HG2 : Hid (Fr (fun _ => False) wq v2) := Lib.hid (HG1.out.trans hf2 (fun b hb h => by have := HP2.out; omega))
          clear hr2 hf2 hy2 hv1 hp2 n0 n1
          go_wp2_with fail
          refine (HZR.out _).mono ?_
          rintro e v3 ⟨rfl, hf⟩
          have HG3 := Lib.hid (HG2.out.trans hf (fun _ _ h => h))
          have HY3 := Lib.hid (HY2.out.fr hf (fun h => h))
          clear hf d0 d1
          cases z with
          | true =>
            have HN2 : Hid (NL ++ (M.take (j + 1)).filter (fun x => !zeroB x) = NK) := Lib.hid (by rw [HST.out]; simp)
            go_wp2_with fail
            exact ⟨⟨j + 1, by omega, by go_num, A3, c3, NK, rfl, HN2, Lib.hid (HOK3.out.fr HG3.out), HAP3, Lib.hid (HMQ.out.fr HG3.out (fun _ _ h => h)), Lib.hid (HFQ.out.trans HG3.out (fun _ _ h => h))⟩, by simp [intOf]; omega⟩
          | false =>
            obtain ⟨NQ, hNQ⟩ : ∃ l, NK ++ [y] = l := ⟨_, rfl⟩
            have HN2 : Hid (NL ++ (M.take (j + 1)).filter (fun x => !zeroB x) = NQ) := Lib.hid (by rw [HST.out, ← hNQ]; simp)
            have HNQ := Lib.hid hNQ
            clear hNQ
            obtain ⟨d0, d1⟩ := HY3.out.cells
            go_wp2_with fail
            refine (HLK.out _).mono ?_
            rintro e v4 ⟨rfl, hf⟩
            have HG4 := Lib.hid (HG3.out.trans hf (fun _ _ h => h))
            obtain ⟨q, hq⟩ : ∃ q, v4.heap.size = q := ⟨_, rfl⟩
            obtain ⟨v5, hv5⟩ : ∃ v, v4.alloc (.cells #[.int .i64 y.c, .string (txt y.a)] 44) = v := ⟨_, rfl⟩
            have hg5 : Fr (fun _ => False) v4 v5 := by rw [← hv5]; exact (Fr.refl _ _).alloc _
            have hr5 : Row v5 q 44 ([y].flatMap nls) := by rw [← hv5, ← hq]; exact Row.new v4 _ _
            have HR5 : Hid (Nms v5 (some ⟨q, 0, none⟩) 1 [y]) := Lib.hid (Nms.row hr5)
            have HG5 := Lib.hid (HG4.out.trans hg5 (fun _ _ h => h))
            have HO5 := Lib.hid (HOK3.out.fr HG5.out)
            have HB5 : Hid (w.heap.size ≤ v5.heap.size ∧ NQ.length ≤ 1000000000 ∧ gm < v5.heap.size) := Lib.hid ⟨by have := HFQ.out.size; have := HG5.out.size; omega, by
              rw [← HN2.out]
              have h1 := HBIG.out k
              rw [HNL.out] at h1
              have h2 := List.length_filter_le (fun x => !zeroB x) (M.take (j + 1))
              rw [List.length_take] at h2
              have := HLM.out
              have := HLM2.out
              rw [List.length_append]
              omega, by
              obtain ⟨y', hy'⟩ : ∃ y, M[j]? = some y := ⟨_, List.getElem?_eq_getElem (by have := HLM.out; omega)⟩
              obtain ⟨gy, oy, hay, hby, _, _⟩ := HMQ.out.2 j y' hy'
              injection hay with hay
              injection hay with hay1 hay2
              subst hay1
              have := HG5.out.size
              omega⟩
            clear hf d0 d1 hg5 hr5
            go_wp2_with (at_builtin; refine wpList_appNm _ rfl _ _ rfl w.heap.size _ _ NK rfl HO5.out _ _ _ [y] rfl HR5.out NQ HNQ.out.symm HB5.out.2.1 HB5.out.1 ?_)
            intro A6 c6 v6 ho6 hf6 hown6
            have HO6 := Lib.hid ho6
            have HFS : Hid (Fr (fun k => (Value.slice A3 NK.length c3).ownBlock = some k) v5 v6) := Lib.hid hf6
            have HG6 : Hid (Fr (fun k => (Value.slice A3 NK.length c3).ownBlock = some k) wq v6) := Lib.hid ((HG5.out.mono (fun _ _ h => h.elim)).trans hf6 (fun _ _ h => h))
            have HAP6 : Hid (∀ b, (Value.slice A6 NQ.length c6).ownBlock = some b → b ≠ gm) := Lib.hid (fun b hb => by
              rcases hown6 with h | h
              · rw [h] at hb; exact HAP3.out b hb
              · rw [h] at hb
                injection hb with hb
                have := HB5.out.2.2
                omega)
            have HM6 : Hid (Nms v6 (some ⟨gm, om, none⟩) lm M) := Lib.hid (HMQ.out.fr HG6.out (fun ad e h => by
              injection e with e
              subst e
              exact HAP3.out gm h rfl))
            have HF6 : Hid (Fr (fun _ => False) w v6) := Lib.hid (HFQ.out.trans HG6.out (fun b hb h => by
              have := (HOK3.out.lt b h).1
              omega))
            clear ho6 hf6 hown6 hv5 hq
            go_wp2_with fail
            exact ⟨⟨j + 1, by omega, by go_num, A6, c6, NQ, rfl, HN2, HO6, HAP6, HM6, HF6⟩, by simp [intOf]; omega⟩
        · obtain rfl : j = lm := by omega
          have HNE : Hid (namesM (L.take (k + 1)) = NK) := Lib.hid (by
            rw [HNX.out, ← HNK.out, List.take_of_length_le (by have := HLM.out; omega), ← HM.out]
            rfl)
          go_wp2_with fail
          exact ⟨⟨k + 1, by omega, by go_num, A3, c3, NK, rfl, HNE, HOK3, HFQ⟩, by simp [intOf]; omega⟩
    · obtain rfl : k = n := by omega
      have HRE : Hid (R = NL) := Lib.hid (by
        rw [← HR.out, ← HNL.out, List.take_of_length_le (by have := HLN.out; omega)])
      go_wp2_with fail
      go_ret
      exact ⟨A1, c1, by rw [HRE.out]; rfl, by rw [HRE.out]; exact HON.out, HF.out⟩
end Go.Proofs.Ytbnkahjmeobblaa
