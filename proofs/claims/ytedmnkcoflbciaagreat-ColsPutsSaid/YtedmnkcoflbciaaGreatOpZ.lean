/-
  Layer 17, the reference: Names (written by gen_rnames.py).
-/
import Derived.Test.YtedmnkcoflbciaaGreatOpG
namespace Go.Proofs.YtedmnkcoflbciaaGreat
open Go.RowKit Mem Go.Lib LebM UtfM VaM OpM
attribute [local go_sem ↓] Go.wp_at_zero Go.wp_at_succ
set_option linter.unusedVariables false

theorem namesO_parts (o : O) : namesO o = (if zeroB o.obj = true then [] else [o.obj]) ++ (if zeroB o.elem = true then [] else [o.elem]) ++ o.pr.filter (fun x => !zeroB x) := by
  unfold namesO
  cases h1 : zeroB o.obj <;> cases h2 : zeroB o.elem <;> simp [h1, h2]
set_option maxRecDepth 100000 in
set_option maxHeartbeats 6400000 in
theorem rnames_any (A : Option Addr) (n c : Nat) (L : List Om) (w : World) (hL : Ops w A n L) (hn : n ≤ 1000) (hok : ∀ x ∈ L, x.o.pr.length ≤ 1000) :
    Calls Tryz.prog 18 #[.slice A n c] w fun e w' => ∃ A' c', e = .returned (.slice A' (namesM L).length c') ∧ OwnN w' w.heap.size A' c' (namesM L) ∧ Fr (fun _ => False) w w' := by
  have hln := hL.len
  have hbig : ∀ k, (namesM (L.take k)).length ≤ 1002000 := fun k => by
    have h1 := namesM_len (L := L.take k) (fun x hx => hok x (List.mem_of_mem_take hx))
    have h2 : (L.take k).length ≤ 1000 := by rw [List.length_take]; omega
    omega
  obtain ⟨R, hR⟩ : ∃ R, namesM L = R := ⟨_, rfl⟩
  rw [hR]
  have HR := Lib.hid hR
  have HL := Lib.hid hL
  have HLN := Lib.hid hln
  have HOK := Lib.hid hok
  have HBIG := Lib.hid hbig
  clear hL hln hok hR hbig
  go_enter Tryz.func18, Tryz.ntmps18
  go_wp2_with fail
  go_loopw [3, 4] (fun v i wr => ∃ k : Nat, k ≤ n ∧ i = .int .i64 (k : Int) ∧ ∃ A1 c1 NL, v = .slice A1 NL.length c1 ∧ Hid (namesM (L.take k) = NL) ∧ Hid (OwnN wr w.heap.size A1 c1 NL) ∧ Hid (Fr (fun _ => False) w wr)) (fun _ i _ => n - (intOf i).toNat)
  case atStart => exact ⟨0, Nat.zero_le _, rfl, none, 0, [], rfl, (rfl : namesM (L.take 0) = []), OwnP.nil _ _ _, Fr.refl _ _⟩
  case round =>
    obtain ⟨k, hk, rfl, A1, c1, NL, rfl, HNL, HON, HF⟩ := hrel
    rename World => wr
    by_cases hlt : k < n
    · obtain ⟨x, hx⟩ : ∃ x, L[k]? = some x := ⟨_, List.getElem?_eq_getElem (by have := HLN.out; omega)⟩
      obtain ⟨b, o, hA, hb, _⟩ := HL.out.1.2 k x hx
      have HAT : Hid (∀ w', Fr (fun _ => False) w w' → Oat w' b (o + k * 13) x) := Lib.hid (fun w' hf => by
        obtain ⟨b', o', e, _, hat⟩ := HL.out.1.2 k x hx
        rw [hA] at e
        injection e with e
        injection e with e1 e2
        subst e1 e2
        exact hat.fr hf (fun h => h))
      subst hA
      have HPR := Lib.hid (HL.out.2 x (List.mem_of_getElem? hx))
      have HXP := Lib.hid (HOK.out x (List.mem_of_getElem? hx))
      have hnext : namesM (L.take (k + 1)) = NL ++ namesO x.o := by
        have h := HNL.out
        unfold namesM at h ⊢
        rw [List.take_add_one, hx, List.flatMap_append, h, Option.toList_some, List.flatMap_singleton]
      have HNX := Lib.hid hnext
      have HLL : Hid (NL.length ≤ 1002000) := Lib.hid (by rw [← HNL.out]; exact HBIG.out k)
      clear hx hb hnext
      obtain ⟨q1, q2⟩ := n_neq0 x.o.obj
      obtain ⟨z, hz⟩ : ∃ z, zeroB x.o.obj = z := ⟨_, rfl⟩
      rw [hz] at q2
      have HZ := Lib.hid hz
      clear hz
      obtain ⟨k0, k1, k2, k3, k4, k5, k6, k7, k8, k9, k10, k11, k12⟩ := HAT.out wr HF.out
      go_upto_if 18 with fail
      go_cut [3] (fun v wx => ∃ A c NK, v = .slice A NK.length c ∧ Hid (NL ++ (if zeroB x.o.obj = true then [] else [x.o.obj]) = NK) ∧ Hid (OwnN wx w.heap.size A c NK) ∧ Hid (Fr (fun _ => False) w wx))
      case first =>
        cases z with
        | true =>
          go_wp2_with fail
          go_meet
          exact ⟨A1, c1, NL, rfl, Lib.hid (by rw [HZ.out]; simp), HON, HF⟩
        | false =>
          obtain ⟨NQ, hNQ⟩ : ∃ l, NL ++ [x.o.obj] = l := ⟨_, rfl⟩
          have HNQ := Lib.hid hNQ
          have HQL : Hid (NQ.length ≤ 1000000000) := Lib.hid (by rw [← hNQ, List.length_append]; have := HLL.out; simp; omega)
          clear hNQ
          obtain ⟨q, hq⟩ : ∃ q, wr.heap.size = q := ⟨_, rfl⟩
          obtain ⟨v5, hv5⟩ : ∃ v, wr.alloc (.cells #[.int .i64 x.o.obj.c, .string (txt x.o.obj.a)] 49) = v := ⟨_, rfl⟩
          have hg5 : Fr (fun _ => False) wr v5 := by rw [← hv5]; exact (Fr.refl _ _).alloc _
          have hr5 : Row v5 q 49 ([x.o.obj].flatMap nls) := by rw [← hv5, ← hq]; exact Row.new wr _ _
          have HR5 : Hid (Nms v5 (some ⟨q, 0, none⟩) 1 [x.o.obj]) := Lib.hid (Nms.row hr5)
          have HO5 := Lib.hid (HON.out.fr hg5)
          have HF5 := Lib.hid (HF.out.trans hg5 (fun _ _ h => h))
          have HB5 : Hid (w.heap.size ≤ v5.heap.size) := Lib.hid HF5.out.size
          clear hg5 hr5
          go_wp2_with (at_builtin; refine wpList_appNm _ rfl _ _ rfl w.heap.size _ _ NL rfl HO5.out _ _ _ [x.o.obj] rfl HR5.out NQ HNQ.out.symm HQL.out HB5.out ?_)
          intro A6 c6 v6 ho6 hf6 _
          have HO6 := Lib.hid ho6
          have HF6 : Hid (Fr (fun _ => False) w v6) := Lib.hid (HF5.out.trans hf6 (fun b hb h => by
            have := (HO5.out.lt b h).1
            omega))
          clear ho6 hf6 hv5 hq
          go_wp2_with fail
          go_meet
          exact ⟨A6, c6, NQ, rfl, Lib.hid (by rw [HZ.out, ← HNQ.out]; rfl), HO6, HF6⟩
      case rest =>
      clear q1 q2 k0 k1 k2 k3 k4 k5 k6 k7 k8 k9 k10 k11 k12
      obtain ⟨A2, c2, N2, rfl, HN2, HO2, HF2⟩ := hcut
      rename World => w2
      have HLL2 : Hid (N2.length ≤ 1002001) := Lib.hid (by rw [← HN2.out, List.length_append]; have := HLL.out; split <;> simp <;> omega)
      obtain ⟨q1, q2⟩ := n_neq0 x.o.elem
      obtain ⟨z, hz⟩ : ∃ z, zeroB x.o.elem = z := ⟨_, rfl⟩
      rw [hz] at q2
      have HZ := Lib.hid hz
      clear hz
      obtain ⟨k0, k1, k2, k3, k4, k5, k6, k7, k8, k9, k10, k11, k12⟩ := HAT.out w2 HF2.out
      go_upto_if 33 with fail
      go_cut [3] (fun v wx => ∃ A c NK, v = .slice A NK.length c ∧ Hid (N2 ++ (if zeroB x.o.elem = true then [] else [x.o.elem]) = NK) ∧ Hid (OwnN wx w.heap.size A c NK) ∧ Hid (Fr (fun _ => False) w wx))
      case first =>
        cases z with
        | true =>
          go_wp2_with fail
          go_meet
          exact ⟨A2, c2, N2, rfl, Lib.hid (by rw [HZ.out]; simp), HO2, HF2⟩
        | false =>
          obtain ⟨NQ, hNQ⟩ : ∃ l, N2 ++ [x.o.elem] = l := ⟨_, rfl⟩
          have HNQ := Lib.hid hNQ
          have HQL : Hid (NQ.length ≤ 1000000000) := Lib.hid (by rw [← hNQ, List.length_append]; have := HLL2.out; simp; omega)
          clear hNQ
          obtain ⟨q, hq⟩ : ∃ q, w2.heap.size = q := ⟨_, rfl⟩
          obtain ⟨v5, hv5⟩ : ∃ v, w2.alloc (.cells #[.int .i64 x.o.elem.c, .string (txt x.o.elem.a)] 49) = v := ⟨_, rfl⟩
          have hg5 : Fr (fun _ => False) w2 v5 := by rw [← hv5]; exact (Fr.refl _ _).alloc _
          have hr5 : Row v5 q 49 ([x.o.elem].flatMap nls) := by rw [← hv5, ← hq]; exact Row.new w2 _ _
          have HR5 : Hid (Nms v5 (some ⟨q, 0, none⟩) 1 [x.o.elem]) := Lib.hid (Nms.row hr5)
          have HO5 := Lib.hid (HO2.out.fr hg5)
          have HF5 := Lib.hid (HF2.out.trans hg5 (fun _ _ h => h))
          have HB5 : Hid (w.heap.size ≤ v5.heap.size) := Lib.hid HF5.out.size
          clear hg5 hr5
          go_wp2_with (at_builtin; refine wpList_appNm _ rfl _ _ rfl w.heap.size _ _ N2 rfl HO5.out _ _ _ [x.o.elem] rfl HR5.out NQ HNQ.out.symm HQL.out HB5.out ?_)
          intro A6 c6 v6 ho6 hf6 _
          have HO6 := Lib.hid ho6
          have HF6 : Hid (Fr (fun _ => False) w v6) := Lib.hid (HF5.out.trans hf6 (fun b hb h => by
            have := (HO5.out.lt b h).1
            omega))
          clear ho6 hf6 hv5 hq
          go_wp2_with fail
          go_meet
          exact ⟨A6, c6, NQ, rfl, Lib.hid (by rw [HZ.out, ← HNQ.out]; rfl), HO6, HF6⟩
      case rest =>
      clear q1 q2 k0 k1 k2 k3 k4 k5 k6 k7 k8 k9 k10 k11 k12
      obtain ⟨A3, c3, N3, rfl, HN3, HO3, HF3⟩ := hcut
      rename World => w3
      have HLL3 : Hid (N3.length ≤ 1002002) := Lib.hid (by rw [← HN3.out, List.length_append]; have := HLL2.out; split <;> simp <;> omega)
      obtain ⟨lp, hlp⟩ : ∃ l, x.o.pr.length = l := ⟨_, rfl⟩
      have HLP := Lib.hid hlp
      have hlp2 : lp ≤ 1000 := by rw [← hlp]; exact HXP.out
      obtain ⟨A0, hA0⟩ : ∃ A0, x.A = A0 := ⟨_, rfl⟩
      have HA0 := Lib.hid hA0
      clear hlp hA0
      go_wp2_with fail
      go_loopw [3, 5] (fun v i wq => ∃ j : Nat, j ≤ lp ∧ i = .int .i64 (j : Int) ∧ ∃ A1 c1 NK, v = .slice A1 NK.length c1 ∧ Hid (N3 ++ (x.o.pr.take j).filter (fun x => !zeroB x) = NK) ∧ Hid (OwnN wq w.heap.size A1 c1 NK) ∧ Hid (Fr (fun _ => False) w wq)) (fun _ i _ => lp - (intOf i).toNat)
      case atStart => exact ⟨0, Nat.zero_le _, rfl, A3, c3, N3, rfl, (by simp : N3 ++ (x.o.pr.take 0).filter (fun x => !zeroB x) = N3), HO3, HF3⟩
      case round =>
        obtain ⟨j, hj, rfl, A4, c4, NK, rfl, HNK, HOK4, HFQ⟩ := hrel
        rename World => wq
        obtain ⟨k0, k1, k2, k3, k4, k5, k6, k7, k8, k9, k10, k11, k12⟩ := HAT.out wq HFQ.out
        rw [HLP.out, HA0.out] at k12
        by_cases hlt2 : j < lp
        · obtain ⟨y, hy⟩ : ∃ y, x.o.pr[j]? = some y := ⟨_, List.getElem?_eq_getElem (by have := HLP.out; omega)⟩
          obtain ⟨gy, oy, hay, hby, n0, n1⟩ := (HPR.out.fr0 HFQ.out).1.2 j y hy
          simp only [ncc, nac] at n0 n1
          have hay2 := HA0.out.symm.trans hay
          subst hay2
          have hstep : N3 ++ (x.o.pr.take (j + 1)).filter (fun x => !zeroB x) = NK ++ (if zeroB y = true then [] else [y]) := by
            rw [List.take_add_one, hy, List.filter_append, ← List.append_assoc, HNK.out]
            congr 1
            cases h : zeroB y <;> simp [h]
          obtain ⟨q1, q2⟩ := n_neq0 y
          obtain ⟨z, hze⟩ : ∃ z, zeroB y = z := ⟨_, rfl⟩
          rw [hze] at hstep q2
          have HST := Lib.hid hstep
          have hnk : NK.length ≤ 1003002 := by
            rw [← HNK.out, List.length_append]
            have h2 := List.length_filter_le (fun x => !zeroB x) (x.o.pr.take j)
            rw [List.length_take] at h2
            have := HLL3.out
            omega
          have HNK2 := Lib.hid hnk
          clear hy hby hstep hze hay hnk
          cases z with
          | true =>
            have HN2' : Hid (N3 ++ (x.o.pr.take (j + 1)).filter (fun x => !zeroB x) = NK) := Lib.hid (by rw [HST.out]; simp)
            go_wp2_with fail
            exact ⟨⟨j + 1, by omega, by go_num, A4, c4, NK, rfl, HN2', HOK4, HFQ⟩, by simp [intOf]; omega⟩
          | false =>
            obtain ⟨NQ, hNQ⟩ : ∃ l, NK ++ [y] = l := ⟨_, rfl⟩
            have HN2' : Hid (N3 ++ (x.o.pr.take (j + 1)).filter (fun x => !zeroB x) = NQ) := Lib.hid (by rw [HST.out, ← hNQ]; simp)
            have HNQ := Lib.hid hNQ
            have HQL : Hid (NQ.length ≤ 1000000000) := Lib.hid (by rw [← hNQ, List.length_append]; have := HNK2.out; simp; omega)
            clear hNQ
            obtain ⟨q, hq⟩ : ∃ q, wq.heap.size = q := ⟨_, rfl⟩
            obtain ⟨v5, hv5⟩ : ∃ v, wq.alloc (.cells #[.int .i64 y.c, .string (txt y.a)] 49) = v := ⟨_, rfl⟩
            have hg5 : Fr (fun _ => False) wq v5 := by rw [← hv5]; exact (Fr.refl _ _).alloc _
            have hr5 : Row v5 q 49 ([y].flatMap nls) := by rw [← hv5, ← hq]; exact Row.new wq _ _
            have HR5 : Hid (Nms v5 (some ⟨q, 0, none⟩) 1 [y]) := Lib.hid (Nms.row hr5)
            have HO5 := Lib.hid (HOK4.out.fr hg5)
            have HF5 := Lib.hid (HFQ.out.trans hg5 (fun _ _ h => h))
            have HB5 : Hid (w.heap.size ≤ v5.heap.size) := Lib.hid HF5.out.size
            clear hg5 hr5
            go_wp2_with (at_builtin; refine wpList_appNm _ rfl _ _ rfl w.heap.size _ _ NK rfl HO5.out _ _ _ [y] rfl HR5.out NQ HNQ.out.symm HQL.out HB5.out ?_)
            intro A6 c6 v6 ho6 hf6 _
            have HO6 := Lib.hid ho6
            have HF6 : Hid (Fr (fun _ => False) w v6) := Lib.hid (HF5.out.trans hf6 (fun b hb h => by
              have := (HO5.out.lt b h).1
              omega))
            clear ho6 hf6 hv5 hq
            go_wp2_with fail
            exact ⟨⟨j + 1, by omega, by go_num, A6, c6, NQ, rfl, HN2', HO6, HF6⟩, by simp [intOf]; omega⟩
        · obtain rfl : j = lp := by omega
          have HNE : Hid (namesM (L.take (k + 1)) = NK) := Lib.hid (by
            rw [HNX.out, ← HNK.out, List.take_of_length_le (by have := HLP.out; omega), ← HN3.out, ← HN2.out, namesO_parts]
            simp only [List.append_assoc])
          go_wp2_with fail
          exact ⟨⟨k + 1, by omega, by go_num, A4, c4, NK, rfl, HNE, HOK4, HFQ⟩, by simp [intOf]; omega⟩
    · obtain rfl : k = n := by omega
      have HRE : Hid (R = NL) := Lib.hid (by
        rw [← HR.out, ← HNL.out, List.take_of_length_le (by have := HLN.out; omega)])
      go_wp2_with fail
      go_ret
      exact ⟨A1, c1, by rw [HRE.out]; rfl, by rw [HRE.out]; exact HON.out, HF.out⟩
end Go.Proofs.YtedmnkcoflbciaaGreat
