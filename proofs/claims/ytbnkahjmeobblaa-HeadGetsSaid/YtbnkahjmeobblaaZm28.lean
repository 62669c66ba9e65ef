/-
  Layer 17, the reference: Names (written by gen_rnames.py).
  Layer 18: rows of texts in memory; Index, Same, alone, less (written by gen_a.py).
-/
import Derived.Test.YtbnkahjmeobblaaZm27
import Derived.Test.YtbnkahjmeobblaaZm06
import Derived.Test.YtbnkahjmeobblaaZm24
import Derived.Test.YtbnkahjmeobblaaZm25
import Derived.BigQuiet
namespace Go.Proofs.Ytbnkahjmeobblaa
open Go.RowKit Mem Go.Lib LebM UtfM VaM OpM
attribute [local go_sem ↓] Go.wp_at_zero Go.wp_at_succ
set_option linter.unusedVariables false

theorem namesO_parts (o : O) : namesO o = (if zeroB o.obj = true then [] else [o.obj]) ++ (if zeroB o.elem = true then [] else [o.elem]) ++ o.pr.filter (fun x => !zeroB x) := by
  unfold namesO
  cases h1 : zeroB o.obj <;> cases h2 : zeroB o.elem <;> simp [h1, h2]
set_option maxRecDepth 100000 in
set_option maxHeartbeats 6400000 in
theorem rnames_any (A : Option Addr) (n c : Nat) (L : List Om) (w : World) (hL : Ops w A n L) (hn : n ≤ 1000) (hok : ∀ x ∈ L, x.o.pr.length ≤ 1000) :
    Calls Try.prog 28 #[.slice A n c] w fun e w' => ∃ A' c', e = .returned (.slice A' (namesM L).length c') ∧ OwnN w' w.heap.size A' c' (namesM L) ∧ Fr (fun _ => False) w w' := by
  have hln := hL.len
  have hbig : ∀ k, (namesM (L.take k)).length ≤ 1002000 := fun k => by
    have h1 := namesM_len (L := L.take k) (fun x hx => hok x (List.mem_of_mem_take hx))
    have h2 : (L.take k).length ≤ 1000 := by rw [List.length_take]; omega
    omega
  obtain ⟨R, hR⟩ : ∃ R, namesM L = R := ⟨_, rfl⟩
  rw [hR]
  have HR := Lib.hid hR
  have HL := Lib.hid hL
  have HLN := Lib.hid hln
  have HOK := Lib.hid hok
  have HBIG := Lib.hid hbig
  clear hL hln hok hR hbig
  go_enter Try.func28, Try.ntmps28
  go_wp2_with fail
  go_loopw [3, 4] (fun v i wr => ∃ k : Nat, k ≤ n ∧ i = .int .i64 (k : Int) ∧ ∃ A1 c1 NL, v = .slice A1 NL.length c1 ∧ Hid (namesM (L.take k) = NL) ∧ Hid (OwnN wr w.heap.size A1 c1 NL) ∧ Hid (Fr (fun _ => False) w wr)) (fun _ i _ => n - (intOf i).toNat)
  case atStart => exact ⟨0, Nat.zero_le _, rfl, none, 0, [], rfl, (rfl : namesM (L.take 0) = []), OwnP.nil _ _ _, Fr.refl _ _⟩
  case round =>
    obtain ⟨k, hk, rfl, A1, c1, NL, rfl, HNL, HON, HF⟩ := hrel
    rename World => wr
    by_cases hlt : k < n
    · obtain ⟨x, hx⟩ : ∃ x, L[k]? = some x := ⟨_, List.getElem?_eq_getElem (by have := HLN.out; omega)⟩
      obtain ⟨b, o, hA, hb, _⟩ := HL.out.1.2 k x hx
      have HAT : Hid (∀ w', Fr (fun _ => False) w w' → Oat w' b (o + k * 13) x) := Lib.hid (fun w' hf => by
        obtain ⟨b', o', e, _, hat⟩ := HL.out.1.2 k x hx
        rw [hA] at e
        injection e with e
        injection e with e1 e2
        subst e1 e2
        exact hat.fr hf (fun h => h))
      subst hA
      have HPR := Lib.hid (HL.out.2 x (List.mem_of_getElem? hx))
      have HXP := Lib.hid (HOK.out x (List.mem_of_getElem? hx))
      have hnext : namesM (L.take (k + 1)) = NL ++ namesO x.o := by
        have h := HNL.out
        unfold namesM at h ⊢
        rw [List.take_add_one, hx, List.flatMap_append, h, Option.toList_some, List.flatMap_singleton]
      have HNX := Lib.hid hnext
      have HLL : Hid (NL.length ≤ 1002000) := Lib.hid (by rw [← HNL.out]; exact HBIG.out k)
      clear hx hb hnext
      obtain ⟨q1, q2⟩ := n_neq0 x.o.obj
      obtain ⟨z, hz⟩ : ∃ z, zeroB x.o.obj = z := ⟨_, rfl⟩
      rw [hz] at q2
      have HZ := Lib.hid hz
      clear hz
      obtain ⟨k0, k1, k2, k3, k4, k5, k6, k7, k8, k9, k10, k11, k12⟩ := HAT.out wr HF.out
      go_upto_if 18 with fail
      go_cut [3] (fun v wx => ∃ A c NK, v = .slice A NK.length c ∧ Hid (NL ++ (if zeroB x.o.obj = true then [] else [x.o.obj]) = NK) ∧ Hid (OwnN wx w.heap.size A c NK) ∧ Hid (Fr (fun _ => False) w wx))
      case first =>
        cases z with
        | true =>
          go_wp2_with fail
          go_meet
          exact ⟨A1, c1, NL, rfl, Lib.hid (by rw [HZ.out]; simp), HON, HF⟩
        | false =>
          obtain ⟨NQ, hNQ⟩ : ∃ l, NL ++ [x.o.obj] = l := ⟨_, rfl⟩
          have HNQ := Lib.hid hNQ
          have HQL : Hid (NQ.length ≤ 1000000000) := Lib.hid (by rw [← hNQ, List.length_append]; have := HLL.out; simp; omega)
          clear hNQ
          obtain ⟨q, hq⟩ : ∃ q, wr.heap.size = q := ⟨_, rfl⟩
          obtain ⟨v5, hv5⟩ : ∃ v, wr.alloc (.cells #[.int .i64 x.o.obj.c, .string (txt x.o.obj.a)] 44) = v := ⟨_, rfl⟩
          have hg5 : Fr (fun _ => False) wr v5 := by rw [← hv5]; exact (Fr.refl _ _).alloc _
          have hr5 : Row v5 q 44 ([x.o.obj].flatMap nls) := by rw [← hv5, ← hq]; exact Row.new wr _ _
          have HR5 : Hid (Nms v5 (some ⟨q, 0, none⟩) 1 [x.o.obj]) := Lib.hid (Nms.row hr5)
          have HO5 := Lib.hid (HON.out.fr hg5)
          have HF5 := Lib.hid (HF.out.trans hg5 (fun _ _ h => h))
          have HB5 : Hid (w.heap.size ≤ v5.heap.size) := Lib.hid HF5.out.size
          clear hg5 hr5
          go_wp2_with (at_builtin; refine wpList_appNm _ rfl _ _ rfl w.heap.size _ _ NL rfl HO5.out _ _ _ [x.o.obj] rfl HR5.out NQ HNQ.out.symm HQL.out HB5.out ?_)
          intro A6 c6 v6 ho6 hf6 _
          have HO6 := Lib.hid ho6
          have HF6 : Hid (Fr (fun _ => False) w v6) := Lib.hid (HF5.out.trans hf6 (fun b hb h => by
            have := (HO5.out.lt b h).1
            omega))
          clear ho6 hf6 hv5 hq
          go_wp2_with fail
          go_meet
          exact ⟨A6, c6, NQ, rfl, Lib.hid (by rw [HZ.out, ← HNQ.out]; rfl), HO6, HF6⟩
      case rest =>
      clear q1 q2 k0 k1 k2 k3 k4 k5 k6 k7 k8 k9 k10 k11 k12
      obtain ⟨A2, c2, N2, rfl, HN2, HO2, HF2⟩ := hcut
      rename World => w2
      have HLL2 : Hid (N2.length ≤ 1002001) := Lib.hid (by rw [← HN2.out, List.length_append]; have := HLL.out; split <;> simp <;> omega)
      obtain ⟨q1, q2⟩ := n_neq0 x.o.elem
      obtain ⟨z, hz⟩ : ∃ z, zeroB x.o.elem = z := ⟨_, rfl⟩
      rw [hz] at q2
      have HZ := Lib.hid hz
      clear hz
      obtain ⟨k0, k1, k2, k3, k4, k5, k6, k7, k8, k9, k10, k11, k12⟩ := HAT.out w2 HF2.out
      go_upto_if 33 with fail
      go_cut [3] (fun v wx => ∃ A c NK, v = .slice A NK.length c ∧ Hid (N2 ++ (if zeroB x.o.elem = true then [] else [x.o.elem]) = NK) ∧ Hid (OwnN wx w.heap.size A c NK) ∧ Hid (Fr (fun _ => False) w wx))
      case first =>
        cases z with
        | true =>
          go_wp2_with fail
          go_meet
          exact ⟨A2, c2, N2, rfl, Lib.hid (by rw [HZ.out]; simp), HO2, HF2⟩
        | false =>
          obtain ⟨NQ, hNQ⟩ : ∃ l, N2 ++ [x.o.elem] = l := ⟨_, rfl⟩
          have HNQ := Lib.hid hNQ
          have HQL : Hid (NQ.length ≤ 1000000000) := Lib.hid (by rw [← hNQ, List.length_append]; have := HLL2.out; simp; omega)
          clear hNQ
          obtain ⟨q, hq⟩ : ∃ q, w2.heap.size = q := ⟨_, rfl⟩
          obtain ⟨v5, hv5⟩ : ∃ v, w2.alloc (.cells #[.int .i64 x.o.elem.c, .string (txt x.o.elem.a)] 44) = v := ⟨_, rfl⟩
          have hg5 : Fr (fun _ => False) w2 v5 := by rw [← hv5]; exact (Fr.refl _ _).alloc _
          have hr5 : Row v5 q 44 ([x.o.elem].flatMap nls) := by rw [← hv5, ← hq]; exact Row.new w2 _ _
          have HR5 : Hid (Nms v5 (some ⟨q, 0, none⟩) 1 [x.o.elem]) := Lib.hid (Nms.row hr5)
          have HO5 := Lib.hid (HO2.out.fr hg5)
          have HF5 := Lib.hid (HF2.out.trans hg5 (fun _ _ h => h))
          have HB5 : Hid (w.heap.size ≤ v5.heap.size) := Lib.hid HF5.out.size
          clear hg5 hr5
          go_wp2_with (at_builtin; refine wpList_appNm _ rfl _ _ rfl w.heap.size _ _ N2 rfl HO5.out _ _ _ [x.o.elem] rfl HR5.out NQ HNQ.out.symm HQL.out HB5.out ?_)
          intro A6 c6 v6 ho6 hf6 _
          have HO6 := Lib.hid ho6
          have HF6 : Hid (Fr (fun _ => False) w v6) := Lib.hid (HF5.out.trans hf6 (fun b hb h => by
            have := (HO5.out.lt b h).1
            omega))
          clear ho6 hf6 hv5 hq
          go_wp2_with fail
          go_meet
          exact ⟨A6, c6, NQ, rfl, Lib.hid (by rw [HZ.out, ← HNQ.out]; rfl), HO6, HF6⟩
      case rest =>
      clear q1 q2 k0 k1 k2 k3 k4 k5 k6 k7 k8 k9 k10 k11 k12
      obtain ⟨A3, c3, N3, rfl, HN3, HO3, HF3⟩ := hcut
      rename World => w3
      have HLL3 : Hid (N3.length ≤ 1002002) := Lib.hid (by rw [← HN3.out, List.length_append]; have := HLL2.out; split <;> simp <;> omega)
      obtain ⟨lp, hlp⟩ : ∃ l, x.o.pr.length = l := ⟨_, rfl⟩
      have HLP := Lib.hid hlp
      have hlp2 : lp ≤ 1000 := by rw [← hlp]; exact HXP.out
      obtain ⟨A0, hA0⟩ : ∃ A0, x.A = A0 := ⟨_, rfl⟩
      have HA0 := Lib.hid hA0
      clear hlp hA0
      go_wp2_with fail
      go_loopw [3, 5] (fun v i wq => ∃ j : Nat, j ≤ lp ∧ i = .int .i64 (j : Int) ∧ ∃ A1 c1 NK, v = .slice A1 NK.length c1 ∧ Hid (N3 ++ (x.o.pr.take j).filter (fun x => !zeroB x) = NK) ∧ Hid (OwnN wq w.heap.size A1 c1 NK) ∧ Hid (Fr (fun _ => False) w wq)) (fun _ i _ => lp - (intOf i).toNat)
      case atStart => exact ⟨0, Nat.zero_le _, rfl, A3, c3, N3, rfl, (by simp : N3 ++ (x.o.pr.take 0).filter (fun x => !zeroB x) = N3), HO3, HF3⟩
      case round =>
        obtain ⟨j, hj, rfl, A4, c4, NK, rfl, HNK, HOK4, HFQ⟩ := hrel
        rename World => wq
        obtain ⟨k0, k1, k2, k3, k4, k5, k6, k7, k8, k9, k10, k11, k12⟩ := HAT.out wq HFQ.out
        rw [HLP.out, HA0.out] at k12
        by_cases hlt2 : j < lp
        · obtain ⟨y, hy⟩ : ∃ y, x.o.pr[j]? = some y := ⟨_, List.getElem?_eq_getElem (by have := HLP.out; omega)⟩
          obtain ⟨gy, oy, hay, hby, n0, n1⟩ := (HPR.out.fr0 HFQ.out).1.2 j y hy
          simp only [ncc, nac] at n0 n1
          have hay2 := HA0.out.symm.trans hay
          subst hay2
          have hstep : N3 ++ (x.o.pr.take (j + 1)).filter (fun x => !zeroB x) = NK ++ (if zeroB y = true then [] else [y]) := by
            rw [List.take_add_one, hy, List.filter_append, ← List.append_assoc, HNK.out]
            congr 1
            cases h : zeroB y <;> simp [h]
          obtain ⟨q1, q2⟩ := n_neq0 y
          obtain ⟨z, hze⟩ : ∃ z, zeroB y = z := ⟨_, rfl⟩
          rw [hze] at hstep q2
          have HST := Lib.hid hstep
          have hnk : NK.length ≤ 1003002 := by
            rw [← HNK.out, List.length_append]
            have h2 := List.length_filter_le (fun x => !zeroB x) (x.o.pr.take j)
            rw [List.length_take] at h2
            have := HLL3.out
            omega
          have HNK2 := Lib.hid hnk
          clear hy hby hstep hze hay hnk
          cases z with
          | true =>
            have HN2' : Hid (N3 ++ (x.o.pr.take (j + 1)).filter (fun x => !zeroB x) = NK) := Lib.hid (by rw [HST.out]; simp)
            go_wp2_with fail
            exact ⟨⟨j + 1, by omega, by go_num, A4, c4, NK, rfl, HN2', HOK4, HFQ⟩, by simp [intOf]; omega⟩
          | false =>
            obtain ⟨NQ, hNQ⟩ : ∃ l, NK ++ [y] = l := ⟨_, rfl⟩
            have HN2' : Hid (N3 ++ (x.o.pr.take (j + 1)).filter (fun x => !zeroB x) = NQ) := Lib.hid (by rw [HST.out, ← hNQ]; simp)
            have HNQ := Lib.hid hNQ
            have HQL : Hid (NQ.length ≤ 1000000000) := Lib.hid (by rw [← hNQ, List.length_append]; have := HNK2.out; simp; omega)
            clear hNQ
            obtain ⟨q, hq⟩ : ∃ q, wq.heap.size = q := ⟨_, rfl⟩
            obtain ⟨v5, hv5⟩ : ∃ v, wq.alloc (.cells #[.int .i64 y.c, .string (txt y.a)] 44) = v := ⟨_, rfl⟩
            have hg5 : Fr (fun _ => False) wq v5 := by rw [← hv5]; exact (Fr.refl _ _).alloc _
            have hr5 : Row v5 q 44 ([y].flatMap nls) := by rw [← hv5, ← hq]; exact Row.new wq _ _
            have HR5 : Hid (Nms v5 (some ⟨q, 0, none⟩) 1 [y]) := Lib.hid (Nms.row hr5)
            have HO5 := Lib.hid (HOK4.out.fr hg5)
            have HF5 := Lib.hid (HFQ.out.trans hg5 (fun _ _ h => h))
            have HB5 : Hid (w.heap.size ≤ v5.heap.size) := Lib.hid HF5.out.size
            clear hg5 hr5
            go_wp2_with (at_builtin; refine wpList_appNm _ rfl _ _ rfl w.heap.size _ _ NK rfl HO5.out _ _ _ [y] rfl HR5.out NQ HNQ.out.symm HQL.out HB5.out ?_)
            intro A6 c6 v6 ho6 hf6 _
            have HO6 := Lib.hid ho6
            have HF6 : Hid (Fr (fun _ => False) w v6) := Lib.hid (HF5.out.trans hf6 (fun b hb h => by
              have := (HO5.out.lt b h).1
              omega))
            clear ho6 hf6 hv5 hq
            go_wp2_with fail
            exact ⟨⟨j + 1, by omega, by go_num, A6, c6, NQ, rfl, HN2', HO6, HF6⟩, by simp [intOf]; omega⟩
        · obtain rfl : j = lp := by omega
          have HNE : Hid (namesM (L.take (k + 1)) = NK) := Lib.hid (by
            rw [HNX.out, ← HNK.out, List.take_of_length_le (by have := HLP.out; omega), ← HN3.out, ← HN2.out, namesO_parts]
            simp only [List.append_assoc])
          go_wp2_with fail
          exact ⟨⟨k + 1, by omega, by go_num, A4, c4, NK, rfl, HNE, HOK4, HFQ⟩, by simp [intOf]; omega⟩
    · obtain rfl : k = n := by omega
      have HRE : Hid (R = NL) := Lib.hid (by
        rw [← HR.out, ← HNL.out, List.take_of_length_le (by have := HLN.out; omega)])
      go_wp2_with fail
      go_ret
      exact ⟨A1, c1, by rw [HRE.out]; rfl, by rw [HRE.out]; exact HON.out, HF.out⟩
end Go.Proofs.Ytbnkahjmeobblaa
namespace Go.Proofs.Ytbnkahjmeobblaa
open Go.RowKit Mem Go.Lib LebM UtfM VaM OpM AcM
attribute [local go_sem ↓] Go.wp_at_zero Go.wp_at_succ
set_option linter.unusedVariables false

/-- a text as a cell -/
def tc (B : Tx) : Value := .string (txt B)
theorem tc_one (l : List Tx) : ∀ u ∈ l.map tc, u.oneCell' = true := by
  intro u hu
  obtain ⟨b, _, rfl⟩ := List.mem_map.1 hu
  rfl
theorem strT : ElemTy Try.prog 31 9 (.string ⟨#[]⟩) 16 := ⟨Try.underlying31, by kernel_rfl, rfl⟩
/-- a row of texts of one's own -/
def OwT (w : World) (base : Nat) (A : Option Addr) (c : Nat) (L : List Tx) : Prop := w.ownsRow base 9 1 (.slice A L.length c) L.length (L.map tc)
theorem OwT.nil (w : World) (base : Nat) : OwT w base none 0 [] := World.ownsRow_nil _ _ _ _
theorem OwT.fr {w w' : World} {base c : Nat} {A : Option Addr} {L : List Tx} (h : OwT w base A c L) (hf : Fr (fun _ => False) w w') : OwT w' base A c L := hf.own h (fun _ _ h => h)
theorem OwT.base {w : World} {b b' c : Nat} {A : Option Addr} {L : List Tx} (h : OwT w b A c L) (hb : b' ≤ b) : OwT w b' A c L := own_base h hb
theorem OwT.rd {w : World} {base c : Nat} {A : Option Addr} {L : List Tx} (h : OwT w base A c L) : Rd w A L.length (L.map tc) := Rd.of_own h
theorem OwT.cap {w : World} {base c : Nat} {A : Option Addr} {L : List Tx} (h : OwT w base A c L) : L.length ≤ c ∧ c ≤ maxLen := ⟨(own_cap h).2.1, (own_cap h).2.2⟩
theorem OwT.one (w : World) (a : Tx) : OwT (w.alloc (.cells #[.string (txt a)] 9)) w.heap.size (some ⟨w.heap.size, 0, none⟩) 1 [a] := World.ownsRow_lit (size := 1) w #[tc a] 1 (Nat.le_refl _) (by decide) rfl
/-- one more text -/
theorem OwT.snoc {w : World} {base c n : Nat} {A : Option Addr} {L : List Tx} {x : Tx} (hn : L.length = n) (h : w.ownsRow base 9 1 (.slice A (n + 1) c) (n + 1) (L.map tc ++ [.string (txt x)])) : OwT w base A c (L ++ [x]) := by
  subst hn
  unfold OwT
  rw [List.length_append, List.map_append, List.map_singleton]
  exact h
theorem rd_tx {w : World} {A : Option Addr} {n k : Nat} {L : List Tx} (h : Rd w A n (L.map tc)) (hk : k < n) : ∃ ad x, A = some ad ∧ L[k]? = some x ∧ w.cell? (ad.add k) = some (.string (txt x)) := by
  obtain ⟨ad, u, rfl, hu, hc⟩ := h.at_ hk
  have hl : L.length = n := by simpa using h.1
  obtain ⟨x, hx⟩ : ∃ x, L[k]? = some x := ⟨_, List.getElem?_eq_getElem (by omega)⟩
  rw [List.getElem?_map, hx] at hu
  injection hu with hu
  exact ⟨ad, x, rfl, hx, by rw [hc, ← hu]; rfl⟩
theorem mem_take {l : List Tx} {k : Nat} {a x : Tx} (h : a ∉ l.take k) (hx : l[k]? = some x) (hne : a ≠ x) : a ∉ l.take (k + 1) := by
  rw [List.take_add_one, hx]
  simp only [Option.toList_some, List.mem_append, List.mem_singleton]
  rintro (h2 | h2)
  · exact h h2
  · exact hne h2
theorem not_take {l : List Tx} {k : Nat} {a : Tx} (h : a ∉ l.take k) : ∀ j, j < k → l[j]? ≠ some a := by
  intro j hj e
  refine h (List.mem_of_getElem? (i := j) ?_)
  rw [List.getElem?_take, if_pos hj, e]
set_option maxRecDepth 100000 in
set_option maxHeartbeats 3200000 in
/-- the reference's Same -/
theorem racSame_any (A : Option Addr) (n c : Nat) (L : List Tx) (A' : Option Addr) (n' c' : Nat) (M : List Tx) (w : World) (hL : Rd w A n (L.map tc)) (hM : Rd w A' n' (M.map tc)) (hn : n ≤ 1000000000) (hn' : n' ≤ 1000000000) :
    Calls Try.prog 18 #[.slice A n c, .slice A' n' c'] w fun e w' => e = .returned (.bool (decide (L = M))) ∧ Fr (fun _ => False) w w' := by
  obtain ⟨r, hr⟩ : ∃ r, decide (L = M) = r := ⟨_, rfl⟩
  rw [hr]
  have HR := Lib.hid hr
  have HL := Lib.hid hL
  have HM := Lib.hid hM
  have HLN : Hid (L.length = n) := Lib.hid (by simpa using hL.1)
  have HMN : Hid (M.length = n') := Lib.hid (by simpa using hM.1)
  clear hL hM hr
  by_cases hnn : n = n'
  · subst hnn
    have t0 : ((n : Int) != (n : Int)) = false := by simp
    go_enter Try.func18, Try.ntmps18
    go_wp2_with fail
    go_loopw [5] (fun v wr => ∃ k : Nat, k ≤ n ∧ v = .int .i64 (k : Int) ∧ Hid (L.take k = M.take k) ∧ Hid (Fr (fun _ => False) w wr)) (fun v _ => n - (intOf v).toNat)
    case atStart => exact ⟨0, Nat.zero_le _, rfl, (by simp : L.take 0 = M.take 0), Fr.refl _ _⟩
    case round =>
      obtain ⟨k, hk, rfl, HE, HF⟩ := hrel
      rename World => wr
      by_cases hlt : k < n
      · obtain ⟨ad, x, rfl, hx, hc1⟩ := rd_tx (HL.out.fr HF.out (fun _ _ => id)) hlt
        obtain ⟨ad', y, rfl, hy, hc2⟩ := rd_tx (HM.out.fr HF.out (fun _ _ => id)) hlt
        have t0 := beq_txt x y
        by_cases e : x = y
        · rw [decide_eq_true e] at t0
          have HN2 : Hid (L.take (k + 1) = M.take (k + 1)) := Lib.hid (by rw [List.take_add_one, List.take_add_one, HE.out, hx, hy, e])
          clear hx hy e
          go_wp2_with fail
          go_quiet (fail)
          have HF2 := Lib.hid (HF.out.drewN nq)
          go_wp2_with fail
          go_roundw
          case rel => exact ⟨k + 1, by omega, by go_num, HN2, HF2⟩
          case measure => simp [intOf] <;> omega
        · rw [decide_eq_false e] at t0
          have HX2 : Hid (r = false) := Lib.hid (by
            rw [← HR.out]
            refine decide_eq_false (fun h => e ?_)
            rw [h, hy] at hx
            injection hx with hx
            exact hx.symm)
          clear hx hy e
          go_wp2_with fail
          go_quiet (fail)
          have HF2 := Lib.hid (HF.out.drewN nq)
          go_wp2_with fail
          go_ret
          rw [HX2.out]
          exact ⟨rfl, HF2.out⟩
      · obtain rfl : k = n := by omega
        have HX2 : Hid (r = true) := Lib.hid (by
          rw [← HR.out]
          have h := HE.out
          rw [List.take_of_length_le (by have := HLN.out; omega), List.take_of_length_le (by have := HMN.out; omega)] at h
          exact decide_eq_true h)
        go_wp2_with fail
        go_ret
        rw [HX2.out]
        exact ⟨rfl, HF.out⟩
  · have t0 : ((n : Int) != (n' : Int)) = true := by simp; omega
    have HX2 : Hid (r = false) := Lib.hid (by
      rw [← HR.out]
      refine decide_eq_false (fun h => ?_)
      have h1 := HLN.out
      rw [h, HMN.out] at h1
      omega)
    clear hnn
    go_enter Try.func18, Try.ntmps18
    go_wp2_with fail
    go_ret
    rw [HX2.out]
    exact ⟨rfl, Fr.refl _ _⟩
set_option maxRecDepth 100000 in
set_option maxHeartbeats 800000 in
/-- the table of who speaks of nobody else -/
theorem alone_any (a : Tx) (w : World) (hl : a.length ≤ 1000000) :
    Calls Try.prog 53 #[.string (txt a)] w fun e w' => ∃ A c, e = .returned (.slice A 1 c) ∧ OwT w' w.heap.size A c [a] ∧ Fr (fun _ => False) w w' := by
  have H := Lib.hid (fun w => clone_any a w hl)
  go_enter Try.func53, Try.ntmps53
  go_wp2_with fail
  refine (H.out _).mono ?_
  rintro e w1 ⟨rfl, hf⟩
  obtain ⟨w2, hw2⟩ : ∃ w2, w1.alloc (.cells #[.string (txt a)] 9) = w2 := ⟨_, rfl⟩
  have HO : Hid (OwT w2 w1.heap.size (some ⟨w1.heap.size, 0, none⟩) 1 [a]) := Lib.hid (by rw [← hw2]; exact OwT.one w1 a)
  have HF : Hid (Fr (fun _ => False) w w2) := Lib.hid (by rw [← hw2]; exact hf.alloc _)
  have HS : Hid (w.heap.size ≤ w1.heap.size) := Lib.hid hf.size
  clear hf
  go_wp2_with fail
  go_ret
  exact ⟨_, _, rfl, HO.out.base HS.out, HF.out⟩
theorem less_tx (x y : Tx) : lessN ⟨1, x⟩ ⟨1, y⟩ = Op.bytesLess x y := by
  unfold lessN
  simp
set_option maxRecDepth 100000 in
set_option maxHeartbeats 800000 in
/-- the reference's less -/
theorem racLess_any (x y : Tx) (w : World) (hx : x.length ≤ 1000000000) (hy : y.length ≤ 1000000000) :
    Calls Try.prog 46 #[.string (txt x), .string (txt y)] w fun e w' => e = .returned (.bool (Op.bytesLess x y)) ∧ Fr (fun _ => False) w w' := by
  have h := rless_any ⟨1, x⟩ ⟨1, y⟩ w hx hy
  rw [less_tx] at h
  unfold nmc at h
  obtain ⟨r, hr⟩ : ∃ r, Op.bytesLess x y = r := ⟨_, rfl⟩
  rw [hr] at h ⊢
  have H := Lib.hid h
  clear h hr
  go_enter Try.func46, Try.ntmps46
  go_wp2_with fail
  refine H.out.mono ?_
  rintro e w' ⟨rfl, hf⟩
  have HF := Lib.hid hf
  clear hf
  go_wp2_with fail
  go_ret
  exact ⟨rfl, HF.out⟩
end Go.Proofs.Ytbnkahjmeobblaa
