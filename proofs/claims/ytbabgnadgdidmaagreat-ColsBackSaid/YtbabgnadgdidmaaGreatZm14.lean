import Derived.Test.YtbabgnadgdidmaaGreatZm00
import Derived.Test.YtbabgnadgdidmaaGreatZm13
import Derived.Test.YtbabgnadgdidmaaGreatZm03
import Derived.Test.YtbabgnadgdidmaaGreatZm11
import Derived.BigQuiet
set_option linter.unusedVariables false
set_option maxRecDepth 100000
set_option maxHeartbeats 12800000
namespace Go.Proofs.YtbabgnadgdidmaaGreat
section
open Go.RowKit Mem Go.Lib LebM UtfM VaM OpM
attribute [local go_sem ↓] Go.wp_at_zero Go.wp_at_succ
theorem namesO_parts (o : O) : namesO o = (if zeroB o.obj = true then [] else [o.obj]) ++ (if zeroB o.elem = true then [] else [o.elem]) ++ o.pr.filter (fun x => !zeroB x) := by
 unfold namesO;cases h1 : zeroB o.obj <;> cases h2 : zeroB o.elem <;> simp [h1, h2]
theorem rnames_any (A : Option Addr) (n c : Nat) (L : List Om) (w : World) (hL : Ops w A n L) (hn : n ≤ 1000) (hok : ∀ x ∈ L, x.o.pr.length ≤ 1000) :
    Calls Tryz.prog 19 #[.slice A n c] w fun e w' => ∃ A' c', e = .returned (.slice A' (namesM L).length c') ∧ OwnN w' w.heap.size A' c' (namesM L) ∧ Fr (fun _ => False) w w' := by
 have hln := hL.len;have hbig : ∀ k, (namesM (L.take k)).length ≤ 1002000 := fun k => by
  have h1 := namesM_len (L := L.take k) (fun x hx => hok x (List.mem_of_mem_take hx));have h2 : (L.take k).length ≤ 1000 := by rw [List.length_take]; omega
  omega
 obtain ⟨R, hR⟩ := nm_ (namesM L);rw [hR];have HR := hid hR;have HL := hid hL;have HLN := hid hln;have HOK := hid hok;have HBIG := hid hbig;clear hL hln hok hR hbig;go_enter Tryz.func19, Tryz.ntmps19;go_wp2_with fail
 go_loopw [3, 4] (fun v i wr => ∃ k : Nat, k ≤ n ∧ i = .int .i64 (k : Int) ∧ ∃ A1 c1 NL, v = .slice A1 NL.length c1 ∧ Hid (namesM (L.take k) = NL) ∧ Hid (OwnN wr w.heap.size A1 c1 NL) ∧ Hid (Fr (fun _ => False) w wr)) (fun _ i _ => n - (intOf i).toNat)
 case atStart => exact ⟨0, Nat.zero_le _, rfl, none, 0, [], rfl, (rfl : namesM (L.take 0) = []), OwnP.nil _ _ _, Fr.refl _ _⟩
 case round =>
  obtain ⟨k, hk, rfl, A1, c1, NL, rfl, HNL, HON, HF⟩ := hrel
  rename World => wr
  by_cases hlt : k < n
  · obtain ⟨x, hx⟩ : ∃ x, L[k]? = some x := ⟨_, List.getElem?_eq_getElem (by have := HLN.out; omega)⟩
    obtain ⟨b, o, hA, hb, _⟩ := HL.out.1.2 k x hx;have HAT : Hid (∀ w', Fr (fun _ => False) w w' → Oat w' b (o + k * 13) x) := hid (fun w' hf => by
     obtain ⟨b', o', e, _, hat⟩ := HL.out.1.2 k x hx;rw [hA] at e;injection e with e
     injection e with e1 e2
     subst e1 e2;exact hat.fr hf (fun h => h))
    subst hA;have HPR := hid (HL.out.2 x (List.mem_of_getElem? hx));have HXP := hid (HOK.out x (List.mem_of_getElem? hx));have hnext : namesM (L.take (k + 1)) = NL ++ namesO x.o := by
     have h := HNL.out;unfold namesM at h ⊢;rw [List.take_add_one, hx, List.flatMap_append, h, Option.toList_some, List.flatMap_singleton]
    have HNX := hid hnext;have HLL : Hid (NL.length ≤ 1002000) := hid (by rw [← HNL.out]; exact HBIG.out k);clear hx hb hnext;obtain ⟨q1, q2⟩ := n_neq0 x.o.obj;obtain ⟨z, hz⟩ := nm_ (zeroB x.o.obj);rw [hz] at q2;have HZ := hid hz;clear hz;obtain ⟨k0, k1, k2, k3, k4, k5, k6, k7, k8, k9, k10, k11, k12⟩ := HAT.out wr HF.out
    go_upto_if 18 with fail
    go_cut [3] (fun v wx => ∃ A c NK, v = .slice A NK.length c ∧ Hid (NL ++ (if zeroB x.o.obj = true then [] else [x.o.obj]) = NK) ∧ Hid (OwnN wx w.heap.size A c NK) ∧ Hid (Fr (fun _ => False) w wx))
    case first =>
     cases z with
     | true =>
      go_wp2_with fail
      go_meet
      exact ⟨A1, c1, NL, rfl, hid (by rw [HZ.out]; simp), HON, HF⟩
     | false =>
      obtain ⟨NQ, hNQ⟩ := nm_ (NL ++ [x.o.obj]);have HNQ := hid hNQ;have HQL : Hid (NQ.length ≤ 1000000000) := hid (by rw [← hNQ, List.length_append]; have := HLL.out; simp; omega);clear hNQ;obtain ⟨q, hq⟩ := nm_ wr.heap.size;obtain ⟨v5, hv5⟩ := nm_ (wr.alloc (.cells #[.int .i64 x.o.obj.c, .string (txt x.o.obj.a)] 50));have hg5 : Fr (fun _ => False) wr v5 := by rw [← hv5]; exact (Fr.refl _ _).alloc _
      have hr5 : Row v5 q 50 ([x.o.obj].flatMap nls) := by rw [← hv5, ← hq]; exact Row.new wr _ _
      have HR5 : Hid (Nms v5 (some ⟨q, 0, none⟩) 1 [x.o.obj]) := hid (Nms.row hr5);have HO5 := hid (HON.out.fr hg5);have HF5 := hid (HF.out.trans hg5 im_);have HB5 : Hid (w.heap.size ≤ v5.heap.size) := hid HF5.out.size;clear hg5 hr5;go_wp2_with (at_builtin; refine wpList_appNm _ rfl _ _ rfl w.heap.size _ _ NL rfl HO5.out _ _ _ [x.o.obj] rfl HR5.out NQ HNQ.out.symm HQL.out HB5.out ?_)
      intro A6 c6 v6 ho6 hf6 _;have HO6 := hid ho6;have HF6 : Hid (Fr (fun _ => False) w v6) := hid (HF5.out.trans hf6 (fun b hb h => by
       have := (HO5.out.lt b h).1;omega))
      clear ho6 hf6 hv5 hq;go_wp2_with fail
      go_meet
      exact ⟨A6, c6, NQ, rfl, hid (by rw [HZ.out, ← HNQ.out]; rfl), HO6, HF6⟩
    case rest =>
    clear q1 q2 k0 k1 k2 k3 k4 k5 k6 k7 k8 k9 k10 k11 k12;obtain ⟨A2, c2, N2, rfl, HN2, HO2, HF2⟩ := hcut
    rename World => w2
    have HLL2 : Hid (N2.length ≤ 1002001) := hid (by rw [← HN2.out, List.length_append]; have := HLL.out; split <;> simp <;> omega);obtain ⟨q1, q2⟩ := n_neq0 x.o.elem;obtain ⟨z, hz⟩ := nm_ (zeroB x.o.elem);rw [hz] at q2;have HZ := hid hz;clear hz;obtain ⟨k0, k1, k2, k3, k4, k5, k6, k7, k8, k9, k10, k11, k12⟩ := HAT.out w2 HF2.out
    go_upto_if 33 with fail
    go_cut [3] (fun v wx => ∃ A c NK, v = .slice A NK.length c ∧ Hid (N2 ++ (if zeroB x.o.elem = true then [] else [x.o.elem]) = NK) ∧ Hid (OwnN wx w.heap.size A c NK) ∧ Hid (Fr (fun _ => False) w wx))
    case first =>
     cases z with
     | true =>
      go_wp2_with fail
      go_meet
      exact ⟨A2, c2, N2, rfl, hid (by rw [HZ.out]; simp), HO2, HF2⟩
     | false =>
      obtain ⟨NQ, hNQ⟩ := nm_ (N2 ++ [x.o.elem]);have HNQ := hid hNQ;have HQL : Hid (NQ.length ≤ 1000000000) := hid (by rw [← hNQ, List.length_append]; have := HLL2.out; simp; omega);clear hNQ;obtain ⟨q, hq⟩ := nm_ w2.heap.size;obtain ⟨v5, hv5⟩ := nm_ (w2.alloc (.cells #[.int .i64 x.o.elem.c, .string (txt x.o.elem.a)] 50));have hg5 : Fr (fun _ => False) w2 v5 := by rw [← hv5]; exact (Fr.refl _ _).alloc _
      have hr5 : Row v5 q 50 ([x.o.elem].flatMap nls) := by rw [← hv5, ← hq]; exact Row.new w2 _ _
      have HR5 : Hid (Nms v5 (some ⟨q, 0, none⟩) 1 [x.o.elem]) := hid (Nms.row hr5);have HO5 := hid (HO2.out.fr hg5);have HF5 := hid (HF2.out.trans hg5 im_);have HB5 : Hid (w.heap.size ≤ v5.heap.size) := hid HF5.out.size;clear hg5 hr5;go_wp2_with (at_builtin; refine wpList_appNm _ rfl _ _ rfl w.heap.size _ _ N2 rfl HO5.out _ _ _ [x.o.elem] rfl HR5.out NQ HNQ.out.symm HQL.out HB5.out ?_)
      intro A6 c6 v6 ho6 hf6 _;have HO6 := hid ho6;have HF6 : Hid (Fr (fun _ => False) w v6) := hid (HF5.out.trans hf6 (fun b hb h => by
       have := (HO5.out.lt b h).1;omega))
      clear ho6 hf6 hv5 hq;go_wp2_with fail
      go_meet
      exact ⟨A6, c6, NQ, rfl, hid (by rw [HZ.out, ← HNQ.out]; rfl), HO6, HF6⟩
    case rest =>
    clear q1 q2 k0 k1 k2 k3 k4 k5 k6 k7 k8 k9 k10 k11 k12;obtain ⟨A3, c3, N3, rfl, HN3, HO3, HF3⟩ := hcut
    rename World => w3
    have HLL3 : Hid (N3.length ≤ 1002002) := hid (by rw [← HN3.out, List.length_append]; have := HLL2.out; split <;> simp <;> omega);obtain ⟨lp, hlp⟩ := nm_ x.o.pr.length;have HLP := hid hlp;have hlp2 : lp ≤ 1000 := by rw [← hlp]; exact HXP.out
    obtain ⟨A0, hA0⟩ := nm_ x.A;have HA0 := hid hA0;clear hlp hA0;go_wp2_with fail
    go_loopw [3, 5] (fun v i wq => ∃ j : Nat, j ≤ lp ∧ i = .int .i64 (j : Int) ∧ ∃ A1 c1 NK, v = .slice A1 NK.length c1 ∧ Hid (N3 ++ (x.o.pr.take j).filter (fun x => !zeroB x) = NK) ∧ Hid (OwnN wq w.heap.size A1 c1 NK) ∧ Hid (Fr (fun _ => False) w wq)) (fun _ i _ => lp - (intOf i).toNat)
    case atStart => exact ⟨0, Nat.zero_le _, rfl, A3, c3, N3, rfl, (by simp : N3 ++ (x.o.pr.take 0).filter (fun x => !zeroB x) = N3), HO3, HF3⟩
    case round =>
     obtain ⟨j, hj, rfl, A4, c4, NK, rfl, HNK, HOK4, HFQ⟩ := hrel
     rename World => wq
     obtain ⟨k0, k1, k2, k3, k4, k5, k6, k7, k8, k9, k10, k11, k12⟩ := HAT.out wq HFQ.out;rw [HLP.out, HA0.out] at k12;by_cases hlt2 : j < lp
     · obtain ⟨y, hy⟩ : ∃ y, x.o.pr[j]? = some y := ⟨_, List.getElem?_eq_getElem (by have := HLP.out; omega)⟩
       obtain ⟨gy, oy, hay, hby, n0, n1⟩ := (HPR.out.fr0 HFQ.out).1.2 j y hy;simp only [ncc, nac] at n0 n1;have hay2 := HA0.out.symm.trans hay;subst hay2;have hstep : N3 ++ (x.o.pr.take (j + 1)).filter (fun x => !zeroB x) = NK ++ (if zeroB y = true then [] else [y]) := by
        rw [List.take_add_one, hy, List.filter_append, ← List.append_assoc, HNK.out];congr 1;cases h : zeroB y <;> simp [h]
       obtain ⟨q1, q2⟩ := n_neq0 y;obtain ⟨z, hze⟩ := nm_ (zeroB y);rw [hze] at hstep q2;have HST := hid hstep;have hnk : NK.length ≤ 1003002 := by
        rw [← HNK.out, List.length_append];have h2 := List.length_filter_le (fun x => !zeroB x) (x.o.pr.take j);rw [List.length_take] at h2;have := HLL3.out;omega
       have HNK2 := hid hnk;clear hy hby hstep hze hay hnk;cases z with
       | true =>
        have HN2' : Hid (N3 ++ (x.o.pr.take (j + 1)).filter (fun x => !zeroB x) = NK) := hid (by rw [HST.out]; simp);go_wp2_with fail;exact ⟨⟨j + 1, by omega, by go_num, A4, c4, NK, rfl, HN2', HOK4, HFQ⟩, by simp [intOf]; omega⟩
       | false =>
        obtain ⟨NQ, hNQ⟩ := nm_ (NK ++ [y]);have HN2' : Hid (N3 ++ (x.o.pr.take (j + 1)).filter (fun x => !zeroB x) = NQ) := hid (by rw [HST.out, ← hNQ]; simp);have HNQ := hid hNQ;have HQL : Hid (NQ.length ≤ 1000000000) := hid (by rw [← hNQ, List.length_append]; have := HNK2.out; simp; omega);clear hNQ;obtain ⟨q, hq⟩ := nm_ wq.heap.size;obtain ⟨v5, hv5⟩ := nm_ (wq.alloc (.cells #[.int .i64 y.c, .string (txt y.a)] 50));have hg5 : Fr (fun _ => False) wq v5 := by rw [← hv5]; exact (Fr.refl _ _).alloc _
        have hr5 : Row v5 q 50 ([y].flatMap nls) := by rw [← hv5, ← hq]; exact Row.new wq _ _
        have HR5 : Hid (Nms v5 (some ⟨q, 0, none⟩) 1 [y]) := hid (Nms.row hr5);have HO5 := hid (HOK4.out.fr hg5);have HF5 := hid (HFQ.out.trans hg5 im_);have HB5 : Hid (w.heap.size ≤ v5.heap.size) := hid HF5.out.size;clear hg5 hr5;go_wp2_with (at_builtin; refine wpList_appNm _ rfl _ _ rfl w.heap.size _ _ NK rfl HO5.out _ _ _ [y] rfl HR5.out NQ HNQ.out.symm HQL.out HB5.out ?_)
        intro A6 c6 v6 ho6 hf6 _;have HO6 := hid ho6;have HF6 : Hid (Fr (fun _ => False) w v6) := hid (HF5.out.trans hf6 (fun b hb h => by
         have := (HO5.out.lt b h).1;omega))
        clear ho6 hf6 hv5 hq;go_wp2_with fail;exact ⟨⟨j + 1, by omega, by go_num, A6, c6, NQ, rfl, HN2', HO6, HF6⟩, by simp [intOf]; omega⟩
     · obtain rfl : j = lp := by omega
       have HNE : Hid (namesM (L.take (k + 1)) = NK) := hid (by
        rw [HNX.out, ← HNK.out, List.take_of_length_le (by have := HLP.out; omega), ← HN3.out, ← HN2.out, namesO_parts];simp only [List.append_assoc])
       go_wp2_with fail;exact ⟨⟨k + 1, by omega, by go_num, A4, c4, NK, rfl, HNE, HOK4, HFQ⟩, by simp [intOf]; omega⟩
  · obtain rfl : k = n := by omega
    have HRE : Hid (R = NL) := hid (by
     rw [← HR.out, ← HNL.out, List.take_of_length_le (by have := HLN.out; omega)])
    go_wp2_with fail;go_ret;exact ⟨A1, c1, by rw [HRE.out]; rfl, by rw [HRE.out]; exact HON.out, HF.out⟩
end
section
open Go.RowKit Mem Go.Lib LebM UtfM VaM OpM AcM
attribute [local go_sem ↓] Go.wp_at_zero Go.wp_at_succ
def tc (B : Tx) : Value := .string (txt B)
theorem tc_one (l : List Tx) : ∀ u ∈ l.map tc, u.oneCell' = true := by
 intro u hu;obtain ⟨b, _, rfl⟩ := List.mem_map.1 hu;rfl
theorem strT : ElemTy Tryz.prog 26 9 (.string ⟨#[]⟩) 16 := ⟨Tryz.underlying26, by kernel_rfl, rfl⟩
def OwT (w : World) (base : Nat) (A : Option Addr) (c : Nat) (L : List Tx) : Prop := w.ownsRow base 9 1 (.slice A L.length c) L.length (L.map tc)
theorem OwT.nil (w : World) (base : Nat) : OwT w base none 0 [] := World.ownsRow_nil _ _ _ _
theorem OwT.fr {w w' : World} {base c : Nat} {A : Option Addr} {L : List Tx} (h : OwT w base A c L) (hf : Fr (fun _ => False) w w') : OwT w' base A c L := hf.own h (fun _ _ h => h)
theorem OwT.base {w : World} {b b' c : Nat} {A : Option Addr} {L : List Tx} (h : OwT w b A c L) (hb : b' ≤ b) : OwT w b' A c L := own_base h hb
theorem OwT.rd {w : World} {base c : Nat} {A : Option Addr} {L : List Tx} (h : OwT w base A c L) : Rd w A L.length (L.map tc) := Rd.of_own h
theorem OwT.cap {w : World} {base c : Nat} {A : Option Addr} {L : List Tx} (h : OwT w base A c L) : L.length ≤ c ∧ c ≤ maxLen := ⟨(own_cap h).2.1, (own_cap h).2.2⟩
theorem OwT.one (w : World) (a : Tx) : OwT (w.alloc (.cells #[.string (txt a)] 9)) w.heap.size (some ⟨w.heap.size, 0, none⟩) 1 [a] := World.ownsRow_lit (size := 1) w #[tc a] 1 (Nat.le_refl _) (by decide) rfl
theorem OwT.snoc {w : World} {base c n : Nat} {A : Option Addr} {L : List Tx} {x : Tx} (hn : L.length = n) (h : w.ownsRow base 9 1 (.slice A (n + 1) c) (n + 1) (L.map tc ++ [.string (txt x)])) : OwT w base A c (L ++ [x]) := by
 subst hn;unfold OwT;rw [List.length_append, List.map_append, List.map_singleton];exact h
theorem rd_tx {w : World} {A : Option Addr} {n k : Nat} {L : List Tx} (h : Rd w A n (L.map tc)) (hk : k < n) : ∃ ad x, A = some ad ∧ L[k]? = some x ∧ w.cell? (ad.add k) = some (.string (txt x)) := by
 obtain ⟨ad, u, rfl, hu, hc⟩ := h.at_ hk;have hl : L.length = n := by simpa using h.1
 obtain ⟨x, hx⟩ : ∃ x, L[k]? = some x := ⟨_, List.getElem?_eq_getElem (by omega)⟩
 rw [List.getElem?_map, hx] at hu;injection hu with hu
 exact ⟨ad, x, rfl, hx, by rw [hc, ← hu]; rfl⟩
theorem less_tx (x y : Tx) : lessN ⟨1, x⟩ ⟨1, y⟩ = Op.bytesLess x y := by
 unfold lessN;simp
theorem racLess_any (x y : Tx) (w : World) (hx : x.length ≤ 1000000000) (hy : y.length ≤ 1000000000) :
    Calls Tryz.prog 20 #[.string (txt x), .string (txt y)] w fun e w' => e = .returned (.bool (Op.bytesLess x y)) ∧ Fr (fun _ => False) w w' := by
 have h := rless_any ⟨1, x⟩ ⟨1, y⟩ w hx hy;rw [less_tx] at h;unfold nmc at h;obtain ⟨r, hr⟩ := nm_ (Op.bytesLess x y);rw [hr] at h ⊢;have H := hid h;clear h hr;go_enter Tryz.func20, Tryz.ntmps20;go_wp2_with fail;refine H.out.mono ?_;rintro e w' ⟨rfl, hf⟩;have HF := hid hf;clear hf;go_wp2_with fail;go_ret;exact ⟨rfl, HF.out⟩
end
end Go.Proofs.YtbabgnadgdidmaaGreat
