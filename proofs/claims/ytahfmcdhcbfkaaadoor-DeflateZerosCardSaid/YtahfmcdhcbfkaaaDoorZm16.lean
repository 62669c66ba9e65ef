/-
  The program's Codes: each symbol's code, counted up by rising lengths.
  Layer 8's program: putItems.
-/
import Derived.Test.YtahfmcdhcbfkaaaDoorZm12
import Derived.Test.YtahfmcdhcbfkaaaDoorZm15
import Derived.Test.YtahfmcdhcbfkaaaDoorZm11
import Derived.Test.YtahfmcdhcbfkaaaDoorZm03
namespace Go.Proofs.YtahfmcdhcbfkaaaDoor
open Go.RowKit HuffM Mem Go.Lib
attribute [local go_sem ↓] Go.wp_at_zero Go.wp_at_succ

theorem cs_ok (L : List Int) (k : Nat) : (cs L k).out.length = L.length ∧ (cs L k).code < 18446744073709551616 ∧ ((cs L k).last = 0 → (cs L k).code = 0) := by
  induction k with
  | zero => exact ⟨by show (List.replicate _ _).length = _; simp, by show 0 < _; omega, fun _ => rfl⟩
  | succ k ih =>
    cases h : (codedL L)[k]? with
    | none =>
      have hl : (codedL L).length ≤ k := by simpa using h
      have e : cs L (k + 1) = cs L k := by unfold cs; rw [List.take_of_length_le (by omega), List.take_of_length_le hl]
      rw [e]
      exact ih
    | some s =>
      rw [cs_succ h]
      refine ⟨by show (List.set _ _ _).length = _; rw [List.length_set]; exact ih.1, nextCode_lt ih.2.1, fun h0 => ?_⟩
      have hm := cod_mem.1 (List.mem_of_getElem? (show (cod L 15)[k]? = some s from h))
      have : kl L s = 0 := h0
      unfold kl at this
      omega
/-- the next one's code, ahead of its own zeros -/
def nx (c : CS) : Nat := if 0 < c.last then (c.code + 1) % 18446744073709551616 else 0
theorem nx_next {L : List Int} {k j : Nat} : nextCode j (cs L k) = nx (cs L k) * 2 ^ (j - (cs L k).last) % 18446744073709551616 := by
  unfold nextCode nx
  by_cases h : 0 < (cs L k).last
  · rw [if_pos h, if_pos h]
  · rw [if_neg h, if_neg h, (cs_ok L k).2.2 (by omega)]
    simp
theorem nx_lt (c : CS) : nx c < 18446744073709551616 := by
  unfold nx
  split
  · exact Nat.mod_lt _ (by omega)
  · omega
theorem cs_last_le {L : List Int} {k s : Nat} (h : (codedL L)[k]? = some s) : (cs L k).last ≤ kl L s := by
  cases k with
  | zero => exact Nat.zero_le _
  | succ k =>
    have hl := (List.getElem?_eq_some_iff.1 h).1
    have hk : (codedL L)[k]? = some (codedL L)[k] := List.getElem?_eq_getElem (by omega)
    rw [cs_succ hk]
    have hs := cod_srt L 15
    have h2 : s = (codedL L)[k + 1] := by have := (List.getElem?_eq_some_iff.1 h).2; exact this.symm
    have := List.pairwise_iff_getElem.1 hs k (k + 1) (by exact Nat.lt_of_succ_lt hl) hl (by omega)
    rw [h2]
    exact lx_key this
theorem u64_mod (a e : Nat) : (a : Int) * 2 ^ e % 18446744073709551616 = ((a * 2 ^ e % 18446744073709551616 : Nat) : Int) := by
  rw [Int.natCast_emod, Int.natCast_mul, Int.natCast_pow]
  rfl

set_option maxRecDepth 1000000 in
set_option maxHeartbeats 3200000 in
theorem pCodesN_any (A : Option Addr) (n c : Nat) (L : List Int) (w : World) (hr : Rd w A n (L.map intc)) (hn : n ≤ 1000) (hA : ∀ ad, A = some ad → ad.block < w.heap.size) (hR : rightB L = true) :
    Calls Tryd.prog 53 #[.slice A n c] w fun e w' => ∃ A' c', e = .returned (.slice A' n c') ∧ n ≤ c' ∧ Rd w' A' n ((codesL L).map numc) ∧ Fr (fun _ => False) w w' ∧ ∀ ad, A' = some ad → w.heap.size ≤ ad.block := by
  have hln : L.length = n := by simpa using hr.1
  have HLN := Lib.hid hln
  have HR := Lib.hid hr
  have HL := Lib.hid (right_in hR)
  have HRT := Lib.hid hR
  have HA := Lib.hid hA
  have hmk := mk_u64 n (by omega) w
  clear hr hln hA hR
  go_enter Tryd.func53, Tryd.ntmps53
  go_wp2_with fail
  obtain ⟨g, hg⟩ : ∃ g, g = w.heap.size := ⟨_, rfl⟩
  obtain ⟨w0, hw0⟩ : ∃ w0, w.alloc (.cells (Array.replicate n (.int .u64 0)) 44) = w0 := ⟨_, rfl⟩
  have hb0 : Nums w0 g (cs L 0).out := by unfold Nums; rw [← hw0, hg, show (cs L 0).out = List.replicate L.length 0 from rfl, HLN.out, rep_u64]; exact heap_alloc_new w _
  have hf0 : Fr (fun _ => False) w w0 := by rw [← hw0]; exact (Fr.refl _ _).alloc _
  have hr0 := HR.out.fr hf0 (fun _ _ h => h)
  rw [hw0, ← hg]
  have HG := Lib.hid hg
  have HB0 := Lib.hid hb0
  have HF0 := Lib.hid hf0
  have HR0 := Lib.hid hr0
  clear hmk hg hw0 hb0 hf0 hr0
  refine (pRight_any A n c L w0 HR0.out hn).mono ?_
  rintro e w1 ⟨rfl, rfl⟩
  rw [HRT.out]
  go_wp2_with fail
  refine (coded_any A n c L w0 HR0.out hn (fun ad h => Nat.lt_of_lt_of_le (HA.out ad h) HF0.out.size) HRT.out).mono ?_
  rintro e w1 ⟨gs, m, cs1, rfl, hm, hmc, hmn, hgs, hcol, hf1⟩
  have HM := Lib.hid hm
  have HCOL := Lib.hid hcol
  have HF1 := Lib.hid (HF0.out.trans hf1 (fun _ _ h => h))
  have HR1 := Lib.hid (HR0.out.fr hf1 (fun _ _ h => h))
  have HB1 := Lib.hid (HB0.out.fr hf1 (fun h => h))
  have hgg : gs ≠ g := by
    have h1 := HB0.out
    unfold Nums at h1
    have := lt_of_heap h1
    omega
  have HGG := Lib.hid hgg
  have HAG := Lib.hid (fun (ad : Addr) (h : A = some ad) => (by have := HA.out ad h; have := HG.out; omega : ad.block ≠ g))
  clear hm hgs hcol hf1 hgg HR0 HB0
  go_wp2_with fail
  go_loopw [4, 5, 18] (fun a b i wr => ∃ k : Nat, k ≤ m ∧ i = .int .i64 (k : Int) ∧ a = .int .u64 (nx (cs L k) : Int) ∧ b = .int .i64 ((cs L k).last : Int) ∧ Hid (Nums wr g (cs L k).out) ∧ Fr (fun b => b = g) w1 wr)
    (fun _ _ i _ => m - (intOf i).toNat)
  case atStart => exact ⟨0, by omega, rfl, rfl, rfl, HB1, Fr.refl _ _⟩
  case round =>
    obtain ⟨k, hk, rfl, rfl, rfl, HN, hfr⟩ := hrel
    by_cases hlt : k < m
    · obtain ⟨s, hs⟩ : ∃ s, (codedL L)[k]? = some s := ⟨_, List.getElem?_eq_getElem (by rw [← HM.out]; exact hlt)⟩
      have hcs := (HCOL.out.fr hfr HGG.out).cell hs
      have hmem := cod_mem.1 (List.mem_of_getElem? (show (cod L 15)[k]? = some s from hs))
      have hsn : s < n := by rw [← HLN.out]; exact hmem.1
      obtain ⟨ad, u, rfl, hu, hcell⟩ := (HR1.out.fr hfr (fun ad h => HAG.out ad h)).at_ hsn
      have hx : L[s]? = some L[s] := List.getElem?_eq_getElem hmem.1
      have hgd : L.getD s 0 = L[s] := by rw [List.getD_eq_getElem?_getD, hx]; rfl
      obtain ⟨j, hj⟩ : ∃ j, j = kl L s := ⟨_, rfl⟩
      have hju : u = .int .i64 (j : Int) := by
        rw [List.getElem?_map, hx] at hu
        have h2 : intc L[s] = u := by simpa using hu
        rw [← h2, hj]
        unfold kl intc
        rw [hgd, Int.toNat_of_nonneg (by rw [← hgd]; omega)]
      subst hju
      have hj15 : j ≤ 15 := by rw [hj]; unfold kl; omega
      have hlast := cs_last_le hs
      have hnext := nx_next (L := L) (k := k) (j := j)
      have hsucc := cs_succ hs
      have hlt64 := nx_lt (cs L k)
      rw [← hj] at hlast
      obtain ⟨v, hv⟩ : ∃ v, v = nx (cs L k) := ⟨_, rfl⟩
      obtain ⟨la, hla⟩ : ∃ la, la = (cs L k).last := ⟨_, rfl⟩
      obtain ⟨q, hq⟩ : ∃ q, q = nextCode j (cs L k) := ⟨_, rfl⟩
      have hq64 : q < 18446744073709551616 := by rw [hq]; exact nextCode_lt (cs_ok L k).2.1
      have hout : (cs L (k + 1)).out = (cs L k).out.set s q := by rw [hsucc, hq, hj]; rfl
      have hlas : (cs L (k + 1)).last = j := by rw [hsucc, hj]; rfl
      have hnx : nx (cs L (k + 1)) = (q + 1) % 18446744073709551616 := by
        unfold nx
        rw [hlas, if_pos (by rw [hj]; unfold kl; omega), hsucc, hq, hj]
        rfl
      rw [← hq, ← hv, ← hla] at hnext
      rw [← hv] at hlt64 ⊢
      rw [← hla] at hlast ⊢
      obtain ⟨y, hcy, hfy⟩ := HN.out.cell (i := s) (by rw [(cs_ok L k).1]; exact hmem.1)
      have e1 : (j : Int) - (la : Int) = ((j - la : Nat) : Int) := by omega
      have e2 : IntKind.u64.wrap ((v : Int) * 2 ^ (j - la)) = (q : Int) := by rw [IntKind.wrap_u64, hnext]; exact u64_mod _ _
      have e3 : IntKind.u64.wrap ((q : Int) + 1) = (((q + 1) % 18446744073709551616 : Nat) : Int) := by rw [IntKind.wrap_u64]; omega
      have HQ := Lib.hid (And.intro hout (And.intro hlas hnx))
      have HE := Lib.hid (And.intro e1 (And.intro e2 e3))
      clear hs hmem hu hx hgd hj hnext hsucc hv hla hq hout hlas hnx e1 e2 e3
      go_wp2_with fail
      rw [HE.out.2.1, HE.out.2.2]
      refine ⟨⟨k + 1, by omega, by go_num, by rw [HQ.out.2.2], by rw [HQ.out.2.1], ?_, hfr.setCell (fun _ => rfl) _⟩, by simp [intOf]; omega⟩
      show Nums _ _ _
      rw [HQ.out.1]
      exact HN.out.set s q
    · obtain rfl : k = m := by omega
      have hnn := HN.out
      rw [show k = (codedL L).length from HM.out, cs_end] at hnn
      have hrd := hnn.rd
      rw [codes_len, HLN.out] at hrd
      have HRD := Lib.hid hrd
      clear hnn hrd HN
      go_wp2
      go_ret
      exact ⟨_, _, rfl, Nat.le_refl _, HRD.out, HF1.out.trans hfr (fun b hb e => by have := HG.out; omega), fun ad h => by injection h with h; subst h; have := HG.out; show w.heap.size ≤ g; omega⟩
theorem pCodes_any (A : Option Addr) (n c : Nat) (L : List Int) (w : World) (hr : Rd w A n (L.map intc)) (hn : n ≤ 1000) (hA : ∀ ad, A = some ad → ad.block < w.heap.size) (hR : rightB L = true) :
    Calls Tryd.prog 53 #[.slice A n c] w fun e w' => ∃ A' c', e = .returned (.slice A' n c') ∧ n ≤ c' ∧ Rd w' A' n ((codesL L).map numc) ∧ Fr (fun _ => False) w w' :=
  (pCodesN_any A n c L w hr hn hA hR).mono fun _ _ ⟨A', c', h1, h2, h3, h4, _⟩ => ⟨A', c', h1, h2, h3, h4⟩
end Go.Proofs.YtahfmcdhcbfkaaaDoor
namespace Go.Proofs.YtahfmcdhcbfkaaaDoor
open Go.RowKit CoM BitsM HuffM Mem Go.Lib
attribute [local go_sem ↓] Go.wp_at_zero Go.wp_at_succ
set_option linter.unusedVariables false
set_option maxRecDepth 100000

theorem Its.frA {S : Nat → Prop} {w w' : World} {A : Option Addr} {n : Nat} {T : List It} (h : Its w A n T) (hf : Fr S w w') (hS : ∀ ad, A = some ad → ¬ S ad.block) : Its w' A n T :=
  ⟨h.1, fun k t hk => by
    obtain ⟨g, o, e, hg, h1, h2, h3⟩ := h.2 k t hk
    have hs := hS _ e
    exact ⟨g, o, e, Nat.lt_of_lt_of_le hg hf.size, hf.cell h1 hs, hf.cell h2 hs, hf.cell h3 hs⟩⟩
theorem num_cell {w : World} {A : Option Addr} {n : Nat} {L : List Nat} (h : Rd w A n (L.map numc)) {k : Nat} (hk : k < n) : ∃ ad, A = some ad ∧ w.cell? (ad.add k) = some (.int .u64 ((L[k]! : Nat) : Int)) := by
  have hl : L.length = n := by simpa using h.1
  obtain ⟨ad, u, e, h1, h2⟩ := h.at_ hk
  rw [List.getElem?_map, List.getElem?_eq_getElem (by omega)] at h1
  refine ⟨ad, e, ?_⟩
  rw [h2, getElem!_pos L k (by omega), ← h1]
  rfl
theorem flat_it_take {T : List It} {k : Nat} {t : It} (h : T[k]? = some t) (f : It → List Bool) : (T.take (k + 1)).flatMap f = (T.take k).flatMap f ++ f t := by
  rw [List.take_add_one, h]
  simp
theorem natc_ints (l : List Nat) : (ints l).map intc = l.map natc := by simp [ints, intc, natc, Function.comp_def]
set_option maxHeartbeats 3200000 in
theorem putItems_any (g c : Nat) (A AT AL : Option Addr) (bs : List Bool) (n cT cL : Nat) (T : List It) (len : List Nat) (w : World) (hw : Wr w g A c bs) (hb : bs.length ≤ 2000000000) (hT : Its w AT n T) (hTb : ∀ ad, AT = some ad → ¬ Ft g A ad.block ∧ ad.block < w.heap.size) (hn : n ≤ 1000)
    (hL : Rd w AL 19 (len.map natc)) (hLb : ∀ ad, AL = some ad → ¬ Ft g A ad.block ∧ ad.block < w.heap.size) (C : Code8 T len) (hs : ∀ t ∈ T, t.s ≤ 18 ∧ t.b ≤ 7 ∧ t.x ≤ 127) :
    Calls Tryd.prog 61 #[.pointer (some ⟨g, 0, none⟩), .slice AT n cT, .slice AL 19 cL] w fun e w' => e = .returned (.tuple #[]) ∧ ∃ A' c', Wr w' g A' c' (bs ++ T.flatMap (itBits (codesL (ints len)) len)) ∧ Fr (Ft g A) w w' ∧ Nx w A A' := by
  have hln := hT.1
  obtain ⟨cs, hcs⟩ : ∃ cs, cs = codesL (ints len) := ⟨_, rfl⟩
  have hcl : cs.length = 19 := by rw [hcs, codes_len, ints_len]; exact C.len19
  have hclt : ∀ x ∈ cs, x < 18446744073709551616 := by rw [hcs]; exact codes_lt _
  have HCO : Hid (Calls Tryd.prog 53 #[.slice AL 19 cL] w fun e w' => ∃ A' c', e = .returned (.slice A' 19 c') ∧ 19 ≤ c' ∧ Rd w' A' 19 (cs.map numc) ∧ Fr (fun _ => False) w w' ∧ ∀ ad, A' = some ad → w.heap.size ≤ ad.block) := Lib.hid (by
    rw [hcs]
    exact pCodesN_any AL 19 cL (ints len) w (by rw [natc_ints]; exact hL) (by omega) (fun ad h => (hLb ad h).2) C.right)
  rw [← hcs]
  have HW := Lib.hid hw
  have HT := Lib.hid hT
  have HTB := Lib.hid hTb
  have HL := Lib.hid hL
  have HLB := Lib.hid hLb
  have HC := Lib.hid C
  have HS := Lib.hid hs
  have HLN := Lib.hid hln
  have HCL := Lib.hid (And.intro hcl hclt)
  have HB := Lib.hid hb
  clear hw hT hTb hL hLb C hs hln hcs hcl hclt hb
  go_enter Tryd.func61, Tryd.ntmps61
  go_wp2_with (refine HCO.out.mono ?_)
  rintro e w1 ⟨AC, cc, rfl, hcc, hrc, hf1, hcb⟩
  have HRC := Lib.hid hrc
  have HF1 := Lib.hid hf1
  have HCB : Hid (∀ ad, AC = some ad → ¬ Ft g A ad.block ∧ ad.block < w1.heap.size) := Lib.hid (fun ad h => ⟨HW.out.new (hcb ad h), hrc.lt (by omega) ad h⟩)
  have HW1 := Lib.hid (HW.out.frA hf1 (fun h => h) (fun _ _ h => h))
  have HT1 := Lib.hid (HT.out.frA hf1 (fun _ _ h => h))
  have HL1 := Lib.hid (HL.out.fr hf1 (fun _ _ h => h))
  have HSZ := Lib.hid hf1.size
  clear hrc hf1 hcb HCO
  go_wp2_with fail
  go_loopw [13] (fun i wr => ∃ (k : Nat) (A1 : Option Addr) (c1 : Nat), k ≤ n ∧ i = .int .i64 (k : Int) ∧ Hid (Wr wr g A1 c1 (bs ++ (T.take k).flatMap (itBits cs len))) ∧ Hid (Fr (Ft g A) w1 wr) ∧ Hid (Nx w1 A A1)) (fun i _ => n - (intOf i).toNat)
  case atStart => exact ⟨0, A, c, Nat.zero_le _, rfl, by rw [List.take_zero, List.flatMap_nil, List.append_nil]; exact HW1.out, Fr.refl _ _, Nx.refl _ _⟩
  case round =>
    obtain ⟨k, A1, c1, hk, rfl, HWR, HF, HNX⟩ := hrel
    rename World => wr
    by_cases hlt : k < n
    · obtain ⟨t, ht⟩ : ∃ t, T[k]? = some t := ⟨_, List.getElem?_eq_getElem (by rw [HLN.out]; exact hlt)⟩
      have hTr := HT1.out.frA HF.out (fun ad h => (HTB.out ad h).1)
      have hLr := HL1.out.fr HF.out (fun ad h => (HLB.out ad h).1)
      have hCr := HRC.out.fr HF.out (fun ad h => (HCB.out ad h).1)
      obtain ⟨g2, o, rfl, hg2, h1, h2, h3⟩ := hTr.2 k t ht
      obtain ⟨hs18, hb7, hx127⟩ := HS.out t (List.mem_of_getElem? ht)
      have hlen := HC.out.met t (List.mem_of_getElem? ht) hs18
      have hpl := flat_len_le (itBits cs len) 80 (T.take k) (fun y hy => by
        unfold itBits
        rw [List.length_append, List.length_reverse, low_length, low_length]
        have := (HS.out y (List.mem_of_mem_take hy)).2.1
        omega)
      rw [List.length_take] at hpl
      have htk := flat_it_take ht (itBits cs len)
      obtain ⟨s, b, x⟩ := t
      simp only at h1 h2 h3 hs18 hb7 hx127 hlen
      obtain ⟨Q, hQ⟩ : ∃ Q, Q = bs ++ (T.take k).flatMap (itBits cs len) := ⟨_, rfl⟩
      have hQl : Q.length ≤ 2000100000 := by rw [hQ, List.length_append]; have := HB.out; omega
      obtain ⟨adL, hAL, cl⟩ := nat_cell hLr (k := s) (by omega)
      obtain ⟨adC, hAC, ccv⟩ := num_cell hCr (k := s) (by omega)
      obtain ⟨v, hv⟩ : ∃ v, v = len[s]! := ⟨_, rfl⟩
      obtain ⟨cv, hcv⟩ : ∃ cv, cv = cs[s]! := ⟨_, rfl⟩
      have hcv64 : cv < 18446744073709551616 := by rw [hcv, getElem!_pos cs s (by rw [HCL.out.1]; omega)]; exact HCL.out.2 _ (List.getElem_mem _)
      rw [← hv] at cl hlen
      rw [← hcv] at ccv
      have hbits : bs ++ (T.take (k + 1)).flatMap (itBits cs len) = Q ++ (low cv (min v 64)).reverse ++ low x (min b 64) := by
        rw [htk, hQ]
        simp only [List.append_assoc]
        congr 2
        unfold itBits
        rw [← hv, ← hcv]
      rw [← hQ] at HWR
      have HBITS := Lib.hid hbits
      have HQL := Lib.hid hQl
      have hsi : (s : Int) < 19 := by omega
      subst hAL
      subst hAC
      obtain ⟨hl0, hl7⟩ := hlen
      have HLEN := Lib.hid hl7
      have HBB := Lib.hid hb7
      clear ht hg2 hpl htk hQ hQl hv hcv hbits hTr hLr hCr hl0 hl7 hb7 hs18
      go_upto_region 4 with fail
      obtain ⟨w2, hw2⟩ : ∃ w2, w2 = wr.alloc (.cells #[Value.int .i64 (s : Int), .int .i64 (b : Int), .int .u64 (x : Int)] 126) := ⟨_, rfl⟩
      have hr2 : Row w2 wr.heap.size 126 [Value.int .i64 (s : Int), .int .i64 (b : Int), .int .u64 (x : Int)] := by rw [hw2]; exact Row.new wr _ _
      have hfa : Fr (fun _ => False) wr w2 := by rw [hw2]; exact (Fr.refl _ wr).alloc _
      have hwr2 := HWR.out.frA hfa (fun h => h) (fun _ _ h => h)
      have cl2 := hfa.cell cl (fun h => h)
      have cc2 := hfa.cell ccv (fun h => h)
      obtain ⟨p, hp⟩ : ∃ p, p = wr.heap.size := ⟨_, rfl⟩
      have HPN : Hid (¬ Ft g A1 p) := Lib.hid (HWR.out.new (by omega))
      rw [← hw2]
      rw [← hp] at hr2 ⊢
      have d0 : w2.cell? ⟨p, 0, none⟩ = some (.int .i64 (s : Int)) := hr2.cell rfl
      have HR2 := Lib.hid hr2
      have HFA := Lib.hid hfa
      have HWR2 := Lib.hid hwr2
      have HCODE : Hid (Calls Tryd.prog 75 #[.pointer (some ⟨g, 0, none⟩), .int .i64 (v : Int), .int .u64 (cv : Int)] w2.drew fun e w' => e = .returned (.tuple #[]) ∧ ∃ A' c', Wr w' g A' c' (Q ++ (low cv (min v 64)).reverse) ∧ Fr (Ft g A1) w2.drew w' ∧ Nx w2.drew A1 A') := Lib.hid (by
        have h := code_any g c1 A1 (v : Int) cv Q w2.drew HWR2.out.drew (by have := HQL.out; omega) hcv64
        rw [Int.toNat_natCast] at h
        exact h)
      clear hw2 hr2 hfa hwr2 hp h1 h2 h3 cl ccv
      go_still_tail 11, (by kernel_rfl)
      change wpList _ _ _ _ _ w2.drew
      go_wp2_with (refine HCODE.out.mono ?_)
      rintro e w3 ⟨rfl, A3, c3, hw3, hf3, hn3⟩
      have HW3 := Lib.hid hw3
      have hr3 := Row.fr (w := w2.drew) HR2.out hf3 HPN.out
      have d1 : w3.cell? ⟨p, 1, none⟩ = some (.int .i64 (b : Int)) := hr3.cell rfl
      have d2 : w3.cell? ⟨p, 2, none⟩ = some (.int .u64 (x : Int)) := hr3.cell rfl
      have HF3 : Hid (Fr (Ft g A1) wr w3) := Lib.hid (HFA.out.drew.mono (fun _ _ h => h.elim) |>.trans hf3 (fun _ _ h => h))
      have HN3 : Hid (Nx wr A1 A3) := Lib.hid (by
        rcases hn3 with h | ⟨b, h, hb⟩
        · exact .inl h
        · exact .inr ⟨b, h, Nat.le_trans HFA.out.size hb⟩)
      clear hw3 hf3 hn3 hr3 cl2 cc2 d0 HCODE
      have HPUT : Hid (∀ w4, w4 = w3.alloc (.cells #[.int .u64 (x : Int)] 44) → Calls Tryd.prog 42 #[.pointer (some ⟨g, 0, none⟩), .int .i64 (b : Int), .slice (some ⟨w3.heap.size, 0, none⟩) 1 1] w4 fun e w' => e = .returned (.tuple #[]) ∧ ∃ A' c', Wr w' g A' c' (Q ++ (low cv (min v 64)).reverse ++ low x (min b 64)) ∧ Fr (Ft g A3) w4 w' ∧ Nx w4 A3 A') := Lib.hid (by
        intro w4 hw4
        subst hw4
        have h := put_any g c3 A3 (some ⟨w3.heap.size, 0, none⟩) 1 1 (b : Int) (Q ++ (low cv (min v 64)).reverse) [x] _ (HW3.out.frA ((Fr.refl (fun _ => False) w3).alloc _) (fun h => h) (fun _ _ h => h)) (by rw [List.length_append, List.length_reverse, low_length]; have := HQL.out; omega) (Rd.one w3 (.int .u64 (x : Int)) 44) (fun y hy => by simp at hy; omega) (by omega) (fun ad h => by injection h with h; subst h; exact HW3.out.new (Nat.le_refl _))
        rw [Int.toNat_natCast, List.flatMap_cons, List.flatMap_nil, List.append_nil] at h
        exact h)
      go_wp2_with (refine (HPUT.out _ rfl).mono ?_)
      rintro e w5 ⟨rfl, A5, c5, hw5, hf5, hn5⟩
      rw [← HBITS.out] at hw5
      have HW5 := Lib.hid hw5
      have hf35 : Fr (Ft g A3) w3 w5 := ((Fr.refl (fun _ => False) w3).alloc _).mono (fun _ _ h => h.elim) |>.trans hf5 (fun _ _ h => h)
      have hn35 : Nx w3 A3 A5 := by
        rcases hn5 with h | ⟨b, h, hb⟩
        · exact .inl h
        · exact .inr ⟨b, h, by simp at hb; omega⟩
      have HF5 : Hid (Fr (Ft g A) w1 w5) := Lib.hid (Fr.next HF.out HNX.out (Fr.next HF3.out HN3.out hf35))
      have HN5 : Hid (Nx w1 A A5) := Lib.hid (HNX.out.trans (HN3.out.trans hn35 HF3.out.size) HF.out.size)
      clear hw5 hf5 hn5 hf35 hn35 d1 d2 HPUT
      go_wp2_with fail
      exact ⟨⟨k + 1, A5, c5, by omega, by go_num, HW5.out, HF5.out, HN5.out⟩, by simp [intOf]; omega⟩
    · have hkn : k = n := by omega
      have hTT : T.take k = T := List.take_of_length_le (by rw [HLN.out]; omega)
      rw [hTT] at HWR
      clear hTT
      go_wp2_with fail
      go_end0
      exact ⟨rfl, A1, c1, HWR.out, (HF1.out.mono (fun _ _ h => h.elim)).trans HF.out (fun _ _ h => h), by
        rcases HNX.out with h | ⟨b, h, hb⟩
        · exact .inl h
        · exact .inr ⟨b, h, Nat.le_trans HSZ.out hb⟩⟩
end Go.Proofs.YtahfmcdhcbfkaaaDoor
