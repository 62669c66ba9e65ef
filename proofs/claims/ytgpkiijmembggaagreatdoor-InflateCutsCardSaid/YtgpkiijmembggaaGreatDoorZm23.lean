/-
  Layer 8's program: weights, inOrder.
  The program's Codes: each symbol's code, counted up by rising lengths.
  A Writer in other worlds: what is new is not its own; one number is put.
  Layer 8's program: putItems.
-/
import Derived.Test.YtgpkiijmembggaaGreatDoorZm21
import Derived.Test.YtgpkiijmembggaaGreatDoorZm22
import Derived.Test.YtgpkiijmembggaaGreatDoorZm01
import Derived.Test.YtgpkiijmembggaaGreatDoorZm05
import Derived.Test.YtgpkiijmembggaaGreatDoorZm17
import Derived.Test.YtgpkiijmembggaaGreatDoorZm20
import Derived.Test.YtgpkiijmembggaaGreatDoorZm16
import Derived.Test.YtgpkiijmembggaaGreatDoorZm03
namespace Go.Proofs.YtgpkiijmembggaaGreatDoor
open Go.RowKit CoM Mem Go.Lib
attribute [local go_sem ↓] Go.wp_at_zero Go.wp_at_succ
set_option linter.unusedVariables false
set_option maxRecDepth 100000

set_option maxHeartbeats 1600000 in
theorem pWeights8_any (A : Option Addr) (n c : Nat) (T : List It) (w : World) (hI : Its w A n T) (hs : ∀ t ∈ T, t.s ≤ 18) (hn : n ≤ 1000) :
    Calls Tryz.prog 52 #[.slice A n c] w fun e w' => ∃ g, e = .returned (.slice (some ⟨g, 0, none⟩) 19 19) ∧ w.heap.size ≤ g ∧ NR w' g (weigh8 T zeros19) ∧ Fr (fun _ => False) w w' := by
  have HI := Lib.hid hI
  have HLN := Lib.hid hI.1
  have HS := Lib.hid hs
  have hmk := mk_int 19 (by omega) w
  obtain ⟨g, hg⟩ : ∃ g, g = w.heap.size := ⟨_, rfl⟩
  obtain ⟨w1, hw1⟩ : ∃ w1, w1 = w.alloc (.cells (Array.replicate 19 (.int .i64 0)) 3) := ⟨_, rfl⟩
  have hz : NR w1 g zeros19 := by rw [hw1, hg]; exact NR.zeros w 19
  have hf1 : Fr (fun _ => False) w w1 := by rw [hw1]; exact (Fr.refl _ w).alloc _
  rw [← hg, ← hw1] at hmk
  replace hmk : (Instr.makeSlice 60 (.int .i64 19) (.int .i64 19)).run Tryz.prog w = .ok (.slice (some ⟨g, 0, none⟩) 19 19) w1 := hmk
  have HZ := Lib.hid hz
  have HF1 := Lib.hid hf1
  have HG := Lib.hid (show w.heap.size ≤ g by omega)
  clear hI hs hz hf1 hw1 hg
  go_enter Tryz.func52, Tryz.ntmps52
  go_wp2_with fail
  go_loopw [9] (fun i wr => ∃ k : Nat, k ≤ n ∧ i = .int .i64 (k : Int) ∧ Hid (NR wr g (weigh8 (T.take k) zeros19)) ∧ Hid (Fr (fun _ => False) w wr)) (fun i _ => n - (intOf i).toNat)
  case atStart => exact ⟨0, Nat.zero_le _, rfl, HZ.out, HF1.out⟩
  case round =>
    obtain ⟨k, hk, rfl, HN, HF⟩ := hrel
    rename World => wr
    by_cases hlt : k < n
    · obtain ⟨t, ht⟩ : ∃ t, T[k]? = some t := ⟨_, List.getElem?_eq_getElem (by rw [HLN.out]; exact hlt)⟩
      obtain ⟨g2, o, rfl, hg2, h1, h2, h3⟩ := (HI.out.fr HF.out (fun _ _ h => h)).2 k t ht
      have hs18 := HS.out t (List.mem_of_getElem? ht)
      obtain ⟨s, b, x⟩ := t
      simp only at h1 h2 h3 hs18
      obtain ⟨W, hW⟩ : ∃ W, W = weigh8 (T.take k) zeros19 := ⟨_, rfl⟩
      have hWl : W.length = 19 := by rw [hW, weigh8_len]; rfl
      have hWk : weigh8 (T.take (k + 1)) zeros19 = bump8 W s := by rw [weigh8_take ht, hW]
      have hWb : W[s]! ≤ n := by
        have h := weigh8_le (T.take k) zeros19 0 (fun x hx => by have := List.eq_of_mem_replicate hx; omega)
        rw [← hW] at h
        have h2 := h W[s]! (by rw [getElem!_pos W s (by omega)]; exact List.getElem_mem _)
        rw [List.length_take] at h2
        omega
      rw [← hW] at HN
      have HWK := Lib.hid hWk
      have hn2 := HN.out
      obtain ⟨v, hv⟩ : ∃ v, v = W[s]! := ⟨_, rfl⟩
      rw [← hv] at hWb
      have hsi : (s : Int) < 19 := by omega
      have HWL := Lib.hid hWl
      have HV := Lib.hid hv
      clear ht hg2 hWk hWl hW hv
      go_upto_region 5 with fail
      obtain ⟨w2, hw2⟩ : ∃ w2, w2 = wr.alloc (.cells #[Value.int .i64 (s : Int), .int .i64 (b : Int), .int .u64 (x : Int)] 133) := ⟨_, rfl⟩
      have hr2 : Row w2 wr.heap.size 133 [Value.int .i64 (s : Int), .int .i64 (b : Int), .int .u64 (x : Int)] := by rw [hw2]; exact Row.new wr _ _
      have hn3 : NR w2 g W := by rw [hw2]; exact Row.alloc hn2 _
      have hf2 : Fr (fun _ => False) w w2 := by rw [hw2]; exact HF.out.alloc _
      obtain ⟨p, hp⟩ : ∃ p, p = wr.heap.size := ⟨_, rfl⟩
      rw [← hw2]
      rw [← hp] at hr2 ⊢
      have d0 : w2.cell? ⟨p, 0, none⟩ = some (.int .i64 (s : Int)) := hr2.cell rfl
      have c1 : w2.cell? ⟨g, s, none⟩ = some (.int .i64 (v : Int)) := by rw [HV.out]; exact hn3.at_ (i := s) (by rw [HWL.out]; omega)
      have f1 : w2.frozen? ⟨g, s, none⟩ = false := Row.free hn3 s
      have HN4 : Hid (NR (w2.setCell ⟨g, s, none⟩ (.int .i64 ((v : Int) + 1))) g (weigh8 (T.take (k + 1)) zeros19)) := Lib.hid (by rw [HWK.out, bump8, ← HV.out]; exact hn3.set s (v + 1))
      have HF4 : Hid (Fr (fun _ => False) w (w2.setCell ⟨g, s, none⟩ (.int .i64 ((v : Int) + 1)))) := Lib.hid (hf2.trans (Fr.set1 w2 g s _) (fun b hb h => by have := HG.out; omega))
      clear hw2 hr2 hn3 hf2 hp hn2 h1 h2 h3
      go_wp2_with fail
      exact ⟨⟨k + 1, by omega, by go_num, HN4.out, HF4.out⟩, by simp [intOf]; omega⟩
    · have hkn : k = n := by omega
      have hT : T.take k = T := List.take_of_length_le (by rw [HLN.out]; omega)
      have HN2 : Hid (NR wr g (weigh8 T zeros19)) := Lib.hid (by rw [← hT]; exact HN.out)
      clear hT HN
      go_wp2_with fail
      go_ret
      exact ⟨g, rfl, HG.out, HN2.out, HF.out⟩

/-- the lengths in the items' order -/
def inOrd (len : List Nat) : List Nat := ord.map fun o => len[o]!
theorem ordT : RowTy Tryz.prog 136 19 := ⟨⟨19, 3, Tryz.underlying136⟩, by kernel_rfl⟩
theorem ord_lt : ∀ o ∈ ord, o < 19 := by decide
theorem wpList_load_ord {ops : Array Oper} {rest : List Oper} {op : Oper} {a : Act} {w : World} {Q : Exit → Act → World → Prop} (hgd : op.guard = none) (x : Operand) (ho : op.op = .load 136 x)
    (hx : a.eval x = .pointer (some ⟨2, 0, none⟩)) (hG : Gl8 w) (OC : Array Value) (hO : OC = (ord.map natc).toArray) (h : wpList Tryz.prog ops Q rest (a.put op.dst (.agg OC)) w) : wpList Tryz.prog ops Q (op :: rest) a w := by
  subst hO
  refine wpList_plain hgd fun K hK => ?_
  have hl : (loadVar 136 ⟨2, 0, none⟩).run Tryz.prog w = .ok (.agg (ord.map natc).toArray) w :=
    run_loadVar_mid (P := Tryz.prog) w 2 0 136 (ord.map natc) (.array 19 3) (fun j v hv => by
      rw [List.getElem?_map] at hv
      cases hj : ord[j]? with
      | none => rw [hj] at hv; cases hv
      | some x =>
        rw [hj] at hv
        injection hv with hv
        rw [← hv, Nat.zero_add]
        exact hG.1 j x hj) Tryz.underlying136 rfl (by kernel_rfl)
  unfold Oper.wp execOp
  simp only [ho, hx, Instr.loadAt, Instr.sureAddr, Sem.run_bind, Sem.run_pure, Result.andThen_ok, hl]
  exact hK _ _ h

theorem inOrd_len (len : List Nat) : (inOrd len).length = 19 := by simp [inOrd, ord]
/-- the first k are filled in -/
def inPart (len : List Nat) (k : Nat) : List Nat := (inOrd len).take k ++ List.replicate (19 - k) 0
theorem inPart_len (len : List Nat) (k : Nat) (h : k ≤ 19) : (inPart len k).length = 19 := by
  unfold inPart
  rw [List.length_append, List.length_take, inOrd_len, List.length_replicate]
  omega
theorem inPart_set (len : List Nat) (k o : Nat) (h : k < 19) (ho : ord[k]? = some o) : (inPart len k).set k len[o]! = inPart len (k + 1) := by
  have hk : (inOrd len)[k]? = some len[o]! := by simp [inOrd, ho]
  have hk2 := (List.getElem?_eq_some_iff.1 hk).2
  unfold inPart
  rw [List.set_append_right _ _ (by rw [List.length_take, inOrd_len]; omega), List.length_take, inOrd_len, Nat.min_eq_left (by omega), Nat.sub_self, show 19 - k = (19 - (k + 1)) + 1 by omega, List.replicate_succ, List.set_cons_zero, ← List.take_append_getElem (show k < (inOrd len).length by rw [inOrd_len]; exact h), List.append_assoc, hk2]
  rfl
set_option maxHeartbeats 1600000 in
theorem pInOrder_any (A : Option Addr) (c : Nat) (len : List Nat) (w : World) (hG : Gl8 w) (hr : Rd w A 19 (len.map natc)) :
    Calls Tryz.prog 53 #[.slice A 19 c] w fun e w' => ∃ g, e = .returned (.slice (some ⟨g, 0, none⟩) 19 19) ∧ w.heap.size ≤ g ∧ NR w' g (inOrd len) ∧ Fr (fun _ => False) w w' := by
  have HR := Lib.hid hr
  have hmk := mk_int 19 (by omega) w
  obtain ⟨g, hg⟩ : ∃ g, g = w.heap.size := ⟨_, rfl⟩
  obtain ⟨w1, hw1⟩ : ∃ w1, w1 = w.alloc (.cells (Array.replicate 19 (.int .i64 0)) 3) := ⟨_, rfl⟩
  have hz : NR w1 g (inPart len 0) := by rw [hw1, hg]; exact NR.zeros w 19
  have hf1 : Fr (fun _ => False) w w1 := by rw [hw1]; exact (Fr.refl _ w).alloc _
  rw [← hg, ← hw1] at hmk
  replace hmk : (Instr.makeSlice 60 (.int .i64 19) (.int .i64 19)).run Tryz.prog w = .ok (.slice (some ⟨g, 0, none⟩) 19 19) w1 := hmk
  have HZ := Lib.hid hz
  have HF1 := Lib.hid hf1
  have HG1 := Lib.hid (hG.fr0 hf1)
  have HG := Lib.hid (show w.heap.size ≤ g by omega)
  obtain ⟨OC, hOC⟩ : ∃ OC, OC = (ord.map natc).toArray := ⟨_, rfl⟩
  have HOC := Lib.hid hOC
  clear hr hG hz hf1 hw1 hg hOC
  go_enter Tryz.func53, Tryz.ntmps53
  go_upto_region 2 with fail
  go_wp2_with (refine wpList_load_ord rfl _ rfl (by rfl) HG1.out OC HOC.out ?_)
  go_loopw [8] (fun i wr => ∃ k : Nat, k ≤ 19 ∧ i = .int .i64 (k : Int) ∧ Hid (NR wr g (inPart len k)) ∧ Hid (Fr (fun _ => False) w wr)) (fun i _ => 19 - (intOf i).toNat)
  case atStart => exact ⟨0, Nat.zero_le _, rfl, HZ.out, HF1.out⟩
  case round =>
    obtain ⟨k, hk, rfl, HN, HF⟩ := hrel
    rename World => wr
    by_cases hlt : k < 19
    · obtain ⟨o, ho⟩ : ∃ o, ord[k]? = some o := ⟨_, List.getElem?_eq_getElem (show k < ord.length from hlt)⟩
      have ho19 : o < 19 := ord_lt o (List.mem_of_getElem? ho)
      have hwx := run_index_agg (P := Tryz.prog) Tryz.underlying136 Tryz.underlying3 rfl (by kernel_rfl) OC .i64 k (.int .i64 (o : Int)) hlt (by rw [HOC.out]; simp [ho, natc])
      obtain ⟨ad, rfl, hc1⟩ := nat_cell (HR.out.fr HF.out (fun _ _ h => h)) ho19
      obtain ⟨v, hv⟩ : ∃ v, v = len[o]! := ⟨_, rfl⟩
      rw [← hv] at hc1
      have hoi : (o : Int) < 19 := by omega
      have hki : (k : Int) < 19 := by omega
      have c1 := NR.at_ HN.out (i := k) (by rw [inPart_len _ _ hk]; exact hlt)
      have f1 : wr.frozen? ⟨g, k, none⟩ = false := Row.free HN.out k
      have HN4 : Hid (NR (wr.setCell ⟨g, k, none⟩ (.int .i64 (v : Int))) g (inPart len (k + 1))) := Lib.hid (by rw [← inPart_set len k o hlt ho, ← hv]; exact HN.out.set k v)
      have HF4 : Hid (Fr (fun _ => False) w (wr.setCell ⟨g, k, none⟩ (.int .i64 (v : Int)))) := Lib.hid (HF.out.trans (Fr.set1 wr g k _) (fun b hb h => by have := HG.out; omega))
      clear ho hv
      go_wp2_with fail
      exact ⟨⟨k + 1, by omega, by go_num, HN4.out, HF4.out⟩, by simp [intOf]; omega⟩
    · have hkn : k = 19 := by omega
      subst hkn
      have hT : inPart len 19 = inOrd len := by
        unfold inPart
        rw [List.take_of_length_le (by rw [inOrd_len]; omega)]
        simp
      have HN2 : Hid (NR wr g (inOrd len)) := Lib.hid (by rw [← hT]; exact HN.out)
      clear hT HN
      go_wp2_with fail
      go_ret
      exact ⟨g, rfl, HG.out, HN2.out, HF.out⟩
end Go.Proofs.YtgpkiijmembggaaGreatDoor
namespace Go.Proofs.YtgpkiijmembggaaGreatDoor
open Go.RowKit HuffM Mem Go.Lib
attribute [local go_sem ↓] Go.wp_at_zero Go.wp_at_succ

theorem cs_ok (L : List Int) (k : Nat) : (cs L k).out.length = L.length ∧ (cs L k).code < 18446744073709551616 ∧ ((cs L k).last = 0 → (cs L k).code = 0) := by
  induction k with
  | zero => exact ⟨by show (List.replicate _ _).length = _; simp, by show 0 < _; omega, fun _ => rfl⟩
  | succ k ih =>
    cases h : (codedL L)[k]? with
    | none =>
      have hl : (codedL L).length ≤ k := by simpa using h
      have e : cs L (k + 1) = cs L k := by unfold cs; rw [List.take_of_length_le (by omega), List.take_of_length_le hl]
      rw [e]
      exact ih
    | some s =>
      rw [cs_succ h]
      refine ⟨by show (List.set _ _ _).length = _; rw [List.length_set]; exact ih.1, nextCode_lt ih.2.1, fun h0 => ?_⟩
      have hm := cod_mem.1 (List.mem_of_getElem? (show (cod L 15)[k]? = some s from h))
      have : kl L s = 0 := h0
      unfold kl at this
      omega
/-- the next one's code, ahead of its own zeros -/
def nx (c : CS) : Nat := if 0 < c.last then (c.code + 1) % 18446744073709551616 else 0
theorem nx_next {L : List Int} {k j : Nat} : nextCode j (cs L k) = nx (cs L k) * 2 ^ (j - (cs L k).last) % 18446744073709551616 := by
  unfold nextCode nx
  by_cases h : 0 < (cs L k).last
  · rw [if_pos h, if_pos h]
  · rw [if_neg h, if_neg h, (cs_ok L k).2.2 (by omega)]
    simp
theorem nx_lt (c : CS) : nx c < 18446744073709551616 := by
  unfold nx
  split
  · exact Nat.mod_lt _ (by omega)
  · omega
theorem cs_last_le {L : List Int} {k s : Nat} (h : (codedL L)[k]? = some s) : (cs L k).last ≤ kl L s := by
  cases k with
  | zero => exact Nat.zero_le _
  | succ k =>
    have hl := (List.getElem?_eq_some_iff.1 h).1
    have hk : (codedL L)[k]? = some (codedL L)[k] := List.getElem?_eq_getElem (by omega)
    rw [cs_succ hk]
    have hs := cod_srt L 15
    have h2 : s = (codedL L)[k + 1] := by have := (List.getElem?_eq_some_iff.1 h).2; exact this.symm
    have := List.pairwise_iff_getElem.1 hs k (k + 1) (by exact Nat.lt_of_succ_lt hl) hl (by omega)
    rw [h2]
    exact lx_key this
theorem u64_mod (a e : Nat) : (a : Int) * 2 ^ e % 18446744073709551616 = ((a * 2 ^ e % 18446744073709551616 : Nat) : Int) := by
  rw [Int.natCast_emod, Int.natCast_mul, Int.natCast_pow]
  rfl

set_option maxRecDepth 1000000 in
set_option maxHeartbeats 3200000 in
theorem pCodesN_any (A : Option Addr) (n c : Nat) (L : List Int) (w : World) (hr : Rd w A n (L.map intc)) (hn : n ≤ 1000) (hA : ∀ ad, A = some ad → ad.block < w.heap.size) (hR : rightB L = true) :
    Calls Tryz.prog 43 #[.slice A n c] w fun e w' => ∃ A' c', e = .returned (.slice A' n c') ∧ n ≤ c' ∧ Rd w' A' n ((codesL L).map numc) ∧ Fr (fun _ => False) w w' ∧ ∀ ad, A' = some ad → w.heap.size ≤ ad.block := by
  have hln : L.length = n := by simpa using hr.1
  have HLN := Lib.hid hln
  have HR := Lib.hid hr
  have HL := Lib.hid (right_in hR)
  have HRT := Lib.hid hR
  have HA := Lib.hid hA
  have hmk := mk_u64 n (by omega) w
  clear hr hln hA hR
  go_enter Tryz.func43, Tryz.ntmps43
  go_wp2_with fail
  obtain ⟨g, hg⟩ : ∃ g, g = w.heap.size := ⟨_, rfl⟩
  obtain ⟨w0, hw0⟩ : ∃ w0, w.alloc (.cells (Array.replicate n (.int .u64 0)) 47) = w0 := ⟨_, rfl⟩
  have hb0 : Nums w0 g (cs L 0).out := by unfold Nums; rw [← hw0, hg, show (cs L 0).out = List.replicate L.length 0 from rfl, HLN.out, rep_u64]; exact heap_alloc_new w _
  have hf0 : Fr (fun _ => False) w w0 := by rw [← hw0]; exact (Fr.refl _ _).alloc _
  have hr0 := HR.out.fr hf0 (fun _ _ h => h)
  rw [hw0, ← hg]
  have HG := Lib.hid hg
  have HB0 := Lib.hid hb0
  have HF0 := Lib.hid hf0
  have HR0 := Lib.hid hr0
  clear hmk hg hw0 hb0 hf0 hr0
  refine (pRight_any A n c L w0 HR0.out hn).mono ?_
  rintro e w1 ⟨rfl, rfl⟩
  rw [HRT.out]
  go_wp2_with fail
  refine (coded_any A n c L w0 HR0.out hn (fun ad h => Nat.lt_of_lt_of_le (HA.out ad h) HF0.out.size) HRT.out).mono ?_
  rintro e w1 ⟨gs, m, cs1, rfl, hm, hmc, hmn, hgs, hcol, hf1⟩
  have HM := Lib.hid hm
  have HCOL := Lib.hid hcol
  have HF1 := Lib.hid (HF0.out.trans hf1 (fun _ _ h => h))
  have HR1 := Lib.hid (HR0.out.fr hf1 (fun _ _ h => h))
  have HB1 := Lib.hid (HB0.out.fr hf1 (fun h => h))
  have hgg : gs ≠ g := by
    have h1 := HB0.out
    unfold Nums at h1
    have := lt_of_heap h1
    omega
  have HGG := Lib.hid hgg
  have HAG := Lib.hid (fun (ad : Addr) (h : A = some ad) => (by have := HA.out ad h; have := HG.out; omega : ad.block ≠ g))
  clear hm hgs hcol hf1 hgg HR0 HB0
  go_wp2_with fail
  go_loopw [4, 5, 18] (fun a b i wr => ∃ k : Nat, k ≤ m ∧ i = .int .i64 (k : Int) ∧ a = .int .u64 (nx (cs L k) : Int) ∧ b = .int .i64 ((cs L k).last : Int) ∧ Hid (Nums wr g (cs L k).out) ∧ Fr (fun b => b = g) w1 wr)
    (fun _ _ i _ => m - (intOf i).toNat)
  case atStart => exact ⟨0, by omega, rfl, rfl, rfl, HB1, Fr.refl _ _⟩
  case round =>
    obtain ⟨k, hk, rfl, rfl, rfl, HN, hfr⟩ := hrel
    by_cases hlt : k < m
    · obtain ⟨s, hs⟩ : ∃ s, (codedL L)[k]? = some s := ⟨_, List.getElem?_eq_getElem (by rw [← HM.out]; exact hlt)⟩
      have hcs := (HCOL.out.fr hfr HGG.out).cell hs
      have hmem := cod_mem.1 (List.mem_of_getElem? (show (cod L 15)[k]? = some s from hs))
      have hsn : s < n := by rw [← HLN.out]; exact hmem.1
      obtain ⟨ad, u, rfl, hu, hcell⟩ := (HR1.out.fr hfr (fun ad h => HAG.out ad h)).at_ hsn
      have hx : L[s]? = some L[s] := List.getElem?_eq_getElem hmem.1
      have hgd : L.getD s 0 = L[s] := by rw [List.getD_eq_getElem?_getD, hx]; rfl
      obtain ⟨j, hj⟩ : ∃ j, j = kl L s := ⟨_, rfl⟩
      have hju : u = .int .i64 (j : Int) := by
        rw [List.getElem?_map, hx] at hu
        have h2 : intc L[s] = u := by simpa using hu
        rw [← h2, hj]
        unfold kl intc
        rw [hgd, Int.toNat_of_nonneg (by rw [← hgd]; omega)]
      subst hju
      have hj15 : j ≤ 15 := by rw [hj]; unfold kl; omega
      have hlast := cs_last_le hs
      have hnext := nx_next (L := L) (k := k) (j := j)
      have hsucc := cs_succ hs
      have hlt64 := nx_lt (cs L k)
      rw [← hj] at hlast
      obtain ⟨v, hv⟩ : ∃ v, v = nx (cs L k) := ⟨_, rfl⟩
      obtain ⟨la, hla⟩ : ∃ la, la = (cs L k).last := ⟨_, rfl⟩
      obtain ⟨q, hq⟩ : ∃ q, q = nextCode j (cs L k) := ⟨_, rfl⟩
      have hq64 : q < 18446744073709551616 := by rw [hq]; exact nextCode_lt (cs_ok L k).2.1
      have hout : (cs L (k + 1)).out = (cs L k).out.set s q := by rw [hsucc, hq, hj]; rfl
      have hlas : (cs L (k + 1)).last = j := by rw [hsucc, hj]; rfl
      have hnx : nx (cs L (k + 1)) = (q + 1) % 18446744073709551616 := by
        unfold nx
        rw [hlas, if_pos (by rw [hj]; unfold kl; omega), hsucc, hq, hj]
        rfl
      rw [← hq, ← hv, ← hla] at hnext
      rw [← hv] at hlt64 ⊢
      rw [← hla] at hlast ⊢
      obtain ⟨y, hcy, hfy⟩ := HN.out.cell (i := s) (by rw [(cs_ok L k).1]; exact hmem.1)
      have e1 : (j : Int) - (la : Int) = ((j - la : Nat) : Int) := by omega
      have e2 : IntKind.u64.wrap ((v : Int) * 2 ^ (j - la)) = (q : Int) := by rw [IntKind.wrap_u64, hnext]; exact u64_mod _ _
      have e3 : IntKind.u64.wrap ((q : Int) + 1) = (((q + 1) % 18446744073709551616 : Nat) : Int) := by rw [IntKind.wrap_u64]; omega
      have HQ := Lib.hid (And.intro hout (And.intro hlas hnx))
      have HE := Lib.hid (And.intro e1 (And.intro e2 e3))
      clear hs hmem hu hx hgd hj hnext hsucc hv hla hq hout hlas hnx e1 e2 e3
      go_wp2_with fail
      rw [HE.out.2.1, HE.out.2.2]
      refine ⟨⟨k + 1, by omega, by go_num, by rw [HQ.out.2.2], by rw [HQ.out.2.1], ?_, hfr.setCell (fun _ => rfl) _⟩, by simp [intOf]; omega⟩
      show Nums _ _ _
      rw [HQ.out.1]
      exact HN.out.set s q
    · obtain rfl : k = m := by omega
      have hnn := HN.out
      rw [show k = (codedL L).length from HM.out, cs_end] at hnn
      have hrd := hnn.rd
      rw [codes_len, HLN.out] at hrd
      have HRD := Lib.hid hrd
      clear hnn hrd HN
      go_wp2
      go_ret
      exact ⟨_, _, rfl, Nat.le_refl _, HRD.out, HF1.out.trans hfr (fun b hb e => by have := HG.out; omega), fun ad h => by injection h with h; subst h; have := HG.out; show w.heap.size ≤ g; omega⟩
theorem pCodes_any (A : Option Addr) (n c : Nat) (L : List Int) (w : World) (hr : Rd w A n (L.map intc)) (hn : n ≤ 1000) (hA : ∀ ad, A = some ad → ad.block < w.heap.size) (hR : rightB L = true) :
    Calls Tryz.prog 43 #[.slice A n c] w fun e w' => ∃ A' c', e = .returned (.slice A' n c') ∧ n ≤ c' ∧ Rd w' A' n ((codesL L).map numc) ∧ Fr (fun _ => False) w w' :=
  (pCodesN_any A n c L w hr hn hA hR).mono fun _ _ ⟨A', c', h1, h2, h3, h4, _⟩ => ⟨A', c', h1, h2, h3, h4⟩
end Go.Proofs.YtgpkiijmembggaaGreatDoor
namespace Go.Proofs.YtgpkiijmembggaaGreatDoor
open Go.RowKit BitsM Mem Go.Lib
set_option linter.unusedVariables false
set_option maxRecDepth 100000

theorem Wr.frA {S : Nat → Prop} {w w' : World} {g c : Nat} {A : Option Addr} {bs : List Bool} (h : Wr w g A c bs) (hf : Fr S w w') (hg : ¬ S g) (hA : ∀ k, bl A = some k → ¬ S k) : Wr w' g A c bs :=
  ⟨hf.blk h.1 hg, hf.own h.2 (fun k hk => hA k (by rw [bl_own] at hk; exact hk))⟩
theorem Wr.lt {w : World} {g c : Nat} {A : Option Addr} {bs : List Bool} (h : Wr w g A c bs) : g < w.heap.size ∧ ∀ k, bl A = some k → k < w.heap.size :=
  ⟨lt_of_heap h.1, fun k hk => (h.2.lt k (by rw [bl_own]; exact hk)).2⟩
/-- a new block is not the Writer's -/
theorem Wr.new {w : World} {g c k : Nat} {A : Option Addr} {bs : List Bool} (h : Wr w g A c bs) (hk : w.heap.size ≤ k) : ¬ Ft g A k := by
  intro hf
  rcases hf with hf | hf
  · have := h.lt.1; omega
  · have := h.lt.2 k hf; omega
/-- what was not the Writer's, and is older, is not now -/
theorem Nx.old {w : World} {g k : Nat} {A A' : Option Addr} (h : Nx w A A') (hk : k < w.heap.size) (hn : ¬ Ft g A k) : ¬ Ft g A' k := by
  intro hf
  rcases hf with hf | hf
  · exact hn (.inl hf)
  · rcases h with h | ⟨b, h, hb⟩
    · exact hn (.inr (h ▸ hf))
    · rw [h] at hf
      injection hf with hf
      omega
/-- one number is put -/
theorem put1_any (g c : Nat) (A : Option Addr) (n x : Nat) (bs : List Bool) (w3 : World) (hw : Wr w3 g A c bs) (hb : bs.length ≤ 3000000000) (hn : n ≤ 64) (hx : x < 18446744073709551616) :
    Calls Tryz.prog 33 #[.pointer (some ⟨g, 0, none⟩), .int .i64 (n : Int), .slice (some ⟨w3.heap.size, 0, none⟩) 1 1] (w3.alloc (.cells #[.int .u64 (x : Int)] 47)) fun e w' => e = .returned (.tuple #[]) ∧ ∃ A' c', Wr w' g A' c' (bs ++ low x n) ∧ Fr (Ft g A) w3 w' ∧ Nx w3 A A' := by
  have h := put_any g c A (some ⟨w3.heap.size, 0, none⟩) 1 1 (n : Int) bs [x] _ (hw.frA ((Fr.refl (fun _ => False) w3).alloc _) (fun h => h) (fun _ _ h => h)) (by omega) (Rd.one w3 (.int .u64 (x : Int)) 47) (fun y hy => by simp at hy; omega) (by omega) (fun ad h => by injection h with h; subst h; exact hw.new (Nat.le_refl _))
  rw [Int.toNat_natCast, List.flatMap_cons, List.flatMap_nil, List.append_nil, Nat.min_eq_left hn] at h
  refine h.mono ?_
  rintro e w5 ⟨rfl, A5, c5, hw5, hf5, hn5⟩
  refine ⟨rfl, A5, c5, hw5, ((Fr.refl (fun _ => False) w3).alloc _).mono (fun _ _ h => h.elim) |>.trans hf5 (fun _ _ h => h), ?_⟩
  rcases hn5 with h | ⟨b, h, hb⟩
  · exact .inl h
  · exact .inr ⟨b, h, by simp at hb; omega⟩
/-- what a call that turned nothing leaves of a Writer -/
theorem Fr.none {S : Nat → Prop} {w w' : World} (h : Fr (fun _ => False) w w') : Fr S w w' := h.mono (fun _ _ h => h.elim)
theorem Nx.back {w w' : World} {A A' : Option Addr} (h : Nx w' A A') (hs : w.heap.size ≤ w'.heap.size) : Nx w A A' := by
  rcases h with h | ⟨b, h, hb⟩
  · exact .inl h
  · exact .inr ⟨b, h, Nat.le_trans hs hb⟩
end Go.Proofs.YtgpkiijmembggaaGreatDoor
namespace Go.Proofs.YtgpkiijmembggaaGreatDoor
open Go.RowKit CoM BitsM HuffM Mem Go.Lib
attribute [local go_sem ↓] Go.wp_at_zero Go.wp_at_succ
set_option linter.unusedVariables false
set_option maxRecDepth 100000

theorem Its.frA {S : Nat → Prop} {w w' : World} {A : Option Addr} {n : Nat} {T : List It} (h : Its w A n T) (hf : Fr S w w') (hS : ∀ ad, A = some ad → ¬ S ad.block) : Its w' A n T :=
  ⟨h.1, fun k t hk => by
    obtain ⟨g, o, e, hg, h1, h2, h3⟩ := h.2 k t hk
    have hs := hS _ e
    exact ⟨g, o, e, Nat.lt_of_lt_of_le hg hf.size, hf.cell h1 hs, hf.cell h2 hs, hf.cell h3 hs⟩⟩
theorem num_cell {w : World} {A : Option Addr} {n : Nat} {L : List Nat} (h : Rd w A n (L.map numc)) {k : Nat} (hk : k < n) : ∃ ad, A = some ad ∧ w.cell? (ad.add k) = some (.int .u64 ((L[k]! : Nat) : Int)) := by
  have hl : L.length = n := by simpa using h.1
  obtain ⟨ad, u, e, h1, h2⟩ := h.at_ hk
  rw [List.getElem?_map, List.getElem?_eq_getElem (by omega)] at h1
  refine ⟨ad, e, ?_⟩
  rw [h2, getElem!_pos L k (by omega), ← h1]
  rfl
theorem flat_it_take {T : List It} {k : Nat} {t : It} (h : T[k]? = some t) (f : It → List Bool) : (T.take (k + 1)).flatMap f = (T.take k).flatMap f ++ f t := by
  rw [List.take_add_one, h]
  simp
theorem natc_ints (l : List Nat) : (ints l).map intc = l.map natc := by simp [ints, intc, natc, Function.comp_def]
set_option maxHeartbeats 3200000 in
theorem putItems_any (g c : Nat) (A AT AL : Option Addr) (bs : List Bool) (n cT cL : Nat) (T : List It) (len : List Nat) (w : World) (hw : Wr w g A c bs) (hb : bs.length ≤ 2000000000) (hT : Its w AT n T) (hTb : ∀ ad, AT = some ad → ¬ Ft g A ad.block ∧ ad.block < w.heap.size) (hn : n ≤ 1000)
    (hL : Rd w AL 19 (len.map natc)) (hLb : ∀ ad, AL = some ad → ¬ Ft g A ad.block ∧ ad.block < w.heap.size) (C : Code8 T len) (hs : ∀ t ∈ T, t.s ≤ 18 ∧ t.b ≤ 7 ∧ t.x ≤ 127) :
    Calls Tryz.prog 54 #[.pointer (some ⟨g, 0, none⟩), .slice AT n cT, .slice AL 19 cL] w fun e w' => e = .returned (.tuple #[]) ∧ ∃ A' c', Wr w' g A' c' (bs ++ T.flatMap (itBits (codesL (ints len)) len)) ∧ Fr (Ft g A) w w' ∧ Nx w A A' := by
  have hln := hT.1
  obtain ⟨cs, hcs⟩ : ∃ cs, cs = codesL (ints len) := ⟨_, rfl⟩
  have hcl : cs.length = 19 := by rw [hcs, codes_len, ints_len]; exact C.len19
  have hclt : ∀ x ∈ cs, x < 18446744073709551616 := by rw [hcs]; exact codes_lt _
  have HCO : Hid (Calls Tryz.prog 43 #[.slice AL 19 cL] w fun e w' => ∃ A' c', e = .returned (.slice A' 19 c') ∧ 19 ≤ c' ∧ Rd w' A' 19 (cs.map numc) ∧ Fr (fun _ => False) w w' ∧ ∀ ad, A' = some ad → w.heap.size ≤ ad.block) := Lib.hid (by
    rw [hcs]
    exact pCodesN_any AL 19 cL (ints len) w (by rw [natc_ints]; exact hL) (by omega) (fun ad h => (hLb ad h).2) C.right)
  rw [← hcs]
  have HW := Lib.hid hw
  have HT := Lib.hid hT
  have HTB := Lib.hid hTb
  have HL := Lib.hid hL
  have HLB := Lib.hid hLb
  have HC := Lib.hid C
  have HS := Lib.hid hs
  have HLN := Lib.hid hln
  have HCL := Lib.hid (And.intro hcl hclt)
  have HB := Lib.hid hb
  clear hw hT hTb hL hLb C hs hln hcs hcl hclt hb
  go_enter Tryz.func54, Tryz.ntmps54
  go_wp2_with (refine HCO.out.mono ?_)
  rintro e w1 ⟨AC, cc, rfl, hcc, hrc, hf1, hcb⟩
  have HRC := Lib.hid hrc
  have HF1 := Lib.hid hf1
  have HCB : Hid (∀ ad, AC = some ad → ¬ Ft g A ad.block ∧ ad.block < w1.heap.size) := Lib.hid (fun ad h => ⟨HW.out.new (hcb ad h), hrc.lt (by omega) ad h⟩)
  have HW1 := Lib.hid (HW.out.frA hf1 (fun h => h) (fun _ _ h => h))
  have HT1 := Lib.hid (HT.out.frA hf1 (fun _ _ h => h))
  have HL1 := Lib.hid (HL.out.fr hf1 (fun _ _ h => h))
  have HSZ := Lib.hid hf1.size
  clear hrc hf1 hcb HCO
  go_wp2_with fail
  go_loopw [13] (fun i wr => ∃ (k : Nat) (A1 : Option Addr) (c1 : Nat), k ≤ n ∧ i = .int .i64 (k : Int) ∧ Hid (Wr wr g A1 c1 (bs ++ (T.take k).flatMap (itBits cs len))) ∧ Hid (Fr (Ft g A) w1 wr) ∧ Hid (Nx w1 A A1)) (fun i _ => n - (intOf i).toNat)
  case atStart => exact ⟨0, A, c, Nat.zero_le _, rfl, by rw [List.take_zero, List.flatMap_nil, List.append_nil]; exact HW1.out, Fr.refl _ _, Nx.refl _ _⟩
  case round =>
    obtain ⟨k, A1, c1, hk, rfl, HWR, HF, HNX⟩ := hrel
    rename World => wr
    by_cases hlt : k < n
    · obtain ⟨t, ht⟩ : ∃ t, T[k]? = some t := ⟨_, List.getElem?_eq_getElem (by rw [HLN.out]; exact hlt)⟩
      have hTr := HT1.out.frA HF.out (fun ad h => (HTB.out ad h).1)
      have hLr := HL1.out.fr HF.out (fun ad h => (HLB.out ad h).1)
      have hCr := HRC.out.fr HF.out (fun ad h => (HCB.out ad h).1)
      obtain ⟨g2, o, rfl, hg2, h1, h2, h3⟩ := hTr.2 k t ht
      obtain ⟨hs18, hb7, hx127⟩ := HS.out t (List.mem_of_getElem? ht)
      have hlen := HC.out.met t (List.mem_of_getElem? ht) hs18
      have hpl := flat_len_le (itBits cs len) 80 (T.take k) (fun y hy => by
        unfold itBits
        rw [List.length_append, List.length_reverse, low_length, low_length]
        have := (HS.out y (List.mem_of_mem_take hy)).2.1
        omega)
      rw [List.length_take] at hpl
      have htk := flat_it_take ht (itBits cs len)
      obtain ⟨s, b, x⟩ := t
      simp only at h1 h2 h3 hs18 hb7 hx127 hlen
      obtain ⟨Q, hQ⟩ : ∃ Q, Q = bs ++ (T.take k).flatMap (itBits cs len) := ⟨_, rfl⟩
      have hQl : Q.length ≤ 2000100000 := by rw [hQ, List.length_append]; have := HB.out; omega
      obtain ⟨adL, hAL, cl⟩ := nat_cell hLr (k := s) (by omega)
      obtain ⟨adC, hAC, ccv⟩ := num_cell hCr (k := s) (by omega)
      obtain ⟨v, hv⟩ : ∃ v, v = len[s]! := ⟨_, rfl⟩
      obtain ⟨cv, hcv⟩ : ∃ cv, cv = cs[s]! := ⟨_, rfl⟩
      have hcv64 : cv < 18446744073709551616 := by rw [hcv, getElem!_pos cs s (by rw [HCL.out.1]; omega)]; exact HCL.out.2 _ (List.getElem_mem _)
      rw [← hv] at cl hlen
      rw [← hcv] at ccv
      have hbits : bs ++ (T.take (k + 1)).flatMap (itBits cs len) = Q ++ (low cv (min v 64)).reverse ++ low x (min b 64) := by
        rw [htk, hQ]
        simp only [List.append_assoc]
        congr 2
        unfold itBits
        rw [← hv, ← hcv]
      rw [← hQ] at HWR
      have HBITS := Lib.hid hbits
      have HQL := Lib.hid hQl
      have hsi : (s : Int) < 19 := by omega
      subst hAL
      subst hAC
      obtain ⟨hl0, hl7⟩ := hlen
      have HLEN := Lib.hid hl7
      have HBB := Lib.hid hb7
      clear ht hg2 hpl htk hQ hQl hv hcv hbits hTr hLr hCr hl0 hl7 hb7 hs18
      go_upto_region 4 with fail
      obtain ⟨w2, hw2⟩ : ∃ w2, w2 = wr.alloc (.cells #[Value.int .i64 (s : Int), .int .i64 (b : Int), .int .u64 (x : Int)] 133) := ⟨_, rfl⟩
      have hr2 : Row w2 wr.heap.size 133 [Value.int .i64 (s : Int), .int .i64 (b : Int), .int .u64 (x : Int)] := by rw [hw2]; exact Row.new wr _ _
      have hfa : Fr (fun _ => False) wr w2 := by rw [hw2]; exact (Fr.refl _ wr).alloc _
      have hwr2 := HWR.out.frA hfa (fun h => h) (fun _ _ h => h)
      have cl2 := hfa.cell cl (fun h => h)
      have cc2 := hfa.cell ccv (fun h => h)
      obtain ⟨p, hp⟩ : ∃ p, p = wr.heap.size := ⟨_, rfl⟩
      have HPN : Hid (¬ Ft g A1 p) := Lib.hid (HWR.out.new (by omega))
      rw [← hw2]
      rw [← hp] at hr2 ⊢
      have d0 : w2.cell? ⟨p, 0, none⟩ = some (.int .i64 (s : Int)) := hr2.cell rfl
      have HR2 := Lib.hid hr2
      have HFA := Lib.hid hfa
      have HWR2 := Lib.hid hwr2
      have HCODE : Hid (Calls Tryz.prog 63 #[.pointer (some ⟨g, 0, none⟩), .int .i64 (v : Int), .int .u64 (cv : Int)] w2.drew fun e w' => e = .returned (.tuple #[]) ∧ ∃ A' c', Wr w' g A' c' (Q ++ (low cv (min v 64)).reverse) ∧ Fr (Ft g A1) w2.drew w' ∧ Nx w2.drew A1 A') := Lib.hid (by
        have h := code_any g c1 A1 (v : Int) cv Q w2.drew HWR2.out.drew (by have := HQL.out; omega) hcv64
        rw [Int.toNat_natCast] at h
        exact h)
      clear hw2 hr2 hfa hwr2 hp h1 h2 h3 cl ccv
      go_still_tail 11, (by kernel_rfl)
      change wpList _ _ _ _ _ w2.drew
      go_wp2_with (refine HCODE.out.mono ?_)
      rintro e w3 ⟨rfl, A3, c3, hw3, hf3, hn3⟩
      have HW3 := Lib.hid hw3
      have hr3 := Row.fr (w := w2.drew) HR2.out hf3 HPN.out
      have d1 : w3.cell? ⟨p, 1, none⟩ = some (.int .i64 (b : Int)) := hr3.cell rfl
      have d2 : w3.cell? ⟨p, 2, none⟩ = some (.int .u64 (x : Int)) := hr3.cell rfl
      have HF3 : Hid (Fr (Ft g A1) wr w3) := Lib.hid (HFA.out.drew.mono (fun _ _ h => h.elim) |>.trans hf3 (fun _ _ h => h))
      have HN3 : Hid (Nx wr A1 A3) := Lib.hid (by
        rcases hn3 with h | ⟨b, h, hb⟩
        · exact .inl h
        · exact .inr ⟨b, h, Nat.le_trans HFA.out.size hb⟩)
      clear hw3 hf3 hn3 hr3 cl2 cc2 d0 HCODE
      have HPUT : Hid (∀ w4, w4 = w3.alloc (.cells #[.int .u64 (x : Int)] 47) → Calls Tryz.prog 33 #[.pointer (some ⟨g, 0, none⟩), .int .i64 (b : Int), .slice (some ⟨w3.heap.size, 0, none⟩) 1 1] w4 fun e w' => e = .returned (.tuple #[]) ∧ ∃ A' c', Wr w' g A' c' (Q ++ (low cv (min v 64)).reverse ++ low x (min b 64)) ∧ Fr (Ft g A3) w4 w' ∧ Nx w4 A3 A') := Lib.hid (by
        intro w4 hw4
        subst hw4
        have h := put_any g c3 A3 (some ⟨w3.heap.size, 0, none⟩) 1 1 (b : Int) (Q ++ (low cv (min v 64)).reverse) [x] _ (HW3.out.frA ((Fr.refl (fun _ => False) w3).alloc _) (fun h => h) (fun _ _ h => h)) (by rw [List.length_append, List.length_reverse, low_length]; have := HQL.out; omega) (Rd.one w3 (.int .u64 (x : Int)) 47) (fun y hy => by simp at hy; omega) (by omega) (fun ad h => by injection h with h; subst h; exact HW3.out.new (Nat.le_refl _))
        rw [Int.toNat_natCast, List.flatMap_cons, List.flatMap_nil, List.append_nil] at h
        exact h)
      go_wp2_with (refine (HPUT.out _ rfl).mono ?_)
      rintro e w5 ⟨rfl, A5, c5, hw5, hf5, hn5⟩
      rw [← HBITS.out] at hw5
      have HW5 := Lib.hid hw5
      have hf35 : Fr (Ft g A3) w3 w5 := ((Fr.refl (fun _ => False) w3).alloc _).mono (fun _ _ h => h.elim) |>.trans hf5 (fun _ _ h => h)
      have hn35 : Nx w3 A3 A5 := by
        rcases hn5 with h | ⟨b, h, hb⟩
        · exact .inl h
        · exact .inr ⟨b, h, by simp at hb; omega⟩
      have HF5 : Hid (Fr (Ft g A) w1 w5) := Lib.hid (Fr.next HF.out HNX.out (Fr.next HF3.out HN3.out hf35))
      have HN5 : Hid (Nx w1 A A5) := Lib.hid (HNX.out.trans (HN3.out.trans hn35 HF3.out.size) HF.out.size)
      clear hw5 hf5 hn5 hf35 hn35 d1 d2 HPUT
      go_wp2_with fail
      exact ⟨⟨k + 1, A5, c5, by omega, by go_num, HW5.out, HF5.out, HN5.out⟩, by simp [intOf]; omega⟩
    · have hkn : k = n := by omega
      have hTT : T.take k = T := List.take_of_length_le (by rw [HLN.out]; omega)
      rw [hTT] at HWR
      clear hTT
      go_wp2_with fail
      go_end0
      exact ⟨rfl, A1, c1, HWR.out, (HF1.out.mono (fun _ _ h => h.elim)).trans HF.out (fun _ _ h => h), by
        rcases HNX.out with h | ⟨b, h, hb⟩
        · exact .inl h
        · exact .inr ⟨b, h, Nat.le_trans HSZ.out hb⟩⟩
end Go.Proofs.YtgpkiijmembggaaGreatDoor
