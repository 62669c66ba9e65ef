/-
  Layer 8: a block that holds numbers.
  Layer 8's program: weights, inOrder.
-/
import Derived.Test.YtahfmcdhcbfkaaaDoorZm04
import Derived.Test.YtahfmcdhcbfkaaaDoorZm06
import Derived.Test.YtahfmcdhcbfkaaaDoorZm11
import Derived.Test.YtahfmcdhcbfkaaaDoorZm12
import Derived.Test.YtahfmcdhcbfkaaaDoorZm01
namespace Go.Proofs.YtahfmcdhcbfkaaaDoor
open Go.RowKit Mem Go.Lib

/-- block g holds these numbers -/
def NR (w : World) (g : Nat) (L : List Nat) : Prop := Row w g 3 (L.map natc)
theorem NR.zeros (w : World) (m : Nat) : NR (w.alloc (.cells (Array.replicate m (.int .i64 0)) 3)) w.heap.size (List.replicate m 0) := by
  have h := Row.new w 3 (List.replicate m (Value.int .i64 0))
  rw [List.toArray_replicate] at h
  unfold NR
  rw [List.map_replicate]
  exact h
theorem NR.at_ {w : World} {g : Nat} {L : List Nat} (h : NR w g L) {i : Nat} (hi : i < L.length) : w.cell? ⟨g, i, none⟩ = some (.int .i64 ((L[i]! : Nat) : Int)) := by
  refine Row.cell h ?_
  rw [List.getElem?_map, List.getElem?_eq_getElem hi, getElem!_pos L i hi]
  rfl
theorem NR.set {w : World} {g : Nat} {L : List Nat} (h : NR w g L) (i x : Nat) : NR (w.setCell ⟨g, i, none⟩ (.int .i64 (x : Int))) g (L.set i x) := by
  have := Row.set h i (natc x)
  rw [← List.map_set] at this
  exact this
theorem NR.rd {w : World} {g : Nat} {L : List Nat} (h : NR w g L) : Rd w (some ⟨g, 0, none⟩) L.length (L.map natc) := by
  have := Row.rd h 0 L.length (by simp)
  rw [List.drop_zero, List.take_of_length_le (by simp)] at this
  exact this
theorem fill_next {k i x : Nat} (h : i < k) : (List.replicate i x ++ List.replicate (k - i) 0).set i x = List.replicate (i + 1) x ++ List.replicate (k - (i + 1)) 0 := by
  obtain ⟨r, hr⟩ : ∃ r, k - i = r + 1 := ⟨k - i - 1, by omega⟩
  rw [hr, List.set_append_right _ _ (by simp), List.length_replicate, Nat.sub_self, List.replicate_succ, List.set_cons_zero, List.replicate_succ', show k - (i + 1) = r by omega, List.append_assoc]
  rfl
end Go.Proofs.YtahfmcdhcbfkaaaDoor
namespace Go.Proofs.YtahfmcdhcbfkaaaDoor
open Go.RowKit CoM Mem Go.Lib
attribute [local go_sem ↓] Go.wp_at_zero Go.wp_at_succ
set_option linter.unusedVariables false
set_option maxRecDepth 100000

set_option maxHeartbeats 1600000 in
theorem pWeights8_any (A : Option Addr) (n c : Nat) (T : List It) (w : World) (hI : Its w A n T) (hs : ∀ t ∈ T, t.s ≤ 18) (hn : n ≤ 1000) :
    Calls Tryd.prog 59 #[.slice A n c] w fun e w' => ∃ g, e = .returned (.slice (some ⟨g, 0, none⟩) 19 19) ∧ w.heap.size ≤ g ∧ NR w' g (weigh8 T zeros19) ∧ Fr (fun _ => False) w w' := by
  have HI := Lib.hid hI
  have HLN := Lib.hid hI.1
  have HS := Lib.hid hs
  have hmk := mk_int 19 (by omega) w
  obtain ⟨g, hg⟩ : ∃ g, g = w.heap.size := ⟨_, rfl⟩
  obtain ⟨w1, hw1⟩ : ∃ w1, w1 = w.alloc (.cells (Array.replicate 19 (.int .i64 0)) 3) := ⟨_, rfl⟩
  have hz : NR w1 g zeros19 := by rw [hw1, hg]; exact NR.zeros w 19
  have hf1 : Fr (fun _ => False) w w1 := by rw [hw1]; exact (Fr.refl _ w).alloc _
  rw [← hg, ← hw1] at hmk
  replace hmk : (Instr.makeSlice 54 (.int .i64 19) (.int .i64 19)).run Tryd.prog w = .ok (.slice (some ⟨g, 0, none⟩) 19 19) w1 := hmk
  have HZ := Lib.hid hz
  have HF1 := Lib.hid hf1
  have HG := Lib.hid (show w.heap.size ≤ g by omega)
  clear hI hs hz hf1 hw1 hg
  go_enter Tryd.func59, Tryd.ntmps59
  go_wp2_with fail
  go_loopw [9] (fun i wr => ∃ k : Nat, k ≤ n ∧ i = .int .i64 (k : Int) ∧ Hid (NR wr g (weigh8 (T.take k) zeros19)) ∧ Hid (Fr (fun _ => False) w wr)) (fun i _ => n - (intOf i).toNat)
  case atStart => exact ⟨0, Nat.zero_le _, rfl, HZ.out, HF1.out⟩
  case round =>
    obtain ⟨k, hk, rfl, HN, HF⟩ := hrel
    rename World => wr
    by_cases hlt : k < n
    · obtain ⟨t, ht⟩ : ∃ t, T[k]? = some t := ⟨_, List.getElem?_eq_getElem (by rw [HLN.out]; exact hlt)⟩
      obtain ⟨g2, o, rfl, hg2, h1, h2, h3⟩ := (HI.out.fr HF.out (fun _ _ h => h)).2 k t ht
      have hs18 := HS.out t (List.mem_of_getElem? ht)
      obtain ⟨s, b, x⟩ := t
      simp only at h1 h2 h3 hs18
      obtain ⟨W, hW⟩ : ∃ W, W = weigh8 (T.take k) zeros19 := ⟨_, rfl⟩
      have hWl : W.length = 19 := by rw [hW, weigh8_len]; rfl
      have hWk : weigh8 (T.take (k + 1)) zeros19 = bump8 W s := by rw [weigh8_take ht, hW]
      have hWb : W[s]! ≤ n := by
        have h := weigh8_le (T.take k) zeros19 0 (fun x hx => by have := List.eq_of_mem_replicate hx; omega)
        rw [← hW] at h
        have h2 := h W[s]! (by rw [getElem!_pos W s (by omega)]; exact List.getElem_mem _)
        rw [List.length_take] at h2
        omega
      rw [← hW] at HN
      have HWK := Lib.hid hWk
      have hn2 := HN.out
      obtain ⟨v, hv⟩ : ∃ v, v = W[s]! := ⟨_, rfl⟩
      rw [← hv] at hWb
      have hsi : (s : Int) < 19 := by omega
      have HWL := Lib.hid hWl
      have HV := Lib.hid hv
      clear ht hg2 hWk hWl hW hv
      go_upto_region 5 with fail
      obtain ⟨w2, hw2⟩ : ∃ w2, w2 = wr.alloc (.cells #[Value.int .i64 (s : Int), .int .i64 (b : Int), .int .u64 (x : Int)] 126) := ⟨_, rfl⟩
      have hr2 : Row w2 wr.heap.size 126 [Value.int .i64 (s : Int), .int .i64 (b : Int), .int .u64 (x : Int)] := by rw [hw2]; exact Row.new wr _ _
      have hn3 : NR w2 g W := by rw [hw2]; exact Row.alloc hn2 _
      have hf2 : Fr (fun _ => False) w w2 := by rw [hw2]; exact HF.out.alloc _
      obtain ⟨p, hp⟩ : ∃ p, p = wr.heap.size := ⟨_, rfl⟩
      rw [← hw2]
      rw [← hp] at hr2 ⊢
      have d0 : w2.cell? ⟨p, 0, none⟩ = some (.int .i64 (s : Int)) := hr2.cell rfl
      have c1 : w2.cell? ⟨g, s, none⟩ = some (.int .i64 (v : Int)) := by rw [HV.out]; exact hn3.at_ (i := s) (by rw [HWL.out]; omega)
      have f1 : w2.frozen? ⟨g, s, none⟩ = false := Row.free hn3 s
      have HN4 : Hid (NR (w2.setCell ⟨g, s, none⟩ (.int .i64 ((v : Int) + 1))) g (weigh8 (T.take (k + 1)) zeros19)) := Lib.hid (by rw [HWK.out, bump8, ← HV.out]; exact hn3.set s (v + 1))
      have HF4 : Hid (Fr (fun _ => False) w (w2.setCell ⟨g, s, none⟩ (.int .i64 ((v : Int) + 1)))) := Lib.hid (hf2.trans (Fr.set1 w2 g s _) (fun b hb h => by have := HG.out; omega))
      clear hw2 hr2 hn3 hf2 hp hn2 h1 h2 h3
      go_wp2_with fail
      exact ⟨⟨k + 1, by omega, by go_num, HN4.out, HF4.out⟩, by simp [intOf]; omega⟩
    · have hkn : k = n := by omega
      have hT : T.take k = T := List.take_of_length_le (by rw [HLN.out]; omega)
      have HN2 : Hid (NR wr g (weigh8 T zeros19)) := Lib.hid (by rw [← hT]; exact HN.out)
      clear hT HN
      go_wp2_with fail
      go_ret
      exact ⟨g, rfl, HG.out, HN2.out, HF.out⟩

/-- the lengths in the items' order -/
def inOrd (len : List Nat) : List Nat := ord.map fun o => len[o]!
theorem ordT : RowTy Tryd.prog 129 19 := ⟨⟨19, 3, Tryd.underlying129⟩, by kernel_rfl⟩
theorem ord_lt : ∀ o ∈ ord, o < 19 := by decide
theorem wpList_load_ord {ops : Array Oper} {rest : List Oper} {op : Oper} {a : Act} {w : World} {Q : Exit → Act → World → Prop} (hgd : op.guard = none) (x : Operand) (ho : op.op = .load 129 x)
    (hx : a.eval x = .pointer (some ⟨2, 0, none⟩)) (hG : Gl8 w) (OC : Array Value) (hO : OC = (ord.map natc).toArray) (h : wpList Tryd.prog ops Q rest (a.put op.dst (.agg OC)) w) : wpList Tryd.prog ops Q (op :: rest) a w := by
  subst hO
  refine wpList_plain hgd fun K hK => ?_
  have hl : (loadVar 129 ⟨2, 0, none⟩).run Tryd.prog w = .ok (.agg (ord.map natc).toArray) w :=
    run_loadVar_mid (P := Tryd.prog) w 2 0 129 (ord.map natc) (.array 19 3) (fun j v hv => by
      rw [List.getElem?_map] at hv
      cases hj : ord[j]? with
      | none => rw [hj] at hv; cases hv
      | some x =>
        rw [hj] at hv
        injection hv with hv
        rw [← hv, Nat.zero_add]
        exact hG.1 j x hj) Tryd.underlying129 rfl (by kernel_rfl)
  unfold Oper.wp execOp
  simp only [ho, hx, Instr.loadAt, Instr.sureAddr, Sem.run_bind, Sem.run_pure, Result.andThen_ok, hl]
  exact hK _ _ h

theorem inOrd_len (len : List Nat) : (inOrd len).length = 19 := by simp [inOrd, ord]
/-- the first k are filled in -/
def inPart (len : List Nat) (k : Nat) : List Nat := (inOrd len).take k ++ List.replicate (19 - k) 0
theorem inPart_len (len : List Nat) (k : Nat) (h : k ≤ 19) : (inPart len k).length = 19 := by
  unfold inPart
  rw [List.length_append, List.length_take, inOrd_len, List.length_replicate]
  omega
theorem inPart_set (len : List Nat) (k o : Nat) (h : k < 19) (ho : ord[k]? = some o) : (inPart len k).set k len[o]! = inPart len (k + 1) := by
  have hk : (inOrd len)[k]? = some len[o]! := by simp [inOrd, ho]
  have hk2 := (List.getElem?_eq_some_iff.1 hk).2
  unfold inPart
  rw [List.set_append_right _ _ (by rw [List.length_take, inOrd_len]; omega), List.length_take, inOrd_len, Nat.min_eq_left (by omega), Nat.sub_self, show 19 - k = (19 - (k + 1)) + 1 by omega, List.replicate_succ, List.set_cons_zero, ← List.take_append_getElem (show k < (inOrd len).length by rw [inOrd_len]; exact h), List.append_assoc, hk2]
  rfl
set_option maxHeartbeats 1600000 in
theorem pInOrder_any (A : Option Addr) (c : Nat) (len : List Nat) (w : World) (hG : Gl8 w) (hr : Rd w A 19 (len.map natc)) :
    Calls Tryd.prog 60 #[.slice A 19 c] w fun e w' => ∃ g, e = .returned (.slice (some ⟨g, 0, none⟩) 19 19) ∧ w.heap.size ≤ g ∧ NR w' g (inOrd len) ∧ Fr (fun _ => False) w w' := by
  have HR := Lib.hid hr
  have hmk := mk_int 19 (by omega) w
  obtain ⟨g, hg⟩ : ∃ g, g = w.heap.size := ⟨_, rfl⟩
  obtain ⟨w1, hw1⟩ : ∃ w1, w1 = w.alloc (.cells (Array.replicate 19 (.int .i64 0)) 3) := ⟨_, rfl⟩
  have hz : NR w1 g (inPart len 0) := by rw [hw1, hg]; exact NR.zeros w 19
  have hf1 : Fr (fun _ => False) w w1 := by rw [hw1]; exact (Fr.refl _ w).alloc _
  rw [← hg, ← hw1] at hmk
  replace hmk : (Instr.makeSlice 54 (.int .i64 19) (.int .i64 19)).run Tryd.prog w = .ok (.slice (some ⟨g, 0, none⟩) 19 19) w1 := hmk
  have HZ := Lib.hid hz
  have HF1 := Lib.hid hf1
  have HG1 := Lib.hid (hG.fr0 hf1)
  have HG := Lib.hid (show w.heap.size ≤ g by omega)
  obtain ⟨OC, hOC⟩ : ∃ OC, OC = (ord.map natc).toArray := ⟨_, rfl⟩
  have HOC := Lib.hid hOC
  clear hr hG hz hf1 hw1 hg hOC
  go_enter Tryd.func60, Tryd.ntmps60
  go_upto_region 2 with fail
  go_wp2_with (refine wpList_load_ord rfl _ rfl (by rfl) HG1.out OC HOC.out ?_)
  go_loopw [8] (fun i wr => ∃ k : Nat, k ≤ 19 ∧ i = .int .i64 (k : Int) ∧ Hid (NR wr g (inPart len k)) ∧ Hid (Fr (fun _ => False) w wr)) (fun i _ => 19 - (intOf i).toNat)
  case atStart => exact ⟨0, Nat.zero_le _, rfl, HZ.out, HF1.out⟩
  case round =>
    obtain ⟨k, hk, rfl, HN, HF⟩ := hrel
    rename World => wr
    by_cases hlt : k < 19
    · obtain ⟨o, ho⟩ : ∃ o, ord[k]? = some o := ⟨_, List.getElem?_eq_getElem (show k < ord.length from hlt)⟩
      have ho19 : o < 19 := ord_lt o (List.mem_of_getElem? ho)
      have hwx := run_index_agg (P := Tryd.prog) Tryd.underlying129 Tryd.underlying3 rfl (by kernel_rfl) OC .i64 k (.int .i64 (o : Int)) hlt (by rw [HOC.out]; simp [ho, natc])
      obtain ⟨ad, rfl, hc1⟩ := nat_cell (HR.out.fr HF.out (fun _ _ h => h)) ho19
      obtain ⟨v, hv⟩ : ∃ v, v = len[o]! := ⟨_, rfl⟩
      rw [← hv] at hc1
      have hoi : (o : Int) < 19 := by omega
      have hki : (k : Int) < 19 := by omega
      have c1 := NR.at_ HN.out (i := k) (by rw [inPart_len _ _ hk]; exact hlt)
      have f1 : wr.frozen? ⟨g, k, none⟩ = false := Row.free HN.out k
      have HN4 : Hid (NR (wr.setCell ⟨g, k, none⟩ (.int .i64 (v : Int))) g (inPart len (k + 1))) := Lib.hid (by rw [← inPart_set len k o hlt ho, ← hv]; exact HN.out.set k v)
      have HF4 : Hid (Fr (fun _ => False) w (wr.setCell ⟨g, k, none⟩ (.int .i64 (v : Int)))) := Lib.hid (HF.out.trans (Fr.set1 wr g k _) (fun b hb h => by have := HG.out; omega))
      clear ho hv
      go_wp2_with fail
      exact ⟨⟨k + 1, by omega, by go_num, HN4.out, HF4.out⟩, by simp [intOf]; omega⟩
    · have hkn : k = 19 := by omega
      subst hkn
      have hT : inPart len 19 = inOrd len := by
        unfold inPart
        rw [List.take_of_length_le (by rw [inOrd_len]; omega)]
        simp
      have HN2 : Hid (NR wr g (inOrd len)) := Lib.hid (by rw [← hT]; exact HN.out)
      clear hT HN
      go_wp2_with fail
      go_ret
      exact ⟨g, rfl, HG.out, HN2.out, HF.out⟩
end Go.Proofs.YtahfmcdhcbfkaaaDoor
