/-
  append(s, make([]T, m)...) onto a row of the call's own: one-cell elements; whether there is room or not. No program named.
  Layer 16, the program: slices.Grow of nil, slices.Concat of slices of bytes, slices.Clone of bytes.
-/
import Derived.Test.YtbnkahjmeobblaaZm00
import Derived.Lib.AppendZerosOnto
import Derived.Test.YtbnkahjmeobblaaZm11
import Derived.Test.YtbnkahjmeobblaaZm02
import Derived.Lib.SliceRun
namespace Go.Proofs.Ytbnkahjmeobblaa.Mem
open Go Go.Lib
theorem zeros_are (z : Value) (m : Nat) : Builtin.zeroCells #[z] m = (List.replicate m z).toArray := by
  apply Array.ext
  · simp [Builtin.zeroCells]
  · intro i h1 h2
    simp [Builtin.zeroCells] at h1 ⊢
    rw [Nat.mod_one]
    rfl
section
variable {P : Program}
theorem run_app_zeros {t tn e : TypeId} {z : Value} {bytes : Nat} {kn : IntKind} (hT : ElemTy P t e z bytes) (htn : P.underlying tn = some (.int kn)) (hzc : z.cells = #[z]) (hz1 : z.oneCell' = true) (ty : TypeId) (w : World) (base : Nat) (v : Value) (n : Nat) (xs : List Value) (hown : w.ownsRow base e 1 v n xs)
    (kq : IntKind) (m : Nat) (h63 : n + m ≤ maxLen) (hbytes : (n + m) * bytes ≤ 140737488355328) (hbase : base ≤ w.heap.size) :
    ∃ v' w', (Builtin.append_ #[t, tn] ty #[v, .int kq (m : Int)]).run P w = .ok v' w' ∧ w'.ownsRow base e 1 v' (n + m) (xs ++ List.replicate m z) ∧ Fr (fun k => v.ownBlock = some k) w w' ∧
      (v'.ownBlock = v.ownBlock ∨ v'.ownBlock = some w.heap.size) := by
  obtain ⟨i, hi, hz, hs, hb⟩ := info_parts hT.info
  have hsmall : n + m ≤ 9223372036854775807 := by simp only [maxLen] at h63; omega
  have hw : IntKind.i64.wrap (m : Int) = m := by rw [IntKind.wrap_i64]; omega
  have hneg : ¬ ((m : Int) < 0) := by omega
  have hmb : m * bytes ≤ 140737488355328 := Nat.le_trans (Nat.mul_le_mul_right _ (by omega)) hbytes
  have h48i : ¬ (281474976710656 < (m : Int) * (bytes : Int)) := by rw [← Int.natCast_mul]; omega
  have hlen : (xs ++ List.replicate m z).length = (n + m) * 1 := by have := hown.1; simp at this ⊢; omega
  by_cases hm : m = 0
  · subst hm
    have hw0 : IntKind.i64.wrap 0 = 0 := by decide
    refine ⟨v, w, ?_, by simpa using hown, Fr.refl _ _, .inl rfl⟩
    rcases hown.2 with ⟨rfl, rfl⟩ | ⟨g, cap, cur, rfl, _, _, hnc, _⟩
    · simp [Builtin.append_, run_underlying hT.und, run_underlying htn, sizeOf, typeInfo, hi, asInt, asIntOf, hw0]
    · simp [Builtin.append_, run_underlying hT.und, run_underlying htn, sizeOf, typeInfo, hi, asInt, asIntOf, hw0, hnc, storeCells]
  · have grown : ∀ old : Nat, (w.drew.alloc (.cells (xs.toArray ++ Builtin.zeroCells z.cells m ++ Builtin.zeroCells z.cells (grownCap w (n + m) old e - (n + m))) e)).ownsRow base e 1
        (.slice (some ⟨w.heap.size, 0, none⟩) (n + m) (grownCap w (n + m) old e)) (n + m) (xs ++ List.replicate m z) := by
      intro old
      have hge := grownCap_ge w (n + m) old e
      have hcm : grownCap w (n + m) old e ≤ maxLen := grownCap_le_maxLen w (n + m) old e h63
      refine ⟨hlen, .inr ⟨w.heap.size, _, _, rfl, hbase, heap_alloc_new w.drew _, hge, hcm, ?_, ?_⟩⟩
      · rw [hzc, zeros_are, zeros_are]
        have := hown.1
        simp at this ⊢
        omega
      · rw [hzc, zeros_are, zeros_are]
        simp only [Array.toList_append, List.append_assoc]
        rw [← List.append_assoc, ← hlen]
        exact List.take_left
    have frn : ∀ o : Obj, Fr (fun k => v.ownBlock = some k) w (w.drew.alloc o) := fun o => (Fr.refl _ w).drew.alloc o
    rcases hown.2 with ⟨rfl, rfl⟩ | ⟨g, cap, cur, rfl, hbg, hg, hnc, hcm, hcs, htake⟩
    · obtain rfl : xs = [] := List.eq_nil_of_length_eq_zero (by simpa using hown.1)
      have hr := run_append_grow_zeros (P := P) w t tn ty e i z kq kn hT.und htn hi hz none 0 0 [] (by simp [Builtin.firstCells]) m (by omega) (by omega) (by omega) (by omega) (by rw [hb]; omega) (by rw [hb]; exact growslice_fits (by omega) hbytes)
      exact ⟨_, _, hr, grown 0, frn _, .inr rfl⟩
    · by_cases hroom : n + m ≤ cap
      · have hst : (storeCells ⟨g, n, none⟩ (List.replicate m z) 0).run P w = .ok () (w.setRow g (cur.toList.take n ++ List.replicate m z ++ cur.toList.drop (n + m)).toArray) := by
          have := run_storeCells_at P g n e (List.replicate m z) 0 cur w hg (by simp; omega) (fun u hu => by rw [(List.mem_replicate.1 hu).2]; exact hz1)
          simpa only [Nat.add_zero, List.length_replicate] using this
        have hl := hown.1
        simp only [Nat.mul_one] at htake hl
        rw [htake] at hst
        have hns : ¬ m = 0 := hm
        refine ⟨.slice (some ⟨g, 0, none⟩) (n + m) cap, w.setRow g (xs ++ List.replicate m z ++ cur.toList.drop (n + m)).toArray, ?_, ⟨hlen, .inr ⟨g, cap, (xs ++ List.replicate m z ++ cur.toList.drop (n + m)).toArray, rfl, hbg, setRow_heap w g cur _ e _ hg, hroom, hcm, ?_, ?_⟩⟩, ?_, .inl rfl⟩
        · simp [Builtin.append_, run_underlying hT.und, run_underlying htn, sizeOf, typeInfo, zeroValue, hi, hz, asInt, asIntOf, hw, hneg, hs, hb, h48i, hroom, hns, hzc, zeros_are, Addr.add_lit, hst]
        · simp
          omega
        · show List.take ((n + m) * 1) (xs ++ List.replicate m z ++ cur.toList.drop (n + m)) = _
          rw [← hlen]
          exact List.take_left
        · exact Fr.of_grown ⟨rfl, rfl, rfl, by simp, fun k _ hk => setRow_other w g k _ (fun e => hk (by simp [Value.ownBlock, e]))⟩
      · have holds : ∀ j u, xs[j]? = some u → w.drew.cell? ((⟨g, 0, none⟩ : Addr).add j) = some u := hown.cells (g := g) rfl
        have hf := run_firstCells_some (P := P) w.drew i.size n ⟨g, 0, none⟩ n cap xs (by rw [hs]; exact hown.1) holds
        have hr := run_append_grow_zeros (P := P) w t tn ty e i z kq kn hT.und htn hi hz (some ⟨g, 0, none⟩) n cap xs hf m (by omega) (by omega) (by omega) (by omega) (by rw [hb]; omega) (by rw [hb]; exact growslice_fits (by omega) hbytes)
        exact ⟨_, _, hr, grown cap, frn _, .inr rfl⟩
theorem wpList_appZ {t tn e : TypeId} {z : Value} {bytes : Nat} {kn : IntKind} (hT : ElemTy P t e z bytes) (htn : P.underlying tn = some (.int kn)) (hzc : z.cells = #[z]) (hz1 : z.oneCell' = true) {ops : Array Oper} {rest : List Oper} {o : Oper} {a : Act} {Q : Exit → Act → World → Prop} (w : World) (hgd : o.guard = none) (s x : Operand)
    (ho : o.op = .call { callee := .builtin .append, args := #[s, x], argTypes := #[t, tn] })
    (base : Nat) (v : Value) (n : Nat) (xs : List Value) (hs : a.eval s = v) (hown : w.ownsRow base e 1 v n xs)
    (kq : IntKind) (m : Nat) (hx : a.eval x = .int kq (m : Int))
    (h63 : n + m ≤ maxLen) (hbytes : (n + m) * bytes ≤ 140737488355328) (hbase : base ≤ w.heap.size)
    (h : ∀ A' c' w', n + m ≤ c' → c' ≤ maxLen → w'.ownsRow base e 1 (.slice A' (n + m) c') (n + m) (xs ++ List.replicate m z) → Fr (fun k => v.ownBlock = some k) w w' →
      ((Value.slice A' (n + m) c').ownBlock = v.ownBlock ∨ (Value.slice A' (n + m) c').ownBlock = some w.heap.size) → wpList P ops Q rest (a.put o.dst (.slice A' (n + m) c')) w') : wpList P ops Q (o :: rest) a w := by
  refine wpList_plain hgd fun K hK => ?_
  obtain ⟨v', w', hrun, h2, h3, h4⟩ := run_app_zeros (P := P) hT htn hzc hz1 o.type w base v n xs hown kq m h63 hbytes hbase
  obtain ⟨A', c', rfl, hc1, hc2⟩ := own_form h2
  unfold Oper.wp execOp
  simp only [ho, resolve, invoke, builtin, Sem.run_bind, Sem.run_pure, Result.andThen_ok, List.map_toArray, List.map_cons, List.map_nil, hs, hx, hrun]
  exact hK _ _ (h A' c' w' hc1 hc2 h2 h3 h4)
end
end Go.Proofs.Ytbnkahjmeobblaa.Mem
namespace Go.Proofs.Ytbnkahjmeobblaa
open Go.RowKit Mem Go.Lib LebM DirM
attribute [local go_sem ↓] Go.wp_at_zero Go.wp_at_succ
set_option linter.unusedVariables false

theorem own_cut0 {w : World} {b e s n c : Nat} {A : Option Addr} {xs : List Value} (h : w.ownsRow b e s (.slice A n c) n xs) (hn : 0 < n) : w.ownsRow b e s (.slice A 0 c) 0 [] := by
  refine ⟨by simp, ?_⟩
  rcases h.2 with ⟨hv, h0⟩ | ⟨g, cap, cur, hv, hb, hr, h1, h2, h3, h4⟩
  · omega
  · injection hv with hA _ hc
    subst hA hc
    exact .inr ⟨g, c, cur, rfl, hb, hr, Nat.zero_le _, h2, h3, by simp⟩
set_option maxRecDepth 100000 in
set_option maxHeartbeats 800000 in
theorem grow_any (m : Nat) (w : World) (hm : m ≤ 1000000000000) :
    Calls Try.prog 50 #[.slice none 0 0, .int .i64 (m : Int)] w fun e w' => ∃ A c, e = .returned (.slice A 0 c) ∧ Own w' w.heap.size A c [] ∧ Fr (fun _ => False) w w' := by
  have hown0 := World.ownsRow_nil w w.heap.size 5 1
  by_cases h0 : m = 0
  · subst h0
    go_enter Try.func50, Try.ntmps50
    go_wp2
    go_ret
    exact ⟨none, 0, rfl, Own.nil _ _, Fr.refl _ _⟩
  · have t0 : decide ((m : Int) < 0) = false := by simp
    have t1 : decide ((0 : Int) < (m : Int)) = true := by simp; omega
    have t1' : decide (0 < m) = true := by simp; omega
    have HM := Lib.hid hm
    have HP : Hid (0 < m) := Lib.hid (by omega)
    have HO := Lib.hid hown0
    have e0 : IntKind.i64.wrap (m : Int) = m := by rw [IntKind.wrap_i64]; omega
    have e0' : wrap64 (m : Int) = m := by unfold wrap64; omega
    clear h0 hown0
    go_enter Try.func50, Try.ntmps50
    go_wp2_with (at_builtin; refine wpList_appZ u8T Try.underlying3 rfl rfl w rfl _ _ rfl w.heap.size _ 0 [] rfl HO.out .i64 m rfl (by have := HM.out; unfold maxLen; omega) (by have := HM.out; omega) (Nat.le_refl _) ?_)
    intro A' c' w' h1 h2 hown' hfr' _
    have hown2 : Own w' w.heap.size A' c' [] := own_cut0 hown' (by have := HP.out; omega)
    have hf : Fr (fun _ => False) w w' := hfr'.mono (fun b hb h => by simp [Value.ownBlock] at h)
    have HO2 := Lib.hid hown2
    have HF := Lib.hid hf
    clear hown' hfr' hown2 hf
    have h3 : m ≤ c' := by omega
    have h4 : c' ≤ 9223372036854775807 := by unfold maxLen at h2; omega
    clear h1 h2
    go_wp2_with fail
    go_ret
    exact ⟨A', c', rfl, HO2.out, HF.out⟩
/-- how many bytes in all -/
def sumB (L : List Cl) : Nat := (L.map (fun x => x.B.length)).sum
def catB (L : List Cl) : List UInt8 := L.flatMap (fun x => x.B)
theorem catB_len (L : List Cl) : (catB L).length = sumB L := by
  unfold catB sumB
  rw [List.length_flatMap]
theorem sumB_take {L : List Cl} {k : Nat} {x : Cl} (h : L[k]? = some x) : sumB (L.take (k + 1)) = sumB (L.take k) + x.B.length := by
  unfold sumB
  rw [List.take_add_one, h]
  simp
theorem catB_take {L : List Cl} {k : Nat} {x : Cl} (h : L[k]? = some x) : catB (L.take (k + 1)) = catB (L.take k) ++ x.B := by
  unfold catB
  rw [List.take_add_one, h]
  simp
theorem sumB_le (L : List Cl) (k : Nat) : sumB (L.take k) ≤ sumB L := by
  conv => rhs; rw [← List.take_append_drop k L]
  unfold sumB
  rw [List.map_append, List.sum_append]
  omega
set_option maxRecDepth 100000 in
set_option maxHeartbeats 1600000 in
theorem concat_any (A : Option Addr) (n c : Nat) (L : List Cl) (w : World) (hr : Rd w A n (L.map dac)) (hB : ∀ x ∈ L, Rd w x.A x.B.length (x.B.map bytec)) (hs : sumB L ≤ 1000000000000) (hn : n ≤ 1000000) :
    Calls Try.prog 29 #[.slice A n c] w (Gives w (catB L)) := by
  have hBn : L.length = n := by simpa using hr.1
  have HB := Lib.hid hBn
  have HR := Lib.hid hr
  have HBY := Lib.hid hB
  have HS := Lib.hid hs
  clear hBn hr hB hs
  go_enter Try.func29, Try.ntmps29
  go_wp2
  go_loopw [3, 11] (fun v i wr => ∃ (k s : Nat), k ≤ n ∧ i = .int .i64 k ∧ v = .int .i64 s ∧ Hid (s = sumB (L.take k)) ∧ w = wr)
    (fun _ i _ => n - (intOf i).toNat)
  case atStart => exact ⟨0, 0, by omega, rfl, rfl, rfl, rfl⟩
  case round =>
    obtain ⟨k, s, hk, rfl, rfl, HSm, rfl⟩ := hrel
    by_cases hlt : k < n
    · obtain ⟨ad, v, rfl, hv, hcell⟩ := HR.out.at_ hlt
      obtain ⟨x, hx⟩ : ∃ x, L[k]? = some x := ⟨L[k]'(by have := HB.out; omega), List.getElem?_eq_getElem _⟩
      obtain rfl : dac x = v := by simpa [hx] using hv
      unfold dac at hcell
      obtain ⟨m, hm⟩ : ∃ m, m = x.B.length := ⟨_, rfl⟩
      rw [← hm] at hcell
      have hle : s + m ≤ 1000000000000 := by
        have h1 := HSm.out
        have h2 := sumB_le L (k + 1)
        rw [sumB_take hx, ← hm] at h2
        have := HS.out
        omega
      have HM := Lib.hid hm
      have HX := Lib.hid hx
      clear hv hx hm
      have e1 : IntKind.i64.wrap ((s : Int) + (m : Int)) = ((s + m : Nat) : Int) := by rw [IntKind.wrap_i64]; omega
      have t1 : decide (((s + m : Nat) : Int) < 0) = false := decide_eq_false (by omega)
      go_wp2_with fail
      go_roundw
      case rel => exact ⟨k + 1, s + m, by omega, by go_num, by rfl, Lib.hid (by rw [sumB_take HX.out, ← HSm.out, ← HM.out]), trivial⟩
      case measure => simp [intOf] <;> omega
    · obtain rfl : k = n := by omega
      obtain ⟨hsb, hsL⟩ : s ≤ 1000000000000 ∧ Hid (s = sumB L) := by
        have h1 := HSm.out
        rw [List.take_of_length_le (by rw [HB.out]; exact Nat.le_refl _)] at h1
        exact ⟨by rw [h1]; exact HS.out, Lib.hid h1⟩
      clear HSm
      go_wp2_with fail
      refine (grow_any s w hsb).mono ?_
      rintro e w1 ⟨A1, c1, rfl, ho1, hf1⟩
      have HO1 := Lib.hid ho1
      have HF1 := Lib.hid hf1
      have hsz1 := hf1.size
      clear ho1 hf1
      go_wp2_with fail
      go_loopw [6, 27] (fun v i wr => ∃ (j : Nat) (D : List UInt8) (A' : Option Addr) (c' : Nat), j ≤ k ∧ i = .int .i64 j ∧ Hid (D = catB (L.take j)) ∧ v = .slice A' D.length c' ∧ Own wr w.heap.size A' c' D ∧ Fr (fun _ => False) w wr)
        (fun _ i _ => k - (intOf i).toNat)
      case atStart => exact ⟨0, [], A1, c1, by omega, rfl, rfl, rfl, HO1.out, HF1.out⟩
      case round =>
        obtain ⟨j, D, A2, c2, hj, rfl, HD, rfl, hown, hfr⟩ := hrel
        have hsz := hfr.size
        by_cases hlt2 : j < k
        · obtain ⟨ad, v, rfl, hv, hcell⟩ := (HR.out.fr hfr (fun _ _ h => h)).at_ hlt2
          obtain ⟨x, hx⟩ : ∃ x, L[j]? = some x := ⟨L[j]'(by have := HB.out; omega), List.getElem?_eq_getElem _⟩
          obtain rfl : dac x = v := by simpa [hx] using hv
          unfold dac at hcell
          have hrx := (HBY.out x (List.mem_of_getElem? hx)).fr hfr (fun _ _ h => h)
          have hle : D.length + x.B.length ≤ 1000000000000 := by
            have h1 := HD.out
            have h2 := sumB_le L (j + 1)
            rw [sumB_take hx, ← catB_len, ← h1] at h2
            have := HS.out
            omega
          have HX := Lib.hid hx
          have HO := Lib.hid hown
          have HF := Lib.hid hfr
          have HRX := Lib.hid hrx
          clear hv hx hown hfr hrx
          go_wp2_with (at_builtin; refine wpList_app u8T _ rfl _ _ rfl w.heap.size _ _ _ rfl HO.out _ _ _ _ rfl HRX.out (bytec_one _) (by unfold maxLen; omega) (by omega) (by omega) ?_)
          intro A' c' w' _ _ hown' hfr' _
          go_wp2
          go_roundw
          case rel =>
            refine ⟨j + 1, D ++ x.B, A', c', by omega, by go_num, ?_, by rw [List.length_append], ?_, ?_⟩
            · exact Lib.hid (by rw [catB_take HX.out, ← HD.out])
            · unfold Own
              rw [List.length_append, List.map_append]
              exact hown'
            · exact HF.out.trans hfr' (fun b hb h => by have := HO.out.lt _ h; omega)
          case measure => simp [intOf] <;> omega
        · obtain rfl : j = k := by omega
          have HD2 : Hid (D = catB L) := by
            have h1 := HD.out
            rw [List.take_of_length_le (by rw [HB.out]; exact Nat.le_refl _)] at h1
            exact Lib.hid h1
          clear HD
          have HO := Lib.hid hown
          have HF := Lib.hid hfr
          clear hown hfr
          go_wp2_with fail
          go_ret
          exact ⟨A2, c2, by rw [← HD2.out]; rfl, by rw [← HD2.out]; exact HO.out, HF.out⟩
end Go.Proofs.Ytbnkahjmeobblaa
