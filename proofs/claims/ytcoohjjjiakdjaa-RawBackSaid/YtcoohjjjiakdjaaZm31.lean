/-
  append of many elements of several cells onto a row of the call's own.
  Layer 15, the program: slices.Clone, Pad.
-/
import Derived.Test.YtcoohjjjiakdjaaZm02
import Derived.Test.YtcoohjjjiakdjaaZm29
import Derived.Lib.SliceRun
namespace Go.Proofs.Ytcoohjjjiakdjaa
open Go Go.RowKit Mem Go.Lib

theorem wpList_appM {P : Program} {t e : TypeId} {z : Value} {size bytes : Nat} (hT : ElemTyS P t e z size bytes) {ops : Array Oper} {rest : List Oper} {o : Oper} {a : Act} {Q : Exit → Act → World → Prop} (w : World) (hgd : o.guard = none) (s x : Operand)
    (ho : o.op = .call { callee := .builtin .append, args := #[s, x], argTypes := #[t, t] })
    (base : Nat) (v : Value) (n : Nat) (xs : List Value) (hs : a.eval s = v) (hown : w.ownsRow base e size v n xs)
    (ad : Addr) (m c : Nat) (news : List Value) (hx : a.eval x = .slice (some ad) m c) (hl : news.length = m * size) (hnews : ∀ j u, news[j]? = some u → w.cell? (ad.add j) = some u) (h1 : ∀ u ∈ news, u.oneCell' = true)
    (N : Nat) (hN : N = n + m) (h63 : N ≤ maxLen) (hbytes : N * bytes ≤ 140737488355328) (hbase : base ≤ w.heap.size)
    (h : ∀ A' c' w', w'.ownsRow base e size (.slice A' N c') N (xs ++ news) → N ≤ c' → Fr (fun k => v.ownBlock = some k) w w' → ((Value.slice A' N c').ownBlock = v.ownBlock ∨ (Value.slice A' N c').ownBlock = some w.heap.size) → wpList P ops Q rest (a.put o.dst (.slice A' N c')) w') : wpList P ops Q (o :: rest) a w := by
  subst hN
  refine wpList_plain hgd fun K hK => ?_
  obtain ⟨i, hi, hz, hsz, hb⟩ : ∃ i, P.info? e = some i ∧ i.zero = some z ∧ i.size = size ∧ i.bytes = bytes := by
    have h := hT.info
    cases hq : P.info? e with
    | none => rw [hq] at h; cases h
    | some i =>
      rw [hq] at h
      simp only [Option.map_some, Option.some.injEq, Prod.mk.injEq] at h
      exact ⟨i, rfl, h.1, h.2.1, h.2.2⟩
  obtain ⟨v', w', hr, h2, h3, _, h5⟩ := run_append_own_at (P := P) w base t o.type e i z size bytes hT.und hi hz hsz hb hT.cells hT.pos v n xs hown ad m c news hl hnews h1 h63 hbytes hbase
  obtain ⟨A', c', rfl, hc1, _⟩ := own_form h2
  unfold Oper.wp execOp
  simp only [ho, resolve, invoke, builtin, Sem.run_bind, Sem.run_pure, Result.andThen_ok, List.map_toArray, List.map_cons, List.map_nil, hs, hx, hr]
  exact hK _ _ (h A' c' w' h2 hc1 ((Fr.of_grown h3).mono (fun _ _ h => h)) h5)
section
variable {β : Type} {f : β → Value}
/-- all the cells of a slice that reads as L -/
theorem Cls.cells {w : World} {g o n : Nat} {L : List (Bool × β)} (h : Cls f w (some ⟨g, o, none⟩) n L) : ∀ j u, (L.flatMap (ccells f))[j]? = some u → w.cell? ((⟨g, o, none⟩ : Addr).add j) = some u := by
  intro j u hj
  have hl := (List.getElem?_eq_some_iff.1 hj).1
  rw [flat_klen (ccells f) 2 (fun _ => rfl)] at hl
  obtain ⟨t, ht⟩ : ∃ t, L[j / 2]? = some t := ⟨_, List.getElem?_eq_getElem (by omega)⟩
  obtain ⟨g', o', e, _, h0, h1⟩ := h.2 _ t ht
  injection e with e
  injection e with e1 e2
  subst e1 e2
  have hf := flat_k (ccells f) 2 (fun _ => rfl) L (j / 2) t ht (j % 2) (by omega)
  rw [show j / 2 * 2 + j % 2 = j by omega, hj] at hf
  rw [mid_add]
  rcases (show j % 2 = 0 ∨ j % 2 = 1 by omega) with e | e
  · rw [e] at hf
    rw [show o + j = o + j / 2 * 2 by omega, h0]
    exact hf.symm
  · rw [e] at hf
    rw [show o + j = o + j / 2 * 2 + 1 by omega, h1]
    exact hf.symm
end
end Go.Proofs.Ytcoohjjjiakdjaa
namespace Go.Proofs.Ytcoohjjjiakdjaa
open Go.RowKit Mem Go.Lib RleM LebM VaM
attribute [local go_sem ↓] Go.wp_at_zero Go.wp_at_succ
set_option linter.unusedVariables false

set_option maxRecDepth 100000 in
set_option maxHeartbeats 1600000 in
theorem cloneC_any (A : Option Addr) (n c : Nat) (L : List (Bool × Int)) (w : World) (hL : Cls nv w A n L) (hn : n ≤ 1000000) (h0 : 0 < n) :
    Calls Try.prog 29 #[.slice A n c] w fun e w' => ∃ A' c', e = .returned (.slice A' n c') ∧ OwnC nv 50 w' w.heap.size A' c' L ∧ Fr (fun _ => False) w w' := by
  have hln := hL.1
  obtain ⟨t, ht⟩ : ∃ t, L[0]? = some t := ⟨_, List.getElem?_eq_getElem (by omega)⟩
  obtain ⟨g, o, rfl, _, _, _⟩ := hL.2 0 t ht
  have hcs := (hL.fr ((Fr.refl (fun _ => False) w).alloc (.cells #[] 50)) (fun _ _ h => h)).cells
  have hlen : (L.flatMap (ccells nv)).length = n * 2 := by rw [flat_klen (ccells nv) 2 (fun _ => rfl), hln]
  have hone : ∀ u ∈ L.flatMap (ccells nv), u.oneCell' = true := by
    intro u hu
    obtain ⟨c, _, hc⟩ := List.mem_flatMap.1 hu
    simp [ccells, nv] at hc
    rcases hc with rfl | rfl <;> rfl
  have hmade := World.ownsRow_made (base := w.heap.size) (e := 50) (size := 2) w #[] 0 (Nat.le_refl _) (Nat.zero_le _) rfl
  have hq : (binOp .eql 37 (.slice (some ⟨g, o, none⟩) n c) (.slice none 0 0)).run Try.prog w = .ok (.bool false) w := run_eql_slice_nil w _ _ _ n c 0 0 Try.underlying37
  have HLN := Lib.hid hln
  have HCS := Lib.hid hcs
  have HLEN := Lib.hid hlen
  have HONE := Lib.hid hone
  have HMADE := Lib.hid hmade
  clear hL hln ht hcs hlen hone hmade
  go_enter Try.func29, Try.ntmps29
  go_wp2_with (at_builtin; refine wpList_appM cellTC _ rfl _ _ rfl w.heap.size _ _ _ rfl HMADE.out _ _ _ _ rfl HLEN.out HCS.out HONE.out n (by omega) (by unfold maxLen; omega) (by omega) (by simp) ?_)
  intro A' c' w' hown' _ hfr' _
  have hf : Fr (fun _ => False) w w' := ((Fr.refl (fun _ => False) w).alloc _).trans hfr' (fun b hb h => by simp [Value.ownBlock] at h; omega)
  have ho : OwnC nv 50 w' w.heap.size A' c' L := by unfold OwnC; rw [HLN.out]; exact hown'
  have HF := Lib.hid hf
  have HO := Lib.hid ho
  clear hown' hfr' hf ho
  go_wp2_with fail
  go_ret
  exact ⟨A', c', rfl, HO.out, HF.out⟩
set_option maxRecDepth 100000 in
set_option maxHeartbeats 1600000 in
/-- THE CONTRACT of Pad -/
theorem wPad_any (A : Option Addr) (n c : Nat) (L : List (Bool × Int)) (m : Int) (w : World) (hL : Cls nv w A n L) (hn : n ≤ 1000000) (hm0 : -9223372036854775808 ≤ m) (hm : m ≤ 4000000) :
    Calls Try.prog 15 #[.slice A n c, .int .i64 m] w fun e w' => ∃ A' c', e = .returned (.tuple #[.slice A' (padR L m).1.length c', .bool (padR L m).2]) ∧ OwnC nv 50 w' w.heap.size A' c' (padR L m).1 ∧ Fr (fun _ => False) w w' := by
  have hln := hL.1
  by_cases h0 : 0 < n
  · have e : padR L m = (L, decide ((n : Int) = m)) := by unfold padR; rw [if_pos (by omega), hln]
    have hcl := cloneC_any A n c L w hL hn h0
    obtain ⟨b, hb⟩ : ∃ b, b = decide ((n : Int) = m) := ⟨_, rfl⟩
    have t0 : decide ((0 : Int) < (n : Int)) = true := by simp; omega
    have t0' : decide (0 < n) = true := by simp; omega
    have t1 : ((n : Int) == m) = b := by rw [hb]; rfl
    rw [e, ← hb]
    simp only [hln]
    have HCL := Lib.hid hcl
    clear hL hln e hcl hb
    go_enter Try.func15, Try.ntmps15
    go_wp2_with fail
    refine HCL.out.mono ?_
    intro e w1 h1
    obtain ⟨A1, c1, rfl, ho1, hf1⟩ := h1
    have HO1 := Lib.hid ho1
    have HF1 := Lib.hid hf1
    clear ho1 hf1
    go_wp2_with fail
    refine bodyPost_ret (v := .tuple #[.slice A1 n c1, .bool b]) (by simp [results, Try.results15, go_sem]) rfl ⟨A1, c1, rfl, HO1.out, HF1.out⟩
  · obtain rfl : n = 0 := by omega
    obtain rfl : L = [] := List.length_eq_zero_iff.1 hln
    have e : padR [] m = (List.replicate m.toNat (false, 0), true) := by unfold padR; rw [if_neg (by simp), if_neg (by omega)]
    rw [e]
    simp only [List.length_replicate]
    have t1 : decide ((2147483647 : Int) < m) = false := by simp; omega
    by_cases hneg : 0 ≤ m
    · obtain ⟨k, rfl⟩ := Int.eq_ofNat_of_zero_le hneg
      have hmk := mkCn k (by omega) w
      obtain ⟨w1, hw1⟩ : ∃ w1, w.alloc (.cells ((List.replicate k ((false, 0) : Bool × Int)).flatMap (ccells nv)).toArray 50) = w1 := ⟨_, rfl⟩
      rw [hw1] at hmk
      have hr1 : Row w1 w.heap.size 50 ((List.replicate k ((false, 0) : Bool × Int)).flatMap (ccells nv)) := by rw [← hw1]; exact Row.new w _ _
      have hf1 : Fr (fun _ => False) w w1 := by rw [← hw1]; exact (Fr.refl _ _).alloc _
      have ho1 := own_rowC (base := w.heap.size) (n := k) (by simp) hr1 (Nat.le_refl _) (by unfold maxLen; omega)
      rw [Int.toNat_natCast]
      have HO1 := Lib.hid ho1
      have HF1 := Lib.hid hf1
      clear hL hln e hr1 hf1 ho1 hw1
      go_enter Try.func15, Try.ntmps15
      go_wp2_with fail
      refine bodyPost_ret (v := .tuple #[.slice (some ⟨w.heap.size, 0, none⟩) k k, .bool true]) (by simp [results, Try.results15, go_sem]) rfl ⟨_, k, rfl, HO1.out, HF1.out⟩
    · have hmk := mkCn 0 (by omega) w
      obtain ⟨w1, hw1⟩ : ∃ w1, w.alloc (.cells ((List.replicate 0 ((false, 0) : Bool × Int)).flatMap (ccells nv)).toArray 50) = w1 := ⟨_, rfl⟩
      rw [hw1] at hmk
      have hr1 : Row w1 w.heap.size 50 ((List.replicate 0 ((false, 0) : Bool × Int)).flatMap (ccells nv)) := by rw [← hw1]; exact Row.new w _ _
      have hf1 : Fr (fun _ => False) w w1 := by rw [← hw1]; exact (Fr.refl _ _).alloc _
      have ho1 := own_rowC (base := w.heap.size) (n := 0) (by simp) hr1 (Nat.le_refl _) (by unfold maxLen; omega)
      rw [show m.toNat = 0 by omega]
      have HO1 := Lib.hid ho1
      have HF1 := Lib.hid hf1
      simp only [Int.natCast_zero] at hmk
      clear hL hln e hr1 hf1 ho1 hw1
      go_enter Try.func15, Try.ntmps15
      go_wp2_with fail
      refine bodyPost_ret (v := .tuple #[.slice (some ⟨w.heap.size, 0, none⟩) 0 0, .bool true]) (by simp [results, Try.results15, go_sem]) rfl ⟨_, 0, rfl, HO1.out, HF1.out⟩
end Go.Proofs.Ytcoohjjjiakdjaa
