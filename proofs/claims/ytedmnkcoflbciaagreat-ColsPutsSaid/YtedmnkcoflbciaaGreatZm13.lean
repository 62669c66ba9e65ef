/-
  Layer 17, the program: Compare, rightKey, rightPreds.
  Layer 17, the program: texts that are copied (strings.Clone), likeId.
  Layer 17, the reference: Actor, Id, Less.
  Layer 17: append of names onto a row of one's own, whatever slice they come from; rows of names, of ops.
-/
import Derived.Test.YtedmnkcoflbciaaGreatZm12
import Derived.Test.YtedmnkcoflbciaaGreatZm06
import Derived.Lib.BufferWrite
import Derived.Lib.UnsafeStr
import Derived.BigQuiet
namespace Go.Proofs.YtedmnkcoflbciaaGreat
open Go.RowKit Mem Go.Lib LebM UtfM VaM OpM
attribute [local go_sem ↓] Go.wp_at_zero Go.wp_at_succ
set_option linter.unusedVariables false

end Go.Proofs.YtedmnkcoflbciaaGreat
namespace Go.Proofs.YtedmnkcoflbciaaGreat
open Go.RowKit Mem Go.Lib LebM UtfM VaM OpM
attribute [local go_sem ↓] Go.wp_at_zero Go.wp_at_succ
set_option linter.unusedVariables false

end Go.Proofs.YtedmnkcoflbciaaGreat
namespace Go.Proofs.YtedmnkcoflbciaaGreat
open Go.RowKit Mem Go.Lib LebM UtfM VaM OpM
attribute [local go_sem ↓] Go.wp_at_zero Go.wp_at_succ
set_option linter.unusedVariables false

set_option maxRecDepth 100000 in
set_option maxHeartbeats 1600000 in
theorem ractor_any (B : List UInt8) (w : World) (hl : B.length ≤ 1000000000000000000) : Calls Tryz.prog 84 #[.string (txt B)] w fun e w' => e = .returned (.bool (actorB B)) ∧ w = w' := by
  have hsz := txt_sz B
  obtain ⟨m, hm⟩ : ∃ m, m = B.length := ⟨_, rfl⟩
  rw [← hm] at hsz hl
  have e : actorB B = (decide (0 < m) && decide (m ≤ 16)) := by unfold actorB; rw [hm]
  rw [e]
  clear hm e
  by_cases h0 : 0 < m
  · have t0 : decide ((0 : Int) < (m : Int)) = true := decide_eq_true (by omega)
    have t0' : decide (0 < m) = true := decide_eq_true (by omega)
    rw [t0', Bool.true_and]
    by_cases h1 : m < 17
    · have t1 : decide ((m : Int) < (17 : Int)) = true := decide_eq_true (by omega)
      have t1' : decide (m < 17) = true := decide_eq_true (by omega)
      rw [decide_eq_true (show m ≤ 16 by omega)]
      clear h1
      go_enter Tryz.func84, Tryz.ntmps84
      go_wp2_with fail
      go_ret
      exact ⟨rfl, rfl⟩
    · have t1 : decide ((m : Int) < (17 : Int)) = false := decide_eq_false (by omega)
      have t1' : decide (m < 17) = false := decide_eq_false (by omega)
      rw [decide_eq_false (show ¬ m ≤ 16 by omega)]
      clear h1
      go_enter Tryz.func84, Tryz.ntmps84
      go_wp2_with fail
      go_ret
      exact ⟨rfl, rfl⟩
  · have t0 : decide ((0 : Int) < (m : Int)) = false := decide_eq_false (by omega)
    have t0' : decide (0 < m) = false := decide_eq_false (by omega)
    rw [t0', Bool.false_and]
    clear h0
    go_enter Tryz.func84, Tryz.ntmps84
    go_wp2_with fail
    go_ret
    exact ⟨rfl, rfl⟩
set_option maxRecDepth 100000 in
set_option maxHeartbeats 1600000 in
theorem rid_any (x : Nm) (w : World) (hl : x.a.length ≤ 1000000000000000000) : Calls Tryz.prog 42 #[nmc x] w fun e w' => e = .returned (.bool (idB x)) ∧ Fr (fun _ => False) w w' := by
  obtain ⟨c, a⟩ := x
  obtain ⟨g, hg⟩ : ∃ g, w.heap.size = g := ⟨_, rfl⟩
  obtain ⟨w1, hw1⟩ : ∃ w1, w.alloc (.cells #[.int .i64 c, .string (txt a)] 49) = w1 := ⟨_, rfl⟩
  have hf1 : Fr (fun _ => False) w w1 := by rw [← hw1]; exact (Fr.refl _ _).alloc _
  have hr1 : RowN w1 g ⟨c, a⟩ := by rw [← hw1, ← hg]; exact RowN.new w ⟨c, a⟩
  obtain ⟨c0, c1⟩ := hr1.cells
  have HF1 := Lib.hid hf1
  have h1 := ractor_any a w1 hl
  obtain ⟨b, hb⟩ : ∃ b, actorB a = b := ⟨_, rfl⟩
  rw [hb] at h1
  unfold nmc
  simp only at c0 c1 ⊢
  by_cases hc1 : 0 < c
  · by_cases hc2 : c < 9007199254740992
    · have e : idB ⟨c, a⟩ = b := by unfold idB; rw [hb]; simp; omega
      rw [e]
      have t1 : decide ((0 : Int) < c) = true := decide_eq_true hc1
      have t2 : decide (c < (9007199254740992 : Int)) = true := decide_eq_true hc2
      have H1 := Lib.hid h1
      clear e hb hf1 hr1 hc1 hc2 h1
      go_enter Tryz.func42, Tryz.ntmps42
      go_wp2_with fail
      clear hw1 hg
      refine H1.out.mono ?_
      rintro e w2 ⟨rfl, rfl⟩
      go_wp2_with fail
      go_ret
      exact ⟨rfl, HF1.out⟩
    · have e : idB ⟨c, a⟩ = false := by unfold idB; simp; omega
      rw [e]
      have t1 : decide ((0 : Int) < c) = true := decide_eq_true hc1
      have t2 : decide (c < (9007199254740992 : Int)) = false := decide_eq_false hc2
      clear e hb hf1 hr1 hc1 hc2 h1
      go_enter Tryz.func42, Tryz.ntmps42
      go_wp2_with fail
      go_ret
      exact ⟨rfl, HF1.out⟩
  · have e : idB ⟨c, a⟩ = false := by unfold idB; simp; omega
    rw [e]
    have t1 : decide ((0 : Int) < c) = false := decide_eq_false hc1
    clear e hb hf1 hr1 hc1 h1
    go_enter Tryz.func42, Tryz.ntmps42
    go_wp2_with fail
    go_ret
    exact ⟨rfl, HF1.out⟩

theorem run_index_txt (B : List UInt8) (k : Nat) (a : UInt8) (h : B[k]? = some a) (w : World) : (Instr.index 9 (.string (txt B)) (.int .i64 (k : Int))).run Tryz.prog w = .ok (.int .u8 (a.toNat : Int)) w := by
  have hu := Tryz.underlying9
  have hi : (txt B)[k]? = some a := by
    obtain ⟨h1, h2⟩ := List.getElem?_eq_some_iff.1 h
    have hk : k < (txt B).size := by rw [txt_sz]; exact h1
    rw [getElem?_pos (txt B) k hk]
    show some (B.toArray[k]) = some a
    rw [← h2]
    rfl
  unfold Instr.index
  simp [asIntOf, run_underlying hu, hi]
theorem bless_drop {x y : List UInt8} {k : Nat} {a b : UInt8} (ha : x[k]? = some a) (hb : y[k]? = some b) : Op.bytesLess (x.drop k) (y.drop k) = (decide (a.toNat < b.toNat) || (decide (a.toNat = b.toNat) && Op.bytesLess (x.drop (k + 1)) (y.drop (k + 1)))) := by
  obtain ⟨h1, rfl⟩ := List.getElem?_eq_some_iff.1 ha
  obtain ⟨h2, rfl⟩ := List.getElem?_eq_some_iff.1 hb
  rw [List.drop_eq_getElem_cons h1, List.drop_eq_getElem_cons h2, Bool.eq_iff_iff, bless_cons]
  simp [UInt8.toNat_inj]
theorem bless_end {x y : List UInt8} {k : Nat} (hk : k ≤ x.length) (hk2 : k ≤ y.length) (h : ¬ (k < x.length ∧ k < y.length)) : Op.bytesLess (x.drop k) (y.drop k) = decide (x.length < y.length) := by
  by_cases h1 : k < x.length
  · have e : y.drop k = [] := List.drop_eq_nil_of_le (by omega)
    rw [e, decide_eq_false (by omega)]
    cases x.drop k <;> rfl
  · have e : x.drop k = [] := List.drop_eq_nil_of_le (by omega)
    rw [e]
    by_cases h2 : k < y.length
    · rw [List.drop_eq_getElem_cons h2, decide_eq_true (by omega)]
      rfl
    · rw [List.drop_eq_nil_of_le (by omega), decide_eq_false (by omega)]
      rfl
set_option maxRecDepth 100000 in
set_option maxHeartbeats 3200000 in
theorem rless_any (x y : Nm) (w : World) (hx : x.a.length ≤ 1000000000) (hy : y.a.length ≤ 1000000000) : Calls Tryz.prog 45 #[nmc x, nmc y] w fun e w' => e = .returned (.bool (lessN x y)) ∧ Fr (fun _ => False) w w' := by
  obtain ⟨w1, hw1⟩ : ∃ w1, w.alloc (.cells #[.int .i64 x.c, .string (txt x.a)] 49) = w1 := ⟨_, rfl⟩
  obtain ⟨w2, hw2⟩ : ∃ w2, w1.alloc (.cells #[.int .i64 y.c, .string (txt y.a)] 49) = w2 := ⟨_, rfl⟩
  obtain ⟨g, hg⟩ : ∃ g, w.heap.size = g := ⟨_, rfl⟩
  obtain ⟨g2, hg2⟩ : ∃ g, w1.heap.size = g := ⟨_, rfl⟩
  have hf1 : Fr (fun _ => False) w w1 := by rw [← hw1]; exact (Fr.refl _ _).alloc _
  have hf2 : Fr (fun _ => False) w1 w2 := by rw [← hw2]; exact (Fr.refl _ _).alloc _
  have hr1 : RowN w1 g x := by rw [← hw1, ← hg]; exact RowN.new w x
  have hr2 : RowN w2 g2 y := by rw [← hw2, ← hg2]; exact RowN.new w1 y
  have hr3 := hr1.fr hf2 (fun h => h)
  have HRX := Lib.hid hr3
  have HRY := Lib.hid hr2
  have HF2 := Lib.hid (hf1.trans hf2 (fun _ _ h => h))
  have hl : lessN x y = (decide (x.c < y.c) || (decide (x.c = y.c) && Op.bytesLess x.a y.a)) := rfl
  rw [hl]
  obtain ⟨c0, c1⟩ := hr3.cells
  obtain ⟨d0, d1⟩ := hr2.cells
  obtain ⟨r, hr⟩ : ∃ r, Op.bytesLess x.a y.a = r := ⟨_, rfl⟩
  rw [hr]
  have HR := Lib.hid hr
  have hsx := txt_sz x.a
  have hsy := txt_sz y.a
  obtain ⟨m, hm⟩ : ∃ m, m = x.a.length := ⟨_, rfl⟩
  obtain ⟨n, hn⟩ : ∃ n, n = y.a.length := ⟨_, rfl⟩
  rw [← hm] at hsx hx
  rw [← hn] at hsy hy
  have HM := Lib.hid hm
  have HN := Lib.hid hn
  unfold nmc
  clear hf1 hf2 hr1 hr2 hr3 hl hr hm hn
  by_cases h1 : x.c = y.c
  · have t1 : (x.c != y.c) = false := by simp [h1]
    rw [decide_eq_true h1, Bool.true_and, decide_eq_false (by omega), Bool.false_or]
    clear h1
    go_enter Tryz.func45, Tryz.ntmps45
    go_wp2_with fail
    clear hw1 hw2 hg hg2 c0 c1 d0 d1
    go_loopw [5] (fun i wr => ∃ k : Nat, k ≤ m ∧ k ≤ n ∧ i = .int .i64 (k : Int) ∧ Hid (Op.bytesLess (x.a.drop k) (y.a.drop k) = r) ∧ Hid (RowN wr g x) ∧ Hid (RowN wr g2 y) ∧ Hid (Fr (fun _ => False) w wr)) (fun i _ => m - (intOf i).toNat)
    case atStart => exact ⟨0, Nat.zero_le _, Nat.zero_le _, rfl, HR, HRX, HRY, HF2⟩
    case round =>
      obtain ⟨k, hk, hk2, rfl, HE, HX, HY, HF⟩ := hrel
      rename World => wr
      obtain ⟨c0, c1⟩ := HX.out.cells
      obtain ⟨d0, d1⟩ := HY.out.cells
      by_cases hlt : k < m
      · by_cases hlt2 : k < n
        · obtain ⟨a, ha⟩ : ∃ a, x.a[k]? = some a := ⟨_, List.getElem?_eq_getElem (by have := HM.out; omega)⟩
          obtain ⟨b, hb⟩ : ∃ b, y.a[k]? = some b := ⟨_, List.getElem?_eq_getElem (by have := HN.out; omega)⟩
          have q1 := run_index_txt x.a k a ha
          have q2 := run_index_txt y.a k b hb
          have hst := bless_drop ha hb
          have hla := a.toNat_lt
          have hlb := b.toNat_lt
          obtain ⟨i, hi⟩ : ∃ i, a.toNat = i := ⟨_, rfl⟩
          obtain ⟨j, hj⟩ : ∃ j, b.toNat = j := ⟨_, rfl⟩
          rw [hi] at q1 hst hla
          rw [hj] at q2 hst hlb
          rw [HE.out] at hst
          have HST := Lib.hid hst
          clear ha hb hst hi hj
          by_cases hij : i = j
          · subst hij
            have t2 : ((i : Int) != (i : Int)) = false := by simp
            have HE2 : Hid (Op.bytesLess (x.a.drop (k + 1)) (y.a.drop (k + 1)) = r) := Lib.hid (by rw [HST.out]; simp)
            go_wp2_with fail
            go_quiet (fail)
            clear c0 c1 d0 d1 q1 q2
            go_wp2_with fail
            go_roundw
            case rel => exact ⟨k + 1, by omega, by omega, by go_num, HE2, HX, HY, HF.out.drewN _⟩
            case measure => simp [intOf]; omega
          · have t2 : ((i : Int) != (j : Int)) = true := by simp; omega
            have t2' : (i != j) = true := by simp; omega
            obtain ⟨s, hs⟩ : ∃ s, decide (i < j) = s := ⟨_, rfl⟩
            have t3 : decide ((i : Int) < (j : Int)) = s := by rw [← hs]; exact decide_eq_decide.2 (by omega)
            have HRS : Hid (r = s) := Lib.hid (by rw [HST.out, decide_eq_false hij, Bool.false_and, Bool.or_false, hs])
            clear hij
            go_wp2_with fail
            go_quiet (fail)
            go_wp2_with fail
            go_quiet (fail)
            go_wp2_with fail
            go_ret
            exact ⟨by rw [HRS.out]; rfl, (HF.out.drewN _).drewN _⟩
        · have HRS : Hid (r = decide (m < n)) := Lib.hid (by rw [← HE.out, HM.out, HN.out]; exact bless_end (by have := HM.out; omega) (by have := HN.out; omega) (by have := HN.out; omega))
          have t3 : decide ((m : Int) < (n : Int)) = false := decide_eq_false (by omega)
          have t3' : decide (m < n) = false := decide_eq_false (by omega)
          go_wp2_with fail
          go_ret
          exact ⟨by rw [HRS.out, t3']; rfl, HF.out⟩
      · obtain ⟨s, hs⟩ : ∃ s, decide (m < n) = s := ⟨_, rfl⟩
        have HRS : Hid (r = s) := Lib.hid (by rw [← hs, ← HE.out, HM.out, HN.out]; exact bless_end (by have := HM.out; omega) (by have := HN.out; omega) (by have := HM.out; omega))
        have t3 : decide ((m : Int) < (n : Int)) = s := by rw [← hs]; exact decide_eq_decide.2 (by omega)
        go_wp2_with fail
        go_ret
        exact ⟨by rw [HRS.out]; rfl, HF.out⟩
  · have t1 : (x.c != y.c) = true := by simp [h1]
    obtain ⟨s, hs⟩ : ∃ s, decide (x.c < y.c) = s := ⟨_, rfl⟩
    rw [decide_eq_false h1, Bool.false_and, Bool.or_false, hs]
    clear h1
    go_enter Tryz.func45, Tryz.ntmps45
    go_wp2_with fail
    go_ret
    exact ⟨rfl, HF2.out⟩
end Go.Proofs.YtedmnkcoflbciaaGreat
namespace Go.Proofs.YtedmnkcoflbciaaGreat
open Go Go.RowKit Mem Go.Lib LebM UtfM VaM OpM
set_option linter.unusedVariables false

/-- all the cells of a slice that reads as these pairs -/
theorem Prs.cells {τ : Type} {p q : τ → Value} {w : World} {g o n : Nat} {L : List τ} (h : Prs p q w (some ⟨g, o, none⟩) n L) : ∀ j u, (L.flatMap (pcells p q))[j]? = some u → w.cell? ((⟨g, o, none⟩ : Addr).add j) = some u := by
  intro j u hj
  have hl := (List.getElem?_eq_some_iff.1 hj).1
  rw [flat_klen (pcells p q) 2 (fun _ => rfl)] at hl
  obtain ⟨t, ht⟩ : ∃ t, L[j / 2]? = some t := ⟨_, List.getElem?_eq_getElem (by omega)⟩
  obtain ⟨g', o', e, _, h0, h1⟩ := h.2 _ t ht
  injection e with e
  injection e with e1 e2
  subst e1 e2
  have hf := flat_k (pcells p q) 2 (fun _ => rfl) L (j / 2) t ht (j % 2) (by omega)
  rw [show j / 2 * 2 + j % 2 = j by omega, hj] at hf
  rw [mid_add]
  rcases (show j % 2 = 0 ∨ j % 2 = 1 by omega) with e | e
  · rw [e] at hf
    rw [show o + j = o + j / 2 * 2 by omega, h0]
    exact hf.symm
  · rw [e] at hf
    rw [show o + j = o + j / 2 * 2 + 1 by omega, h1]
    exact hf.symm
theorem nmTS : ElemTyS Tryz.prog 53 49 (.agg #[.int .i64 0, .string ⟨#[]⟩]) 2 24 := ⟨Tryz.underlying53, by kernel_rfl, rfl, by decide⟩
theorem opTS : ElemTyS Tryz.prog 22 55 (opc ⟨zeroO, none, 0⟩) 13 152 := ⟨Tryz.underlying22, by kernel_rfl, rfl, by decide⟩
theorem ncell_one (L : List Nm) : ∀ u ∈ L.flatMap (pcells ncc nac), u.oneCell' = true := by
  intro u hu
  obtain ⟨c, _, hc⟩ := List.mem_flatMap.1 hu
  simp [pcells, ncc, nac] at hc
  rcases hc with rfl | rfl <;> rfl
theorem ocell_one (L : List Om) : ∀ u ∈ L.flatMap ols, u.oneCell' = true := by
  intro u hu
  obtain ⟨c, _, hc⟩ := List.mem_flatMap.1 hu
  have := Array.all_eq_true'.1 (o_one c) u (by simpa using hc)
  exact this
/-- a row of names of one's own -/
abbrev OwnN (w : World) (base : Nat) (A : Option Addr) (c : Nat) (L : List Nm) : Prop := OwnP ncc nac 49 w base A c L
section
variable {P : Program}
/-- append of nothing -/
theorem run_app0 {t e : TypeId} {z : Value} {size bytes : Nat} (hT : ElemTyS P t e z size bytes) (ty : TypeId) (w : World) (base : Nat) (v : Value) (n : Nat) (xs : List Value) (hown : w.ownsRow base e size v n xs) (A : Option Addr) (c : Nat) :
    (Builtin.append_ #[t, t] ty #[v, .slice A 0 c]).run P w = .ok v w := by
  obtain ⟨i, hi, hz, hs, hb⟩ : ∃ i, P.info? e = some i ∧ i.zero = some z ∧ i.size = size ∧ i.bytes = bytes := by
    have h := hT.info
    cases hq : P.info? e with
    | none => rw [hq] at h; cases h
    | some i =>
      rw [hq] at h
      simp only [Option.map_some, Option.some.injEq, Prod.mk.injEq] at h
      exact ⟨i, rfl, h.1, h.2.1, h.2.2⟩
  cases A with
  | none =>
    rcases hown.2 with ⟨rfl, rfl⟩ | ⟨g, cap, cur, rfl, _, _, hnc, _⟩
    · simp [Builtin.append_, run_underlying hT.und, sizeOf, typeInfo, hi, Builtin.lenOf, Builtin.firstCells]
    · simp [Builtin.append_, run_underlying hT.und, sizeOf, typeInfo, hi, Builtin.lenOf, Builtin.firstCells, hnc, storeCells]
  | some ad =>
    rcases hown.2 with ⟨rfl, rfl⟩ | ⟨g, cap, cur, rfl, _, _, hnc, _⟩
    · simp [Builtin.append_, run_underlying hT.und, sizeOf, typeInfo, hi, Builtin.lenOf, Builtin.firstCells, loadCells, loadCellsFrom]
    · simp [Builtin.append_, run_underlying hT.und, sizeOf, typeInfo, hi, Builtin.lenOf, Builtin.firstCells, hnc, storeCells, loadCells, loadCellsFrom]
end
theorem wpList_appNm {ops : Array Oper} {rest : List Oper} {o : Oper} {a : Act} {Q : Exit → Act → World → Prop} (w : World) (hgd : o.guard = none) (s x : Operand)
    (ho : o.op = .call { callee := .builtin .append, args := #[s, x], argTypes := #[53, 53] })
    (base : Nat) (A : Option Addr) (c : Nat) (L : List Nm) (hs : a.eval s = .slice A L.length c) (hown : OwnN w base A c L)
    (A2 : Option Addr) (m c2 : Nat) (M : List Nm) (hx : a.eval x = .slice A2 m c2) (hr : Nms w A2 m M) (D : List Nm) (hD : D = L ++ M) (h63 : D.length ≤ 1000000000) (hbase : base ≤ w.heap.size)
    (h : ∀ A' c' w', OwnN w' base A' c' D → Fr (fun k => (Value.slice A L.length c).ownBlock = some k) w w' → ((Value.slice A' D.length c').ownBlock = (Value.slice A L.length c).ownBlock ∨ (Value.slice A' D.length c').ownBlock = some w.heap.size) → wpList Tryz.prog ops Q rest (a.put o.dst (.slice A' D.length c')) w') : wpList Tryz.prog ops Q (o :: rest) a w := by
  subst hD
  have hml := hr.1
  rcases Nat.eq_zero_or_pos m with rfl | hm
  · obtain rfl : M = [] := List.length_eq_zero_iff.1 hml
    refine wpList_plain hgd fun K hK => ?_
    have hrun := run_app0 nmTS o.type w base _ L.length _ hown A2 c2
    unfold Oper.wp execOp
    simp only [ho, resolve, invoke, builtin, Sem.run_bind, Sem.run_pure, Result.andThen_ok, List.map_toArray, List.map_cons, List.map_nil, hs, hx, hrun]
    have h' := h A c w (by rw [List.append_nil]; exact hown) (Fr.refl _ _) (Or.inl (by rw [List.append_nil]))
    rw [List.append_nil] at h'
    exact hK _ _ h'
  · obtain ⟨y, hy⟩ : ∃ y, M[0]? = some y := ⟨_, List.getElem?_eq_getElem (by omega)⟩
    obtain ⟨g, q, rfl, _, _, _⟩ := hr.2 0 y hy
    refine wpList_appM nmTS w hgd s x ho base _ L.length (L.flatMap (pcells ncc nac)) hs hown ⟨g, q, none⟩ m c2 (M.flatMap (pcells ncc nac)) hx (by rw [pcells_len, hml]) hr.cells (ncell_one M) (L ++ M).length (by rw [List.length_append, hml]) (by unfold maxLen; omega) (by omega) hbase (fun A' c' w' h1 _ h3 h4 => ?_)
    refine h A' c' w' ?_ h3 h4
    unfold OwnN OwnP
    rw [List.flatMap_append]
    exact h1
/-- a row of ops of one's own -/
def OwnO (w : World) (base : Nat) (A : Option Addr) (c : Nat) (L : List Om) : Prop := w.ownsRow base 55 13 (.slice A L.length c) L.length (L.flatMap ols)
theorem OwnO.nil (w : World) (base : Nat) : OwnO w base none 0 [] := World.ownsRow_nil _ _ _ _
theorem OwnO.fr {w w' : World} {base c : Nat} {A : Option Addr} {L : List Om} (h : OwnO w base A c L) (hf : Fr (fun _ => False) w w') : OwnO w' base A c L := hf.own h (fun _ _ h => h)
theorem OwnO.at_ {w : World} {base c : Nat} {A : Option Addr} {L : List Om} (h : OwnO w base A c L) : ∀ k x, L[k]? = some x → ∃ b o, A = some ⟨b, o, none⟩ ∧ b < w.heap.size ∧ Oat w b (o + k * 13) x := by
  intro k x hk
  have hkl := (List.getElem?_eq_some_iff.1 hk).1
  rcases h.2 with ⟨hv, h0⟩ | ⟨g, cap, cur, hv, _⟩
  · injection hv with _ h1 h2
    omega
  · have hA : A = some ⟨g, 0, none⟩ := by injection hv
    subst hA
    have hc := h.cells (g := g) rfl
    have hadd : ∀ j, (⟨g, 0, none⟩ : Addr).add j = ⟨g, j, none⟩ := fun j => by unfold Addr.add; split <;> simp_all
    refine ⟨g, 0, rfl, (h.lt g rfl).2, oat_of (fun j u hu => ?_)⟩
    have hj : j < 13 := (List.getElem?_eq_some_iff.1 hu).1
    rw [Nat.zero_add, ← hadd]
    exact hc _ _ ((o_flat L k x hk j hj).trans hu)
theorem OwnO.ops {w : World} {base c : Nat} {A : Option Addr} {L : List Om} (h : OwnO w base A c L) (hp : ∀ x ∈ L, Prd w x) : Ops w A L.length L := ⟨⟨rfl, h.at_⟩, hp⟩
end Go.Proofs.YtedmnkcoflbciaaGreat
