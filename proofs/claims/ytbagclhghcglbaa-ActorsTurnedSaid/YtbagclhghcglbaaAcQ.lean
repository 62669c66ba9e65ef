/-
  Layer 18, the law ActorsTurned (written by gen_laws18.py).
-/
import Derived.Test.YtbagclhghcglbaaAcJ
import Derived.Test.YtbagclhghcglbaaAcE
import Derived.Test.YtbagclhghcglbaaZm12
import Derived.Deep.DeepCutAuto
import Derived.Deep.CutRange
namespace Go.Proofs.Ytbagclhghcglbaa
open Go.RowKit Mem Go.Lib LebM UtfM VaM OpM AcM
attribute [local go_sem ↓] Go.wp_at_zero Go.wp_at_succ
set_option linter.unusedVariables false

/-- each twice, the last one first -/
def twice (L : List Om) : List Om := L.reverse.flatMap fun x => [x, x]
theorem twice_step {L : List Om} {j : Nat} {x : Om} (h : L[j]? = some x) : twice (L.drop (j + 1)) ++ [x, x] = twice (L.drop j) := by
  obtain ⟨hj, rfl⟩ := List.getElem?_eq_some_iff.1 h
  rw [List.drop_eq_getElem_cons hj]
  unfold twice
  rw [List.reverse_cons, List.flatMap_append, List.flatMap_singleton]
theorem twice_mem (L : List Om) (x : Om) : x ∈ twice L ↔ x ∈ L := by
  unfold twice
  rw [List.mem_flatMap]
  constructor
  · rintro ⟨y, hy, hx⟩
    simp only [List.mem_cons, List.not_mem_nil, or_false, or_self] at hx
    rw [hx]
    exact List.mem_reverse.1 hy
  · intro hx
    exact ⟨x, List.mem_reverse.2 hx, by simp⟩
theorem twice_len (L : List Om) : (twice L).length = 2 * L.length := by
  unfold twice
  rw [List.length_flatMap, List.map_reverse]
  simp only [List.length_cons, List.length_nil]
  rw [List.sum_reverse]
  induction L with
  | nil => rfl
  | cons x L ih => simp at ih ⊢; omega
theorem two_one (x : Om) : ∀ u ∈ ols x ++ ols x, u.oneCell' = true := by
  intro u hu
  have h := ocell_one [x, x] u (by simpa using hu)
  exact h
/-- append of many elements of several cells, at a step of a region that draws its order -/
theorem step_appM {P : Program} {t e : TypeId} {z : Value} {size bytes : Nat} (hT : ElemTyS P t e z size bytes) {ops : Array Oper} {o : Oper} {a : Act} {K : Act → World → Prop} {Q : Exit → Act → World → Prop} {E : Prop} (w : World) (hgd : o.guard = none) (s x : Operand)
    (ho : o.op = .call { callee := .builtin .append, args := #[s, x], argTypes := #[t, t] })
    (base : Nat) (v : Value) (n : Nat) (xs : List Value) (hs : a.eval s = v) (hown : w.ownsRow base e size v n xs)
    (ad : Addr) (m c : Nat) (news : List Value) (hx : a.eval x = .slice (some ad) m c) (hl : news.length = m * size) (hnews : ∀ j u, news[j]? = some u → w.cell? (ad.add j) = some u) (h1 : ∀ u ∈ news, u.oneCell' = true)
    (N : Nat) (hN : N = n + m) (h63 : N ≤ maxLen) (hbytes : N * bytes ≤ 140737488355328) (hbase : base ≤ w.heap.size)
    (h : ∀ A' c' w', w'.ownsRow base e size (.slice A' N c') N (xs ++ news) → N ≤ c' → Fr (fun k => v.ownBlock = some k) w w' → ((Value.slice A' N c').ownBlock = v.ownBlock ∨ (Value.slice A' N c').ownBlock = some w.heap.size) → K (a.put o.dst (.slice A' N c')) w') :
    if Region.wanted o (yielded ops a.tmps) = true then Oper.wp P o a w K Q else E := by
  subst hN
  have hw : Region.wanted o (yielded ops a.tmps) = true := by simp [Region.wanted, hgd]
  rw [if_pos hw]
  obtain ⟨i, hi, hz, hsz, hb⟩ : ∃ i, P.info? e = some i ∧ i.zero = some z ∧ i.size = size ∧ i.bytes = bytes := by
    have h := hT.info
    cases hq : P.info? e with
    | none => rw [hq] at h; cases h
    | some i =>
      rw [hq] at h
      simp only [Option.map_some, Option.some.injEq, Prod.mk.injEq] at h
      exact ⟨i, rfl, h.1, h.2.1, h.2.2⟩
  obtain ⟨v', w', hr, h2, h3, _, h5⟩ := run_append_own_at (P := P) w base t o.type e i z size bytes hT.und hi hz hsz hb hT.cells hT.pos v n xs hown ad m c news hl hnews h1 h63 hbytes hbase
  obtain ⟨A', c', rfl, hc1, _⟩ := own_form h2
  unfold Oper.wp execOp
  simp only [ho, resolve, invoke, builtin, Sem.run_bind, Sem.run_pure, Result.andThen_ok, List.map_toArray, List.map_cons, List.map_nil, hs, hx, hr]
  exact h A' c' w' h2 hc1 ((Fr.of_grown h3).mono (fun _ _ h => h)) h5
set_option maxRecDepth 100000 in
set_option maxHeartbeats 6400000 in
theorem acturned_law (a : Tx) (A : Option Addr) (n c : Nat) (L : List Om) (w : World) (hL : Ops w A n L) (hn : n ≤ 9223372036854775807) (hlen : ∀ x ∈ L, x.lens) (ha : a.length ≤ 9223372036854775807) :
    Calls Try.prog 7 #[.string (txt a), .slice A n c] w fun e w' => e = .returned (.bool true) ∧ Fr (fun _ => False) w w' := by
  obtain ⟨base, hbase⟩ : ∃ b, w.heap.size = b := ⟨_, rfl⟩
  have HAW := Lib.hid (fun w' => awake18_any w')
  have HL := Lib.hid hL
  have hsza := txt_sz a
  obtain ⟨ma, hma⟩ : ∃ m, m = a.length := ⟨_, rfl⟩
  rw [← hma] at hsza
  have HLa : Hid (a.length = ma) := Lib.hid hma.symm
  clear hma
  have hfw := fun w' (hf : Fr (fun _ => False) w w') => rfew_any A n c L 40 w' (hL.fr hf) hn (by omega) hlen
  obtain ⟨b, hb⟩ : ∃ b, (decide (n ≤ 40) && fewB L) = b := ⟨_, rfl⟩
  simp only [hb] at hfw
  have hfw2 : ∀ w' (hf : Fr (fun _ => False) w w'), Calls Try.prog 9 #[.slice A n c, .int .i64 40] w' fun e w'' => e = .returned (.bool b) ∧ w' = w'' := hfw
  have HFW := Lib.hid hfw2
  clear hfw hfw2
  clear hL hn hlen
  by_cases hq0 : 1000 < ma
  · have tq0 : decide ((1000 : Int) < (ma : Int)) = true := decide_eq_true (by omega)
    have tq0' : decide (1000 < ma) = true := decide_eq_true hq0
    clear hq0
    go_enter Try.func7, Try.ntmps7
    go_wp2_with fail
    refine (HAW.out _).mono ?_
    rintro e w1 ⟨rfl, hf⟩
    have HF1 := Lib.hid hf
    clear hf
    go_wp2_with fail
    refine (HAW.out _).mono ?_
    rintro e w3 ⟨rfl, hf⟩
    have HF3 := Lib.hid (HF1.out.trans hf (fun _ _ h => h))
    clear hf
    go_wp2_with fail
    go_ret
    exact ⟨rfl, HF3.out⟩
  · have tq0 : decide ((1000 : Int) < (ma : Int)) = false := decide_eq_false (by omega)
    have tq0' : decide (1000 < ma) = false := decide_eq_false hq0
    cases b with
    | false =>
      clear hb
      go_enter Try.func7, Try.ntmps7
      go_wp2_with fail
      refine (HAW.out _).mono ?_
      rintro e w1 ⟨rfl, hf⟩
      have HF1 := Lib.hid hf
      clear hf
      go_wp2_with fail
      refine (HFW.out _ HF1.out).mono ?_
      rintro e w2 ⟨rfl, rfl⟩
      go_wp2_with fail
      refine (HAW.out _).mono ?_
      rintro e w3 ⟨rfl, hf⟩
      have HF3 := Lib.hid (HF1.out.trans hf (fun _ _ h => h))
      clear hf
      go_wp2_with fail
      go_ret
      exact ⟨rfl, HF3.out⟩
    | true =>
      rw [Bool.and_eq_true, decide_eq_true_eq] at hb
      have hn40 := hb.1
      have HSH := Lib.hid (few_short hb.2)
      clear hb
      have hok : ∀ x ∈ L, x.short ∧ x.o.pr.length ≤ 1000 := fun x hx => ⟨(HSH.out x hx).1, by have := (HSH.out x hx).2; omega⟩
      have hnl : (namesM L).length ≤ 40080 := by
        have h1 := namesM_len (L := L) (fun x hx => (hok x hx).2)
        have h2 := HL.out.len
        omega
      have htl : (tabA a (namesM L)).length ≤ 40081 := by
        have := others_len a (namesM L)
        unfold tabA
        rw [List.length_cons]
        omega
      have hns := names_short (fun x hx => (hok x hx).1)
      have htx : ∀ x ∈ tabA a (namesM L), x.length ≤ 1000000 := fun x hx => by
        rcases List.mem_cons.1 hx with rfl | hx
        · have := HLa.out; omega
        · obtain ⟨_, y, hy, rfl⟩ := (others_mem a _ x).1 hx
          exact hns y hy
      have HTB := Lib.hid (fun w' (hf : Fr (fun _ => False) w w') => acTable_any a A n c L w' (HL.out.fr hf) (by omega) (by have := HLa.out; omega) hok)
      have HRT := Lib.hid (fun w' (hf : Fr (fun _ => False) w w') => racTable_any a A n c L w' (HL.out.fr hf) (by omega) (by have := HLa.out; omega) hok)
      obtain ⟨T, hT⟩ : ∃ T, tabA a (namesM L) = T := ⟨_, rfl⟩
      obtain ⟨nt, hnt⟩ : ∃ k, T.length = k := ⟨_, rfl⟩
      rw [hT, hnt] at htl
      have HTT := Lib.hid hT
      have HTN := Lib.hid hnt
      have HOK := Lib.hid hok
      have HB : Hid (w.heap.size = base) := Lib.hid hbase
      clear hok hnl hns htx hT hnt HRT hbase
      go_enter Try.func7, Try.ntmps7
      go_wp2_with fail
      refine (HAW.out _).mono ?_
      rintro e w1 ⟨rfl, hf⟩
      have HF1 := Lib.hid hf
      clear hf
      go_wp2_with fail
      refine (HFW.out _ HF1.out).mono ?_
      rintro e w2 ⟨rfl, rfl⟩
      have r0 : IntKind.i64.wrap ((n : Int) - 1) = (n : Int) - 1 := by rw [IntKind.wrap_i64]; omega
      go_wp2_with fail
      go_loopw [5, 6] (fun v i wr => ∃ (z : Int) (A1 : Option Addr) (c1 q : Nat) (M : List Om), -1 ≤ z ∧ z < n ∧ i = .int .i64 z ∧ v = .slice A1 q c1 ∧ Hid (M.length = q) ∧ Hid (M = twice (L.drop (z + 1).toNat)) ∧ Hid (OwnO wr base A1 c1 M) ∧ Hid (Fr (fun _ => False) w wr)) (fun _ i _ => (intOf i + 1).toNat)
      case atStart => exact ⟨(n : Int) - 1, none, 0, 0, [], by omega, by omega, rfl, rfl, Lib.hid rfl, Lib.hid (by rw [List.drop_eq_nil_of_le (by have := HL.out.len; omega)]; rfl), Lib.hid (OwnO.nil _ _), HF1⟩
      case round =>
        obtain ⟨z, A1, c1, q, M, hz0, hz1, rfl, rfl, HQ, HME, HO, HF⟩ := hrel
        rename World => wr
        have HOW : Hid (wr.ownsRow base 50 13 (.slice A1 q c1) q (M.flatMap ols)) := Lib.hid (by have h := HO.out; unfold OwnO at h; rwa [HQ.out] at h)
        by_cases h0 : 0 ≤ z
        · obtain ⟨j, rfl⟩ := Int.eq_ofNat_of_zero_le h0
          have hjn : j < n := by omega
          have hjn' : (j : Int) < (n : Int) := by omega
          obtain ⟨x, hx⟩ : ∃ x, L[j]? = some x := ⟨_, List.getElem?_eq_getElem (by have := HL.out.len; omega)⟩
          obtain ⟨g, o, hA, _, _⟩ := HL.out.1.2 j x hx
          have HAT : Hid (∀ w', Fr (fun _ => False) w w' → Oat w' g (o + j * 13) x) := Lib.hid (fun w' hf => by
            obtain ⟨b', o', e, _, hat⟩ := HL.out.1.2 j x hx
            rw [hA] at e
            injection e with e
            injection e with e1 e2
            subst e1 e2
            exact hat.fr hf (fun h => h))
          have hm := HME.out
          rw [show ((j : Int) + 1).toNat = j + 1 by omega] at hm
          have hnext : M ++ [x, x] = twice (L.drop ((j : Int) - 1 + 1).toNat) := by
            rw [show ((j : Int) - 1 + 1).toNat = j by omega, hm, twice_step hx]
          have hml : q ≤ 80 := by
            have := twice_len (L.drop (j + 1))
            rw [← hm, HQ.out, List.length_drop, HL.out.len] at this
            omega
          subst hA
          obtain ⟨XS, hXS⟩ : ∃ XS, M.flatMap ols = XS := ⟨_, rfl⟩
          rw [hXS] at HOW
          obtain ⟨q2, hq2⟩ : ∃ q2, q + 2 = q2 := ⟨_, rfl⟩
          have HQ2 : Hid (q2 = q + 2 ∧ q2 ≤ 82) := Lib.hid ⟨hq2.symm, by omega⟩
          have HM2 : Hid (True ∧ (M ++ [x, x]).length = q2) := Lib.hid ⟨trivial, by rw [List.length_append, HQ.out, ← hq2]; rfl⟩
          have HXS := Lib.hid hXS
          have HNX := Lib.hid hnext
          have r5 : IntKind.i64.wrap ((j : Int) - 1) = (j : Int) - 1 := by rw [IntKind.wrap_i64]; omega
          clear hx hm hnext hml hq2 hXS
          go_upto_region 7 with fail
          refine wp_region_held_drew (S := fun w' => Fr (fun _ => False) w w') (by kernel_rfl) ?_ (fun hHeld => ?_)
          · exact HF.out.drew
          refine wpAnyH_take (i := 0) (v := ?vt0) rfl (by kernel_rfl) (by kernel_rfl) (by kernel_rfl) (fun _ _ _ h => h) (Or.inl ⟨by rfl, ?ht0⟩) hHeld ?rt0
          case ht0 => intro w hSw; (try dsimp only at hSw); go_simp; try (with_reducible rfl)
          (try simp only [Act.put, List.setIfInBounds_toArray, List.set_cons_zero, List.set_cons_succ, List.getElem_toArray, List.getElem_cons_zero])
          refine wpAnyH_take (i := 1) (v := ?vt1) rfl (by kernel_rfl) (by kernel_rfl) (by kernel_rfl) (fun _ _ _ h => h) (Or.inl ⟨by rfl, ?ht1⟩) hHeld ?rt1
          case ht1 => intro w hSw; (try dsimp only at hSw); go_simp; try (with_reducible rfl)
          (try simp only [Act.put, List.setIfInBounds_toArray, List.set_cons_zero, List.set_cons_succ, List.getElem_toArray, List.getElem_cons_zero, List.getElem_cons_succ])
          refine wpAnyH_take (i := 2) (v := ?vt2) rfl (by kernel_rfl) (by kernel_rfl) (by kernel_rfl) (fun _ _ _ h => h) (Or.inl ⟨by rfl, ?ht2⟩) hHeld ?rt2
          case ht2 => intro w hSw; (try dsimp only at hSw); go_simp; try (with_reducible rfl)
          (try simp only [Act.put, List.setIfInBounds_toArray, List.set_cons_zero, List.set_cons_succ, List.getElem_toArray, List.getElem_cons_zero, List.getElem_cons_succ])
          refine wpAnyH_take (i := 3) (v := ?vt3) rfl (by kernel_rfl) (by kernel_rfl) (by kernel_rfl) (fun _ _ _ h => h) (Or.inl ⟨by rfl, ?ht3⟩) hHeld ?rt3
          case ht3 => intro w hSw; (try dsimp only at hSw); go_simp; try (with_reducible rfl)
          (try simp only [Act.put, List.setIfInBounds_toArray, List.set_cons_zero, List.set_cons_succ, List.getElem_toArray, List.getElem_cons_zero, List.getElem_cons_succ])
          refine wpAnyH_take (i := 4) (v := ?vt4) rfl (by kernel_rfl) (by kernel_rfl) (by kernel_rfl) (fun _ _ _ h => h) (Or.inl ⟨by rfl, ?ht4⟩) hHeld ?rt4
          case ht4 => intro w hSw; (try dsimp only at hSw); obtain ⟨k0, k1, k2, k3, k4, k5, k6, k7, k8, k9, k10, k11, k12⟩ := HAT.out _ hSw; go_simp; try (with_reducible rfl)
          (try simp only [Act.put, List.setIfInBounds_toArray, List.set_cons_zero, List.set_cons_succ, List.getElem_toArray, List.getElem_cons_zero, List.getElem_cons_succ])
          refine wpAnyH_take (i := 5) (v := ?vt5) rfl (by kernel_rfl) (by kernel_rfl) (by kernel_rfl) (fun _ _ _ h => h) (Or.inl ⟨by rfl, ?ht5⟩) hHeld ?rt5
          case ht5 => intro w hSw; (try dsimp only at hSw); go_simp; try (with_reducible rfl)
          (try simp only [Act.put, List.setIfInBounds_toArray, List.set_cons_zero, List.set_cons_succ, List.getElem_toArray, List.getElem_cons_zero, List.getElem_cons_succ])
          refine wpAnyH_take (i := 6) (v := ?vt6) rfl (by kernel_rfl) (by kernel_rfl) (by kernel_rfl) (fun _ _ _ h => h) (Or.inl ⟨by rfl, ?ht6⟩) hHeld ?rt6
          case ht6 => intro w hSw; (try dsimp only at hSw); go_simp; try (with_reducible rfl)
          (try simp only [Act.put, List.setIfInBounds_toArray, List.set_cons_zero, List.set_cons_succ, List.getElem_toArray, List.getElem_cons_zero, List.getElem_cons_succ])
          refine wpAnyH_take (i := 7) (v := ?vt7) rfl (by kernel_rfl) (by kernel_rfl) (by kernel_rfl) (fun _ _ _ h => h) (Or.inl ⟨by rfl, ?ht7⟩) hHeld ?rt7
          case ht7 => intro w hSw; (try dsimp only at hSw); go_simp; try (with_reducible rfl)
          (try simp only [Act.put, List.setIfInBounds_toArray, List.set_cons_zero, List.set_cons_succ, List.getElem_toArray, List.getElem_cons_zero, List.getElem_cons_succ])
          refine wpAnyH_take (i := 8) (v := ?vt8) rfl (by kernel_rfl) (by kernel_rfl) (by kernel_rfl) (fun _ _ _ h => h) (Or.inl ⟨by rfl, ?ht8⟩) hHeld ?rt8
          case ht8 => intro w hSw; (try dsimp only at hSw); obtain ⟨k0, k1, k2, k3, k4, k5, k6, k7, k8, k9, k10, k11, k12⟩ := HAT.out _ hSw; go_simp; try (with_reducible rfl)
          (try simp only [Act.put, List.setIfInBounds_toArray, List.set_cons_zero, List.set_cons_succ, List.getElem_toArray, List.getElem_cons_zero, List.getElem_cons_succ])
          refine wpAnyH_ready (rs := [9]) (by kernel_rfl) (by simp) ?_
          refine AllReadyH.cons rfl (fun Kx hKx => ?_) AllReadyH.nil
          go_simp
          obtain ⟨wm, hwa⟩ : ∃ y, (wr.alloc (.cells #[.int .i64 x.o.obj.c, .string (txt x.o.obj.a), .string (txt x.o.key), .bool x.o.keyed, .int .i64 x.o.elem.c, .string (txt x.o.elem.a), .bool x.o.ins, .int .i64 x.o.act, .int .i64 x.o.val.k, .int .u64 (x.o.val.u : Int), .int .i64 x.o.val.n, .string (txt x.o.val.s), .slice x.A x.o.pr.length x.c, .int .i64 x.o.obj.c, .string (txt x.o.obj.a), .string (txt x.o.key), .bool x.o.keyed, .int .i64 x.o.elem.c, .string (txt x.o.elem.a), .bool x.o.ins, .int .i64 x.o.act, .int .i64 x.o.val.k, .int .u64 (x.o.val.u : Int), .int .i64 x.o.val.n, .string (txt x.o.val.s), .slice x.A x.o.pr.length x.c] 50)).drew = y := ⟨_, rfl⟩
          rw [hwa]
          obtain ⟨pm, hpm⟩ : ∃ p, wr.heap.size = p := ⟨_, rfl⟩
          try rw [hpm]
          have hfm : Fr (fun _ => False) wr wm := by rw [← hwa]; exact ((Fr.refl _ _).alloc _).drew
          have hrm : Row wm pm 50 (ols x ++ ols x) := by rw [← hwa, ← hpm]; exact Row.new wr _ _
          have HRM := Lib.hid hrm
          have HFM := Lib.hid (HF.out.trans hfm (fun _ _ h => h))
          have HOM := Lib.hid (hfm.own HOW.out (fun _ _ h => h))
          have HSM : Hid (base ≤ wm.heap.size) := Lib.hid (by rw [← HB.out]; exact HFM.out.size)
          clear hwa hpm hfm hrm
          refine hKx.out _ _ ?_ (fun hHeld => ?_)
          · exact HFM.out
          clear hKx Kx
          (try simp only [Act.put, List.setIfInBounds_toArray, List.set_cons_zero, List.set_cons_succ, List.getElem_toArray, List.getElem_cons_zero, List.getElem_cons_succ])
          refine wpAnyH_ready (rs := [10]) (by kernel_rfl) (by simp) ?_
          refine AllReadyH.cons rfl (fun Kx hKx => ?_) AllReadyH.nil
          refine step_appM opTS _ (by rfl) _ _ (by rfl) base _ q XS (by rfl) HOM.out ⟨pm, 0, none⟩ 2 2 (ols x ++ ols x) (by rfl) rfl (fun j u hu => by rw [Mem.addr_add]; exact HRM.out.cell hu) (two_one x) q2 HQ2.out.1 (by have := HQ2.out.2; unfold maxLen; omega) (by have := HQ2.out.2; omega) HSM.out ?_
          intro A6 c6 w6 hown6 _ hfr6 _
          have HO6 : Hid (OwnO w6 base A6 c6 (M ++ [x, x])) := Lib.hid (by
            unfold OwnO
            rw [HM2.out.2, List.flatMap_append, HXS.out]
            exact hown6)
          have HF6 : Hid (Fr (fun _ => False) w w6) := Lib.hid (HFM.out.trans hfr6 (fun b hb h => by have := (HOM.out.lt b h).1; have := HB.out; omega))
          clear hown6 hfr6
          refine hKx.out _ _ ?_ (fun hHeld => ?_)
          · exact HF6.out
          clear hKx Kx
          (try simp only [Act.put, List.setIfInBounds_toArray, List.set_cons_zero, List.set_cons_succ, List.getElem_toArray, List.getElem_cons_zero, List.getElem_cons_succ])
          refine wpAnyH_take (i := 11) (v := ?vt11) rfl (by kernel_rfl) (by kernel_rfl) (by kernel_rfl) (fun _ _ _ h => h) (Or.inl ⟨by rfl, ?ht11⟩) hHeld ?rt11
          case ht11 => intro w hSw; (try dsimp only at hSw); go_simp; try (with_reducible rfl)
          (try simp only [Act.put, List.setIfInBounds_toArray, List.set_cons_zero, List.set_cons_succ, List.getElem_toArray, List.getElem_cons_zero, List.getElem_cons_succ])
          refine wpAnyH_done (by kernel_rfl) ?_ _
          go_wp2_with fail
          go_roundw
          case rel => exact ⟨(j : Int) - 1, A6, c6, q2, M ++ [x, x], by omega, by omega, rfl, rfl, Lib.hid HM2.out.2, HNX, HO6, HF6⟩
          case measure => simp [intOf] <;> omega
        · obtain rfl : z = -1 := by omega
          have hm := HME.out
          rw [show ((-1 : Int) + 1).toNat = 0 by omega, List.drop_zero] at hm
          have hmem : ∀ x, x ∈ M ↔ x ∈ L := fun x => by rw [hm]; exact twice_mem L x
          have hq80 : q ≤ 80 := by
            have := twice_len L
            rw [← hm, HQ.out, HL.out.len] at this
            omega
          have hsm : tabA a (namesM M) = tabA a (namesM L) := by
            unfold tabA
            congr 1
            refine others_same (fun z => ?_)
            unfold namesM
            simp only [List.mem_flatMap]
            constructor
            · rintro ⟨y, ⟨x, h1, h2⟩, h3⟩; exact ⟨y, ⟨x, (hmem x).1 h1, h2⟩, h3⟩
            · rintro ⟨y, ⟨x, h1, h2⟩, h3⟩; exact ⟨y, ⟨x, (hmem x).2 h1, h2⟩, h3⟩
          have HT2 : Hid (∀ w', Fr (fun _ => False) wr w' → Calls Try.prog 10 #[.string (txt a), .slice A1 q c1] w' fun e w'' => ∃ A' c', e = .returned (.slice A' (tabA a (namesM L)).length c') ∧ OwT w'' w'.heap.size A' c' (tabA a (namesM L)) ∧ Fr (fun _ => False) w' w'') := Lib.hid (fun w' hf => by
            have h := acTable_any a A1 q c1 M w' (by
              have h1 := (HO.out.fr hf).ops (fun x hx => (HL.out.2 x ((hmem x).1 hx)).fr0 (HF.out.trans hf (fun _ _ h => h)))
              rwa [HQ.out] at h1) (by omega) (by have := HLa.out; omega) (fun x hx => HOK.out x ((hmem x).1 hx))
            rwa [hsm] at h)
          rw [HTT.out, HTN.out] at HT2
          clear hm hmem hq80 hsm h0 hz0 hz1
          go_wp2_with fail
          refine (HTB.out _ HF.out).mono ?_
          rintro e w3 ⟨A3, c3, rfl, ho3, hf3⟩
          rw [HTT.out] at ho3
          rw [HTT.out, HTN.out]
          have HF3 := Lib.hid (HF.out.trans hf3 (fun _ _ h => h))
          have HFW3 := Lib.hid hf3
          have HO3 := Lib.hid ho3
          clear ho3 hf3
          go_wp2_with fail
          refine (HT2.out _ HFW3.out).mono ?_
          rintro e w4 ⟨A4, c4, rfl, ho4, hf4⟩
          have HF4 := Lib.hid (HF3.out.trans hf4 (fun _ _ h => h))
          have hsame := racSame_any A3 nt c3 T A4 nt c4 T w4 (by have h := (HO3.out.fr hf4).rd; rwa [HTN.out] at h) (by have h := ho4.rd; rwa [HTN.out] at h) (by omega) (by omega)
          rw [decide_eq_true rfl] at hsame
          have HSA := Lib.hid hsame
          clear ho4 hf4 hsame
          go_wp2_with fail
          refine HSA.out.mono ?_
          rintro e w5 ⟨rfl, hf5⟩
          have HF5 := Lib.hid (HF4.out.trans hf5 (fun _ _ h => h))
          clear hf5
          go_wp2_with fail
          go_ret
          exact ⟨rfl, HF5.out⟩
end Go.Proofs.Ytbagclhghcglbaa
