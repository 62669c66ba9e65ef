/-
  Layer 17, the reference: Same (written by gen_rsame.py).
  Layer 20, the reference: Few, Same (of what is the same); spoken.
-/
import Derived.Test.YtbnkahjmeobblaaZm12
import Derived.Test.YtbnkahjmeobblaaZm27
import Derived.Test.YtbnkahjmeobblaaZm10
import Derived.BigQuiet
import Derived.Test.YtbnkahjmeobblaaZm22
import Derived.Test.YtbnkahjmeobblaaZm32
import Derived.Test.YtbnkahjmeobblaaZm25
import Derived.Test.YtbnkahjmeobblaaZm34
import Derived.Test.YtbnkahjmeobblaaOpW
import Derived.Test.YtbnkahjmeobblaaZm28
namespace Go.Proofs.Ytbnkahjmeobblaa
open Go.RowKit Mem Go.Lib LebM UtfM VaM OpM
attribute [local go_sem ↓] Go.wp_at_zero Go.wp_at_succ
set_option linter.unusedVariables false

set_option maxRecDepth 100000 in
set_option maxHeartbeats 12800000 in
theorem rsameO_any (A : Option Addr) (n c : Nat) (L : List Om) (A' : Option Addr) (n' c' : Nat) (M : List Om) (w : World) (hL : Ops w A n L) (hM : Ops w A' n' M) (hn : n ≤ 1000000) (hn' : n' ≤ 1000000) (hpl : ∀ x ∈ L, x.o.pr.length ≤ 1000000) (hpm : ∀ x ∈ M, x.o.pr.length ≤ 1000000) (r : Bool) (hr : r = true ↔ L.map Om.o = M.map Om.o) :
    Calls Try.prog 45 #[.slice A n c, .slice A' n' c'] w fun e w' => e = .returned (.bool r) ∧ Fr (fun _ => False) w w' := by
  have HR := Lib.hid hr
  have HL := Lib.hid hL
  have HM := Lib.hid hM
  have HLN := Lib.hid hL.len
  have HMN := Lib.hid hM.len
  have HPL := Lib.hid hpl
  have HPM := Lib.hid hpm
  clear hL hM hr hpl hpm
  by_cases hnn : n = n'
  · subst hnn
    have t0 : ((n : Int) != (n : Int)) = false := by simp
    go_enter Try.func45, Try.ntmps45
    go_wp2_with fail
    go_loopw [5] (fun v wr => ∃ k : Nat, k ≤ n ∧ v = .int .i64 (k : Int) ∧ Hid ((L.take k).map Om.o = (M.take k).map Om.o) ∧ Hid (Fr (fun _ => False) w wr)) (fun v _ => n - (intOf v).toNat)
    case atStart => exact ⟨0, Nat.zero_le _, rfl, (rfl : (L.take 0).map Om.o = (M.take 0).map Om.o), Fr.refl _ _⟩
    case round =>
      obtain ⟨k, hk, rfl, HE, HF⟩ := hrel
      rename World => wr
      by_cases hlt : k < n
      · obtain ⟨x, hx⟩ : ∃ x, L[k]? = some x := ⟨_, List.getElem?_eq_getElem (by have := HLN.out; omega)⟩
        obtain ⟨y, hy⟩ : ∃ y, M[k]? = some y := ⟨_, List.getElem?_eq_getElem (by have := HMN.out; omega)⟩
        obtain ⟨gl, ol, rfl, _, hax⟩ := HL.out.1.2 k x hx
        obtain ⟨gk, om, rfl, _, hay⟩ := HM.out.1.2 k y hy
        have HAX : Hid (∀ w', Fr (fun _ => False) wr w' → Oat w' gl (ol + k * 13) x) := Lib.hid (fun w' hf => hax.fr (HF.out.trans hf (fun _ _ h => h)) (fun h => h))
        have HAY : Hid (∀ w', Fr (fun _ => False) wr w' → Oat w' gk (om + k * 13) y) := Lib.hid (fun w' hf => hay.fr (HF.out.trans hf (fun _ _ h => h)) (fun h => h))
        have HPX := Lib.hid (HL.out.2 x (List.mem_of_getElem? hx))
        have HPY := Lib.hid (HM.out.2 y (List.mem_of_getElem? hy))
        obtain ⟨lp, hlp⟩ : ∃ l, x.o.pr.length = l := ⟨_, rfl⟩
        obtain ⟨lq, hlq⟩ : ∃ l, y.o.pr.length = l := ⟨_, rfl⟩
        have hbx := HPL.out x (List.mem_of_getElem? hx)
        have hby := HPM.out y (List.mem_of_getElem? hy)
        rw [hlp] at hbx
        rw [hlq] at hby
        have HLP := Lib.hid hlp
        have HLPY := Lib.hid hlq
        have HX := Lib.hid hx
        have HY := Lib.hid hy
        have HB : Hid (eqO x.o y.o = false → r = false) := Lib.hid (fun h => by
          cases r with
          | false => rfl
          | true =>
            have e := HR.out.1 rfl
            have h1 : (L.map Om.o)[k]? = some x.o := by rw [List.getElem?_map, HX.out]; rfl
            have h2 : (M.map Om.o)[k]? = some y.o := by rw [List.getElem?_map, HY.out]; rfl
            rw [e, h2] at h1
            injection h1 with h1
            rw [h1, eqO_self] at h
            cases h)
        have he : eqO x.o y.o = (eqN x.o.obj y.o.obj && decide (x.o.key = y.o.key) && (x.o.keyed == y.o.keyed) && eqN x.o.elem y.o.elem && (x.o.ins == y.o.ins) && decide (x.o.act = y.o.act) && eqV x.o.val y.o.val && eqNs x.o.pr y.o.pr) := rfl
        obtain ⟨q1a, q1b⟩ := n_neq x.o.obj y.o.obj
        obtain ⟨q4a, q4b⟩ := n_neq x.o.elem y.o.elem
        obtain ⟨q7a, q7b⟩ := v_neq x.o.val y.o.val
        have t2 := beq_txt x.o.key y.o.key
        have t6 : (x.o.act != y.o.act) = !decide (x.o.act = y.o.act) := rfl
        obtain ⟨b1, hb1⟩ : ∃ b, eqN x.o.obj y.o.obj = b := ⟨_, rfl⟩
        obtain ⟨b2, hb2⟩ : ∃ b, decide (x.o.key = y.o.key) = b := ⟨_, rfl⟩
        obtain ⟨b3, t3⟩ : ∃ b, (x.o.keyed == y.o.keyed) = b := ⟨_, rfl⟩
        obtain ⟨b4, hb4⟩ : ∃ b, eqN x.o.elem y.o.elem = b := ⟨_, rfl⟩
        obtain ⟨b5, t5⟩ : ∃ b, (x.o.ins == y.o.ins) = b := ⟨_, rfl⟩
        obtain ⟨b6, hb6⟩ : ∃ b, decide (x.o.act = y.o.act) = b := ⟨_, rfl⟩
        obtain ⟨b7, hb7⟩ : ∃ b, eqV x.o.val y.o.val = b := ⟨_, rfl⟩
        rw [hb1, hb2, t3, hb4, t5, hb6, hb7] at he
        rw [hb1] at q1b
        rw [hb2] at t2
        rw [hb4] at q4b
        rw [hb6] at t6
        rw [hb7] at q7b
        have HBAD : Hid (x.o.pr ≠ y.o.pr → r = false) := Lib.hid (fun h => HB.out (by
          cases hh : eqO x.o y.o with
          | false => rfl
          | true => exact absurd (congrArg O.pr ((eqO_iff _ _).1 hh)) h))
        have HNX : Hid (b1 = true → b2 = true → b3 = true → b4 = true → b5 = true → b6 = true → b7 = true → x.o.pr = y.o.pr → (L.take (k + 1)).map Om.o = (M.take (k + 1)).map Om.o) := Lib.hid (fun e1 e2 e3 e4 e5 e6 e7 h => by
          have : eqO x.o y.o = true := by rw [he, e1, e2, e3, e4, e5, e6, e7, (eqNs_iff _ _).2 h]; rfl
          rw [List.take_add_one, List.take_add_one, HX.out, HY.out, List.map_append, List.map_append, HE.out, Option.toList_some, Option.toList_some, List.map_cons, List.map_cons, (eqO_iff _ _).1 this])
        have HEQ := Lib.hid he
        have hlt' : (k : Int) < (n : Int) := by omega
        clear hx hy hax hay hlp hlq he hb1 hb2 hb4 hb6 hb7
        go_upto_region 6 with fail
        go_cut [6, 7] (fun a b wx => ∃ ga gb, a = .pointer (some ⟨ga, 0, none⟩) ∧ b = .pointer (some ⟨gb, 0, none⟩) ∧ RowO wx ga x ∧ RowO wx gb y ∧ Fr (fun _ => False) w wx)
        case first =>
          refine wp_region_noPanic ?_
          refine wp_region_held_drew (S := fun w' => Fr (fun _ => False) wr w') (by kernel_rfl) ?_ (fun hHeld => ?_)
          · exact (Fr.refl _ _).drew
          refine tk 0 hHeld ?_
          refine tk 1 hHeld ?_
          refine tk 2 hHeld ?_
          refine tk 3 hHeld ?_ (hy := by intro w hSw; (try dsimp only at hSw); obtain ⟨k0, k1, k2, k3, k4, k5, k6, k7, k8, k9, k10, k11, k12⟩ := HAX.out w hSw; go_simp; try (with_reducible rfl))
          refine tk 4 hHeld ?_
          refine tk 5 hHeld ?_
          refine tk 6 hHeld ?_
          refine tk 7 hHeld ?_ (hy := by intro w hSw; (try dsimp only at hSw); obtain ⟨k0, k1, k2, k3, k4, k5, k6, k7, k8, k9, k10, k11, k12⟩ := HAY.out w hSw; go_simp; try (with_reducible rfl))
          refine wpAnyH_ready (rs := [8, 9]) (by kernel_rfl) (by simp) ?_
          refine AllReadyH.cons rfl (fun Kx hKx => ?_) ?_
          · go_simp
            obtain ⟨wa, hwa⟩ : ∃ y, (wr.alloc (.cells #[.int .i64 0, .string ⟨#[]⟩, .string ⟨#[]⟩, .bool false, .int .i64 0, .string ⟨#[]⟩, .bool false, .int .i64 0, .int .i64 0, .int .u64 0, .int .i64 0, .string ⟨#[]⟩, .slice none 0 0] 50)).drew = y := ⟨_, rfl⟩
            rw [hwa]
            obtain ⟨ga, hpp⟩ : ∃ p, wr.heap.size = p := ⟨_, rfl⟩
            try rw [hpp]
            have hfa : Fr (fun _ => False) wr wa := by rw [← hwa]; exact ((Fr.refl _ _).alloc _).drew
            have hpa : RowO wa ga zeroM := by rw [← hwa, ← hpp]; exact RowO.new wr zeroM
            have HPwa := Lib.hid hpa
            have HNwa : Hid (wr.heap.size ≤ ga) := Lib.hid (by omega)
            have HFwa : Hid (Fr (fun _ => False) wr wa) := Lib.hid hfa
            clear hwa hpp hfa hpa
            refine hKx.out _ _ ?_ (fun hHeld => ?_)
            · exact HFwa.out
            clear hKx Kx
            refine rdo 9 (fun Kx hKx => ?_)
            go_simp
            obtain ⟨wb, hwa⟩ : ∃ y, (wa.alloc (.cells #[.int .i64 0, .string ⟨#[]⟩, .string ⟨#[]⟩, .bool false, .int .i64 0, .string ⟨#[]⟩, .bool false, .int .i64 0, .int .i64 0, .int .u64 0, .int .i64 0, .string ⟨#[]⟩, .slice none 0 0] 50)) = y := ⟨_, rfl⟩
            rw [hwa]
            obtain ⟨gb, hpp⟩ : ∃ p, wa.heap.size = p := ⟨_, rfl⟩
            try rw [hpp]
            have hfa : Fr (fun _ => False) wa wb := by rw [← hwa]; exact ((Fr.refl _ _).alloc _)
            have hpa : RowO wb gb zeroM := by rw [← hwa, ← hpp]; exact RowO.new wa zeroM
            have HPwb := Lib.hid hpa
            have HNwb : Hid (wa.heap.size ≤ gb) := Lib.hid (by omega)
            have HOwb := Lib.hid (HPwa.out.fr hfa (fun h => h))
            have HNE : Hid (ga ≠ gb ∧ wr.heap.size ≤ gb) := Lib.hid (by have h1 := HPwa.out.lt; have h2 := HFwa.out.size; omega)
            have HFwb : Hid (Fr (fun _ => False) wr wb) := Lib.hid (HFwa.out.trans hfa (fun _ _ h => h))
            clear hwa hpp hfa hpa
            refine hKx.out _ _ ?_ (fun hHeld => ?_)
            · exact HFwb.out
            clear hKx Kx
            (try simp only [Act.put, List.setIfInBounds_toArray, List.set_cons_zero, List.set_cons_succ, List.getElem_toArray, List.getElem_cons_zero, List.getElem_cons_succ])
            have HGE : Hid (wr.heap.size ≤ ga ∧ wr.heap.size ≤ gb ∧ ga ≠ gb) := Lib.hid (by have h1 := HNE.out; have h2 := HNwa.out; omega)
            refine rdo 10 (fun Kx hKx => ?_)
            refine step_store_whole oSz (by rfl) _ _ (by rfl) ga (by rfl) (ols x).toArray (by rfl) _ _ HOwb.out rfl rfl (o_one x) ?_
            intro wc hr8 hf8
            have HRwc : Hid (RowO wc ga x) := Lib.hid hr8
            have HY1 := Lib.hid (HPwb.out.fr hf8 (fun h => HGE.out.2.2 h.symm))
            have HFwc : Hid (Fr (fun _ => False) wr wc) := Lib.hid (HFwb.out.trans hf8 (fun b hb h => by have := HGE.out; omega))
            clear hr8 hf8
            refine hKx.out _ _ ?_ (fun hHeld => ?_)
            · exact HFwc.out
            clear hKx Kx
            refine rdo 11 (fun Kx hKx => ?_)
            refine step_store_whole oSz (by rfl) _ _ (by rfl) gb (by rfl) (ols y).toArray (by rfl) _ _ HY1.out rfl rfl (o_one y) ?_
            intro wd hr8 hf8
            have HRwd : Hid (RowO wd gb y) := Lib.hid hr8
            have HX1 := Lib.hid (HRwc.out.fr hf8 HGE.out.2.2)
            have HFwd : Hid (Fr (fun _ => False) wr wd) := Lib.hid (HFwc.out.trans hf8 (fun b hb h => by have := HGE.out; omega))
            clear hr8 hf8
            refine hKx.out _ _ ?_ (fun hHeld => ?_)
            · exact HFwd.out
            clear hKx Kx
            (try simp only [Act.put, List.getElem_toArray, List.getElem_cons_zero, List.getElem_cons_succ])
            refine wpAnyH_done (by kernel_rfl) ?_ _
            refine NoPanic.normal ?_
            go_wp2_with fail
            go_meet
            exact ⟨ga, gb, rfl, rfl, HX1.out, HRwd.out, HF.out.trans HFwd.out (fun _ _ h => h)⟩
          refine AllReadyH.cons rfl (fun Kx hKx => ?_) AllReadyH.nil
          go_simp
          obtain ⟨wa, hwa⟩ : ∃ y, (wr.alloc (.cells #[.int .i64 0, .string ⟨#[]⟩, .string ⟨#[]⟩, .bool false, .int .i64 0, .string ⟨#[]⟩, .bool false, .int .i64 0, .int .i64 0, .int .u64 0, .int .i64 0, .string ⟨#[]⟩, .slice none 0 0] 50)).drew = y := ⟨_, rfl⟩
          rw [hwa]
          obtain ⟨gb, hpp⟩ : ∃ p, wr.heap.size = p := ⟨_, rfl⟩
          try rw [hpp]
          have hfa : Fr (fun _ => False) wr wa := by rw [← hwa]; exact ((Fr.refl _ _).alloc _).drew
          have hpa : RowO wa gb zeroM := by rw [← hwa, ← hpp]; exact RowO.new wr zeroM
          have HPwa := Lib.hid hpa
          have HNwa : Hid (wr.heap.size ≤ gb) := Lib.hid (by omega)
          have HFwa : Hid (Fr (fun _ => False) wr wa) := Lib.hid hfa
          clear hwa hpp hfa hpa
          refine hKx.out _ _ ?_ (fun hHeld => ?_)
          · exact HFwa.out
          clear hKx Kx
          refine rdo 8 (fun Kx hKx => ?_)
          go_simp
          obtain ⟨wb, hwa⟩ : ∃ y, (wa.alloc (.cells #[.int .i64 0, .string ⟨#[]⟩, .string ⟨#[]⟩, .bool false, .int .i64 0, .string ⟨#[]⟩, .bool false, .int .i64 0, .int .i64 0, .int .u64 0, .int .i64 0, .string ⟨#[]⟩, .slice none 0 0] 50)) = y := ⟨_, rfl⟩
          rw [hwa]
          obtain ⟨ga, hpp⟩ : ∃ p, wa.heap.size = p := ⟨_, rfl⟩
          try rw [hpp]
          have hfa : Fr (fun _ => False) wa wb := by rw [← hwa]; exact ((Fr.refl _ _).alloc _)
          have hpa : RowO wb ga zeroM := by rw [← hwa, ← hpp]; exact RowO.new wa zeroM
          have HPwb := Lib.hid hpa
          have HNwb : Hid (wa.heap.size ≤ ga) := Lib.hid (by omega)
          have HOwb := Lib.hid (HPwa.out.fr hfa (fun h => h))
          have HNE : Hid (gb ≠ ga ∧ wr.heap.size ≤ ga) := Lib.hid (by have h1 := HPwa.out.lt; have h2 := HFwa.out.size; omega)
          have HFwb : Hid (Fr (fun _ => False) wr wb) := Lib.hid (HFwa.out.trans hfa (fun _ _ h => h))
          clear hwa hpp hfa hpa
          refine hKx.out _ _ ?_ (fun hHeld => ?_)
          · exact HFwb.out
          clear hKx Kx
          (try simp only [Act.put, List.setIfInBounds_toArray, List.set_cons_zero, List.set_cons_succ, List.getElem_toArray, List.getElem_cons_zero, List.getElem_cons_succ])
          have HGE : Hid (wr.heap.size ≤ ga ∧ wr.heap.size ≤ gb ∧ ga ≠ gb) := Lib.hid (by have h1 := HNE.out; have h2 := HNwa.out; omega)
          refine rdo 10 (fun Kx hKx => ?_)
          refine step_store_whole oSz (by rfl) _ _ (by rfl) ga (by rfl) (ols x).toArray (by rfl) _ _ HPwb.out rfl rfl (o_one x) ?_
          intro wc hr8 hf8
          have HRwc : Hid (RowO wc ga x) := Lib.hid hr8
          have HY1 := Lib.hid (HOwb.out.fr hf8 (fun h => HGE.out.2.2 h.symm))
          have HFwc : Hid (Fr (fun _ => False) wr wc) := Lib.hid (HFwb.out.trans hf8 (fun b hb h => by have := HGE.out; omega))
          clear hr8 hf8
          refine hKx.out _ _ ?_ (fun hHeld => ?_)
          · exact HFwc.out
          clear hKx Kx
          refine rdo 11 (fun Kx hKx => ?_)
          refine step_store_whole oSz (by rfl) _ _ (by rfl) gb (by rfl) (ols y).toArray (by rfl) _ _ HY1.out rfl rfl (o_one y) ?_
          intro wd hr8 hf8
          have HRwd : Hid (RowO wd gb y) := Lib.hid hr8
          have HX1 := Lib.hid (HRwc.out.fr hf8 HGE.out.2.2)
          have HFwd : Hid (Fr (fun _ => False) wr wd) := Lib.hid (HFwc.out.trans hf8 (fun b hb h => by have := HGE.out; omega))
          clear hr8 hf8
          refine hKx.out _ _ ?_ (fun hHeld => ?_)
          · exact HFwd.out
          clear hKx Kx
          (try simp only [Act.put, List.getElem_toArray, List.getElem_cons_zero, List.getElem_cons_succ])
          refine wpAnyH_done (by kernel_rfl) ?_ _
          refine NoPanic.normal ?_
          go_wp2_with fail
          go_meet
          exact ⟨ga, gb, rfl, rfl, HX1.out, HRwd.out, HF.out.trans HFwd.out (fun _ _ h => h)⟩
        case rest =>
        obtain ⟨ga, gb, rfl, rfl, hx2, hy2, hf2⟩ := hcut
        rename World => w2
        obtain ⟨c0, c1, c2, c3, c4, c5, c6, c7, c8, c9, c10, c11, c12⟩ := hx2.cells
        obtain ⟨d0, d1, d2, d3, d4, d5, d6, d7, d8, d9, d10, d11, d12⟩ := hy2.cells
        rw [HLP.out] at c12
        rw [HLPY.out] at d12
        have HX2 := Lib.hid hx2
        have HY2 := Lib.hid hy2
        have HF2 := Lib.hid hf2
        clear hx2 hy2 hf2
        cases b1 with
        | false =>
          have HRF : Hid (r = false) := Lib.hid (HB.out (by rw [HEQ.out]; simp))
          go_wp2_with fail
          go_ret
          exact ⟨by rw [HRF.out]; rfl, HF2.out⟩
        | true =>
          cases b2 with
          | false =>
            have HRF : Hid (r = false) := Lib.hid (HB.out (by rw [HEQ.out]; simp))
            go_wp2_with fail
            go_ret
            exact ⟨by rw [HRF.out]; rfl, HF2.out⟩
          | true =>
            cases b3 with
            | false =>
              have HRF : Hid (r = false) := Lib.hid (HB.out (by rw [HEQ.out]; simp))
              go_wp2_with fail
              go_ret
              exact ⟨by rw [HRF.out]; rfl, HF2.out⟩
            | true =>
              cases b4 with
              | false =>
                have HRF : Hid (r = false) := Lib.hid (HB.out (by rw [HEQ.out]; simp))
                go_wp2_with fail
                go_ret
                exact ⟨by rw [HRF.out]; rfl, HF2.out⟩
              | true =>
                cases b5 with
                | false =>
                  have HRF : Hid (r = false) := Lib.hid (HB.out (by rw [HEQ.out]; simp))
                  go_wp2_with fail
                  go_ret
                  exact ⟨by rw [HRF.out]; rfl, HF2.out⟩
                | true =>
                  cases b6 with
                  | false =>
                    have HRF : Hid (r = false) := Lib.hid (HB.out (by rw [HEQ.out]; simp))
                    go_wp2_with fail
                    go_ret
                    exact ⟨by rw [HRF.out]; rfl, HF2.out⟩
                  | true =>
                    cases b7 with
                    | false =>
                      have HRF : Hid (r = false) := Lib.hid (HB.out (by rw [HEQ.out]; simp))
                      go_wp2_with fail
                      go_ret
                      exact ⟨by rw [HRF.out]; rfl, HF2.out⟩
                    | true =>
                      by_cases h8 : lp = lq
                      · subst h8
                        have t8 : ((lp : Int) != (lp : Int)) = false := by simp
                        have HNX2 := Lib.hid (HNX.out rfl rfl rfl rfl rfl rfl rfl)
                        clear HNX
                        obtain ⟨Ax, hAx⟩ : ∃ A0, x.A = A0 := ⟨_, rfl⟩
                        obtain ⟨Ay, hAy⟩ : ∃ A0, y.A = A0 := ⟨_, rfl⟩
                        rw [hAx] at c12
                        rw [hAy] at d12
                        have HAx := Lib.hid hAx
                        have HAy := Lib.hid hAy
                        clear hAx hAy
                        go_wp2_with fail
                        clear q1a q1b q4a q4b q7a q7b t2 t6 c0 c1 c2 c3 c4 c5 c6 c7 c8 c9 c10 c11 c12 d0 d1 d2 d3 d4 d5 d6 d7 d8 d9 d10 d11 d12
                        go_loopw [8] (fun v wq => ∃ j : Nat, j ≤ lp ∧ v = .int .i64 (j : Int) ∧ Hid (x.o.pr.take j = y.o.pr.take j) ∧ Hid (RowO wq ga x) ∧ Hid (RowO wq gb y) ∧ Hid (Fr (fun _ => False) w wq)) (fun v _ => lp - (intOf v).toNat)
                        case atStart => exact ⟨0, Nat.zero_le _, rfl, (by simp : x.o.pr.take 0 = y.o.pr.take 0), HX2, HY2, HF2⟩
                        case round =>
                          obtain ⟨j, hj, rfl, HE2, HX3, HY3, HF3⟩ := hrel
                          rename World => wq
                          obtain ⟨c0, c1, c2, c3, c4, c5, c6, c7, c8, c9, c10, c11, c12⟩ := HX3.out.cells
                          obtain ⟨d0, d1, d2, d3, d4, d5, d6, d7, d8, d9, d10, d11, d12⟩ := HY3.out.cells
                          rw [HLP.out, HAx.out] at c12
                          rw [HLPY.out, HAy.out] at d12
                          by_cases hlt2 : j < lp
                          · obtain ⟨u, hu⟩ : ∃ u, x.o.pr[j]? = some u := ⟨_, List.getElem?_eq_getElem (by have := HLP.out; omega)⟩
                            obtain ⟨v, hv⟩ : ∃ u, y.o.pr[j]? = some u := ⟨_, List.getElem?_eq_getElem (by have := HLPY.out; omega)⟩
                            obtain ⟨gu, ou, hau, _, m0, m1⟩ := (HPX.out.fr0 HF3.out).1.2 j u hu
                            obtain ⟨gv, ov, hav, _, n0, n1⟩ := (HPY.out.fr0 HF3.out).1.2 j v hv
                            simp only [ncc, nac] at m0 m1 n0 n1
                            have hau2 := HAx.out.symm.trans hau
                            have hav2 := HAy.out.symm.trans hav
                            subst hau2 hav2
                            obtain ⟨q1, q2⟩ := n_neq u v
                            obtain ⟨q, hq⟩ : ∃ q, eqN u v = q := ⟨_, rfl⟩
                            rw [hq] at q2
                            have HQ := Lib.hid hq
                            have HU := Lib.hid hu
                            have HV := Lib.hid hv
                            clear hu hv hau hav hq
                            cases q with
                            | true =>
                              have HN2 : Hid (x.o.pr.take (j + 1) = y.o.pr.take (j + 1)) := Lib.hid (by rw [List.take_add_one, List.take_add_one, HE2.out, HU.out, HV.out, (eqN_iff u v).1 HQ.out])
                              go_wp2_with fail
                              go_quiet (fail)
                              have HF4 := Lib.hid (HF3.out.drewN nq)
                              have HX4 : Hid (RowO (wq.drewN nq) ga x) := Lib.hid HX3.out
                              have HY4 : Hid (RowO (wq.drewN nq) gb y) := Lib.hid HY3.out
                              clear m0 m1 n0 n1 q1 q2 c0 c1 c2 c3 c4 c5 c6 c7 c8 c9 c10 c11 c12 d0 d1 d2 d3 d4 d5 d6 d7 d8 d9 d10 d11 d12
                              go_wp2_with fail
                              exact ⟨⟨j + 1, by omega, by go_num, HN2, HX4, HY4, HF4⟩, by simp [intOf]; omega⟩
                            | false =>
                              have HRF : Hid (r = false) := Lib.hid (HBAD.out (fun e => by
                                have h1 := HU.out
                                rw [e, HV.out] at h1
                                injection h1 with h1
                                have h2 := HQ.out
                                rw [← h1, eqN_self] at h2
                                cases h2))
                              go_wp2_with fail
                              go_quiet (fail)
                              have HF4 := Lib.hid (HF3.out.drewN nq)
                              clear m0 m1 n0 n1 q1 q2 c0 c1 c2 c3 c4 c5 c6 c7 c8 c9 c10 c11 c12 d0 d1 d2 d3 d4 d5 d6 d7 d8 d9 d10 d11 d12
                              go_wp2_with fail
                              go_ret
                              exact ⟨by rw [HRF.out]; rfl, HF4.out⟩
                          · obtain rfl : j = lp := by omega
                            have HN2 : Hid ((L.take (k + 1)).map Om.o = (M.take (k + 1)).map Om.o) := Lib.hid (HNX2.out (by
                              have h := HE2.out
                              rwa [List.take_of_length_le (by have := HLP.out; omega), List.take_of_length_le (by have := HLPY.out; omega)] at h))
                            go_wp2_with fail
                            exact ⟨⟨k + 1, by omega, by go_num, HN2, HF3⟩, by simp [intOf]; omega⟩
                      · have t8 : ((lp : Int) != (lq : Int)) = true := by simp; omega
                        have HRF : Hid (r = false) := Lib.hid (HBAD.out (fun e => h8 (by rw [← HLP.out, ← HLPY.out, e])))
                        clear h8
                        go_wp2_with fail
                        go_ret
                        exact ⟨by rw [HRF.out]; rfl, HF2.out⟩
      · obtain rfl : k = n := by omega
        have HX2 : Hid (r = true) := Lib.hid (HR.out.2 (by
          have h := HE.out
          rwa [List.take_of_length_le (by have := HLN.out; omega), List.take_of_length_le (by have := HMN.out; omega)] at h))
        go_wp2_with fail
        go_ret
        exact ⟨by rw [HX2.out]; rfl, HF.out⟩
  · have t0 : ((n : Int) != (n' : Int)) = true := by simp; omega
    have HX2 : Hid (r = false) := Lib.hid (by
      cases r with
      | false => rfl
      | true =>
        have e := congrArg List.length (HR.out.1 rfl)
        rw [List.length_map, List.length_map, HLN.out, HMN.out] at e
        omega)
    clear hnn
    go_enter Try.func45, Try.ntmps45
    go_wp2_with fail
    go_ret
    exact ⟨by rw [HX2.out]; rfl, Fr.refl _ _⟩
end Go.Proofs.Ytbnkahjmeobblaa
namespace Go.Proofs.Ytbnkahjmeobblaa
open Go.RowKit Mem Go.Lib LebM UtfM AcM OpM HeM
attribute [local go_sem ↓] Go.wp_at_zero Go.wp_at_succ
set_option linter.unusedVariables false

/-- a change that is an argument: what is known of it -/
structure ChOk (w : World) (ch : Ch) (A : Option Addr) (A6 : Option Addr) (n6 : Nat) (L : List Om) : Prop where
  hd : Hsh w A ch.d.length ch.d
  hL : Ops w A6 n6 L
  la : ch.a.length ≤ 9223372036854775807
  lm : ch.m.length ≤ 9223372036854775807
  ld : ch.d.length ≤ 9223372036854775807
  ln : n6 ≤ 9223372036854775807
  lens : ∀ x ∈ L, x.lens
  t0 : -9223372036854775808 ≤ ch.t
  t1 : ch.t < 9223372036854775808
def fewH (ch : Ch) (n6 : Nat) (L : List Om) : Bool := decide (ch.a.length ≤ 100) && (decide (ch.m.length ≤ 2000) && (decide (ch.d.length ≤ 40) && (decide (n6 ≤ 30) && fewB L)))
set_option maxRecDepth 100000 in
set_option maxHeartbeats 6400000 in
theorem rFew20_any (ch : Ch) (A : Option Addr) (k : Nat) (A6 : Option Addr) (n6 k6 : Nat) (L : List Om) (w : World) (h : ChOk w ch A A6 n6 L) :
    Calls Try.prog 9 #[chc ch A k A6 n6 k6, .int .i64 30] w fun e w' => e = .returned (.bool (fewH ch n6 L)) ∧ Fr (fun _ => False) w w' := by
  obtain ⟨hd, hL, la, lm, ld, ln, lens, _, _⟩ := h
  have hfw := fun w' (hf : Fr (fun _ => False) w w') => rfew_any A6 n6 k6 L 30 w' (hL.fr hf) ln (by omega) lens
  obtain ⟨bf, hbf⟩ : ∃ b, (decide (n6 ≤ 30) && fewB L) = b := ⟨_, rfl⟩
  simp only [hbf] at hfw
  have hfw2 : ∀ w' (hf : Fr (fun _ => False) w w'), Calls Try.prog 20 #[.slice A6 n6 k6, .int .i64 30] w' fun e w'' => e = .returned (.bool bf) ∧ w' = w'' := hfw
  obtain ⟨a, q, s, t, m, d⟩ := ch
  simp only at la lm ld
  unfold fewH chc
  simp only
  rw [hbf]
  have hsa := txt_sz a
  have hsm := txt_sz m
  obtain ⟨na, hna⟩ : ∃ n, a.length = n := ⟨_, rfl⟩
  obtain ⟨nm, hnm⟩ : ∃ n, m.length = n := ⟨_, rfl⟩
  obtain ⟨nd, hnd⟩ : ∃ n, d.length = n := ⟨_, rfl⟩
  rw [hna] at hsa la ⊢
  rw [hnm] at hsm lm ⊢
  rw [hnd] at ld ⊢
  obtain ⟨ba, hba⟩ : ∃ b, decide (na ≤ 100) = b := ⟨_, rfl⟩
  obtain ⟨bm, hbm⟩ : ∃ b, decide (nm ≤ 2000) = b := ⟨_, rfl⟩
  obtain ⟨bd, hbd⟩ : ∃ b, decide (nd ≤ 40) = b := ⟨_, rfl⟩
  rw [hba, hbm, hbd]
  have ta : decide ((na : Int) ≤ 100) = ba := by rw [← hba]; exact decide_eq_decide.2 (by omega)
  have tm : decide ((nm : Int) ≤ 2000) = bm := by rw [← hbm]; exact decide_eq_decide.2 (by omega)
  have td : decide ((nd : Int) ≤ 40) = bd := by rw [← hbd]; exact decide_eq_decide.2 (by omega)
  obtain ⟨g, hg⟩ : ∃ g, w.heap.size = g := ⟨_, rfl⟩
  obtain ⟨w1, hw1⟩ : ∃ w1, w.alloc (.cells [.string (txt a), .int .i64 q, .int .i64 s, .int .i64 t, .string (txt m), .slice A nd k, .slice A6 n6 k6].toArray 25) = w1 := ⟨_, rfl⟩
  have hr1 : Row w1 g 25 [.string (txt a), .int .i64 q, .int .i64 s, .int .i64 t, .string (txt m), .slice A nd k, .slice A6 n6 k6] := by rw [← hw1, ← hg]; exact Row.new _ _ _
  have HF1 : Hid (Fr (fun _ => False) w w1) := Lib.hid (by rw [← hw1]; exact (Fr.refl _ _).alloc _)
  have b0 : w1.cell? ⟨g, 0, none⟩ = some (.string (txt a)) := Row.cell hr1 rfl
  have b4 : w1.cell? ⟨g, 4, none⟩ = some (.string (txt m)) := Row.cell hr1 rfl
  have b5 : w1.cell? ⟨g, 5, none⟩ = some (.slice A nd k) := Row.cell hr1 rfl
  have b6 : w1.cell? ⟨g, 6, none⟩ = some (.slice A6 n6 k6) := Row.cell hr1 rfl
  have HFW := Lib.hid hfw2
  clear hfw hfw2 hbf hd hL lens ln hna hnm hnd hr1
  cases ba with
  | false =>
    go_enter Try.func9, Try.ntmps9
    go_wp2_with fail
    go_ret
    exact ⟨rfl, HF1.out⟩
  | true =>
    cases bm with
    | false =>
      go_enter Try.func9, Try.ntmps9
      go_wp2_with fail
      go_ret
      exact ⟨rfl, HF1.out⟩
    | true =>
      cases bd with
      | false =>
        go_enter Try.func9, Try.ntmps9
        go_wp2_with fail
        go_ret
        exact ⟨rfl, HF1.out⟩
      | true =>
        go_enter Try.func9, Try.ntmps9
        go_wp2_with fail
        refine (HFW.out _ HF1.out).mono ?_
        rintro e w2 ⟨rfl, rfl⟩
        go_wp2_with fail
        go_ret
        exact ⟨rfl, HF1.out⟩
/-- are all of whom ops speak actors? -/
def spokenB (L : List Om) : Bool := (namesM L).all (fun y => actorB y.a)
set_option maxRecDepth 100000 in
set_option maxHeartbeats 6400000 in
theorem spoken_any (ch : Ch) (A : Option Addr) (k : Nat) (A6 : Option Addr) (n6 k6 : Nat) (L : List Om) (w : World) (hL : Ops w A6 n6 L) (hn : n6 ≤ 1000) (hok : ∀ x ∈ L, x.o.pr.length ≤ 1000) (hlen : ∀ y ∈ namesM L, y.a.length ≤ 1000000) (hnl : (namesM L).length ≤ 10000000) :
    Calls Try.prog 12 #[chc ch A k A6 n6 k6] w fun e w' => e = .returned (.bool (spokenB L)) ∧ Fr (fun _ => False) w w' := by
  have hnm := fun w' (hf : Fr (fun _ => False) w w') => rnames_any A6 n6 k6 L w' (hL.fr hf) hn hok
  obtain ⟨N, hN⟩ : ∃ N, namesM L = N := ⟨_, rfl⟩
  unfold spokenB
  rw [hN] at hlen hnl ⊢
  simp only [hN] at hnm
  obtain ⟨a, q, s, t, m, d⟩ := ch
  unfold chc
  simp only
  obtain ⟨nn, hnn⟩ : ∃ n, N.length = n := ⟨_, rfl⟩
  obtain ⟨r, hr⟩ : ∃ r, N.all (fun y => actorB y.a) = r := ⟨_, rfl⟩
  rw [hr]
  rw [hnn] at hnl
  simp only [hnn] at hnm
  obtain ⟨g, hg⟩ : ∃ g, w.heap.size = g := ⟨_, rfl⟩
  obtain ⟨w1, hw1⟩ : ∃ w1, w.alloc (.cells [.string (txt a), .int .i64 q, .int .i64 s, .int .i64 t, .string (txt m), .slice A d.length k, .slice A6 n6 k6].toArray 25) = w1 := ⟨_, rfl⟩
  have hr1 : Row w1 g 25 [.string (txt a), .int .i64 q, .int .i64 s, .int .i64 t, .string (txt m), .slice A d.length k, .slice A6 n6 k6] := by rw [← hw1, ← hg]; exact Row.new _ _ _
  have HF1 : Hid (Fr (fun _ => False) w w1) := Lib.hid (by rw [← hw1]; exact (Fr.refl _ _).alloc _)
  have b6 : w1.cell? ⟨g, 6, none⟩ = some (.slice A6 n6 k6) := Row.cell hr1 rfl
  have HNM := Lib.hid hnm
  have HNN := Lib.hid hnn
  have HRR := Lib.hid hr
  have HLEN := Lib.hid hlen
  have hnl2 : nn ≤ 10000000 := hnl
  clear hnm hL hok hN hlen hr1 hr hnn hnl
  go_enter Try.func12, Try.ntmps12
  go_wp2_with fail
  refine (HNM.out _ HF1.out).mono ?_
  rintro e w2 ⟨A2, c2, rfl, ho2, hf2⟩
  have HP2 : Hid (Nms w2 A2 nn N) := Lib.hid (by have h := ho2.prs; rwa [HNN.out] at h)
  have HF2 := Lib.hid (HF1.out.trans hf2 (fun _ _ h => h))
  clear ho2 hf2 b6 hw1 hg
  go_wp2_with fail
  go_loopw [4] (fun v wr => ∃ i : Nat, i ≤ nn ∧ v = .int .i64 (i : Int) ∧ Hid (∀ y ∈ N.take i, actorB y.a = true) ∧ wr = w2) (fun v _ => nn - (intOf v).toNat)
  case atStart => exact ⟨0, Nat.zero_le _, rfl, Lib.hid (fun y hy => by simp at hy), rfl⟩
  case round =>
    obtain ⟨i, hi, rfl, HE, rfl⟩ := hrel
    by_cases hlt : i < nn
    · have t1 : decide ((i : Int) < (nn : Int)) = true := decide_eq_true (by omega)
      obtain ⟨y, hy⟩ : ∃ y, N[i]? = some y := ⟨_, List.getElem?_eq_getElem (by have := HNN.out; omega)⟩
      obtain ⟨gg, oo, rfl, _, h1, h2⟩ := HP2.out.2 i y hy
      have hac := fun w => ractor_any y.a w (by have := HLEN.out y (List.mem_of_getElem? hy); omega)
      obtain ⟨b, hb⟩ : ∃ b, actorB y.a = b := ⟨_, rfl⟩
      rw [hb] at hac
      have h2' : wr.cell? ⟨gg, oo + i * 2 + 1, none⟩ = some (.string (txt y.a)) := h2
      have HY := Lib.hid hy
      have HBB := Lib.hid hb
      have HAC := Lib.hid hac
      have hlt' : (i : Int) < (nn : Int) := by omega
      clear hac hy hb h1 h2
      go_wp2_with fail
      refine (HAC.out _).mono ?_
      rintro e w3 ⟨rfl, rfl⟩
      cases b with
      | true =>
        go_wp2_with fail
        exact ⟨⟨i + 1, by omega, rfl, Lib.hid (fun z hz => by
          rw [List.take_add_one, HY.out] at hz
          rcases List.mem_append.1 hz with h | h
          · exact HE.out z h
          · simp at h; rw [h]; exact HBB.out), by first | rfl | trivial⟩, by show nn - ((i : Int) + 1).toNat < nn - (i : Int).toNat; omega⟩
      | false =>
        have HV : Hid (r = false) := Lib.hid (by
          rw [← HRR.out]
          cases hq : N.all (fun y => actorB y.a)
          · rfl
          · have h := List.all_eq_true.1 hq y (List.mem_of_getElem? HY.out)
            rw [HBB.out] at h
            cases h)
        have hvt := HV.out
        subst hvt
        go_wp2_with fail
        go_ret
        exact ⟨rfl, HF2.out⟩
    · have t1 : decide ((i : Int) < (nn : Int)) = false := decide_eq_false (by omega)
      have HV : Hid (r = true) := Lib.hid (by
        rw [← HRR.out, List.all_eq_true]
        intro y hy
        exact HE.out y (by rw [List.take_of_length_le (by have := HNN.out; omega)]; exact hy))
      have hvt := HV.out
      subst hvt
      go_wp2_with fail
      go_ret
      exact ⟨rfl, HF2.out⟩
set_option maxRecDepth 100000 in
set_option maxHeartbeats 6400000 in
theorem rSame20_any (ch : Ch) (A : Option Addr) (k : Nat) (A' : Option Addr) (k' : Nat) (w : World) (hd : Hsh w A ch.d.length ch.d) (hd' : Hsh w A' ch.d.length ch.d) (hdl : ch.d.length ≤ 1000000) :
    Calls Try.prog 17 #[chc ch A k none 0 0, chc ch A' k' none 0 0] w fun e w' => e = .returned (.bool true) ∧ Fr (fun _ => False) w w' := by
  obtain ⟨a, q, s, t, m, d⟩ := ch
  simp only at hd hd' hdl
  unfold chc
  simp only
  have hsame := fun w' => rsameO_any none 0 0 [] none 0 0 [] w' (Ops.nil _ _) (Ops.nil _ _) (by omega) (by omega) (fun x hx => by cases hx) (fun x hx => by cases hx) true (by simp)
  obtain ⟨nd, hnd⟩ : ∃ n, d.length = n := ⟨_, rfl⟩
  rw [hnd] at hd hd' hdl ⊢
  obtain ⟨g, hg⟩ : ∃ g, w.heap.size = g := ⟨_, rfl⟩
  obtain ⟨w1, hw1⟩ : ∃ w1, w.alloc (.cells [.string (txt a), .int .i64 q, .int .i64 s, .int .i64 t, .string (txt m), .slice A nd k, .slice none 0 0].toArray 25) = w1 := ⟨_, rfl⟩
  obtain ⟨g2, hg2⟩ : ∃ g, w1.heap.size = g := ⟨_, rfl⟩
  obtain ⟨w2, hw2⟩ : ∃ w2, w1.alloc (.cells [.string (txt a), .int .i64 q, .int .i64 s, .int .i64 t, .string (txt m), .slice A' nd k', .slice none 0 0].toArray 25) = w2 := ⟨_, rfl⟩
  have HR1 : Hid (Row w2 g 25 [.string (txt a), .int .i64 q, .int .i64 s, .int .i64 t, .string (txt m), .slice A nd k, .slice none 0 0]) := Lib.hid (by rw [← hw2]; refine Row.alloc ?_ _; rw [← hw1, ← hg]; exact Row.new _ _ _)
  have HR2 : Hid (Row w2 g2 25 [.string (txt a), .int .i64 q, .int .i64 s, .int .i64 t, .string (txt m), .slice A' nd k', .slice none 0 0]) := Lib.hid (by rw [← hw2, ← hg2]; exact Row.new _ _ _)
  have HF : Hid (Fr (fun _ => False) w w2) := Lib.hid (by rw [← hw2, ← hw1]; exact ((Fr.refl _ _).alloc _).alloc _)
  have HBX : Hid (∀ w', Fr (fun _ => False) w2 w' → w'.cell? ⟨g, 5, none⟩ = some (.slice A nd k) ∧ w'.cell? ⟨g, 6, none⟩ = some (.slice none 0 0) ∧ w'.cell? ⟨g2, 5, none⟩ = some (.slice A' nd k') ∧ w'.cell? ⟨g2, 6, none⟩ = some (.slice none 0 0)) :=
    Lib.hid (fun w' hf => ⟨(HR1.out.fr hf (fun h => h)).cell rfl, (HR1.out.fr hf (fun h => h)).cell rfl, (HR2.out.fr hf (fun h => h)).cell rfl, (HR2.out.fr hf (fun h => h)).cell rfl⟩)
  have HSA := Lib.hid hsame
  have HL := Lib.hid hd
  have HL' := Lib.hid hd'
  have HLN := Lib.hid hd.1
  have b0 : w2.cell? ⟨g, 0, none⟩ = some (.string (txt a)) := Row.cell HR1.out rfl
  have b1 : w2.cell? ⟨g, 1, none⟩ = some (.int .i64 q) := Row.cell HR1.out rfl
  have b2 : w2.cell? ⟨g, 2, none⟩ = some (.int .i64 s) := Row.cell HR1.out rfl
  have b3 : w2.cell? ⟨g, 3, none⟩ = some (.int .i64 t) := Row.cell HR1.out rfl
  have b4 : w2.cell? ⟨g, 4, none⟩ = some (.string (txt m)) := Row.cell HR1.out rfl
  have b5 : w2.cell? ⟨g, 5, none⟩ = some (.slice A nd k) := Row.cell HR1.out rfl
  have d0 : w2.cell? ⟨g2, 0, none⟩ = some (.string (txt a)) := Row.cell HR2.out rfl
  have d1 : w2.cell? ⟨g2, 1, none⟩ = some (.int .i64 q) := Row.cell HR2.out rfl
  have d2 : w2.cell? ⟨g2, 2, none⟩ = some (.int .i64 s) := Row.cell HR2.out rfl
  have d3 : w2.cell? ⟨g2, 3, none⟩ = some (.int .i64 t) := Row.cell HR2.out rfl
  have d4 : w2.cell? ⟨g2, 4, none⟩ = some (.string (txt m)) := Row.cell HR2.out rfl
  have d5 : w2.cell? ⟨g2, 5, none⟩ = some (.slice A' nd k') := Row.cell HR2.out rfl
  clear hsame hd hd' hnd
  go_enter Try.func17, Try.ntmps17
  go_wp2_with fail
  clear hw1 hw2 hg hg2 b0 b1 b2 b3 b4 d0 d1 d2 d3 d4
  go_loopw [5] (fun v wr => ∃ i : Nat, i ≤ nd ∧ v = .int .i64 (i : Int) ∧ Hid (Fr (fun _ => False) w2 wr)) (fun v _ => nd - (intOf v).toNat)
  case atStart => exact ⟨0, Nat.zero_le _, rfl, Lib.hid (Fr.refl _ _)⟩
  case round =>
    obtain ⟨i, hi, rfl, HFr⟩ := hrel
    rename World => wr
    have HB : Hid (∀ w', Fr (fun _ => False) wr w' → w'.cell? ⟨g, 5, none⟩ = some (.slice A nd k) ∧ w'.cell? ⟨g, 6, none⟩ = some (.slice none 0 0) ∧ w'.cell? ⟨g2, 5, none⟩ = some (.slice A' nd k') ∧ w'.cell? ⟨g2, 6, none⟩ = some (.slice none 0 0)) := Lib.hid (fun w' hf => HBX.out _ (HFr.out.trans hf (fun _ _ h => h)))
    obtain ⟨k5, k6, k7, k8⟩ := HB.out _ (Fr.refl _ _)
    by_cases hlt : i < nd
    · have t1 : decide ((i : Int) < (nd : Int)) = true := decide_eq_true (by omega)
      obtain ⟨x, hx⟩ : ∃ x, d[i]? = some x := ⟨_, List.getElem?_eq_getElem (by have := HLN.out; omega)⟩
      have hLr := HL.out.fr (HF.out.trans HFr.out (fun _ _ h => h))
      have hLr' := HL'.out.fr (HF.out.trans HFr.out (fun _ _ h => h))
      obtain ⟨gg, oo, rfl, _, hrx⟩ := hLr.2.2 i x hx
      obtain ⟨g', o', rfl, _, hry⟩ := hLr'.2.2 i x hx
      have hx32 := HL.out.2.1 x (List.mem_of_getElem? hx)
      obtain ⟨q1, q2⟩ := h_neq hx32 hx32
      have q3 : (!(x == x)) = false := by simp
      rw [q3] at q2
      obtain ⟨CX, hCX⟩ : ∃ C, (x.map bytec).toArray = C := ⟨_, rfl⟩
      rw [hCX] at q1 q2
      have HRX : Hid (∀ w', Fr (fun _ => False) wr w' → w'.rangeAt gg (oo + i * 32) (x.map bytec)) := Lib.hid (fun w' hf => range_fr hrx hf (fun h => h))
      have HRY : Hid (∀ w', Fr (fun _ => False) wr w' → w'.rangeAt g' (o' + i * 32) (x.map bytec)) := Lib.hid (fun w' hf => range_fr hry hf (fun h => h))
      have HCX := Lib.hid hCX
      have HX32 := Lib.hid hx32
      have hik' : (i : Int) < (nd : Int) := by omega
      clear hCX hx32 hrx hry hLr hLr' hx q3
      go_upto_region 6 with fail
      refine wp_region_held_drew (S := fun w' => Fr (fun _ => False) wr w') (by kernel_rfl) (Fr.refl _ _).drew (fun hH => ?_)
      refine tk 0 hH ?_
      refine tk 1 hH ?_ (hy := by intro w hSw; (try dsimp only at hSw); obtain ⟨kk5, kk6, kk7, kk8⟩ := HB.out w hSw; go_simp; try (with_reducible rfl))
      refine tk 2 hH ?_
      refine tk 3 hH ?_
      refine tk 4 (v := .agg CX) hH ?_ (hy := fun w hSw => exec_load_h (.tmp 58) rfl gg (oo + i * 32) rfl x HX32.out CX HCX.out (HRX.out w hSw))
      refine tk 5 hH ?_
      refine tk 6 hH ?_ (hy := by intro w hSw; (try dsimp only at hSw); obtain ⟨kk5, kk6, kk7, kk8⟩ := HB.out w hSw; go_simp; try (with_reducible rfl))
      refine tk 7 hH ?_
      refine tk 8 hH ?_
      refine tk 9 (v := .agg CX) hH ?_ (hy := fun w hSw => exec_load_h (.tmp 63) rfl g' (o' + i * 32) rfl x HX32.out CX HCX.out (HRY.out w hSw))
      refine tk 10 hH ?_
      refine wpAnyH_done (by kernel_rfl) ?_ _
      go_wp2_with fail
      exact ⟨⟨i + 1, by omega, rfl, Lib.hid HFr.out.drew⟩, by show nd - ((i : Int) + 1).toNat < nd - (i : Int).toNat; omega⟩
    · have t1 : decide ((i : Int) < (nd : Int)) = false := decide_eq_false (by omega)
      go_wp2_with fail
      refine (HSA.out _).mono ?_
      rintro e w3 ⟨rfl, hf3⟩
      have HF3 := Lib.hid ((HF.out.trans HFr.out (fun _ _ h => h)).trans hf3 (fun _ _ h => h))
      clear hf3 k5 k6 k7 k8
      go_wp2_with fail
      go_ret
      exact ⟨rfl, HF3.out⟩
end Go.Proofs.Ytbnkahjmeobblaa
