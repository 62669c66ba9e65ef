/-
  Layer 17, the reference: Same (written by gen_rsame.py).
-/
import Derived.Test.YtbnkahjmeobblaaZm13
import Derived.Test.YtbnkahjmeobblaaZm27
import Derived.Test.YtbnkahjmeobblaaZm11
import Derived.BigQuiet
namespace Go.Proofs.Ytbnkahjmeobblaa
open Go.RowKit Mem Go.Lib LebM UtfM VaM OpM
attribute [local go_sem ↓] Go.wp_at_zero Go.wp_at_succ
set_option linter.unusedVariables false

set_option maxRecDepth 100000 in
set_option maxHeartbeats 12800000 in
theorem rsameO_any (A : Option Addr) (n c : Nat) (L : List Om) (A' : Option Addr) (n' c' : Nat) (M : List Om) (w : World) (hL : Ops w A n L) (hM : Ops w A' n' M) (hn : n ≤ 1000000) (hn' : n' ≤ 1000000) (hpl : ∀ x ∈ L, x.o.pr.length ≤ 1000000) (hpm : ∀ x ∈ M, x.o.pr.length ≤ 1000000) (r : Bool) (hr : r = true ↔ L.map Om.o = M.map Om.o) :
    Calls Try.prog 45 #[.slice A n c, .slice A' n' c'] w fun e w' => e = .returned (.bool r) ∧ Fr (fun _ => False) w w' := by
  have HR := Lib.hid hr
  have HL := Lib.hid hL
  have HM := Lib.hid hM
  have HLN := Lib.hid hL.len
  have HMN := Lib.hid hM.len
  have HPL := Lib.hid hpl
  have HPM := Lib.hid hpm
  clear hL hM hr hpl hpm
  by_cases hnn : n = n'
  · subst hnn
    have t0 : ((n : Int) != (n : Int)) = false := by simp
    go_enter Try.func45, Try.ntmps45
    go_wp2_with fail
    go_loopw [5] (fun v wr => ∃ k : Nat, k ≤ n ∧ v = .int .i64 (k : Int) ∧ Hid ((L.take k).map Om.o = (M.take k).map Om.o) ∧ Hid (Fr (fun _ => False) w wr)) (fun v _ => n - (intOf v).toNat)
    case atStart => exact ⟨0, Nat.zero_le _, rfl, (rfl : (L.take 0).map Om.o = (M.take 0).map Om.o), Fr.refl _ _⟩
    case round =>
      obtain ⟨k, hk, rfl, HE, HF⟩ := hrel
      rename World => wr
      by_cases hlt : k < n
      · obtain ⟨x, hx⟩ : ∃ x, L[k]? = some x := ⟨_, List.getElem?_eq_getElem (by have := HLN.out; omega)⟩
        obtain ⟨y, hy⟩ : ∃ y, M[k]? = some y := ⟨_, List.getElem?_eq_getElem (by have := HMN.out; omega)⟩
        obtain ⟨gl, ol, rfl, _, hax⟩ := HL.out.1.2 k x hx
        obtain ⟨gk, om, rfl, _, hay⟩ := HM.out.1.2 k y hy
        have HAX : Hid (∀ w', Fr (fun _ => False) wr w' → Oat w' gl (ol + k * 13) x) := Lib.hid (fun w' hf => hax.fr (HF.out.trans hf (fun _ _ h => h)) (fun h => h))
        have HAY : Hid (∀ w', Fr (fun _ => False) wr w' → Oat w' gk (om + k * 13) y) := Lib.hid (fun w' hf => hay.fr (HF.out.trans hf (fun _ _ h => h)) (fun h => h))
        have HPX := Lib.hid (HL.out.2 x (List.mem_of_getElem? hx))
        have HPY := Lib.hid (HM.out.2 y (List.mem_of_getElem? hy))
        obtain ⟨lp, hlp⟩ : ∃ l, x.o.pr.length = l := ⟨_, rfl⟩
        obtain ⟨lq, hlq⟩ : ∃ l, y.o.pr.length = l := ⟨_, rfl⟩
        have hbx := HPL.out x (List.mem_of_getElem? hx)
        have hby := HPM.out y (List.mem_of_getElem? hy)
        rw [hlp] at hbx
        rw [hlq] at hby
        have HLP := Lib.hid hlp
        have HLPY := Lib.hid hlq
        have HX := Lib.hid hx
        have HY := Lib.hid hy
        have HB : Hid (eqO x.o y.o = false → r = false) := Lib.hid (fun h => by
          cases r with
          | false => rfl
          | true =>
            have e := HR.out.1 rfl
            have h1 : (L.map Om.o)[k]? = some x.o := by rw [List.getElem?_map, HX.out]; rfl
            have h2 : (M.map Om.o)[k]? = some y.o := by rw [List.getElem?_map, HY.out]; rfl
            rw [e, h2] at h1
            injection h1 with h1
            rw [h1, eqO_self] at h
            cases h)
        have he : eqO x.o y.o = (eqN x.o.obj y.o.obj && decide (x.o.key = y.o.key) && (x.o.keyed == y.o.keyed) && eqN x.o.elem y.o.elem && (x.o.ins == y.o.ins) && decide (x.o.act = y.o.act) && eqV x.o.val y.o.val && eqNs x.o.pr y.o.pr) := rfl
        obtain ⟨q1a, q1b⟩ := n_neq x.o.obj y.o.obj
        obtain ⟨q4a, q4b⟩ := n_neq x.o.elem y.o.elem
        obtain ⟨q7a, q7b⟩ := v_neq x.o.val y.o.val
        have t2 := beq_txt x.o.key y.o.key
        have t6 : (x.o.act != y.o.act) = !decide (x.o.act = y.o.act) := rfl
        obtain ⟨b1, hb1⟩ : ∃ b, eqN x.o.obj y.o.obj = b := ⟨_, rfl⟩
        obtain ⟨b2, hb2⟩ : ∃ b, decide (x.o.key = y.o.key) = b := ⟨_, rfl⟩
        obtain ⟨b3, t3⟩ : ∃ b, (x.o.keyed == y.o.keyed) = b := ⟨_, rfl⟩
        obtain ⟨b4, hb4⟩ : ∃ b, eqN x.o.elem y.o.elem = b := ⟨_, rfl⟩
        obtain ⟨b5, t5⟩ : ∃ b, (x.o.ins == y.o.ins) = b := ⟨_, rfl⟩
        obtain ⟨b6, hb6⟩ : ∃ b, decide (x.o.act = y.o.act) = b := ⟨_, rfl⟩
        obtain ⟨b7, hb7⟩ : ∃ b, eqV x.o.val y.o.val = b := ⟨_, rfl⟩
        rw [hb1, hb2, t3, hb4, t5, hb6, hb7] at he
        rw [hb1] at q1b
        rw [hb2] at t2
        rw [hb4] at q4b
        rw [hb6] at t6
        rw [hb7] at q7b
        have HBAD : Hid (x.o.pr ≠ y.o.pr → r = false) := Lib.hid (fun h => HB.out (by
          cases hh : eqO x.o y.o with
          | false => rfl
          | true => exact absurd (congrArg O.pr ((eqO_iff _ _).1 hh)) h))
        have HNX : Hid (b1 = true → b2 = true → b3 = true → b4 = true → b5 = true → b6 = true → b7 = true → x.o.pr = y.o.pr → (L.take (k + 1)).map Om.o = (M.take (k + 1)).map Om.o) := Lib.hid (fun e1 e2 e3 e4 e5 e6 e7 h => by
          have : eqO x.o y.o = true := by rw [he, e1, e2, e3, e4, e5, e6, e7, (eqNs_iff _ _).2 h]; rfl
          rw [List.take_add_one, List.take_add_one, HX.out, HY.out, List.map_append, List.map_append, HE.out, Option.toList_some, Option.toList_some, List.map_cons, List.map_cons, (eqO_iff _ _).1 this])
        have HEQ := Lib.hid he
        have hlt' : (k : Int) < (n : Int) := by omega
        clear hx hy hax hay hlp hlq he hb1 hb2 hb4 hb6 hb7
        go_upto_region 6 with fail
        go_cut [6, 7] (fun a b wx => ∃ ga gb, a = .pointer (some ⟨ga, 0, none⟩) ∧ b = .pointer (some ⟨gb, 0, none⟩) ∧ RowO wx ga x ∧ RowO wx gb y ∧ Fr (fun _ => False) w wx)
        case first =>
          refine wp_region_noPanic ?_
          refine wp_region_held_drew (S := fun w' => Fr (fun _ => False) wr w') (by kernel_rfl) ?_ (fun hHeld => ?_)
          · exact (Fr.refl _ _).drew
          refine tk 0 hHeld ?_
          refine tk 1 hHeld ?_
          refine tk 2 hHeld ?_
          refine tk 3 hHeld ?_ (hy := by intro w hSw; (try dsimp only at hSw); obtain ⟨k0, k1, k2, k3, k4, k5, k6, k7, k8, k9, k10, k11, k12⟩ := HAX.out w hSw; go_simp; try (with_reducible rfl))
          refine tk 4 hHeld ?_
          refine tk 5 hHeld ?_
          refine tk 6 hHeld ?_
          refine tk 7 hHeld ?_ (hy := by intro w hSw; (try dsimp only at hSw); obtain ⟨k0, k1, k2, k3, k4, k5, k6, k7, k8, k9, k10, k11, k12⟩ := HAY.out w hSw; go_simp; try (with_reducible rfl))
          refine wpAnyH_ready (rs := [8, 9]) (by kernel_rfl) (by simp) ?_
          refine AllReadyH.cons rfl (fun Kx hKx => ?_) ?_
          · go_simp
            obtain ⟨wa, hwa⟩ : ∃ y, (wr.alloc (.cells #[.int .i64 0, .string ⟨#[]⟩, .string ⟨#[]⟩, .bool false, .int .i64 0, .string ⟨#[]⟩, .bool false, .int .i64 0, .int .i64 0, .int .u64 0, .int .i64 0, .string ⟨#[]⟩, .slice none 0 0] 50)).drew = y := ⟨_, rfl⟩
            rw [hwa]
            obtain ⟨ga, hpp⟩ : ∃ p, wr.heap.size = p := ⟨_, rfl⟩
            try rw [hpp]
            have hfa : Fr (fun _ => False) wr wa := by rw [← hwa]; exact ((Fr.refl _ _).alloc _).drew
            have hpa : RowO wa ga zeroM := by rw [← hwa, ← hpp]; exact RowO.new wr zeroM
            have HPwa := Lib.hid hpa
            have HNwa : Hid (wr.heap.size ≤ ga) := Lib.hid (by omega)
            have HFwa : Hid (Fr (fun _ => False) wr wa) := Lib.hid hfa
            clear hwa hpp hfa hpa
            refine hKx.out _ _ ?_ (fun hHeld => ?_)
            · exact HFwa.out
            clear hKx Kx
            refine rdo 9 (fun Kx hKx => ?_)
            go_simp
            obtain ⟨wb, hwa⟩ : ∃ y, (wa.alloc (.cells #[.int .i64 0, .string ⟨#[]⟩, .string ⟨#[]⟩, .bool false, .int .i64 0, .string ⟨#[]⟩, .bool false, .int .i64 0, .int .i64 0, .int .u64 0, .int .i64 0, .string ⟨#[]⟩, .slice none 0 0] 50)) = y := ⟨_, rfl⟩
            rw [hwa]
            obtain ⟨gb, hpp⟩ : ∃ p, wa.heap.size = p := ⟨_, rfl⟩
            try rw [hpp]
            have hfa : Fr (fun _ => False) wa wb := by rw [← hwa]; exact ((Fr.refl _ _).alloc _)
            have hpa : RowO wb gb zeroM := by rw [← hwa, ← hpp]; exact RowO.new wa zeroM
            have HPwb := Lib.hid hpa
            have HNwb : Hid (wa.heap.size ≤ gb) := Lib.hid (by omega)
            have HOwb := Lib.hid (HPwa.out.fr hfa (fun h => h))
            have HNE : Hid (ga ≠ gb ∧ wr.heap.size ≤ gb) := Lib.hid (by have h1 := HPwa.out.lt; have h2 := HFwa.out.size; omega)
            have HFwb : Hid (Fr (fun _ => False) wr wb) := Lib.hid (HFwa.out.trans hfa (fun _ _ h => h))
            clear hwa hpp hfa hpa
            refine hKx.out _ _ ?_ (fun hHeld => ?_)
            · exact HFwb.out
            clear hKx Kx
            (try simp only [Act.put, List.setIfInBounds_toArray, List.set_cons_zero, List.set_cons_succ, List.getElem_toArray, List.getElem_cons_zero, List.getElem_cons_succ])
            have HGE : Hid (wr.heap.size ≤ ga ∧ wr.heap.size ≤ gb ∧ ga ≠ gb) := Lib.hid (by have h1 := HNE.out; have h2 := HNwa.out; omega)
            refine rdo 10 (fun Kx hKx => ?_)
            refine step_store_whole oSz (by rfl) _ _ (by rfl) ga (by rfl) (ols x).toArray (by rfl) _ _ HOwb.out rfl rfl (o_one x) ?_
            intro wc hr8 hf8
            have HRwc : Hid (RowO wc ga x) := Lib.hid hr8
            have HY1 := Lib.hid (HPwb.out.fr hf8 (fun h => HGE.out.2.2 h.symm))
            have HFwc : Hid (Fr (fun _ => False) wr wc) := Lib.hid (HFwb.out.trans hf8 (fun b hb h => by have := HGE.out; omega))
            clear hr8 hf8
            refine hKx.out _ _ ?_ (fun hHeld => ?_)
            · exact HFwc.out
            clear hKx Kx
            refine rdo 11 (fun Kx hKx => ?_)
            refine step_store_whole oSz (by rfl) _ _ (by rfl) gb (by rfl) (ols y).toArray (by rfl) _ _ HY1.out rfl rfl (o_one y) ?_
            intro wd hr8 hf8
            have HRwd : Hid (RowO wd gb y) := Lib.hid hr8
            have HX1 := Lib.hid (HRwc.out.fr hf8 HGE.out.2.2)
            have HFwd : Hid (Fr (fun _ => False) wr wd) := Lib.hid (HFwc.out.trans hf8 (fun b hb h => by have := HGE.out; omega))
            clear hr8 hf8
            refine hKx.out _ _ ?_ (fun hHeld => ?_)
            · exact HFwd.out
            clear hKx Kx
            (try simp only [Act.put, List.getElem_toArray, List.getElem_cons_zero, List.getElem_cons_succ])
            refine wpAnyH_done (by kernel_rfl) ?_ _
            refine NoPanic.normal ?_
            go_wp2_with fail
            go_meet
            exact ⟨ga, gb, rfl, rfl, HX1.out, HRwd.out, HF.out.trans HFwd.out (fun _ _ h => h)⟩
          refine AllReadyH.cons rfl (fun Kx hKx => ?_) AllReadyH.nil
          go_simp
          obtain ⟨wa, hwa⟩ : ∃ y, (wr.alloc (.cells #[.int .i64 0, .string ⟨#[]⟩, .string ⟨#[]⟩, .bool false, .int .i64 0, .string ⟨#[]⟩, .bool false, .int .i64 0, .int .i64 0, .int .u64 0, .int .i64 0, .string ⟨#[]⟩, .slice none 0 0] 50)).drew = y := ⟨_, rfl⟩
          rw [hwa]
          obtain ⟨gb, hpp⟩ : ∃ p, wr.heap.size = p := ⟨_, rfl⟩
          try rw [hpp]
          have hfa : Fr (fun _ => False) wr wa := by rw [← hwa]; exact ((Fr.refl _ _).alloc _).drew
          have hpa : RowO wa gb zeroM := by rw [← hwa, ← hpp]; exact RowO.new wr zeroM
          have HPwa := Lib.hid hpa
          have HNwa : Hid (wr.heap.size ≤ gb) := Lib.hid (by omega)
          have HFwa : Hid (Fr (fun _ => False) wr wa) := Lib.hid hfa
          clear hwa hpp hfa hpa
          refine hKx.out _ _ ?_ (fun hHeld => ?_)
          · exact HFwa.out
          clear hKx Kx
          refine rdo 8 (fun Kx hKx => ?_)
          go_simp
          obtain ⟨wb, hwa⟩ : ∃ y, (wa.alloc (.cells #[.int .i64 0, .string ⟨#[]⟩, .string ⟨#[]⟩, .bool false, .int .i64 0, .string ⟨#[]⟩, .bool false, .int .i64 0, .int .i64 0, .int .u64 0, .int .i64 0, .string ⟨#[]⟩, .slice none 0 0] 50)) = y := ⟨_, rfl⟩
          rw [hwa]
          obtain ⟨ga, hpp⟩ : ∃ p, wa.heap.size = p := ⟨_, rfl⟩
          try rw [hpp]
          have hfa : Fr (fun _ => False) wa wb := by rw [← hwa]; exact ((Fr.refl _ _).alloc _)
          have hpa : RowO wb ga zeroM := by rw [← hwa, ← hpp]; exact RowO.new wa zeroM
          have HPwb := Lib.hid hpa
          have HNwb : Hid (wa.heap.size ≤ ga) := Lib.hid (by omega)
          have HOwb := Lib.hid (HPwa.out.fr hfa (fun h => h))
          have HNE : Hid (gb ≠ ga ∧ wr.heap.size ≤ ga) := Lib.hid (by have h1 := HPwa.out.lt; have h2 := HFwa.out.size; omega)
          have HFwb : Hid (Fr (fun _ => False) wr wb) := Lib.hid (HFwa.out.trans hfa (fun _ _ h => h))
          clear hwa hpp hfa hpa
          refine hKx.out _ _ ?_ (fun hHeld => ?_)
          · exact HFwb.out
          clear hKx Kx
          (try simp only [Act.put, List.setIfInBounds_toArray, List.set_cons_zero, List.set_cons_succ, List.getElem_toArray, List.getElem_cons_zero, List.getElem_cons_succ])
          have HGE : Hid (wr.heap.size ≤ ga ∧ wr.heap.size ≤ gb ∧ ga ≠ gb) := Lib.hid (by have h1 := HNE.out; have h2 := HNwa.out; omega)
          refine rdo 10 (fun Kx hKx => ?_)
          refine step_store_whole oSz (by rfl) _ _ (by rfl) ga (by rfl) (ols x).toArray (by rfl) _ _ HPwb.out rfl rfl (o_one x) ?_
          intro wc hr8 hf8
          have HRwc : Hid (RowO wc ga x) := Lib.hid hr8
          have HY1 := Lib.hid (HOwb.out.fr hf8 (fun h => HGE.out.2.2 h.symm))
          have HFwc : Hid (Fr (fun _ => False) wr wc) := Lib.hid (HFwb.out.trans hf8 (fun b hb h => by have := HGE.out; omega))
          clear hr8 hf8
          refine hKx.out _ _ ?_ (fun hHeld => ?_)
          · exact HFwc.out
          clear hKx Kx
          refine rdo 11 (fun Kx hKx => ?_)
          refine step_store_whole oSz (by rfl) _ _ (by rfl) gb (by rfl) (ols y).toArray (by rfl) _ _ HY1.out rfl rfl (o_one y) ?_
          intro wd hr8 hf8
          have HRwd : Hid (RowO wd gb y) := Lib.hid hr8
          have HX1 := Lib.hid (HRwc.out.fr hf8 HGE.out.2.2)
          have HFwd : Hid (Fr (fun _ => False) wr wd) := Lib.hid (HFwc.out.trans hf8 (fun b hb h => by have := HGE.out; omega))
          clear hr8 hf8
          refine hKx.out _ _ ?_ (fun hHeld => ?_)
          · exact HFwd.out
          clear hKx Kx
          (try simp only [Act.put, List.getElem_toArray, List.getElem_cons_zero, List.getElem_cons_succ])
          refine wpAnyH_done (by kernel_rfl) ?_ _
          refine NoPanic.normal ?_
          go_wp2_with fail
          go_meet
          exact ⟨ga, gb, rfl, rfl, HX1.out, HRwd.out, HF.out.trans HFwd.out (fun _ _ h => h)⟩
        case rest =>
        obtain ⟨ga, gb, rfl, rfl, hx2, hy2, hf2⟩ := hcut
        rename World => w2
        obtain ⟨c0, c1, c2, c3, c4, c5, c6, c7, c8, c9, c10, c11, c12⟩ := hx2.cells
        obtain ⟨d0, d1, d2, d3, d4, d5, d6, d7, d8, d9, d10, d11, d12⟩ := hy2.cells
        rw [HLP.out] at c12
        rw [HLPY.out] at d12
        have HX2 := Lib.hid hx2
        have HY2 := Lib.hid hy2
        have HF2 := Lib.hid hf2
        clear hx2 hy2 hf2
        cases b1 with
        | false =>
          have HRF : Hid (r = false) := Lib.hid (HB.out (by rw [HEQ.out]; simp))
          go_wp2_with fail
          go_ret
          exact ⟨by rw [HRF.out]; rfl, HF2.out⟩
        | true =>
          cases b2 with
          | false =>
            have HRF : Hid (r = false) := Lib.hid (HB.out (by rw [HEQ.out]; simp))
            go_wp2_with fail
            go_ret
            exact ⟨by rw [HRF.out]; rfl, HF2.out⟩
          | true =>
            cases b3 with
            | false =>
              have HRF : Hid (r = false) := Lib.hid (HB.out (by rw [HEQ.out]; simp))
              go_wp2_with fail
              go_ret
              exact ⟨by rw [HRF.out]; rfl, HF2.out⟩
            | true =>
              cases b4 with
              | false =>
                have HRF : Hid (r = false) := Lib.hid (HB.out (by rw [HEQ.out]; simp))
                go_wp2_with fail
                go_ret
                exact ⟨by rw [HRF.out]; rfl, HF2.out⟩
              | true =>
                cases b5 with
                | false =>
                  have HRF : Hid (r = false) := Lib.hid (HB.out (by rw [HEQ.out]; simp))
                  go_wp2_with fail
                  go_ret
                  exact ⟨by rw [HRF.out]; rfl, HF2.out⟩
                | true =>
                  cases b6 with
                  | false =>
                    have HRF : Hid (r = false) := Lib.hid (HB.out (by rw [HEQ.out]; simp))
                    go_wp2_with fail
                    go_ret
                    exact ⟨by rw [HRF.out]; rfl, HF2.out⟩
                  | true =>
                    cases b7 with
                    | false =>
                      have HRF : Hid (r = false) := Lib.hid (HB.out (by rw [HEQ.out]; simp))
                      go_wp2_with fail
                      go_ret
                      exact ⟨by rw [HRF.out]; rfl, HF2.out⟩
                    | true =>
                      by_cases h8 : lp = lq
                      · subst h8
                        have t8 : ((lp : Int) != (lp : Int)) = false := by simp
                        have HNX2 := Lib.hid (HNX.out rfl rfl rfl rfl rfl rfl rfl)
                        clear HNX
                        obtain ⟨Ax, hAx⟩ : ∃ A0, x.A = A0 := ⟨_, rfl⟩
                        obtain ⟨Ay, hAy⟩ : ∃ A0, y.A = A0 := ⟨_, rfl⟩
                        rw [hAx] at c12
                        rw [hAy] at d12
                        have HAx := Lib.hid hAx
                        have HAy := Lib.hid hAy
                        clear hAx hAy
                        go_wp2_with fail
                        clear q1a q1b q4a q4b q7a q7b t2 t6 c0 c1 c2 c3 c4 c5 c6 c7 c8 c9 c10 c11 c12 d0 d1 d2 d3 d4 d5 d6 d7 d8 d9 d10 d11 d12
                        go_loopw [8] (fun v wq => ∃ j : Nat, j ≤ lp ∧ v = .int .i64 (j : Int) ∧ Hid (x.o.pr.take j = y.o.pr.take j) ∧ Hid (RowO wq ga x) ∧ Hid (RowO wq gb y) ∧ Hid (Fr (fun _ => False) w wq)) (fun v _ => lp - (intOf v).toNat)
                        case atStart => exact ⟨0, Nat.zero_le _, rfl, (by simp : x.o.pr.take 0 = y.o.pr.take 0), HX2, HY2, HF2⟩
                        case round =>
                          obtain ⟨j, hj, rfl, HE2, HX3, HY3, HF3⟩ := hrel
                          rename World => wq
                          obtain ⟨c0, c1, c2, c3, c4, c5, c6, c7, c8, c9, c10, c11, c12⟩ := HX3.out.cells
                          obtain ⟨d0, d1, d2, d3, d4, d5, d6, d7, d8, d9, d10, d11, d12⟩ := HY3.out.cells
                          rw [HLP.out, HAx.out] at c12
                          rw [HLPY.out, HAy.out] at d12
                          by_cases hlt2 : j < lp
                          · obtain ⟨u, hu⟩ : ∃ u, x.o.pr[j]? = some u := ⟨_, List.getElem?_eq_getElem (by have := HLP.out; omega)⟩
                            obtain ⟨v, hv⟩ : ∃ u, y.o.pr[j]? = some u := ⟨_, List.getElem?_eq_getElem (by have := HLPY.out; omega)⟩
                            obtain ⟨gu, ou, hau, _, m0, m1⟩ := (HPX.out.fr0 HF3.out).1.2 j u hu
                            obtain ⟨gv, ov, hav, _, n0, n1⟩ := (HPY.out.fr0 HF3.out).1.2 j v hv
                            simp only [ncc, nac] at m0 m1 n0 n1
                            have hau2 := HAx.out.symm.trans hau
                            have hav2 := HAy.out.symm.trans hav
                            subst hau2 hav2
                            obtain ⟨q1, q2⟩ := n_neq u v
                            obtain ⟨q, hq⟩ : ∃ q, eqN u v = q := ⟨_, rfl⟩
                            rw [hq] at q2
                            have HQ := Lib.hid hq
                            have HU := Lib.hid hu
                            have HV := Lib.hid hv
                            clear hu hv hau hav hq
                            cases q with
                            | true =>
                              have HN2 : Hid (x.o.pr.take (j + 1) = y.o.pr.take (j + 1)) := Lib.hid (by rw [List.take_add_one, List.take_add_one, HE2.out, HU.out, HV.out, (eqN_iff u v).1 HQ.out])
                              go_wp2_with fail
                              go_quiet (fail)
                              have HF4 := Lib.hid (HF3.out.drewN nq)
                              have HX4 : Hid (RowO (wq.drewN nq) ga x) := Lib.hid HX3.out
                              have HY4 : Hid (RowO (wq.drewN nq) gb y) := Lib.hid HY3.out
                              clear m0 m1 n0 n1 q1 q2 c0 c1 c2 c3 c4 c5 c6 c7 c8 c9 c10 c11 c12 d0 d1 d2 d3 d4 d5 d6 d7 d8 d9 d10 d11 d12
                              go_wp2_with fail
                              exact ⟨⟨j + 1, by omega, by go_num, HN2, HX4, HY4, HF4⟩, by simp [intOf]; omega⟩
                            | false =>
                              have HRF : Hid (r = false) := Lib.hid (HBAD.out (fun e => by
                                have h1 := HU.out
                                rw [e, HV.out] at h1
                                injection h1 with h1
                                have h2 := HQ.out
                                rw [← h1, eqN_self] at h2
                                cases h2))
                              go_wp2_with fail
                              go_quiet (fail)
                              have HF4 := Lib.hid (HF3.out.drewN nq)
                              clear m0 m1 n0 n1 q1 q2 c0 c1 c2 c3 c4 c5 c6 c7 c8 c9 c10 c11 c12 d0 d1 d2 d3 d4 d5 d6 d7 d8 d9 d10 d11 d12
                              go_wp2_with fail
                              go_ret
                              exact ⟨by rw [HRF.out]; rfl, HF4.out⟩
                          · obtain rfl : j = lp := by omega
                            have HN2 : Hid ((L.take (k + 1)).map Om.o = (M.take (k + 1)).map Om.o) := Lib.hid (HNX2.out (by
                              have h := HE2.out
                              rwa [List.take_of_length_le (by have := HLP.out; omega), List.take_of_length_le (by have := HLPY.out; omega)] at h))
                            go_wp2_with fail
                            exact ⟨⟨k + 1, by omega, by go_num, HN2, HF3⟩, by simp [intOf]; omega⟩
                      · have t8 : ((lp : Int) != (lq : Int)) = true := by simp; omega
                        have HRF : Hid (r = false) := Lib.hid (HBAD.out (fun e => h8 (by rw [← HLP.out, ← HLPY.out, e])))
                        clear h8
                        go_wp2_with fail
                        go_ret
                        exact ⟨by rw [HRF.out]; rfl, HF2.out⟩
      · obtain rfl : k = n := by omega
        have HX2 : Hid (r = true) := Lib.hid (HR.out.2 (by
          have h := HE.out
          rwa [List.take_of_length_le (by have := HLN.out; omega), List.take_of_length_le (by have := HMN.out; omega)] at h))
        go_wp2_with fail
        go_ret
        exact ⟨by rw [HX2.out]; rfl, HF.out⟩
  · have t0 : ((n : Int) != (n' : Int)) = true := by simp; omega
    have HX2 : Hid (r = false) := Lib.hid (by
      cases r with
      | false => rfl
      | true =>
        have e := congrArg List.length (HR.out.1 rfl)
        rw [List.length_map, List.length_map, HLN.out, HMN.out] at e
        omega)
    clear hnn
    go_enter Try.func45, Try.ntmps45
    go_wp2_with fail
    go_ret
    exact ⟨by rw [HX2.out]; rfl, Fr.refl _ _⟩
end Go.Proofs.Ytbnkahjmeobblaa
