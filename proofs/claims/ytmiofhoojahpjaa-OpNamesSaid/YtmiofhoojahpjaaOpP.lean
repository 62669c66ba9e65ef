/-
  Layer 17, the law OpNames (written by gen_names.py).
-/
import Derived.Test.YtmiofhoojahpjaaOpJ
import Derived.Test.YtmiofhoojahpjaaOpZ
import Derived.Test.YtmiofhoojahpjaaOpZa
import Derived.Test.YtmiofhoojahpjaaOpH
namespace Go.Proofs.Ytmiofhoojahpjaa
open Go.RowKit Mem Go.Lib LebM UtfM VaM OpM
attribute [local go_sem ↓] Go.wp_at_zero Go.wp_at_succ
set_option linter.unusedVariables false

set_option maxRecDepth 100000 in
set_option maxHeartbeats 12800000 in
theorem opnames_law (A : Option Addr) (n c : Nat) (L : List Om) (x y : Om) (w : World) (hL : Ops w A n L) (hn : n ≤ 9223372036854775807) (hlen : ∀ x ∈ L, x.lens) (hx : Prd w x) (hy : Prd w y) (lx : x.lens) (ly : y.lens) :
    Calls Try.prog 6 #[.slice A n c, opc x, opc y] w fun e w' => e = .returned (.bool true) ∧ Fr (fun _ => False) w w' := by
  have hln := hL.len
  obtain ⟨g, w1, hg, hw1, hr1, hf1⟩ := new_ols w x
  obtain ⟨g2, w2, hg2, hw2, hr2, hf2⟩ := new_ols w1 y
  have HX2 := Lib.hid (hr1.fr hf2 (fun h => h))
  have HY2 := Lib.hid hr2
  have HF2 := Lib.hid (hf1.trans hf2 (fun _ _ h => h))
  have haw := fun w' => awake17_any w'
  have hfw := fun w' (hf : Fr (fun _ => False) w w') => rfew_any A n c L 60 w' (hL.fr hf) hn (by omega) hlen
  have hfw2 := fun w' (hf : Fr (fun _ => False) w w') => rfew2 x y w' rfl (hx.fr0 hf) (hy.fr0 hf) lx ly
  obtain ⟨b, hb⟩ : ∃ b, (decide (n ≤ 60) && fewB L) = b := ⟨_, rfl⟩
  obtain ⟨b2, hb2⟩ : ∃ b, fewB [x, y] = b := ⟨_, rfl⟩
  simp only [hb] at hfw
  simp only [hb2] at hfw2
  have hfw' : ∀ w' (hf : Fr (fun _ => False) w w'), Calls Try.prog 10 #[.slice A n c, .int .i64 60] w' fun e w'' => e = .returned (.bool b) ∧ w' = w'' := hfw
  have HAW := Lib.hid haw
  have HFW := Lib.hid hfw'
  have HFW2 := Lib.hid hfw2
  have HL := Lib.hid hL
  have HLN := Lib.hid hln
  have HPX := Lib.hid hx
  have HPY := Lib.hid hy
  unfold opc
  cases b with
  | false =>
    clear hL hln hn hlen haw hfw hfw' hfw2 hb hb2 hx hy lx ly hr1 hr2 hf1 hf2
    go_enter Try.func6, Try.ntmps6
    go_wp2_with fail
    clear hw1 hw2 hg hg2
    refine (HAW.out _).mono ?_
    rintro e w3 ⟨rfl, hf⟩
    have HF3 := Lib.hid (HF2.out.trans hf (fun _ _ h => h))
    clear hf
    go_wp2_with fail
    refine (HFW.out _ HF3.out).mono ?_
    rintro e w4 ⟨rfl, rfl⟩
    go_wp2_with fail
    refine (HAW.out _).mono ?_
    rintro e w5 ⟨rfl, hf⟩
    have HF5 := Lib.hid (HF3.out.trans hf (fun _ _ h => h))
    clear hf
    go_wp2_with fail
    go_ret
    exact ⟨rfl, HF5.out⟩
  | true =>
    obtain ⟨hn60, hfL⟩ := few1 hb
    have HSH := Lib.hid (few_short hfL)
    cases b2 with
    | false =>
      clear hL hln hn hlen haw hfw hfw' hfw2 hb hb2 hx hy lx ly hr1 hr2 hf1 hf2 hfL
      go_enter Try.func6, Try.ntmps6
      go_wp2_with fail
      clear hw1 hw2 hg hg2
      refine (HAW.out _).mono ?_
      rintro e w3 ⟨rfl, hf⟩
      have HF3 := Lib.hid (HF2.out.trans hf (fun _ _ h => h))
      obtain ⟨c0, c1, c2, c3, c4, c5, c6, c7, c8, c9, c10, c11, c12⟩ := (HX2.out.fr hf (fun h => h)).cells
      obtain ⟨d0, d1, d2, d3, d4, d5, d6, d7, d8, d9, d10, d11, d12⟩ := (HY2.out.fr hf (fun h => h)).cells
      clear hf
      go_wp2_with fail
      refine (HFW.out _ HF3.out).mono ?_
      rintro e w4 ⟨rfl, rfl⟩
      go_wp2_with fail
      refine (HFW2.out _ HF3.out).mono ?_
      rintro e w5 ⟨rfl, hf⟩
      have HF5 := Lib.hid (HF3.out.trans hf (fun _ _ h => h))
      clear hf c0 c1 c2 c3 c4 c5 c6 c7 c8 c9 c10 c11 c12 d0 d1 d2 d3 d4 d5 d6 d7 d8 d9 d10 d11 d12
      go_wp2_with fail
      refine (HAW.out _).mono ?_
      rintro e w6 ⟨rfl, hf⟩
      have HF6 := Lib.hid (HF5.out.trans hf (fun _ _ h => h))
      clear hf
      go_wp2_with fail
      go_ret
      exact ⟨rfl, HF6.out⟩
    | true =>
      have hsx := few_short hb2 x (List.mem_cons_self ..)
      have hsy := few_short hb2 y (List.mem_cons_of_mem _ (List.mem_cons_self ..))
      have hnm := fun w' (hf : Fr (fun _ => False) w w') => names_any A n c L w' (hL.fr hf) (by omega) (fun x hx => ⟨(HSH.out x hx).1, by have := (HSH.out x hx).2; omega⟩)
      have hrn := fun w' (hf : Fr (fun _ => False) w w') => rnames_any A n c L w' (hL.fr hf) (by omega) (fun x hx => by have := (HSH.out x hx).2; omega)
      have hsm := fun w' (hf : Fr (fun _ => False) w w') => same_any x y w' (hx.fr0 hf) (hy.fr0 hf) (by omega) (by omega)
      have hsxx := fun w' (hf : Fr (fun _ => False) w w') => same_any x x w' (hx.fr0 hf) (hx.fr0 hf) (by omega) (by omega)
      obtain ⟨r, hr⟩ : ∃ r, eqO x.o y.o = r := ⟨_, rfl⟩
      have hrs := fun w' (hf : Fr (fun _ => False) w w') (q q' : Nat) (h1 : Row w' q 33 (ols x)) (h2 : Row w' q' 33 (ols y)) => rsameO_any (some ⟨q, 0, none⟩) 1 1 [x] (some ⟨q', 0, none⟩) 1 1 [y] w' (ops1 h1 (hx.fr0 hf)) (ops1 h2 (hy.fr0 hf)) (by omega) (by omega) (fun z hz => by rw [List.mem_singleton.1 hz]; omega) (fun z hz => by rw [List.mem_singleton.1 hz]; omega) r (by rw [← hr, eqO_iff]; simp)
      have hbn : (namesM L).length ≤ 1002000 := by
        have h1 := namesM_len (L := L) (fun x hx => by have := (HSH.out x hx).2; omega)
        omega
      simp only [hr] at hsm
      simp only [eqO_self] at hsxx
      simp only [opc] at hsm hsxx
      obtain ⟨M, hM⟩ : ∃ M, namesM L = M := ⟨_, rfl⟩
      simp only [hM] at hnm hrn
      rw [hM] at hbn
      obtain ⟨m, hm⟩ : ∃ m, M.length = m := ⟨_, rfl⟩
      simp only [hm] at hnm hrn
      rw [hm] at hbn
      have HM := Lib.hid hm
      have HNM := Lib.hid hnm
      have HRN := Lib.hid hrn
      have HSM0 := Lib.hid hsm
      have HSX0 := Lib.hid hsxx
      have HRS0 := Lib.hid hrs
      clear hL hln hn hlen haw hfw hfw' hfw2 hb hb2 hx hy lx ly hr1 hr2 hf1 hf2 hfL hnm hrn hsm hsxx hrs hr hM hm hsx hsy
      go_enter Try.func6, Try.ntmps6
      go_wp2_with fail
      clear hw1 hw2 hg hg2
      refine (HAW.out _).mono ?_
      rintro e w3 ⟨rfl, hf⟩
      have HF3 := Lib.hid (HF2.out.trans hf (fun _ _ h => h))
      have HX3 := Lib.hid (HX2.out.fr hf (fun h => h))
      have HY3 := Lib.hid (HY2.out.fr hf (fun h => h))
      obtain ⟨c0, c1, c2, c3, c4, c5, c6, c7, c8, c9, c10, c11, c12⟩ := HX3.out.cells
      obtain ⟨d0, d1, d2, d3, d4, d5, d6, d7, d8, d9, d10, d11, d12⟩ := HY3.out.cells
      clear hf
      go_wp2_with fail
      refine (HFW.out _ HF3.out).mono ?_
      rintro e w4 ⟨rfl, rfl⟩
      go_wp2_with fail
      refine (HFW2.out _ HF3.out).mono ?_
      rintro e w5 ⟨rfl, hf⟩
      have HF5 := Lib.hid (HF3.out.trans hf (fun _ _ h => h))
      have HX5 := Lib.hid (HX3.out.fr hf (fun h => h))
      have HY5 := Lib.hid (HY3.out.fr hf (fun h => h))
      clear hf c0 c1 c2 c3 c4 c5 c6 c7 c8 c9 c10 c11 c12 d0 d1 d2 d3 d4 d5 d6 d7 d8 d9 d10 d11 d12
      go_wp2_with fail
      refine (HNM.out _ HF5.out).mono ?_
      intro e w6 h6
      obtain ⟨A1, c1, rfl, ho1, hf⟩ := h6
      have HF6 := Lib.hid (HF5.out.trans hf (fun _ _ h => h))
      have HX6 := Lib.hid (HX5.out.fr hf (fun h => h))
      have HY6 := Lib.hid (HY5.out.fr hf (fun h => h))
      have HP1 : Hid (Nms w6 A1 m M) := Lib.hid (by have h := ho1.prs; rw [HM.out] at h; exact h)
      clear hf ho1
      go_wp2_with fail
      refine (HRN.out _ HF6.out).mono ?_
      intro e w7 h7
      obtain ⟨A2, c2, rfl, ho2, hf⟩ := h7
      have HF7 := Lib.hid (HF6.out.trans hf (fun _ _ h => h))
      have HX7 := Lib.hid (HX6.out.fr hf (fun h => h))
      have HY7 := Lib.hid (HY6.out.fr hf (fun h => h))
      have HP1 := Lib.hid (HP1.out.fr hf (fun _ _ h => h))
      have HP2 : Hid (Nms w7 A2 m M) := Lib.hid (by have h := ho2.prs; rw [HM.out] at h; exact h)
      have t0 : ((m : Int) != (m : Int)) = false := by simp
      clear hf ho2
      go_wp2_with fail
      go_loopw [9] (fun v wr => ∃ k : Nat, k ≤ m ∧ v = .int .i64 (k : Int) ∧ Hid (Fr (fun _ => False) w7 wr)) (fun v _ => m - (intOf v).toNat)
      case atStart => exact ⟨0, Nat.zero_le _, rfl, Fr.refl _ _⟩
      case round =>
        obtain ⟨k, hk, rfl, HF⟩ := hrel
        rename World => wr
        by_cases hlt : k < m
        · obtain ⟨u, hu⟩ : ∃ u, M[k]? = some u := ⟨_, List.getElem?_eq_getElem (by have := HM.out; omega)⟩
          obtain ⟨b1, o1, rfl, _, h0, h1⟩ := (HP1.out.fr HF.out (fun _ _ => id)).2 k u hu
          obtain ⟨b2, o2, rfl, _, k0, k1⟩ := (HP2.out.fr HF.out (fun _ _ => id)).2 k u hu
          simp only [ncc, nac] at h0 h1 k0 k1
          obtain ⟨q1, q2⟩ := n_neq u u
          rw [eqN_self] at q2
          clear hu
          go_wp2_with fail
          go_quiet (fail)
          have HFn := Lib.hid (HF.out.drewN nq)
          clear h0 h1 k0 k1 q1 q2
          go_wp2_with fail
          exact ⟨⟨k + 1, by omega, by go_num, HFn⟩, by simp [intOf]; omega⟩
        · obtain rfl : k = m := by omega
          have HF6 := Lib.hid (HF7.out.trans HF.out (fun _ _ h => h))
          have HX := Lib.hid (HX7.out.fr HF.out (fun h => h))
          have HY := Lib.hid (HY7.out.fr HF.out (fun h => h))
          have HSM := Lib.hid (fun w' (hf : Fr (fun _ => False) wr w') => HSM0.out w' (HF6.out.trans hf (fun _ _ h => h)))
          have HSX := Lib.hid (fun w' (hf : Fr (fun _ => False) wr w') => HSX0.out w' (HF6.out.trans hf (fun _ _ h => h)))
          have HRS := Lib.hid (fun w' (hf : Fr (fun _ => False) wr w') => HRS0.out w' (HF6.out.trans hf (fun _ _ h => h)))
          have tr : (r == r) = true := by simp
          clear HP1 HP2 HX7 HY7 HF7 HF
          go_upto_region 11 with fail
          have HGc : Hid (Fr (fun _ => False) wr wr) := Lib.hid (Fr.refl _ _)
          refine wp_region_held_drew (S := fun w' => Fr (fun _ => False) wr w') (by kernel_rfl) ?_ (fun hHeld => ?_)
          · exact (Fr.refl _ _).drew
          refine wpAnyH_take (i := 0) (v := ?vt41) rfl (by kernel_rfl) (by kernel_rfl) (by kernel_rfl) (fun _ _ _ h => h) (Or.inl ⟨by rfl, ?hyt41⟩) hHeld ?restt41
          case hyt41 => intro w hSw; (try dsimp only at hSw); obtain ⟨c0, c1, c2, c3, c4, c5, c6, c7, c8, c9, c10, c11, c12⟩ := HX.out.fr (HGc.out.trans hSw (fun _ _ h => h)) (fun h => h) |>.cells; go_simp; try (with_reducible rfl)
          (try simp only [Act.put, List.setIfInBounds_toArray, List.set_cons_zero, List.set_cons_succ, List.getElem_toArray, List.getElem_cons_zero])
          refine wpAnyH_take (i := 1) (v := ?vt42) rfl (by kernel_rfl) (by kernel_rfl) (by kernel_rfl) (fun _ _ _ h => h) (Or.inl ⟨by rfl, ?hyt42⟩) hHeld ?restt42
          case hyt42 => intro w hSw; (try dsimp only at hSw); obtain ⟨c0, c1, c2, c3, c4, c5, c6, c7, c8, c9, c10, c11, c12⟩ := HY.out.fr (HGc.out.trans hSw (fun _ _ h => h)) (fun h => h) |>.cells; go_simp; try (with_reducible rfl)
          (try simp only [Act.put, List.setIfInBounds_toArray, List.set_cons_zero, List.set_cons_succ, List.getElem_toArray, List.getElem_cons_zero, List.getElem_cons_succ])
          refine wpAnyH_take (i := 3) (v := ?vt43) rfl (by kernel_rfl) (by kernel_rfl) (by kernel_rfl) (fun _ _ _ h => h) (Or.inl ⟨by rfl, ?hyt43⟩) hHeld ?restt43
          case hyt43 => intro w hSw; (try dsimp only at hSw); obtain ⟨c0, c1, c2, c3, c4, c5, c6, c7, c8, c9, c10, c11, c12⟩ := HX.out.fr (HGc.out.trans hSw (fun _ _ h => h)) (fun h => h) |>.cells; go_simp; try (with_reducible rfl)
          (try simp only [Act.put, List.setIfInBounds_toArray, List.set_cons_zero, List.set_cons_succ, List.getElem_toArray, List.getElem_cons_zero, List.getElem_cons_succ])
          refine wpAnyH_take (i := 5) (v := ?vt44) rfl (by kernel_rfl) (by kernel_rfl) (by kernel_rfl) (fun _ _ _ h => h) (Or.inl ⟨by rfl, ?hyt44⟩) hHeld ?restt44
          case hyt44 => intro w hSw; (try dsimp only at hSw); obtain ⟨c0, c1, c2, c3, c4, c5, c6, c7, c8, c9, c10, c11, c12⟩ := HY.out.fr (HGc.out.trans hSw (fun _ _ h => h)) (fun h => h) |>.cells; go_simp; try (with_reducible rfl)
          (try simp only [Act.put, List.setIfInBounds_toArray, List.set_cons_zero, List.set_cons_succ, List.getElem_toArray, List.getElem_cons_zero, List.getElem_cons_succ])
          refine wpAnyH_ready (rs := [2, 4, 6]) (by kernel_rfl) (by simp) ?_
          refine AllReadyH.cons rfl (fun Kx hKx => ?_) ?_
          · go_simp
            have hcon := HSM.out (wr.drew) ((Fr.refl (fun _ => False) wr).drew)
            with_reducible refine hcon.mono ?_
            clear hcon
            rintro e' v1 ⟨rfl, hff⟩
            have HFn : Hid (Fr (fun _ => False) wr v1) := Lib.hid ((Fr.refl _ _).drew.trans hff (fun _ _ h => h))
            clear hff
            have HGc := Lib.hid (HGc.out.trans HFn.out (fun _ _ h => h))
            refine hKx.out _ _ ?_ (fun hHeld => ?_)
            · exact HFn.out
            clear hKx Kx
            (try simp only [Act.put, List.setIfInBounds_toArray, List.set_cons_zero, List.set_cons_succ, List.getElem_toArray, List.getElem_cons_zero, List.getElem_cons_succ])
            refine wpAnyH_more (fun w' => Fr (fun _ => False) v1 w') (fun _ h => HFn.out.trans h (fun _ _ h => h)) ?_ (fun hHeld => ?_)
            · exact Fr.refl _ _
            clear HFn
            refine wpAnyH_ready (rs := [4, 6]) (by kernel_rfl) (by simp) ?_
            refine AllReadyH.cons rfl (fun Kx hKx => ?_) ?_
            · go_simp
              obtain ⟨v2, hwm⟩ : ∃ v, (v1.alloc (.cells #[.int .i64 x.o.obj.c, .string (txt x.o.obj.a), .string (txt x.o.key), .bool x.o.keyed, .int .i64 x.o.elem.c, .string (txt x.o.elem.a), .bool x.o.ins, .int .i64 x.o.act, .int .i64 x.o.val.k, .int .u64 (x.o.val.u : Int), .int .i64 x.o.val.n, .string (txt x.o.val.s), .slice x.A x.o.pr.length x.c] 33)) = v := ⟨_, rfl⟩
              rw [hwm]
              obtain ⟨q4, hqm⟩ : ∃ q, v1.heap.size = q := ⟨_, rfl⟩
              try rw [hqm]
              have HFn : Hid (Fr (fun _ => False) v1 v2) := Lib.hid (by rw [← hwm]; exact ((Fr.refl _ _).alloc _))
              have hbm : Row v2 q4 33 (ols x) := by rw [← hwm, ← hqm]; exact RowO.new v1 x
              have HB4 := Lib.hid hbm
              clear hwm hqm hbm
              have HGc := Lib.hid (HGc.out.trans HFn.out (fun _ _ h => h))
              refine hKx.out _ _ ?_ (fun hHeld => ?_)
              · exact HFn.out
              clear hKx Kx
              (try simp only [Act.put, List.setIfInBounds_toArray, List.set_cons_zero, List.set_cons_succ, List.getElem_toArray, List.getElem_cons_zero, List.getElem_cons_succ])
              refine wpAnyH_more (fun w' => Fr (fun _ => False) v2 w') (fun _ h => HFn.out.trans h (fun _ _ h => h)) ?_ (fun hHeld => ?_)
              · exact Fr.refl _ _
              clear HFn
              refine wpAnyH_ready (rs := [6]) (by kernel_rfl) (by simp) ?_
              refine AllReadyH.cons rfl (fun Kx hKx => ?_) AllReadyH.nil
              go_simp
              obtain ⟨v3, hwm⟩ : ∃ v, (v2.alloc (.cells #[.int .i64 y.o.obj.c, .string (txt y.o.obj.a), .string (txt y.o.key), .bool y.o.keyed, .int .i64 y.o.elem.c, .string (txt y.o.elem.a), .bool y.o.ins, .int .i64 y.o.act, .int .i64 y.o.val.k, .int .u64 (y.o.val.u : Int), .int .i64 y.o.val.n, .string (txt y.o.val.s), .slice y.A y.o.pr.length y.c] 33)) = v := ⟨_, rfl⟩
              rw [hwm]
              obtain ⟨q6, hqm⟩ : ∃ q, v2.heap.size = q := ⟨_, rfl⟩
              try rw [hqm]
              have HFn : Hid (Fr (fun _ => False) v2 v3) := Lib.hid (by rw [← hwm]; exact ((Fr.refl _ _).alloc _))
              have hbm : Row v3 q6 33 (ols y) := by rw [← hwm, ← hqm]; exact RowO.new v2 y
              have HB6 := Lib.hid hbm
              clear hwm hqm hbm
              have HB4 := Lib.hid (HB4.out.fr HFn.out (fun h => h))
              have HGc := Lib.hid (HGc.out.trans HFn.out (fun _ _ h => h))
              refine hKx.out _ _ ?_ (fun hHeld => ?_)
              · exact HFn.out
              clear hKx Kx
              (try simp only [Act.put, List.setIfInBounds_toArray, List.set_cons_zero, List.set_cons_succ, List.getElem_toArray, List.getElem_cons_zero, List.getElem_cons_succ])
              refine wpAnyH_more (fun w' => Fr (fun _ => False) v3 w') (fun _ h => HFn.out.trans h (fun _ _ h => h)) ?_ (fun hHeld => ?_)
              · exact Fr.refl _ _
              clear HFn
              refine wpAnyH_ready (rs := [7]) (by kernel_rfl) (by simp) ?_
              refine AllReadyH.cons rfl (fun Kx hKx => ?_) AllReadyH.nil
              go_simp
              have hcon := HRS.out (v3) HGc.out q4 q6 HB4.out HB6.out
              with_reducible refine hcon.mono ?_
              clear hcon
              rintro e' v4 ⟨rfl, hff⟩
              have HFn : Hid (Fr (fun _ => False) v3 v4) := Lib.hid (hff)
              clear hff
              have HB4 := Lib.hid (HB4.out.fr HFn.out (fun h => h))
              have HB6 := Lib.hid (HB6.out.fr HFn.out (fun h => h))
              have HGc := Lib.hid (HGc.out.trans HFn.out (fun _ _ h => h))
              refine hKx.out _ _ ?_ (fun hHeld => ?_)
              · exact HFn.out
              clear hKx Kx
              (try simp only [Act.put, List.setIfInBounds_toArray, List.set_cons_zero, List.set_cons_succ, List.getElem_toArray, List.getElem_cons_zero, List.getElem_cons_succ])
              refine wpAnyH_more (fun w' => Fr (fun _ => False) v4 w') (fun _ h => HFn.out.trans h (fun _ _ h => h)) ?_ (fun hHeld => ?_)
              · exact Fr.refl _ _
              clear HFn
              refine wpAnyH_take (i := 8) (v := ?vt45) rfl (by kernel_rfl) (by kernel_rfl) (by kernel_rfl) (fun _ _ _ h => h) (Or.inl ⟨by rfl, ?hyt45⟩) hHeld ?restt45
              case hyt45 => intro w hSw; (try dsimp only at hSw); go_simp; try (with_reducible rfl)
              (try simp only [Act.put, List.setIfInBounds_toArray, List.set_cons_zero, List.set_cons_succ, List.getElem_toArray, List.getElem_cons_zero, List.getElem_cons_succ])
              refine wpAnyH_take (i := 9) (v := ?vt46) rfl (by kernel_rfl) (by kernel_rfl) (by kernel_rfl) (fun _ _ _ h => h) (Or.inl ⟨by rfl, ?hyt46⟩) hHeld ?restt46
              case hyt46 => intro w hSw; (try dsimp only at hSw); go_simp; try (with_reducible rfl)
              (try simp only [Act.put, List.setIfInBounds_toArray, List.set_cons_zero, List.set_cons_succ, List.getElem_toArray, List.getElem_cons_zero, List.getElem_cons_succ])
              refine wpAnyH_take (i := 10) (v := ?vt47) rfl (by kernel_rfl) (by kernel_rfl) (by kernel_rfl) (fun _ _ _ h => h) (Or.inl ⟨by rfl, ?hyt47⟩) hHeld ?restt47
              case hyt47 => intro w hSw; (try dsimp only at hSw); obtain ⟨c0, c1, c2, c3, c4, c5, c6, c7, c8, c9, c10, c11, c12⟩ := HX.out.fr (HGc.out.trans hSw (fun _ _ h => h)) (fun h => h) |>.cells; go_simp; try (with_reducible rfl)
              (try simp only [Act.put, List.setIfInBounds_toArray, List.set_cons_zero, List.set_cons_succ, List.getElem_toArray, List.getElem_cons_zero, List.getElem_cons_succ])
              refine wpAnyH_take (i := 11) (v := ?vt48) rfl (by kernel_rfl) (by kernel_rfl) (by kernel_rfl) (fun _ _ _ h => h) (Or.inl ⟨by rfl, ?hyt48⟩) hHeld ?restt48
              case hyt48 => intro w hSw; (try dsimp only at hSw); obtain ⟨c0, c1, c2, c3, c4, c5, c6, c7, c8, c9, c10, c11, c12⟩ := HX.out.fr (HGc.out.trans hSw (fun _ _ h => h)) (fun h => h) |>.cells; go_simp; try (with_reducible rfl)
              (try simp only [Act.put, List.setIfInBounds_toArray, List.set_cons_zero, List.set_cons_succ, List.getElem_toArray, List.getElem_cons_zero, List.getElem_cons_succ])
              refine wpAnyH_ready (rs := [12]) (by kernel_rfl) (by simp) ?_
              refine AllReadyH.cons rfl (fun Kx hKx => ?_) AllReadyH.nil
              go_simp
              have hcon := HSX.out (v4) HGc.out
              with_reducible refine hcon.mono ?_
              clear hcon
              rintro e' v5 ⟨rfl, hff⟩
              have HFn : Hid (Fr (fun _ => False) v4 v5) := Lib.hid (hff)
              clear hff
              have HB4 := Lib.hid (HB4.out.fr HFn.out (fun h => h))
              have HB6 := Lib.hid (HB6.out.fr HFn.out (fun h => h))
              have HGc := Lib.hid (HGc.out.trans HFn.out (fun _ _ h => h))
              refine hKx.out _ _ ?_ (fun hHeld => ?_)
              · exact HFn.out
              clear hKx Kx
              (try simp only [Act.put, List.setIfInBounds_toArray, List.set_cons_zero, List.set_cons_succ, List.getElem_toArray, List.getElem_cons_zero, List.getElem_cons_succ])
              refine wpAnyH_more (fun w' => Fr (fun _ => False) v5 w') (fun _ h => HFn.out.trans h (fun _ _ h => h)) ?_ (fun hHeld => ?_)
              · exact Fr.refl _ _
              clear HFn
              refine wpAnyH_take (i := 13) (v := ?vt49) rfl (by kernel_rfl) (by kernel_rfl) (by kernel_rfl) (fun _ _ _ h => h) (Or.inl ⟨by rfl, ?hyt49⟩) hHeld ?restt49
              case hyt49 => intro w hSw; (try dsimp only at hSw); go_simp; try (with_reducible rfl)
              (try simp only [Act.put, List.setIfInBounds_toArray, List.set_cons_zero, List.set_cons_succ, List.getElem_toArray, List.getElem_cons_zero, List.getElem_cons_succ])
              refine wpAnyH_take (i := 14) (v := ?vt50) rfl (by kernel_rfl) (by kernel_rfl) (by kernel_rfl) (fun _ _ _ h => h) (Or.inl ⟨by rfl, ?hyt50⟩) hHeld ?restt50
              case hyt50 => intro w hSw; (try dsimp only at hSw); go_simp; try (with_reducible rfl)
              (try simp only [Act.put, List.setIfInBounds_toArray, List.set_cons_zero, List.set_cons_succ, List.getElem_toArray, List.getElem_cons_zero, List.getElem_cons_succ])
              refine wpAnyH_done (by kernel_rfl) ?_ _
              go_wp2_with fail
              go_ret
              exact ⟨rfl, HF6.out.trans HGc.out (fun _ _ h => h)⟩
            refine AllReadyH.cons rfl (fun Kx hKx => ?_) AllReadyH.nil
            go_simp
            obtain ⟨v2, hwm⟩ : ∃ v, (v1.alloc (.cells #[.int .i64 y.o.obj.c, .string (txt y.o.obj.a), .string (txt y.o.key), .bool y.o.keyed, .int .i64 y.o.elem.c, .string (txt y.o.elem.a), .bool y.o.ins, .int .i64 y.o.act, .int .i64 y.o.val.k, .int .u64 (y.o.val.u : Int), .int .i64 y.o.val.n, .string (txt y.o.val.s), .slice y.A y.o.pr.length y.c] 33)) = v := ⟨_, rfl⟩
            rw [hwm]
            obtain ⟨q6, hqm⟩ : ∃ q, v1.heap.size = q := ⟨_, rfl⟩
            try rw [hqm]
            have HFn : Hid (Fr (fun _ => False) v1 v2) := Lib.hid (by rw [← hwm]; exact ((Fr.refl _ _).alloc _))
            have hbm : Row v2 q6 33 (ols y) := by rw [← hwm, ← hqm]; exact RowO.new v1 y
            have HB6 := Lib.hid hbm
            clear hwm hqm hbm
            have HGc := Lib.hid (HGc.out.trans HFn.out (fun _ _ h => h))
            refine hKx.out _ _ ?_ (fun hHeld => ?_)
            · exact HFn.out
            clear hKx Kx
            (try simp only [Act.put, List.setIfInBounds_toArray, List.set_cons_zero, List.set_cons_succ, List.getElem_toArray, List.getElem_cons_zero, List.getElem_cons_succ])
            refine wpAnyH_more (fun w' => Fr (fun _ => False) v2 w') (fun _ h => HFn.out.trans h (fun _ _ h => h)) ?_ (fun hHeld => ?_)
            · exact Fr.refl _ _
            clear HFn
            refine wpAnyH_ready (rs := [4]) (by kernel_rfl) (by simp) ?_
            refine AllReadyH.cons rfl (fun Kx hKx => ?_) AllReadyH.nil
            go_simp
            obtain ⟨v3, hwm⟩ : ∃ v, (v2.alloc (.cells #[.int .i64 x.o.obj.c, .string (txt x.o.obj.a), .string (txt x.o.key), .bool x.o.keyed, .int .i64 x.o.elem.c, .string (txt x.o.elem.a), .bool x.o.ins, .int .i64 x.o.act, .int .i64 x.o.val.k, .int .u64 (x.o.val.u : Int), .int .i64 x.o.val.n, .string (txt x.o.val.s), .slice x.A x.o.pr.length x.c] 33)) = v := ⟨_, rfl⟩
            rw [hwm]
            obtain ⟨q4, hqm⟩ : ∃ q, v2.heap.size = q := ⟨_, rfl⟩
            try rw [hqm]
            have HFn : Hid (Fr (fun _ => False) v2 v3) := Lib.hid (by rw [← hwm]; exact ((Fr.refl _ _).alloc _))
            have hbm : Row v3 q4 33 (ols x) := by rw [← hwm, ← hqm]; exact RowO.new v2 x
            have HB4 := Lib.hid hbm
            clear hwm hqm hbm
            have HB6 := Lib.hid (HB6.out.fr HFn.out (fun h => h))
            have HGc := Lib.hid (HGc.out.trans HFn.out (fun _ _ h => h))
            refine hKx.out _ _ ?_ (fun hHeld => ?_)
            · exact HFn.out
            clear hKx Kx
            (try simp only [Act.put, List.setIfInBounds_toArray, List.set_cons_zero, List.set_cons_succ, List.getElem_toArray, List.getElem_cons_zero, List.getElem_cons_succ])
            refine wpAnyH_more (fun w' => Fr (fun _ => False) v3 w') (fun _ h => HFn.out.trans h (fun _ _ h => h)) ?_ (fun hHeld => ?_)
            · exact Fr.refl _ _
            clear HFn
            refine wpAnyH_ready (rs := [7]) (by kernel_rfl) (by simp) ?_
            refine AllReadyH.cons rfl (fun Kx hKx => ?_) AllReadyH.nil
            go_simp
            have hcon := HRS.out (v3) HGc.out q4 q6 HB4.out HB6.out
            with_reducible refine hcon.mono ?_
            clear hcon
            rintro e' v4 ⟨rfl, hff⟩
            have HFn : Hid (Fr (fun _ => False) v3 v4) := Lib.hid (hff)
            clear hff
            have HB6 := Lib.hid (HB6.out.fr HFn.out (fun h => h))
            have HB4 := Lib.hid (HB4.out.fr HFn.out (fun h => h))
            have HGc := Lib.hid (HGc.out.trans HFn.out (fun _ _ h => h))
            refine hKx.out _ _ ?_ (fun hHeld => ?_)
            · exact HFn.out
            clear hKx Kx
            (try simp only [Act.put, List.setIfInBounds_toArray, List.set_cons_zero, List.set_cons_succ, List.getElem_toArray, List.getElem_cons_zero, List.getElem_cons_succ])
            refine wpAnyH_more (fun w' => Fr (fun _ => False) v4 w') (fun _ h => HFn.out.trans h (fun _ _ h => h)) ?_ (fun hHeld => ?_)
            · exact Fr.refl _ _
            clear HFn
            refine wpAnyH_take (i := 8) (v := ?vt51) rfl (by kernel_rfl) (by kernel_rfl) (by kernel_rfl) (fun _ _ _ h => h) (Or.inl ⟨by rfl, ?hyt51⟩) hHeld ?restt51
            case hyt51 => intro w hSw; (try dsimp only at hSw); go_simp; try (with_reducible rfl)
            (try simp only [Act.put, List.setIfInBounds_toArray, List.set_cons_zero, List.set_cons_succ, List.getElem_toArray, List.getElem_cons_zero, List.getElem_cons_succ])
            refine wpAnyH_take (i := 9) (v := ?vt52) rfl (by kernel_rfl) (by kernel_rfl) (by kernel_rfl) (fun _ _ _ h => h) (Or.inl ⟨by rfl, ?hyt52⟩) hHeld ?restt52
            case hyt52 => intro w hSw; (try dsimp only at hSw); go_simp; try (with_reducible rfl)
            (try simp only [Act.put, List.setIfInBounds_toArray, List.set_cons_zero, List.set_cons_succ, List.getElem_toArray, List.getElem_cons_zero, List.getElem_cons_succ])
            refine wpAnyH_take (i := 10) (v := ?vt53) rfl (by kernel_rfl) (by kernel_rfl) (by kernel_rfl) (fun _ _ _ h => h) (Or.inl ⟨by rfl, ?hyt53⟩) hHeld ?restt53
            case hyt53 => intro w hSw; (try dsimp only at hSw); obtain ⟨c0, c1, c2, c3, c4, c5, c6, c7, c8, c9, c10, c11, c12⟩ := HX.out.fr (HGc.out.trans hSw (fun _ _ h => h)) (fun h => h) |>.cells; go_simp; try (with_reducible rfl)
            (try simp only [Act.put, List.setIfInBounds_toArray, List.set_cons_zero, List.set_cons_succ, List.getElem_toArray, List.getElem_cons_zero, List.getElem_cons_succ])
            refine wpAnyH_take (i := 11) (v := ?vt54) rfl (by kernel_rfl) (by kernel_rfl) (by kernel_rfl) (fun _ _ _ h => h) (Or.inl ⟨by rfl, ?hyt54⟩) hHeld ?restt54
            case hyt54 => intro w hSw; (try dsimp only at hSw); obtain ⟨c0, c1, c2, c3, c4, c5, c6, c7, c8, c9, c10, c11, c12⟩ := HX.out.fr (HGc.out.trans hSw (fun _ _ h => h)) (fun h => h) |>.cells; go_simp; try (with_reducible rfl)
            (try simp only [Act.put, List.setIfInBounds_toArray, List.set_cons_zero, List.set_cons_succ, List.getElem_toArray, List.getElem_cons_zero, List.getElem_cons_succ])
            refine wpAnyH_ready (rs := [12]) (by kernel_rfl) (by simp) ?_
            refine AllReadyH.cons rfl (fun Kx hKx => ?_) AllReadyH.nil
            go_simp
            have hcon := HSX.out (v4) HGc.out
            with_reducible refine hcon.mono ?_
            clear hcon
            rintro e' v5 ⟨rfl, hff⟩
            have HFn : Hid (Fr (fun _ => False) v4 v5) := Lib.hid (hff)
            clear hff
            have HB6 := Lib.hid (HB6.out.fr HFn.out (fun h => h))
            have HB4 := Lib.hid (HB4.out.fr HFn.out (fun h => h))
            have HGc := Lib.hid (HGc.out.trans HFn.out (fun _ _ h => h))
            refine hKx.out _ _ ?_ (fun hHeld => ?_)
            · exact HFn.out
            clear hKx Kx
            (try simp only [Act.put, List.setIfInBounds_toArray, List.set_cons_zero, List.set_cons_succ, List.getElem_toArray, List.getElem_cons_zero, List.getElem_cons_succ])
            refine wpAnyH_more (fun w' => Fr (fun _ => False) v5 w') (fun _ h => HFn.out.trans h (fun _ _ h => h)) ?_ (fun hHeld => ?_)
            · exact Fr.refl _ _
            clear HFn
            refine wpAnyH_take (i := 13) (v := ?vt55) rfl (by kernel_rfl) (by kernel_rfl) (by kernel_rfl) (fun _ _ _ h => h) (Or.inl ⟨by rfl, ?hyt55⟩) hHeld ?restt55
            case hyt55 => intro w hSw; (try dsimp only at hSw); go_simp; try (with_reducible rfl)
            (try simp only [Act.put, List.setIfInBounds_toArray, List.set_cons_zero, List.set_cons_succ, List.getElem_toArray, List.getElem_cons_zero, List.getElem_cons_succ])
            refine wpAnyH_take (i := 14) (v := ?vt56) rfl (by kernel_rfl) (by kernel_rfl) (by kernel_rfl) (fun _ _ _ h => h) (Or.inl ⟨by rfl, ?hyt56⟩) hHeld ?restt56
            case hyt56 => intro w hSw; (try dsimp only at hSw); go_simp; try (with_reducible rfl)
            (try simp only [Act.put, List.setIfInBounds_toArray, List.set_cons_zero, List.set_cons_succ, List.getElem_toArray, List.getElem_cons_zero, List.getElem_cons_succ])
            refine wpAnyH_done (by kernel_rfl) ?_ _
            go_wp2_with fail
            go_ret
            exact ⟨rfl, HF6.out.trans HGc.out (fun _ _ h => h)⟩
          refine AllReadyH.cons rfl (fun Kx hKx => ?_) ?_
          · go_simp
            obtain ⟨v1, hwm⟩ : ∃ v, (wr.alloc (.cells #[.int .i64 x.o.obj.c, .string (txt x.o.obj.a), .string (txt x.o.key), .bool x.o.keyed, .int .i64 x.o.elem.c, .string (txt x.o.elem.a), .bool x.o.ins, .int .i64 x.o.act, .int .i64 x.o.val.k, .int .u64 (x.o.val.u : Int), .int .i64 x.o.val.n, .string (txt x.o.val.s), .slice x.A x.o.pr.length x.c] 33)).drew = v := ⟨_, rfl⟩
            rw [hwm]
            obtain ⟨q4, hqm⟩ : ∃ q, wr.heap.size = q := ⟨_, rfl⟩
            try rw [hqm]
            have HFn : Hid (Fr (fun _ => False) wr v1) := Lib.hid (by rw [← hwm]; exact ((Fr.refl _ _).alloc _).drew)
            have hbm : Row v1 q4 33 (ols x) := by rw [← hwm, ← hqm]; exact RowO.new wr x
            have HB4 := Lib.hid hbm
            clear hwm hqm hbm
            have HGc := Lib.hid (HGc.out.trans HFn.out (fun _ _ h => h))
            refine hKx.out _ _ ?_ (fun hHeld => ?_)
            · exact HFn.out
            clear hKx Kx
            (try simp only [Act.put, List.setIfInBounds_toArray, List.set_cons_zero, List.set_cons_succ, List.getElem_toArray, List.getElem_cons_zero, List.getElem_cons_succ])
            refine wpAnyH_more (fun w' => Fr (fun _ => False) v1 w') (fun _ h => HFn.out.trans h (fun _ _ h => h)) ?_ (fun hHeld => ?_)
            · exact Fr.refl _ _
            clear HFn
            refine wpAnyH_ready (rs := [2, 6]) (by kernel_rfl) (by simp) ?_
            refine AllReadyH.cons rfl (fun Kx hKx => ?_) ?_
            · go_simp
              have hcon := HSM.out (v1) HGc.out
              with_reducible refine hcon.mono ?_
              clear hcon
              rintro e' v2 ⟨rfl, hff⟩
              have HFn : Hid (Fr (fun _ => False) v1 v2) := Lib.hid (hff)
              clear hff
              have HB4 := Lib.hid (HB4.out.fr HFn.out (fun h => h))
              have HGc := Lib.hid (HGc.out.trans HFn.out (fun _ _ h => h))
              refine hKx.out _ _ ?_ (fun hHeld => ?_)
              · exact HFn.out
              clear hKx Kx
              (try simp only [Act.put, List.setIfInBounds_toArray, List.set_cons_zero, List.set_cons_succ, List.getElem_toArray, List.getElem_cons_zero, List.getElem_cons_succ])
              refine wpAnyH_more (fun w' => Fr (fun _ => False) v2 w') (fun _ h => HFn.out.trans h (fun _ _ h => h)) ?_ (fun hHeld => ?_)
              · exact Fr.refl _ _
              clear HFn
              refine wpAnyH_ready (rs := [6]) (by kernel_rfl) (by simp) ?_
              refine AllReadyH.cons rfl (fun Kx hKx => ?_) AllReadyH.nil
              go_simp
              obtain ⟨v3, hwm⟩ : ∃ v, (v2.alloc (.cells #[.int .i64 y.o.obj.c, .string (txt y.o.obj.a), .string (txt y.o.key), .bool y.o.keyed, .int .i64 y.o.elem.c, .string (txt y.o.elem.a), .bool y.o.ins, .int .i64 y.o.act, .int .i64 y.o.val.k, .int .u64 (y.o.val.u : Int), .int .i64 y.o.val.n, .string (txt y.o.val.s), .slice y.A y.o.pr.length y.c] 33)) = v := ⟨_, rfl⟩
              rw [hwm]
              obtain ⟨q6, hqm⟩ : ∃ q, v2.heap.size = q := ⟨_, rfl⟩
              try rw [hqm]
              have HFn : Hid (Fr (fun _ => False) v2 v3) := Lib.hid (by rw [← hwm]; exact ((Fr.refl _ _).alloc _))
              have hbm : Row v3 q6 33 (ols y) := by rw [← hwm, ← hqm]; exact RowO.new v2 y
              have HB6 := Lib.hid hbm
              clear hwm hqm hbm
              have HB4 := Lib.hid (HB4.out.fr HFn.out (fun h => h))
              have HGc := Lib.hid (HGc.out.trans HFn.out (fun _ _ h => h))
              refine hKx.out _ _ ?_ (fun hHeld => ?_)
              · exact HFn.out
              clear hKx Kx
              (try simp only [Act.put, List.setIfInBounds_toArray, List.set_cons_zero, List.set_cons_succ, List.getElem_toArray, List.getElem_cons_zero, List.getElem_cons_succ])
              refine wpAnyH_more (fun w' => Fr (fun _ => False) v3 w') (fun _ h => HFn.out.trans h (fun _ _ h => h)) ?_ (fun hHeld => ?_)
              · exact Fr.refl _ _
              clear HFn
              refine wpAnyH_ready (rs := [7]) (by kernel_rfl) (by simp) ?_
              refine AllReadyH.cons rfl (fun Kx hKx => ?_) AllReadyH.nil
              go_simp
              have hcon := HRS.out (v3) HGc.out q4 q6 HB4.out HB6.out
              with_reducible refine hcon.mono ?_
              clear hcon
              rintro e' v4 ⟨rfl, hff⟩
              have HFn : Hid (Fr (fun _ => False) v3 v4) := Lib.hid (hff)
              clear hff
              have HB4 := Lib.hid (HB4.out.fr HFn.out (fun h => h))
              have HB6 := Lib.hid (HB6.out.fr HFn.out (fun h => h))
              have HGc := Lib.hid (HGc.out.trans HFn.out (fun _ _ h => h))
              refine hKx.out _ _ ?_ (fun hHeld => ?_)
              · exact HFn.out
              clear hKx Kx
              (try simp only [Act.put, List.setIfInBounds_toArray, List.set_cons_zero, List.set_cons_succ, List.getElem_toArray, List.getElem_cons_zero, List.getElem_cons_succ])
              refine wpAnyH_more (fun w' => Fr (fun _ => False) v4 w') (fun _ h => HFn.out.trans h (fun _ _ h => h)) ?_ (fun hHeld => ?_)
              · exact Fr.refl _ _
              clear HFn
              refine wpAnyH_take (i := 8) (v := ?vt57) rfl (by kernel_rfl) (by kernel_rfl) (by kernel_rfl) (fun _ _ _ h => h) (Or.inl ⟨by rfl, ?hyt57⟩) hHeld ?restt57
              case hyt57 => intro w hSw; (try dsimp only at hSw); go_simp; try (with_reducible rfl)
              (try simp only [Act.put, List.setIfInBounds_toArray, List.set_cons_zero, List.set_cons_succ, List.getElem_toArray, List.getElem_cons_zero, List.getElem_cons_succ])
              refine wpAnyH_take (i := 9) (v := ?vt58) rfl (by kernel_rfl) (by kernel_rfl) (by kernel_rfl) (fun _ _ _ h => h) (Or.inl ⟨by rfl, ?hyt58⟩) hHeld ?restt58
              case hyt58 => intro w hSw; (try dsimp only at hSw); go_simp; try (with_reducible rfl)
              (try simp only [Act.put, List.setIfInBounds_toArray, List.set_cons_zero, List.set_cons_succ, List.getElem_toArray, List.getElem_cons_zero, List.getElem_cons_succ])
              refine wpAnyH_take (i := 10) (v := ?vt59) rfl (by kernel_rfl) (by kernel_rfl) (by kernel_rfl) (fun _ _ _ h => h) (Or.inl ⟨by rfl, ?hyt59⟩) hHeld ?restt59
              case hyt59 => intro w hSw; (try dsimp only at hSw); obtain ⟨c0, c1, c2, c3, c4, c5, c6, c7, c8, c9, c10, c11, c12⟩ := HX.out.fr (HGc.out.trans hSw (fun _ _ h => h)) (fun h => h) |>.cells; go_simp; try (with_reducible rfl)
              (try simp only [Act.put, List.setIfInBounds_toArray, List.set_cons_zero, List.set_cons_succ, List.getElem_toArray, List.getElem_cons_zero, List.getElem_cons_succ])
              refine wpAnyH_take (i := 11) (v := ?vt60) rfl (by kernel_rfl) (by kernel_rfl) (by kernel_rfl) (fun _ _ _ h => h) (Or.inl ⟨by rfl, ?hyt60⟩) hHeld ?restt60
              case hyt60 => intro w hSw; (try dsimp only at hSw); obtain ⟨c0, c1, c2, c3, c4, c5, c6, c7, c8, c9, c10, c11, c12⟩ := HX.out.fr (HGc.out.trans hSw (fun _ _ h => h)) (fun h => h) |>.cells; go_simp; try (with_reducible rfl)
              (try simp only [Act.put, List.setIfInBounds_toArray, List.set_cons_zero, List.set_cons_succ, List.getElem_toArray, List.getElem_cons_zero, List.getElem_cons_succ])
              refine wpAnyH_ready (rs := [12]) (by kernel_rfl) (by simp) ?_
              refine AllReadyH.cons rfl (fun Kx hKx => ?_) AllReadyH.nil
              go_simp
              have hcon := HSX.out (v4) HGc.out
              with_reducible refine hcon.mono ?_
              clear hcon
              rintro e' v5 ⟨rfl, hff⟩
              have HFn : Hid (Fr (fun _ => False) v4 v5) := Lib.hid (hff)
              clear hff
              have HB4 := Lib.hid (HB4.out.fr HFn.out (fun h => h))
              have HB6 := Lib.hid (HB6.out.fr HFn.out (fun h => h))
              have HGc := Lib.hid (HGc.out.trans HFn.out (fun _ _ h => h))
              refine hKx.out _ _ ?_ (fun hHeld => ?_)
              · exact HFn.out
              clear hKx Kx
              (try simp only [Act.put, List.setIfInBounds_toArray, List.set_cons_zero, List.set_cons_succ, List.getElem_toArray, List.getElem_cons_zero, List.getElem_cons_succ])
              refine wpAnyH_more (fun w' => Fr (fun _ => False) v5 w') (fun _ h => HFn.out.trans h (fun _ _ h => h)) ?_ (fun hHeld => ?_)
              · exact Fr.refl _ _
              clear HFn
              refine wpAnyH_take (i := 13) (v := ?vt61) rfl (by kernel_rfl) (by kernel_rfl) (by kernel_rfl) (fun _ _ _ h => h) (Or.inl ⟨by rfl, ?hyt61⟩) hHeld ?restt61
              case hyt61 => intro w hSw; (try dsimp only at hSw); go_simp; try (with_reducible rfl)
              (try simp only [Act.put, List.setIfInBounds_toArray, List.set_cons_zero, List.set_cons_succ, List.getElem_toArray, List.getElem_cons_zero, List.getElem_cons_succ])
              refine wpAnyH_take (i := 14) (v := ?vt62) rfl (by kernel_rfl) (by kernel_rfl) (by kernel_rfl) (fun _ _ _ h => h) (Or.inl ⟨by rfl, ?hyt62⟩) hHeld ?restt62
              case hyt62 => intro w hSw; (try dsimp only at hSw); go_simp; try (with_reducible rfl)
              (try simp only [Act.put, List.setIfInBounds_toArray, List.set_cons_zero, List.set_cons_succ, List.getElem_toArray, List.getElem_cons_zero, List.getElem_cons_succ])
              refine wpAnyH_done (by kernel_rfl) ?_ _
              go_wp2_with fail
              go_ret
              exact ⟨rfl, HF6.out.trans HGc.out (fun _ _ h => h)⟩
            refine AllReadyH.cons rfl (fun Kx hKx => ?_) AllReadyH.nil
            go_simp
            obtain ⟨v2, hwm⟩ : ∃ v, (v1.alloc (.cells #[.int .i64 y.o.obj.c, .string (txt y.o.obj.a), .string (txt y.o.key), .bool y.o.keyed, .int .i64 y.o.elem.c, .string (txt y.o.elem.a), .bool y.o.ins, .int .i64 y.o.act, .int .i64 y.o.val.k, .int .u64 (y.o.val.u : Int), .int .i64 y.o.val.n, .string (txt y.o.val.s), .slice y.A y.o.pr.length y.c] 33)) = v := ⟨_, rfl⟩
            rw [hwm]
            obtain ⟨q6, hqm⟩ : ∃ q, v1.heap.size = q := ⟨_, rfl⟩
            try rw [hqm]
            have HFn : Hid (Fr (fun _ => False) v1 v2) := Lib.hid (by rw [← hwm]; exact ((Fr.refl _ _).alloc _))
            have hbm : Row v2 q6 33 (ols y) := by rw [← hwm, ← hqm]; exact RowO.new v1 y
            have HB6 := Lib.hid hbm
            clear hwm hqm hbm
            have HB4 := Lib.hid (HB4.out.fr HFn.out (fun h => h))
            have HGc := Lib.hid (HGc.out.trans HFn.out (fun _ _ h => h))
            refine hKx.out _ _ ?_ (fun hHeld => ?_)
            · exact HFn.out
            clear hKx Kx
            (try simp only [Act.put, List.setIfInBounds_toArray, List.set_cons_zero, List.set_cons_succ, List.getElem_toArray, List.getElem_cons_zero, List.getElem_cons_succ])
            refine wpAnyH_more (fun w' => Fr (fun _ => False) v2 w') (fun _ h => HFn.out.trans h (fun _ _ h => h)) ?_ (fun hHeld => ?_)
            · exact Fr.refl _ _
            clear HFn
            refine wpAnyH_ready (rs := [2]) (by kernel_rfl) (by simp) ?_
            refine AllReadyH.cons rfl (fun Kx hKx => ?_) AllReadyH.nil
            go_simp
            have hcon := HSM.out (v2) HGc.out
            with_reducible refine hcon.mono ?_
            clear hcon
            rintro e' v3 ⟨rfl, hff⟩
            have HFn : Hid (Fr (fun _ => False) v2 v3) := Lib.hid (hff)
            clear hff
            have HB4 := Lib.hid (HB4.out.fr HFn.out (fun h => h))
            have HB6 := Lib.hid (HB6.out.fr HFn.out (fun h => h))
            have HGc := Lib.hid (HGc.out.trans HFn.out (fun _ _ h => h))
            refine hKx.out _ _ ?_ (fun hHeld => ?_)
            · exact HFn.out
            clear hKx Kx
            (try simp only [Act.put, List.setIfInBounds_toArray, List.set_cons_zero, List.set_cons_succ, List.getElem_toArray, List.getElem_cons_zero, List.getElem_cons_succ])
            refine wpAnyH_more (fun w' => Fr (fun _ => False) v3 w') (fun _ h => HFn.out.trans h (fun _ _ h => h)) ?_ (fun hHeld => ?_)
            · exact Fr.refl _ _
            clear HFn
            refine wpAnyH_ready (rs := [7]) (by kernel_rfl) (by simp) ?_
            refine AllReadyH.cons rfl (fun Kx hKx => ?_) AllReadyH.nil
            go_simp
            have hcon := HRS.out (v3) HGc.out q4 q6 HB4.out HB6.out
            with_reducible refine hcon.mono ?_
            clear hcon
            rintro e' v4 ⟨rfl, hff⟩
            have HFn : Hid (Fr (fun _ => False) v3 v4) := Lib.hid (hff)
            clear hff
            have HB4 := Lib.hid (HB4.out.fr HFn.out (fun h => h))
            have HB6 := Lib.hid (HB6.out.fr HFn.out (fun h => h))
            have HGc := Lib.hid (HGc.out.trans HFn.out (fun _ _ h => h))
            refine hKx.out _ _ ?_ (fun hHeld => ?_)
            · exact HFn.out
            clear hKx Kx
            (try simp only [Act.put, List.setIfInBounds_toArray, List.set_cons_zero, List.set_cons_succ, List.getElem_toArray, List.getElem_cons_zero, List.getElem_cons_succ])
            refine wpAnyH_more (fun w' => Fr (fun _ => False) v4 w') (fun _ h => HFn.out.trans h (fun _ _ h => h)) ?_ (fun hHeld => ?_)
            · exact Fr.refl _ _
            clear HFn
            refine wpAnyH_take (i := 8) (v := ?vt63) rfl (by kernel_rfl) (by kernel_rfl) (by kernel_rfl) (fun _ _ _ h => h) (Or.inl ⟨by rfl, ?hyt63⟩) hHeld ?restt63
            case hyt63 => intro w hSw; (try dsimp only at hSw); go_simp; try (with_reducible rfl)
            (try simp only [Act.put, List.setIfInBounds_toArray, List.set_cons_zero, List.set_cons_succ, List.getElem_toArray, List.getElem_cons_zero, List.getElem_cons_succ])
            refine wpAnyH_take (i := 9) (v := ?vt64) rfl (by kernel_rfl) (by kernel_rfl) (by kernel_rfl) (fun _ _ _ h => h) (Or.inl ⟨by rfl, ?hyt64⟩) hHeld ?restt64
            case hyt64 => intro w hSw; (try dsimp only at hSw); go_simp; try (with_reducible rfl)
            (try simp only [Act.put, List.setIfInBounds_toArray, List.set_cons_zero, List.set_cons_succ, List.getElem_toArray, List.getElem_cons_zero, List.getElem_cons_succ])
            refine wpAnyH_take (i := 10) (v := ?vt65) rfl (by kernel_rfl) (by kernel_rfl) (by kernel_rfl) (fun _ _ _ h => h) (Or.inl ⟨by rfl, ?hyt65⟩) hHeld ?restt65
            case hyt65 => intro w hSw; (try dsimp only at hSw); obtain ⟨c0, c1, c2, c3, c4, c5, c6, c7, c8, c9, c10, c11, c12⟩ := HX.out.fr (HGc.out.trans hSw (fun _ _ h => h)) (fun h => h) |>.cells; go_simp; try (with_reducible rfl)
            (try simp only [Act.put, List.setIfInBounds_toArray, List.set_cons_zero, List.set_cons_succ, List.getElem_toArray, List.getElem_cons_zero, List.getElem_cons_succ])
            refine wpAnyH_take (i := 11) (v := ?vt66) rfl (by kernel_rfl) (by kernel_rfl) (by kernel_rfl) (fun _ _ _ h => h) (Or.inl ⟨by rfl, ?hyt66⟩) hHeld ?restt66
            case hyt66 => intro w hSw; (try dsimp only at hSw); obtain ⟨c0, c1, c2, c3, c4, c5, c6, c7, c8, c9, c10, c11, c12⟩ := HX.out.fr (HGc.out.trans hSw (fun _ _ h => h)) (fun h => h) |>.cells; go_simp; try (with_reducible rfl)
            (try simp only [Act.put, List.setIfInBounds_toArray, List.set_cons_zero, List.set_cons_succ, List.getElem_toArray, List.getElem_cons_zero, List.getElem_cons_succ])
            refine wpAnyH_ready (rs := [12]) (by kernel_rfl) (by simp) ?_
            refine AllReadyH.cons rfl (fun Kx hKx => ?_) AllReadyH.nil
            go_simp
            have hcon := HSX.out (v4) HGc.out
            with_reducible refine hcon.mono ?_
            clear hcon
            rintro e' v5 ⟨rfl, hff⟩
            have HFn : Hid (Fr (fun _ => False) v4 v5) := Lib.hid (hff)
            clear hff
            have HB4 := Lib.hid (HB4.out.fr HFn.out (fun h => h))
            have HB6 := Lib.hid (HB6.out.fr HFn.out (fun h => h))
            have HGc := Lib.hid (HGc.out.trans HFn.out (fun _ _ h => h))
            refine hKx.out _ _ ?_ (fun hHeld => ?_)
            · exact HFn.out
            clear hKx Kx
            (try simp only [Act.put, List.setIfInBounds_toArray, List.set_cons_zero, List.set_cons_succ, List.getElem_toArray, List.getElem_cons_zero, List.getElem_cons_succ])
            refine wpAnyH_more (fun w' => Fr (fun _ => False) v5 w') (fun _ h => HFn.out.trans h (fun _ _ h => h)) ?_ (fun hHeld => ?_)
            · exact Fr.refl _ _
            clear HFn
            refine wpAnyH_take (i := 13) (v := ?vt67) rfl (by kernel_rfl) (by kernel_rfl) (by kernel_rfl) (fun _ _ _ h => h) (Or.inl ⟨by rfl, ?hyt67⟩) hHeld ?restt67
            case hyt67 => intro w hSw; (try dsimp only at hSw); go_simp; try (with_reducible rfl)
            (try simp only [Act.put, List.setIfInBounds_toArray, List.set_cons_zero, List.set_cons_succ, List.getElem_toArray, List.getElem_cons_zero, List.getElem_cons_succ])
            refine wpAnyH_take (i := 14) (v := ?vt68) rfl (by kernel_rfl) (by kernel_rfl) (by kernel_rfl) (fun _ _ _ h => h) (Or.inl ⟨by rfl, ?hyt68⟩) hHeld ?restt68
            case hyt68 => intro w hSw; (try dsimp only at hSw); go_simp; try (with_reducible rfl)
            (try simp only [Act.put, List.setIfInBounds_toArray, List.set_cons_zero, List.set_cons_succ, List.getElem_toArray, List.getElem_cons_zero, List.getElem_cons_succ])
            refine wpAnyH_done (by kernel_rfl) ?_ _
            go_wp2_with fail
            go_ret
            exact ⟨rfl, HF6.out.trans HGc.out (fun _ _ h => h)⟩
          refine AllReadyH.cons rfl (fun Kx hKx => ?_) AllReadyH.nil
          go_simp
          obtain ⟨v1, hwm⟩ : ∃ v, (wr.alloc (.cells #[.int .i64 y.o.obj.c, .string (txt y.o.obj.a), .string (txt y.o.key), .bool y.o.keyed, .int .i64 y.o.elem.c, .string (txt y.o.elem.a), .bool y.o.ins, .int .i64 y.o.act, .int .i64 y.o.val.k, .int .u64 (y.o.val.u : Int), .int .i64 y.o.val.n, .string (txt y.o.val.s), .slice y.A y.o.pr.length y.c] 33)).drew = v := ⟨_, rfl⟩
          rw [hwm]
          obtain ⟨q6, hqm⟩ : ∃ q, wr.heap.size = q := ⟨_, rfl⟩
          try rw [hqm]
          have HFn : Hid (Fr (fun _ => False) wr v1) := Lib.hid (by rw [← hwm]; exact ((Fr.refl _ _).alloc _).drew)
          have hbm : Row v1 q6 33 (ols y) := by rw [← hwm, ← hqm]; exact RowO.new wr y
          have HB6 := Lib.hid hbm
          clear hwm hqm hbm
          have HGc := Lib.hid (HGc.out.trans HFn.out (fun _ _ h => h))
          refine hKx.out _ _ ?_ (fun hHeld => ?_)
          · exact HFn.out
          clear hKx Kx
          (try simp only [Act.put, List.setIfInBounds_toArray, List.set_cons_zero, List.set_cons_succ, List.getElem_toArray, List.getElem_cons_zero, List.getElem_cons_succ])
          refine wpAnyH_more (fun w' => Fr (fun _ => False) v1 w') (fun _ h => HFn.out.trans h (fun _ _ h => h)) ?_ (fun hHeld => ?_)
          · exact Fr.refl _ _
          clear HFn
          refine wpAnyH_ready (rs := [2, 4]) (by kernel_rfl) (by simp) ?_
          refine AllReadyH.cons rfl (fun Kx hKx => ?_) ?_
          · go_simp
            have hcon := HSM.out (v1) HGc.out
            with_reducible refine hcon.mono ?_
            clear hcon
            rintro e' v2 ⟨rfl, hff⟩
            have HFn : Hid (Fr (fun _ => False) v1 v2) := Lib.hid (hff)
            clear hff
            have HB6 := Lib.hid (HB6.out.fr HFn.out (fun h => h))
            have HGc := Lib.hid (HGc.out.trans HFn.out (fun _ _ h => h))
            refine hKx.out _ _ ?_ (fun hHeld => ?_)
            · exact HFn.out
            clear hKx Kx
            (try simp only [Act.put, List.setIfInBounds_toArray, List.set_cons_zero, List.set_cons_succ, List.getElem_toArray, List.getElem_cons_zero, List.getElem_cons_succ])
            refine wpAnyH_more (fun w' => Fr (fun _ => False) v2 w') (fun _ h => HFn.out.trans h (fun _ _ h => h)) ?_ (fun hHeld => ?_)
            · exact Fr.refl _ _
            clear HFn
            refine wpAnyH_ready (rs := [4]) (by kernel_rfl) (by simp) ?_
            refine AllReadyH.cons rfl (fun Kx hKx => ?_) AllReadyH.nil
            go_simp
            obtain ⟨v3, hwm⟩ : ∃ v, (v2.alloc (.cells #[.int .i64 x.o.obj.c, .string (txt x.o.obj.a), .string (txt x.o.key), .bool x.o.keyed, .int .i64 x.o.elem.c, .string (txt x.o.elem.a), .bool x.o.ins, .int .i64 x.o.act, .int .i64 x.o.val.k, .int .u64 (x.o.val.u : Int), .int .i64 x.o.val.n, .string (txt x.o.val.s), .slice x.A x.o.pr.length x.c] 33)) = v := ⟨_, rfl⟩
            rw [hwm]
            obtain ⟨q4, hqm⟩ : ∃ q, v2.heap.size = q := ⟨_, rfl⟩
            try rw [hqm]
            have HFn : Hid (Fr (fun _ => False) v2 v3) := Lib.hid (by rw [← hwm]; exact ((Fr.refl _ _).alloc _))
            have hbm : Row v3 q4 33 (ols x) := by rw [← hwm, ← hqm]; exact RowO.new v2 x
            have HB4 := Lib.hid hbm
            clear hwm hqm hbm
            have HB6 := Lib.hid (HB6.out.fr HFn.out (fun h => h))
            have HGc := Lib.hid (HGc.out.trans HFn.out (fun _ _ h => h))
            refine hKx.out _ _ ?_ (fun hHeld => ?_)
            · exact HFn.out
            clear hKx Kx
            (try simp only [Act.put, List.setIfInBounds_toArray, List.set_cons_zero, List.set_cons_succ, List.getElem_toArray, List.getElem_cons_zero, List.getElem_cons_succ])
            refine wpAnyH_more (fun w' => Fr (fun _ => False) v3 w') (fun _ h => HFn.out.trans h (fun _ _ h => h)) ?_ (fun hHeld => ?_)
            · exact Fr.refl _ _
            clear HFn
            refine wpAnyH_ready (rs := [7]) (by kernel_rfl) (by simp) ?_
            refine AllReadyH.cons rfl (fun Kx hKx => ?_) AllReadyH.nil
            go_simp
            have hcon := HRS.out (v3) HGc.out q4 q6 HB4.out HB6.out
            with_reducible refine hcon.mono ?_
            clear hcon
            rintro e' v4 ⟨rfl, hff⟩
            have HFn : Hid (Fr (fun _ => False) v3 v4) := Lib.hid (hff)
            clear hff
            have HB6 := Lib.hid (HB6.out.fr HFn.out (fun h => h))
            have HB4 := Lib.hid (HB4.out.fr HFn.out (fun h => h))
            have HGc := Lib.hid (HGc.out.trans HFn.out (fun _ _ h => h))
            refine hKx.out _ _ ?_ (fun hHeld => ?_)
            · exact HFn.out
            clear hKx Kx
            (try simp only [Act.put, List.setIfInBounds_toArray, List.set_cons_zero, List.set_cons_succ, List.getElem_toArray, List.getElem_cons_zero, List.getElem_cons_succ])
            refine wpAnyH_more (fun w' => Fr (fun _ => False) v4 w') (fun _ h => HFn.out.trans h (fun _ _ h => h)) ?_ (fun hHeld => ?_)
            · exact Fr.refl _ _
            clear HFn
            refine wpAnyH_take (i := 8) (v := ?vt69) rfl (by kernel_rfl) (by kernel_rfl) (by kernel_rfl) (fun _ _ _ h => h) (Or.inl ⟨by rfl, ?hyt69⟩) hHeld ?restt69
            case hyt69 => intro w hSw; (try dsimp only at hSw); go_simp; try (with_reducible rfl)
            (try simp only [Act.put, List.setIfInBounds_toArray, List.set_cons_zero, List.set_cons_succ, List.getElem_toArray, List.getElem_cons_zero, List.getElem_cons_succ])
            refine wpAnyH_take (i := 9) (v := ?vt70) rfl (by kernel_rfl) (by kernel_rfl) (by kernel_rfl) (fun _ _ _ h => h) (Or.inl ⟨by rfl, ?hyt70⟩) hHeld ?restt70
            case hyt70 => intro w hSw; (try dsimp only at hSw); go_simp; try (with_reducible rfl)
            (try simp only [Act.put, List.setIfInBounds_toArray, List.set_cons_zero, List.set_cons_succ, List.getElem_toArray, List.getElem_cons_zero, List.getElem_cons_succ])
            refine wpAnyH_take (i := 10) (v := ?vt71) rfl (by kernel_rfl) (by kernel_rfl) (by kernel_rfl) (fun _ _ _ h => h) (Or.inl ⟨by rfl, ?hyt71⟩) hHeld ?restt71
            case hyt71 => intro w hSw; (try dsimp only at hSw); obtain ⟨c0, c1, c2, c3, c4, c5, c6, c7, c8, c9, c10, c11, c12⟩ := HX.out.fr (HGc.out.trans hSw (fun _ _ h => h)) (fun h => h) |>.cells; go_simp; try (with_reducible rfl)
            (try simp only [Act.put, List.setIfInBounds_toArray, List.set_cons_zero, List.set_cons_succ, List.getElem_toArray, List.getElem_cons_zero, List.getElem_cons_succ])
            refine wpAnyH_take (i := 11) (v := ?vt72) rfl (by kernel_rfl) (by kernel_rfl) (by kernel_rfl) (fun _ _ _ h => h) (Or.inl ⟨by rfl, ?hyt72⟩) hHeld ?restt72
            case hyt72 => intro w hSw; (try dsimp only at hSw); obtain ⟨c0, c1, c2, c3, c4, c5, c6, c7, c8, c9, c10, c11, c12⟩ := HX.out.fr (HGc.out.trans hSw (fun _ _ h => h)) (fun h => h) |>.cells; go_simp; try (with_reducible rfl)
            (try simp only [Act.put, List.setIfInBounds_toArray, List.set_cons_zero, List.set_cons_succ, List.getElem_toArray, List.getElem_cons_zero, List.getElem_cons_succ])
            refine wpAnyH_ready (rs := [12]) (by kernel_rfl) (by simp) ?_
            refine AllReadyH.cons rfl (fun Kx hKx => ?_) AllReadyH.nil
            go_simp
            have hcon := HSX.out (v4) HGc.out
            with_reducible refine hcon.mono ?_
            clear hcon
            rintro e' v5 ⟨rfl, hff⟩
            have HFn : Hid (Fr (fun _ => False) v4 v5) := Lib.hid (hff)
            clear hff
            have HB6 := Lib.hid (HB6.out.fr HFn.out (fun h => h))
            have HB4 := Lib.hid (HB4.out.fr HFn.out (fun h => h))
            have HGc := Lib.hid (HGc.out.trans HFn.out (fun _ _ h => h))
            refine hKx.out _ _ ?_ (fun hHeld => ?_)
            · exact HFn.out
            clear hKx Kx
            (try simp only [Act.put, List.setIfInBounds_toArray, List.set_cons_zero, List.set_cons_succ, List.getElem_toArray, List.getElem_cons_zero, List.getElem_cons_succ])
            refine wpAnyH_more (fun w' => Fr (fun _ => False) v5 w') (fun _ h => HFn.out.trans h (fun _ _ h => h)) ?_ (fun hHeld => ?_)
            · exact Fr.refl _ _
            clear HFn
            refine wpAnyH_take (i := 13) (v := ?vt73) rfl (by kernel_rfl) (by kernel_rfl) (by kernel_rfl) (fun _ _ _ h => h) (Or.inl ⟨by rfl, ?hyt73⟩) hHeld ?restt73
            case hyt73 => intro w hSw; (try dsimp only at hSw); go_simp; try (with_reducible rfl)
            (try simp only [Act.put, List.setIfInBounds_toArray, List.set_cons_zero, List.set_cons_succ, List.getElem_toArray, List.getElem_cons_zero, List.getElem_cons_succ])
            refine wpAnyH_take (i := 14) (v := ?vt74) rfl (by kernel_rfl) (by kernel_rfl) (by kernel_rfl) (fun _ _ _ h => h) (Or.inl ⟨by rfl, ?hyt74⟩) hHeld ?restt74
            case hyt74 => intro w hSw; (try dsimp only at hSw); go_simp; try (with_reducible rfl)
            (try simp only [Act.put, List.setIfInBounds_toArray, List.set_cons_zero, List.set_cons_succ, List.getElem_toArray, List.getElem_cons_zero, List.getElem_cons_succ])
            refine wpAnyH_done (by kernel_rfl) ?_ _
            go_wp2_with fail
            go_ret
            exact ⟨rfl, HF6.out.trans HGc.out (fun _ _ h => h)⟩
          refine AllReadyH.cons rfl (fun Kx hKx => ?_) AllReadyH.nil
          go_simp
          obtain ⟨v2, hwm⟩ : ∃ v, (v1.alloc (.cells #[.int .i64 x.o.obj.c, .string (txt x.o.obj.a), .string (txt x.o.key), .bool x.o.keyed, .int .i64 x.o.elem.c, .string (txt x.o.elem.a), .bool x.o.ins, .int .i64 x.o.act, .int .i64 x.o.val.k, .int .u64 (x.o.val.u : Int), .int .i64 x.o.val.n, .string (txt x.o.val.s), .slice x.A x.o.pr.length x.c] 33)) = v := ⟨_, rfl⟩
          rw [hwm]
          obtain ⟨q4, hqm⟩ : ∃ q, v1.heap.size = q := ⟨_, rfl⟩
          try rw [hqm]
          have HFn : Hid (Fr (fun _ => False) v1 v2) := Lib.hid (by rw [← hwm]; exact ((Fr.refl _ _).alloc _))
          have hbm : Row v2 q4 33 (ols x) := by rw [← hwm, ← hqm]; exact RowO.new v1 x
          have HB4 := Lib.hid hbm
          clear hwm hqm hbm
          have HB6 := Lib.hid (HB6.out.fr HFn.out (fun h => h))
          have HGc := Lib.hid (HGc.out.trans HFn.out (fun _ _ h => h))
          refine hKx.out _ _ ?_ (fun hHeld => ?_)
          · exact HFn.out
          clear hKx Kx
          (try simp only [Act.put, List.setIfInBounds_toArray, List.set_cons_zero, List.set_cons_succ, List.getElem_toArray, List.getElem_cons_zero, List.getElem_cons_succ])
          refine wpAnyH_more (fun w' => Fr (fun _ => False) v2 w') (fun _ h => HFn.out.trans h (fun _ _ h => h)) ?_ (fun hHeld => ?_)
          · exact Fr.refl _ _
          clear HFn
          refine wpAnyH_ready (rs := [2]) (by kernel_rfl) (by simp) ?_
          refine AllReadyH.cons rfl (fun Kx hKx => ?_) AllReadyH.nil
          go_simp
          have hcon := HSM.out (v2) HGc.out
          with_reducible refine hcon.mono ?_
          clear hcon
          rintro e' v3 ⟨rfl, hff⟩
          have HFn : Hid (Fr (fun _ => False) v2 v3) := Lib.hid (hff)
          clear hff
          have HB6 := Lib.hid (HB6.out.fr HFn.out (fun h => h))
          have HB4 := Lib.hid (HB4.out.fr HFn.out (fun h => h))
          have HGc := Lib.hid (HGc.out.trans HFn.out (fun _ _ h => h))
          refine hKx.out _ _ ?_ (fun hHeld => ?_)
          · exact HFn.out
          clear hKx Kx
          (try simp only [Act.put, List.setIfInBounds_toArray, List.set_cons_zero, List.set_cons_succ, List.getElem_toArray, List.getElem_cons_zero, List.getElem_cons_succ])
          refine wpAnyH_more (fun w' => Fr (fun _ => False) v3 w') (fun _ h => HFn.out.trans h (fun _ _ h => h)) ?_ (fun hHeld => ?_)
          · exact Fr.refl _ _
          clear HFn
          refine wpAnyH_ready (rs := [7]) (by kernel_rfl) (by simp) ?_
          refine AllReadyH.cons rfl (fun Kx hKx => ?_) AllReadyH.nil
          go_simp
          have hcon := HRS.out (v3) HGc.out q4 q6 HB4.out HB6.out
          with_reducible refine hcon.mono ?_
          clear hcon
          rintro e' v4 ⟨rfl, hff⟩
          have HFn : Hid (Fr (fun _ => False) v3 v4) := Lib.hid (hff)
          clear hff
          have HB6 := Lib.hid (HB6.out.fr HFn.out (fun h => h))
          have HB4 := Lib.hid (HB4.out.fr HFn.out (fun h => h))
          have HGc := Lib.hid (HGc.out.trans HFn.out (fun _ _ h => h))
          refine hKx.out _ _ ?_ (fun hHeld => ?_)
          · exact HFn.out
          clear hKx Kx
          (try simp only [Act.put, List.setIfInBounds_toArray, List.set_cons_zero, List.set_cons_succ, List.getElem_toArray, List.getElem_cons_zero, List.getElem_cons_succ])
          refine wpAnyH_more (fun w' => Fr (fun _ => False) v4 w') (fun _ h => HFn.out.trans h (fun _ _ h => h)) ?_ (fun hHeld => ?_)
          · exact Fr.refl _ _
          clear HFn
          refine wpAnyH_take (i := 8) (v := ?vt75) rfl (by kernel_rfl) (by kernel_rfl) (by kernel_rfl) (fun _ _ _ h => h) (Or.inl ⟨by rfl, ?hyt75⟩) hHeld ?restt75
          case hyt75 => intro w hSw; (try dsimp only at hSw); go_simp; try (with_reducible rfl)
          (try simp only [Act.put, List.setIfInBounds_toArray, List.set_cons_zero, List.set_cons_succ, List.getElem_toArray, List.getElem_cons_zero, List.getElem_cons_succ])
          refine wpAnyH_take (i := 9) (v := ?vt76) rfl (by kernel_rfl) (by kernel_rfl) (by kernel_rfl) (fun _ _ _ h => h) (Or.inl ⟨by rfl, ?hyt76⟩) hHeld ?restt76
          case hyt76 => intro w hSw; (try dsimp only at hSw); go_simp; try (with_reducible rfl)
          (try simp only [Act.put, List.setIfInBounds_toArray, List.set_cons_zero, List.set_cons_succ, List.getElem_toArray, List.getElem_cons_zero, List.getElem_cons_succ])
          refine wpAnyH_take (i := 10) (v := ?vt77) rfl (by kernel_rfl) (by kernel_rfl) (by kernel_rfl) (fun _ _ _ h => h) (Or.inl ⟨by rfl, ?hyt77⟩) hHeld ?restt77
          case hyt77 => intro w hSw; (try dsimp only at hSw); obtain ⟨c0, c1, c2, c3, c4, c5, c6, c7, c8, c9, c10, c11, c12⟩ := HX.out.fr (HGc.out.trans hSw (fun _ _ h => h)) (fun h => h) |>.cells; go_simp; try (with_reducible rfl)
          (try simp only [Act.put, List.setIfInBounds_toArray, List.set_cons_zero, List.set_cons_succ, List.getElem_toArray, List.getElem_cons_zero, List.getElem_cons_succ])
          refine wpAnyH_take (i := 11) (v := ?vt78) rfl (by kernel_rfl) (by kernel_rfl) (by kernel_rfl) (fun _ _ _ h => h) (Or.inl ⟨by rfl, ?hyt78⟩) hHeld ?restt78
          case hyt78 => intro w hSw; (try dsimp only at hSw); obtain ⟨c0, c1, c2, c3, c4, c5, c6, c7, c8, c9, c10, c11, c12⟩ := HX.out.fr (HGc.out.trans hSw (fun _ _ h => h)) (fun h => h) |>.cells; go_simp; try (with_reducible rfl)
          (try simp only [Act.put, List.setIfInBounds_toArray, List.set_cons_zero, List.set_cons_succ, List.getElem_toArray, List.getElem_cons_zero, List.getElem_cons_succ])
          refine wpAnyH_ready (rs := [12]) (by kernel_rfl) (by simp) ?_
          refine AllReadyH.cons rfl (fun Kx hKx => ?_) AllReadyH.nil
          go_simp
          have hcon := HSX.out (v4) HGc.out
          with_reducible refine hcon.mono ?_
          clear hcon
          rintro e' v5 ⟨rfl, hff⟩
          have HFn : Hid (Fr (fun _ => False) v4 v5) := Lib.hid (hff)
          clear hff
          have HB6 := Lib.hid (HB6.out.fr HFn.out (fun h => h))
          have HB4 := Lib.hid (HB4.out.fr HFn.out (fun h => h))
          have HGc := Lib.hid (HGc.out.trans HFn.out (fun _ _ h => h))
          refine hKx.out _ _ ?_ (fun hHeld => ?_)
          · exact HFn.out
          clear hKx Kx
          (try simp only [Act.put, List.setIfInBounds_toArray, List.set_cons_zero, List.set_cons_succ, List.getElem_toArray, List.getElem_cons_zero, List.getElem_cons_succ])
          refine wpAnyH_more (fun w' => Fr (fun _ => False) v5 w') (fun _ h => HFn.out.trans h (fun _ _ h => h)) ?_ (fun hHeld => ?_)
          · exact Fr.refl _ _
          clear HFn
          refine wpAnyH_take (i := 13) (v := ?vt79) rfl (by kernel_rfl) (by kernel_rfl) (by kernel_rfl) (fun _ _ _ h => h) (Or.inl ⟨by rfl, ?hyt79⟩) hHeld ?restt79
          case hyt79 => intro w hSw; (try dsimp only at hSw); go_simp; try (with_reducible rfl)
          (try simp only [Act.put, List.setIfInBounds_toArray, List.set_cons_zero, List.set_cons_succ, List.getElem_toArray, List.getElem_cons_zero, List.getElem_cons_succ])
          refine wpAnyH_take (i := 14) (v := ?vt80) rfl (by kernel_rfl) (by kernel_rfl) (by kernel_rfl) (fun _ _ _ h => h) (Or.inl ⟨by rfl, ?hyt80⟩) hHeld ?restt80
          case hyt80 => intro w hSw; (try dsimp only at hSw); go_simp; try (with_reducible rfl)
          (try simp only [Act.put, List.setIfInBounds_toArray, List.set_cons_zero, List.set_cons_succ, List.getElem_toArray, List.getElem_cons_zero, List.getElem_cons_succ])
          refine wpAnyH_done (by kernel_rfl) ?_ _
          go_wp2_with fail
          go_ret
          exact ⟨rfl, HF6.out.trans HGc.out (fun _ _ h => h)⟩
end Go.Proofs.Ytmiofhoojahpjaa
