/-
  Layer 14, the program: mayBe (written by gen_may.py).
-/
import Derived.Test.YtmiofhoojahpjaaVaH
namespace Go.Proofs.Ytmiofhoojahpjaa
open Go.RowKit Mem Go.Lib VaM LebM UtfM
attribute [local go_sem ↓] Go.wp_at_zero Go.wp_at_succ
set_option linter.unusedVariables false


theorem RowV.cells {w : World} {g : Nat} {v : V} (h : RowV w g v) : w.cell? ⟨g, 0, none⟩ = some (.int .i64 v.k) ∧ w.cell? ⟨g, 1, none⟩ = some (.int .u64 (v.u : Int)) ∧ w.cell? ⟨g, 2, none⟩ = some (.int .i64 v.n) ∧ w.cell? ⟨g, 3, none⟩ = some (.string (txt v.s)) := ⟨h.c0, h.c1, h.c2, h.c3⟩
/-- Put, Get of what was put, as the walks want them -/
theorem putget_of (v : V) (hv : v.ok) (hs : v.s.length ≤ 1000000) : ∃ (P : List UInt8) (m : Nat) (x : V) (ok : Bool) (E : Int), P = putV v ∧ m = P.length ∧ (x, ok) = getV v.k (putV v) ∧ E = (if ok = true then 0 else 3) ∧
    (∀ w', Calls Try.prog 43 #[.agg #[.int .i64 v.k, .int .u64 (v.u : Int), .int .i64 v.n, .string (txt v.s)]] w' fun e w'' => ∃ A c, e = .returned (.slice A m c) ∧ m ≤ c ∧ Rd w'' A m (P.map bytec) ∧ Fr (fun _ => False) w' w'') ∧
    (∀ w' A c, Rd w' A m (P.map bytec) → m ≤ c → Calls Try.prog 42 #[.int .i64 v.k, .slice A m c] w' fun e w'' => e = .returned (.tuple #[.agg #[.int .i64 x.k, .int .u64 (x.u : Int), .int .i64 x.n, .string (txt x.s)], .int .i64 E]) ∧ Fr (fun _ => False) w' w'') := by
  refine ⟨putV v, (putV v).length, (getV v.k (putV v)).1, (getV v.k (putV v)).2, _, rfl, rfl, rfl, rfl, fun w' => ?_, fun w' A c hr hc => ?_⟩
  · exact pvPut_any v w' hv
  · exact pvGet_any v.k A _ c (putV v) w' hr hc (put_len hv hs)

set_option maxRecDepth 100000 in
set_option maxHeartbeats 3200000 in
theorem mayBe_any (v : V) (w : World) (hv : v.ok) (hb : v.s.length ≤ 1000000) : Calls Try.prog 39 #[valc v] w fun e w' => e = .returned (.bool (rightV v)) ∧ Fr (fun _ => False) w w' := by
  have hri := right_iff hv
  obtain ⟨r, hr⟩ : ∃ r, rightV v = r := ⟨_, rfl⟩
  rw [hr]
  rw [hr] at hri
  obtain ⟨l, hl⟩ : ∃ l, l = v.s.length := ⟨_, rfl⟩
  have hsz : (txt v.s).size = l := by rw [txt_sz, hl]
  rw [← hl] at hb
  obtain ⟨g, hg⟩ : ∃ g, w.heap.size = g := ⟨_, rfl⟩
  obtain ⟨w1, hw1⟩ : ∃ w1, w.alloc (.cells #[.int .i64 v.k, .int .u64 (v.u : Int), .int .i64 v.n, .string (txt v.s)] 30) = w1 := ⟨_, rfl⟩
  have hf1 : Fr (fun _ => False) w w1 := by rw [← hw1]; exact (Fr.refl _ _).alloc _
  have hr1 : RowV w1 g v := by rw [← hw1, ← hg]; exact RowV.new w v
  have HG := Lib.hid hg
  obtain ⟨j0, j1, j2, j3⟩ := hr1.cells
  by_cases h4 : 4000 < l
  · rw [show decide (v.s.length ≤ 4000) = false from by simp; omega, Bool.false_and] at hri
    subst hri
    have t : decide ((4000 : Int) < (l : Int)) = true := by simp; omega
    have t' : decide (4000 < l) = true := by simp; omega
    have HF1 := Lib.hid hf1
    unfold valc
    clear hl hf1 hr1 hr
    go_enter Try.func39, Try.ntmps39
    go_wp2_with fail
    go_ret
    exact ⟨rfl, HF1.out⟩
  · have t : decide ((4000 : Int) < (l : Int)) = false := by simp; omega
    have t' : decide (4000 < l) = false := by simp; omega
    obtain ⟨P, m, x, ok, E, hP, hm, hx, hE, hput, hget⟩ := putget_of v hv (by omega)
    rw [show decide (v.s.length ≤ 4000) = true from by simp; omega, Bool.true_and, ← hx] at hri
    simp only at hri
    have HRI := Lib.hid hri
    have HPT := Lib.hid hput
    have HGT := Lib.hid hget
    have HE := Lib.hid hE
    have HF1 := Lib.hid hf1
    have HR := Lib.hid hr1
    unfold valc
    clear hri hl hf1 hr1 hput hget hE hP hm hx hr
    go_enter Try.func39, Try.ntmps39
    go_upto_region 3 with fail
    clear hw1 hg
    go_cut [3, 4] (fun a b wx => ∃ pb, a = .pointer (some ⟨pb, 0, none⟩) ∧ b = .int .i64 E ∧ RowV wx pb x ∧ RowV wx g v ∧ Fr (fun _ => False) w wx)
    case first =>
      refine wp_region_noPanic ?_
      refine wp_region_held_drew (S := fun w' => w'.cell? ⟨g, 0, none⟩ = some (.int .i64 v.k) ∧ w'.cell? ⟨g, 1, none⟩ = some (.int .u64 (v.u : Int)) ∧ w'.cell? ⟨g, 2, none⟩ = some (.int .i64 v.n) ∧ w'.cell? ⟨g, 3, none⟩ = some (.string (txt v.s))) (by kernel_rfl) ?_ (fun hHeld => ?_)
      · exact ⟨j0, j1, j2, j3⟩
      refine wpAnyH_take (i := 0) (v := ?va0) rfl (by kernel_rfl) (by kernel_rfl) (by kernel_rfl) (fun _ _ _ h => h) (Or.inl ⟨by rfl, ?hya0⟩) hHeld ?resta0
      case hya0 => intro w hSw; (try dsimp only at hSw); go_simp; try (with_reducible rfl)
      (try simp only [Act.put, List.setIfInBounds_toArray, List.set_cons_zero, List.set_cons_succ, List.getElem_toArray, List.getElem_cons_zero])
      refine wpAnyH_take (i := 1) (v := ?va1) rfl (by kernel_rfl) (by kernel_rfl) (by kernel_rfl) (fun _ _ _ h => h) (Or.inl ⟨by rfl, ?hya1⟩) hHeld ?resta1
      case hya1 => intro w hSw; (try dsimp only at hSw); go_simp; try (with_reducible rfl)
      (try simp only [Act.put, List.setIfInBounds_toArray, List.set_cons_zero, List.set_cons_succ, List.getElem_toArray, List.getElem_cons_zero, List.getElem_cons_succ])
      refine wpAnyH_take (i := 2) (v := ?va2) rfl (by kernel_rfl) (by kernel_rfl) (by kernel_rfl) (fun _ _ _ h => h) (Or.inl ⟨by rfl, ?hya2⟩) hHeld ?resta2
      case hya2 => intro w hSw; (try dsimp only at hSw); go_simp; try (with_reducible rfl)
      (try simp only [Act.put, List.setIfInBounds_toArray, List.set_cons_zero, List.set_cons_succ, List.getElem_toArray, List.getElem_cons_zero, List.getElem_cons_succ])
      refine wpAnyH_ready (rs := [3, 8]) (by kernel_rfl) (by simp) ?_
      refine AllReadyH.cons rfl (fun Kx hKx => ?_) ?_
      · go_simp
        refine (HPT.out w1.drew).mono ?_
        rintro e w2 ⟨A2, c2, rfl, hc2, hd2, hf2⟩
        have HR2 := Lib.hid ((show RowV w1.drew g v from HR.out).fr hf2 (fun h => h))
        have HF2 := Lib.hid ((HF1.out.drew).trans hf2 (fun _ _ h => h))
        have HC2 := Lib.hid hc2
        have HD2 := Lib.hid hd2
        
        clear hc2 hd2 hf2
        refine hKx.out _ _ ?_ (fun hHeld => ?_)
        · exact HR2.out.cells
        clear hKx Kx
        (try simp only [Act.put, List.setIfInBounds_toArray, List.set_cons_zero, List.set_cons_succ, List.getElem_toArray, List.getElem_cons_zero, List.getElem_cons_succ])
        refine wpAnyH_ready (rs := [4, 8]) (by kernel_rfl) (by simp) ?_
        refine AllReadyH.cons rfl (fun Kx hKx => ?_) ?_
        · go_simp
          refine (HGT.out w2 A2 c2 HD2.out HC2.out).mono ?_
          rintro e w3 ⟨rfl, hf3⟩
          have HR3 := Lib.hid (HR2.out.fr hf3 (fun h => h))
          have HF3 := Lib.hid (HF2.out.trans hf3 (fun _ _ h => h))
          
          clear hf3
          refine hKx.out _ _ ?_ (fun hHeld => ?_)
          · exact HR3.out.cells
          clear hKx Kx
          (try simp only [Act.put, List.setIfInBounds_toArray, List.set_cons_zero, List.set_cons_succ, List.getElem_toArray, List.getElem_cons_zero, List.getElem_cons_succ])
          refine wpAnyH_take (i := 5) (v := ?vc5) rfl (by kernel_rfl) (by kernel_rfl) (by kernel_rfl) (fun _ _ _ h => h) (Or.inl ⟨by rfl, ?hyc5⟩) hHeld ?restc5
          case hyc5 => intro w hSw; (try dsimp only at hSw); go_simp; try (with_reducible rfl)
          (try simp only [Act.put, List.setIfInBounds_toArray, List.set_cons_zero, List.set_cons_succ, List.getElem_toArray, List.getElem_cons_zero, List.getElem_cons_succ])
          refine wpAnyH_take (i := 6) (v := ?vc6) rfl (by kernel_rfl) (by kernel_rfl) (by kernel_rfl) (fun _ _ _ h => h) (Or.inl ⟨by rfl, ?hyc6⟩) hHeld ?restc6
          case hyc6 => intro w hSw; (try dsimp only at hSw); go_simp; try (with_reducible rfl)
          (try simp only [Act.put, List.setIfInBounds_toArray, List.set_cons_zero, List.set_cons_succ, List.getElem_toArray, List.getElem_cons_zero, List.getElem_cons_succ])
          refine wpAnyH_take (i := 7) (v := ?vc7) rfl (by kernel_rfl) (by kernel_rfl) (by kernel_rfl) (fun _ _ _ h => h) (Or.inl ⟨by rfl, ?hyc7⟩) hHeld ?restc7
          case hyc7 => intro w hSw; (try dsimp only at hSw); go_simp; try (with_reducible rfl)
          (try simp only [Act.put, List.setIfInBounds_toArray, List.set_cons_zero, List.set_cons_succ, List.getElem_toArray, List.getElem_cons_zero, List.getElem_cons_succ])
          refine wpAnyH_ready (rs := [8]) (by kernel_rfl) (by simp) ?_
          refine AllReadyH.cons rfl (fun Kx hKx => ?_) AllReadyH.nil
          go_simp
          obtain ⟨w4, hwa⟩ : ∃ y, (w3.alloc (.cells #[.int .i64 0, .int .u64 0, .int .i64 0, .string ⟨#[]⟩] 30)) = y := ⟨_, rfl⟩
          rw [hwa]
          obtain ⟨pb, hpb⟩ : ∃ p, w3.heap.size = p := ⟨_, rfl⟩
          try rw [hpb]
          have hfa : Fr (fun _ => False) w3 w4 := by rw [← hwa]; exact (Fr.refl _ _).alloc _
          have hpa : RowV w4 pb zeroV := by rw [← hwa, ← hpb]; exact RowV.new w3 zeroV
          have HPN : Hid (w.heap.size ≤ pb ∧ g ≠ pb) := Lib.hid (by have h1 := HR3.out.lt; have h2 := HF3.out.size; omega)
          have HRa := Lib.hid (HR3.out.fr hfa (fun h => h))
          have HFa := Lib.hid (HF3.out.trans hfa (fun _ _ h => h))
          have HPa := Lib.hid hpa
          
          clear hwa hpb hfa hpa
          have HR4 := HRa
          have HF4 := HFa
          have HP4 := HPa
          refine hKx.out _ _ ?_ (fun hHeld => ?_)
          · exact HR4.out.cells
          clear hKx Kx
          (try simp only [Act.put, List.setIfInBounds_toArray, List.set_cons_zero, List.set_cons_succ, List.getElem_toArray, List.getElem_cons_zero, List.getElem_cons_succ])
          refine wpAnyH_ready (rs := [9]) (by kernel_rfl) (by simp) ?_
          refine AllReadyH.cons rfl (fun Kx hKx => ?_) AllReadyH.nil
          refine step_store_whole vSz (by rfl) _ _ (by rfl) pb (by rfl) (vls x).toArray (by rfl) _ _ HP4.out rfl rfl (v_one x) ?_
          intro w8 hr8 hf8
          have HX8 : Hid (RowV w8 pb x) := Lib.hid hr8
          have HR8 := Lib.hid (HR4.out.fr hf8 HPN.out.2)
          have HF8 := Lib.hid (HF4.out.trans hf8 (fun b hb h => by have := HPN.out.1; omega))
          clear hr8 hf8
          refine hKx.out _ _ ?_ (fun hHeld => ?_)
          · exact HR8.out.cells
          clear hKx Kx
          (try simp only [Act.put, List.getElem_toArray, List.getElem_cons_zero, List.getElem_cons_succ])
          refine wpAnyH_ready (rs := [10]) (by kernel_rfl) (by simp) ?_
          refine AllReadyH.cons rfl (fun Kx hKx => ?_) AllReadyH.nil
          go_simp
          refine hKx.out _ _ ?_ (fun hHeld => ?_)
          · exact HR8.out.cells
          clear hKx Kx
          (try simp only [Act.put, List.setIfInBounds_toArray, List.set_cons_zero, List.set_cons_succ, List.getElem_toArray, List.getElem_cons_zero, List.getElem_cons_succ])
          refine wpAnyH_done (by kernel_rfl) ?_ _
          refine NoPanic.normal ?_
          all_goals (go_wp2_with fail; go_meet; exact ⟨pb, rfl, rfl, HX8.out, HR8.out, HF8.out⟩)
        refine AllReadyH.cons rfl (fun Kx hKx => ?_) AllReadyH.nil
        go_simp
        obtain ⟨wa, hwa⟩ : ∃ y, (w2.alloc (.cells #[.int .i64 0, .int .u64 0, .int .i64 0, .string ⟨#[]⟩] 30)) = y := ⟨_, rfl⟩
        rw [hwa]
        obtain ⟨pb, hpb⟩ : ∃ p, w2.heap.size = p := ⟨_, rfl⟩
        try rw [hpb]
        have hfa : Fr (fun _ => False) w2 wa := by rw [← hwa]; exact (Fr.refl _ _).alloc _
        have hpa : RowV wa pb zeroV := by rw [← hwa, ← hpb]; exact RowV.new w2 zeroV
        have HPN : Hid (w.heap.size ≤ pb ∧ g ≠ pb) := Lib.hid (by have h1 := HR2.out.lt; have h2 := HF2.out.size; omega)
        have HRa := Lib.hid (HR2.out.fr hfa (fun h => h))
        have HFa := Lib.hid (HF2.out.trans hfa (fun _ _ h => h))
        have HPa := Lib.hid hpa
        have HDa := Lib.hid (HD2.out.fr hfa (fun _ _ h => h))
        clear hwa hpb hfa hpa
        refine hKx.out _ _ ?_ (fun hHeld => ?_)
        · exact HRa.out.cells
        clear hKx Kx
        (try simp only [Act.put, List.setIfInBounds_toArray, List.set_cons_zero, List.set_cons_succ, List.getElem_toArray, List.getElem_cons_zero, List.getElem_cons_succ])
        refine wpAnyH_ready (rs := [4]) (by kernel_rfl) (by simp) ?_
        refine AllReadyH.cons rfl (fun Kx hKx => ?_) AllReadyH.nil
        go_simp
        refine (HGT.out wa A2 c2 HDa.out HC2.out).mono ?_
        rintro e w4 ⟨rfl, hf3⟩
        have HR4 := Lib.hid (HRa.out.fr hf3 (fun h => h))
        have HF4 := Lib.hid (HFa.out.trans hf3 (fun _ _ h => h))
        have HP4 := Lib.hid (HPa.out.fr hf3 (fun h => h))
        clear hf3
        refine hKx.out _ _ ?_ (fun hHeld => ?_)
        · exact HR4.out.cells
        clear hKx Kx
        (try simp only [Act.put, List.setIfInBounds_toArray, List.set_cons_zero, List.set_cons_succ, List.getElem_toArray, List.getElem_cons_zero, List.getElem_cons_succ])
        refine wpAnyH_take (i := 5) (v := ?vd5) rfl (by kernel_rfl) (by kernel_rfl) (by kernel_rfl) (fun _ _ _ h => h) (Or.inl ⟨by rfl, ?hyd5⟩) hHeld ?restd5
        case hyd5 => intro w hSw; (try dsimp only at hSw); go_simp; try (with_reducible rfl)
        (try simp only [Act.put, List.setIfInBounds_toArray, List.set_cons_zero, List.set_cons_succ, List.getElem_toArray, List.getElem_cons_zero, List.getElem_cons_succ])
        refine wpAnyH_take (i := 6) (v := ?vd6) rfl (by kernel_rfl) (by kernel_rfl) (by kernel_rfl) (fun _ _ _ h => h) (Or.inl ⟨by rfl, ?hyd6⟩) hHeld ?restd6
        case hyd6 => intro w hSw; (try dsimp only at hSw); go_simp; try (with_reducible rfl)
        (try simp only [Act.put, List.setIfInBounds_toArray, List.set_cons_zero, List.set_cons_succ, List.getElem_toArray, List.getElem_cons_zero, List.getElem_cons_succ])
        refine wpAnyH_take (i := 7) (v := ?vd7) rfl (by kernel_rfl) (by kernel_rfl) (by kernel_rfl) (fun _ _ _ h => h) (Or.inl ⟨by rfl, ?hyd7⟩) hHeld ?restd7
        case hyd7 => intro w hSw; (try dsimp only at hSw); go_simp; try (with_reducible rfl)
        (try simp only [Act.put, List.setIfInBounds_toArray, List.set_cons_zero, List.set_cons_succ, List.getElem_toArray, List.getElem_cons_zero, List.getElem_cons_succ])
        refine wpAnyH_ready (rs := [9]) (by kernel_rfl) (by simp) ?_
        refine AllReadyH.cons rfl (fun Kx hKx => ?_) AllReadyH.nil
        refine step_store_whole vSz (by rfl) _ _ (by rfl) pb (by rfl) (vls x).toArray (by rfl) _ _ HP4.out rfl rfl (v_one x) ?_
        intro w8 hr8 hf8
        have HX8 : Hid (RowV w8 pb x) := Lib.hid hr8
        have HR8 := Lib.hid (HR4.out.fr hf8 HPN.out.2)
        have HF8 := Lib.hid (HF4.out.trans hf8 (fun b hb h => by have := HPN.out.1; omega))
        clear hr8 hf8
        refine hKx.out _ _ ?_ (fun hHeld => ?_)
        · exact HR8.out.cells
        clear hKx Kx
        (try simp only [Act.put, List.getElem_toArray, List.getElem_cons_zero, List.getElem_cons_succ])
        refine wpAnyH_ready (rs := [10]) (by kernel_rfl) (by simp) ?_
        refine AllReadyH.cons rfl (fun Kx hKx => ?_) AllReadyH.nil
        go_simp
        refine hKx.out _ _ ?_ (fun hHeld => ?_)
        · exact HR8.out.cells
        clear hKx Kx
        (try simp only [Act.put, List.setIfInBounds_toArray, List.set_cons_zero, List.set_cons_succ, List.getElem_toArray, List.getElem_cons_zero, List.getElem_cons_succ])
        refine wpAnyH_done (by kernel_rfl) ?_ _
        refine NoPanic.normal ?_
        all_goals (go_wp2_with fail; go_meet; exact ⟨pb, rfl, rfl, HX8.out, HR8.out, HF8.out⟩)
      refine AllReadyH.cons rfl (fun Kx hKx => ?_) AllReadyH.nil
      go_simp
      obtain ⟨wa, hwa⟩ : ∃ y, (w1.alloc (.cells #[.int .i64 0, .int .u64 0, .int .i64 0, .string ⟨#[]⟩] 30)).drew = y := ⟨_, rfl⟩
      rw [hwa]
      obtain ⟨pb, hpb⟩ : ∃ p, w1.heap.size = p := ⟨_, rfl⟩
      try rw [hpb]
      have hfa : Fr (fun _ => False) w1 wa := by rw [← hwa]; exact ((Fr.refl _ _).alloc _).drew
      have hpa : RowV wa pb zeroV := by rw [← hwa, ← hpb]; exact RowV.new w1 zeroV
      have HPN : Hid (w.heap.size ≤ pb ∧ g ≠ pb) := Lib.hid (by have h1 := HR.out.lt; have h2 := HF1.out.size; omega)
      have HRa := Lib.hid (HR.out.fr hfa (fun h => h))
      have HFa := Lib.hid (HF1.out.trans hfa (fun _ _ h => h))
      have HPa := Lib.hid hpa

      clear hwa hpb hfa hpa
      refine hKx.out _ _ ?_ (fun hHeld => ?_)
      · exact HRa.out.cells
      clear hKx Kx
      (try simp only [Act.put, List.setIfInBounds_toArray, List.set_cons_zero, List.set_cons_succ, List.getElem_toArray, List.getElem_cons_zero, List.getElem_cons_succ])
      refine wpAnyH_ready (rs := [3]) (by kernel_rfl) (by simp) ?_
      refine AllReadyH.cons rfl (fun Kx hKx => ?_) AllReadyH.nil
      go_simp
      refine (HPT.out wa).mono ?_
      rintro e w2 ⟨A2, c2, rfl, hc2, hd2, hf2⟩
      have HR2 := Lib.hid ((HRa.out).fr hf2 (fun h => h))
      have HF2 := Lib.hid ((HFa.out).trans hf2 (fun _ _ h => h))
      have HC2 := Lib.hid hc2
      have HD2 := Lib.hid hd2
      have HP2 := Lib.hid (HPa.out.fr hf2 (fun h => h))
      clear hc2 hd2 hf2
      refine hKx.out _ _ ?_ (fun hHeld => ?_)
      · exact HR2.out.cells
      clear hKx Kx
      (try simp only [Act.put, List.setIfInBounds_toArray, List.set_cons_zero, List.set_cons_succ, List.getElem_toArray, List.getElem_cons_zero, List.getElem_cons_succ])
      refine wpAnyH_ready (rs := [4]) (by kernel_rfl) (by simp) ?_
      refine AllReadyH.cons rfl (fun Kx hKx => ?_) AllReadyH.nil
      go_simp
      refine (HGT.out w2 A2 c2 HD2.out HC2.out).mono ?_
      rintro e w4 ⟨rfl, hf3⟩
      have HR4 := Lib.hid (HR2.out.fr hf3 (fun h => h))
      have HF4 := Lib.hid (HF2.out.trans hf3 (fun _ _ h => h))
      have HP4 := Lib.hid (HP2.out.fr hf3 (fun h => h))
      clear hf3
      refine hKx.out _ _ ?_ (fun hHeld => ?_)
      · exact HR4.out.cells
      clear hKx Kx
      (try simp only [Act.put, List.setIfInBounds_toArray, List.set_cons_zero, List.set_cons_succ, List.getElem_toArray, List.getElem_cons_zero, List.getElem_cons_succ])
      refine wpAnyH_take (i := 5) (v := ?ve5) rfl (by kernel_rfl) (by kernel_rfl) (by kernel_rfl) (fun _ _ _ h => h) (Or.inl ⟨by rfl, ?hye5⟩) hHeld ?reste5
      case hye5 => intro w hSw; (try dsimp only at hSw); go_simp; try (with_reducible rfl)
      (try simp only [Act.put, List.setIfInBounds_toArray, List.set_cons_zero, List.set_cons_succ, List.getElem_toArray, List.getElem_cons_zero, List.getElem_cons_succ])
      refine wpAnyH_take (i := 6) (v := ?ve6) rfl (by kernel_rfl) (by kernel_rfl) (by kernel_rfl) (fun _ _ _ h => h) (Or.inl ⟨by rfl, ?hye6⟩) hHeld ?reste6
      case hye6 => intro w hSw; (try dsimp only at hSw); go_simp; try (with_reducible rfl)
      (try simp only [Act.put, List.setIfInBounds_toArray, List.set_cons_zero, List.set_cons_succ, List.getElem_toArray, List.getElem_cons_zero, List.getElem_cons_succ])
      refine wpAnyH_take (i := 7) (v := ?ve7) rfl (by kernel_rfl) (by kernel_rfl) (by kernel_rfl) (fun _ _ _ h => h) (Or.inl ⟨by rfl, ?hye7⟩) hHeld ?reste7
      case hye7 => intro w hSw; (try dsimp only at hSw); go_simp; try (with_reducible rfl)
      (try simp only [Act.put, List.setIfInBounds_toArray, List.set_cons_zero, List.set_cons_succ, List.getElem_toArray, List.getElem_cons_zero, List.getElem_cons_succ])
      refine wpAnyH_ready (rs := [9]) (by kernel_rfl) (by simp) ?_
      refine AllReadyH.cons rfl (fun Kx hKx => ?_) AllReadyH.nil
      refine step_store_whole vSz (by rfl) _ _ (by rfl) pb (by rfl) (vls x).toArray (by rfl) _ _ HP4.out rfl rfl (v_one x) ?_
      intro w8 hr8 hf8
      have HX8 : Hid (RowV w8 pb x) := Lib.hid hr8
      have HR8 := Lib.hid (HR4.out.fr hf8 HPN.out.2)
      have HF8 := Lib.hid (HF4.out.trans hf8 (fun b hb h => by have := HPN.out.1; omega))
      clear hr8 hf8
      refine hKx.out _ _ ?_ (fun hHeld => ?_)
      · exact HR8.out.cells
      clear hKx Kx
      (try simp only [Act.put, List.getElem_toArray, List.getElem_cons_zero, List.getElem_cons_succ])
      refine wpAnyH_ready (rs := [10]) (by kernel_rfl) (by simp) ?_
      refine AllReadyH.cons rfl (fun Kx hKx => ?_) AllReadyH.nil
      go_simp
      refine hKx.out _ _ ?_ (fun hHeld => ?_)
      · exact HR8.out.cells
      clear hKx Kx
      (try simp only [Act.put, List.setIfInBounds_toArray, List.set_cons_zero, List.set_cons_succ, List.getElem_toArray, List.getElem_cons_zero, List.getElem_cons_succ])
      refine wpAnyH_done (by kernel_rfl) ?_ _
      refine NoPanic.normal ?_
      go_wp2_with fail
      go_meet
      exact ⟨pb, rfl, rfl, HX8.out, HR8.out, HF8.out⟩
    case rest =>
      obtain ⟨pb, rfl, rfl, HX, HR8, HF8⟩ := hcut
      rename World => w9
      obtain ⟨q1, q2⟩ := v_eql x v
      obtain ⟨y0, y1, y2, y3⟩ := HX.cells
      obtain ⟨z0, z1, z2, z3⟩ := HR8.cells
      have HF9 := Lib.hid HF8
      obtain ⟨b, hb⟩ : ∃ b, eqV x v = b := ⟨_, rfl⟩
      rw [hb] at q2 HRI
      clear HX HR8 HF8 hb j0 j1 j2 j3
      cases ok
      · obtain rfl : E = 3 := HE.out
        have hb2 := HRI.out
        have HB2 := Lib.hid hb2
        clear hb2
        go_wp2_with fail
        go_ret
        exact ⟨by rw [HB2.out]; rfl, HF9.out⟩
      · obtain rfl : E = 0 := HE.out
        have hb2 := HRI.out
        have HB2 := Lib.hid hb2
        clear hb2
        go_wp2_with fail
        go_ret
        exact ⟨by rw [HB2.out]; rfl, HF9.out⟩
end Go.Proofs.Ytmiofhoojahpjaa
