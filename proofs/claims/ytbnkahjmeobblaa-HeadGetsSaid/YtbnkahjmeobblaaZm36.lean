/-
  Layer 20, the reference: Right (written by gen_rright.py).
  Layer 20, the program: Right, putText, putDeps (written by gen_hright.py).
-/
import Derived.Test.YtbnkahjmeobblaaZm22
import Derived.Test.YtbnkahjmeobblaaZm32
import Derived.Test.YtbnkahjmeobblaaZm25
import Derived.Test.YtbnkahjmeobblaaZm13
import Derived.Test.YtbnkahjmeobblaaZm23
import Derived.Test.YtbnkahjmeobblaaZm30
import Derived.Test.YtbnkahjmeobblaaZm11
namespace Go.Proofs.Ytbnkahjmeobblaa
open Go.RowKit Mem Go.Lib LebM UtfM AcM OpM HeM
attribute [local go_sem ↓] Go.wp_at_zero Go.wp_at_succ
set_option linter.unusedVariables false

set_option maxRecDepth 100000 in
set_option maxHeartbeats 12800000 in
theorem rRight20_any (ch : Ch) (A : Option Addr) (k : Nat) (A2 : Option Addr) (n2 k2 : Nat) (w : World) (hd : Hsh w A ch.d.length ch.d) (ha : ch.a.length ≤ 1000000) (hm : ch.m.length ≤ 1000000) (hdl : ch.d.length ≤ 1000000) :
    Calls Try.prog 11 #[chc ch A k A2 n2 k2] w fun e w' => e = .returned (.bool (rightH ch)) ∧ Fr (fun _ => False) w w' := by
  obtain ⟨a, q, s, t, m, d⟩ := ch
  simp only at hd ha hm hdl
  unfold chc
  simp only
  obtain ⟨nd, hnd⟩ : ∃ nd, d.length = nd := ⟨_, rfl⟩
  obtain ⟨va, hva⟩ : ∃ v, actorB a = v := ⟨_, rfl⟩
  obtain ⟨bq0, hq0⟩ : ∃ v, decide (q < 1) = v := ⟨_, rfl⟩
  obtain ⟨bq1, hq1⟩ : ∃ v, decide (9007199254740991 < q) = v := ⟨_, rfl⟩
  obtain ⟨bs0, hs0⟩ : ∃ v, decide (s < 1) = v := ⟨_, rfl⟩
  obtain ⟨bs1, hs1⟩ : ∃ v, decide (9007199254740991 < s) = v := ⟨_, rfl⟩
  obtain ⟨vl, hvl⟩ : ∃ v, decide (m.length ≤ 1000) = v := ⟨_, rfl⟩
  obtain ⟨vv, hvv⟩ : ∃ v, decide (wh m = m.length) = v := ⟨_, rfl⟩
  obtain ⟨vd, hvd⟩ : ∃ v, decide (d.length ≤ 16) = v := ⟨_, rfl⟩
  obtain ⟨vr, hvr⟩ : ∃ v, rises d = v := ⟨_, rfl⟩
  have nle : ∀ x y : Int, decide (x ≤ y) = !decide (y < x) := fun x y => by by_cases h : x ≤ y <;> simp [h] <;> omega
  have e : rightH ⟨a, q, s, t, m, d⟩ = (va && ((!bq0 && !bq1) && ((!bs0 && !bs1) && (vl && (vv && (vd && vr)))))) := by unfold rightH rightN; simp only; rw [hva, hvl, hvv, hvd, hvr, nle 1 q, nle q, nle 1 s, nle s, hq0, hq1, hs0, hs1]
  rw [e]
  have HI : Hid (vr = true ↔ ∀ j, j + 1 < d.length → Op.bytesLess (d.getD j []) (d.getD (j + 1) []) = true) := Lib.hid (by rw [← hvr]; exact rises_iff d)
  have hac := fun (w : World) => ractor_any a w (by omega)
  have hwh := fun (w : World) => rWhere_any m w (by omega)
  have hwl := wh_le m
  rw [hva] at hac
  obtain ⟨wm, hwm⟩ : ∃ k, wh m = k := ⟨_, rfl⟩
  obtain ⟨ml, hml⟩ : ∃ ml, m.length = ml := ⟨_, rfl⟩
  have hsz := txt_sz m
  rw [hwm] at hvv hwl
  simp only [hwm] at hwh
  rw [hml] at hsz hvl hvv hwl
  rw [hnd] at hvd HI hd hdl ⊢
  have tl : decide ((1000 : Int) < (ml : Int)) = !vl := by rw [← hvl]; by_cases h : ml ≤ 1000 <;> simp [h] <;> omega
  have tv : decide ((wm : Int) < (ml : Int)) = !vv := by rw [← hvv]; by_cases h : wm = ml <;> simp [h] <;> omega
  have td : decide ((16 : Int) < (nd : Int)) = !vd := by rw [← hvd]; by_cases h : nd ≤ 16 <;> simp [h] <;> omega
  have tl' : decide (1000 < ml) = !vl := by rw [← hvl]; by_cases h : ml ≤ 1000 <;> simp [h] <;> omega
  have tv' : decide (wm < ml) = !vv := by rw [← hvv]; by_cases h : wm = ml <;> simp [h] <;> omega
  have td' : decide (16 < nd) = !vd := by rw [← hvd]; by_cases h : nd ≤ 16 <;> simp [h] <;> omega
  obtain ⟨g, hg⟩ : ∃ g, w.heap.size = g := ⟨_, rfl⟩
  obtain ⟨w1, hw1⟩ : ∃ w1, w.alloc (.cells [.string (txt a), .int .i64 q, .int .i64 s, .int .i64 t, .string (txt m), .slice A nd k, .slice A2 n2 k2].toArray 25) = w1 := ⟨_, rfl⟩
  have HR1 : Hid (Row w1 g 25 [.string (txt a), .int .i64 q, .int .i64 s, .int .i64 t, .string (txt m), .slice A nd k, .slice A2 n2 k2]) := Lib.hid (by rw [← hw1, ← hg]; exact Row.new _ _ _)
  have HF1 : Hid (Fr (fun _ => False) w w1) := Lib.hid (by rw [← hw1]; exact (Fr.refl _ _).alloc _)
  have HBX : Hid (∀ w', Fr (fun _ => False) w1 w' → w'.cell? ⟨g, 0, none⟩ = some (.string (txt a)) ∧ w'.cell? ⟨g, 1, none⟩ = some (.int .i64 q) ∧ w'.cell? ⟨g, 2, none⟩ = some (.int .i64 s) ∧ w'.cell? ⟨g, 4, none⟩ = some (.string (txt m)) ∧ w'.cell? ⟨g, 5, none⟩ = some (.slice A nd k)) :=
    Lib.hid (fun w' hf => by
      have h := HR1.out.fr hf (fun h => h)
      exact ⟨h.cell rfl, h.cell rfl, h.cell rfl, h.cell rfl, h.cell rfl⟩)
  have HL := Lib.hid hd
  have HLN : Hid (d.length = nd) := Lib.hid hd.1
  have HND : Hid (nd ≤ 1000000) := Lib.hid hdl
  have HAC := Lib.hid hac
  have HWH : Hid (∀ w, Calls Try.prog 26 #[.string (txt m)] w fun e w' => e = .returned (.int .i64 (wm : Int)) ∧ Fr (fun _ => False) w w') := Lib.hid hwh
  obtain ⟨b0, b1, b2, b4, b5⟩ := HBX.out w1 (Fr.refl _ _)
  clear hac hwh hd ha hm hdl hnd hva hvl hvv hvd hvr hml e hwm hwl nle
  go_enter Try.func11, Try.ntmps11
  go_wp2_with fail
  clear hw1 hg
  refine (HAC.out _).mono ?_
  rintro e w2 ⟨rfl, rfl⟩
  cases va with
  | false =>
    go_wp2_with fail
    go_ret
    exact ⟨rfl, HF1.out⟩
  | true =>
    cases bq0 with
    | true =>
      go_wp2_with fail
      go_ret
      exact ⟨rfl, HF1.out⟩
    | false =>
      cases bq1 with
      | true =>
        go_wp2_with fail
        go_ret
        exact ⟨rfl, HF1.out⟩
      | false =>
        cases bs0 with
        | true =>
          go_wp2_with fail
          go_ret
          exact ⟨rfl, HF1.out⟩
        | false =>
          cases bs1 with
          | true =>
            go_wp2_with fail
            go_ret
            exact ⟨rfl, HF1.out⟩
          | false =>
            go_upto_region 3 with fail
            cases vl with
            | false =>
              have HGc : Hid (Fr (fun _ => False) w1 w1) := Lib.hid (Fr.refl _ _)
              refine wp_region_held_drew (S := fun w' => Fr (fun _ => False) w1 w') (by kernel_rfl) ?_ (fun hHeld => ?_)
              · exact (Fr.refl _ _).drew
              refine wpAnyH_take (i := 0) (v := ?vt1) rfl (by kernel_rfl) (by kernel_rfl) (by kernel_rfl) (fun _ _ _ h => h) (Or.inl ⟨by rfl, ?hyt1⟩) hHeld ?restt1
              case hyt1 => intro w hSw; (try dsimp only at hSw); go_simp; try (with_reducible rfl)
              (try simp only [Act.put, List.setIfInBounds_toArray, List.set_cons_zero, List.set_cons_succ, List.getElem_toArray, List.getElem_cons_zero])
              refine wpAnyH_take (i := 1) (v := ?vt2) rfl (by kernel_rfl) (by kernel_rfl) (by kernel_rfl) (fun _ _ _ h => h) (Or.inl ⟨by rfl, ?hyt2⟩) hHeld ?restt2
              case hyt2 => intro w hSw; (try dsimp only at hSw); obtain ⟨k0, k1, k2, k4, k5⟩ := HBX.out _ (HGc.out.trans hSw (fun _ _ h => h)); go_simp; try (with_reducible rfl)
              (try simp only [Act.put, List.setIfInBounds_toArray, List.set_cons_zero, List.set_cons_succ, List.getElem_toArray, List.getElem_cons_zero, List.getElem_cons_succ])
              refine wpAnyH_take (i := 2) (v := ?vt3) rfl (by kernel_rfl) (by kernel_rfl) (by kernel_rfl) (fun _ _ _ h => h) (Or.inl ⟨by rfl, ?hyt3⟩) hHeld ?restt3
              case hyt3 => intro w hSw; (try dsimp only at hSw); go_simp; try (with_reducible rfl)
              (try simp only [Act.put, List.setIfInBounds_toArray, List.set_cons_zero, List.set_cons_succ, List.getElem_toArray, List.getElem_cons_zero, List.getElem_cons_succ])
              refine wpAnyH_take (i := 3) (v := ?vt4) rfl (by kernel_rfl) (by kernel_rfl) (by kernel_rfl) (fun _ _ _ h => h) (Or.inl ⟨by rfl, ?hyt4⟩) hHeld ?restt4
              case hyt4 => intro w hSw; (try dsimp only at hSw); go_simp; try (with_reducible rfl)
              (try simp only [Act.put, List.setIfInBounds_toArray, List.set_cons_zero, List.set_cons_succ, List.getElem_toArray, List.getElem_cons_zero, List.getElem_cons_succ])
              refine wpAnyH_take (i := 4) (v := ?vt5) rfl (by kernel_rfl) (by kernel_rfl) (by kernel_rfl) (fun _ _ _ h => h) (Or.inl ⟨by rfl, ?hyt5⟩) hHeld ?restt5
              case hyt5 => intro w hSw; (try dsimp only at hSw); go_simp; try (with_reducible rfl)
              (try simp only [Act.put, List.setIfInBounds_toArray, List.set_cons_zero, List.set_cons_succ, List.getElem_toArray, List.getElem_cons_zero, List.getElem_cons_succ])
              refine wpAnyH_take (i := 5) (v := undef) rfl (by kernel_rfl) (by kernel_rfl) (by kernel_rfl) (fun _ _ _ h => h) (Or.inr ⟨by rfl, rfl⟩) hHeld ?_
              (try simp only [Act.put, List.setIfInBounds_toArray, List.set_cons_zero, List.set_cons_succ, List.getElem_toArray, List.getElem_cons_zero, List.getElem_cons_succ])
              refine wpAnyH_take (i := 6) (v := undef) rfl (by kernel_rfl) (by kernel_rfl) (by kernel_rfl) (fun _ _ _ h => h) (Or.inr ⟨by rfl, rfl⟩) hHeld ?_
              (try simp only [Act.put, List.setIfInBounds_toArray, List.set_cons_zero, List.set_cons_succ, List.getElem_toArray, List.getElem_cons_zero, List.getElem_cons_succ])
              refine wpAnyH_take (i := 7) (v := undef) rfl (by kernel_rfl) (by kernel_rfl) (by kernel_rfl) (fun _ _ _ h => h) (Or.inr ⟨by rfl, rfl⟩) hHeld ?_
              (try simp only [Act.put, List.setIfInBounds_toArray, List.set_cons_zero, List.set_cons_succ, List.getElem_toArray, List.getElem_cons_zero, List.getElem_cons_succ])
              refine wpAnyH_take (i := 8) (v := undef) rfl (by kernel_rfl) (by kernel_rfl) (by kernel_rfl) (fun _ _ _ h => h) (Or.inr ⟨by rfl, rfl⟩) hHeld ?_
              (try simp only [Act.put, List.setIfInBounds_toArray, List.set_cons_zero, List.set_cons_succ, List.getElem_toArray, List.getElem_cons_zero, List.getElem_cons_succ])
              refine wpAnyH_take (i := 9) (v := undef) rfl (by kernel_rfl) (by kernel_rfl) (by kernel_rfl) (fun _ _ _ h => h) (Or.inr ⟨by rfl, rfl⟩) hHeld ?_
              (try simp only [Act.put, List.setIfInBounds_toArray, List.set_cons_zero, List.set_cons_succ, List.getElem_toArray, List.getElem_cons_zero, List.getElem_cons_succ])
              refine wpAnyH_take (i := 10) (v := undef) rfl (by kernel_rfl) (by kernel_rfl) (by kernel_rfl) (fun _ _ _ h => h) (Or.inr ⟨by rfl, rfl⟩) hHeld ?_
              (try simp only [Act.put, List.setIfInBounds_toArray, List.set_cons_zero, List.set_cons_succ, List.getElem_toArray, List.getElem_cons_zero, List.getElem_cons_succ])
              refine wpAnyH_take (i := 11) (v := undef) rfl (by kernel_rfl) (by kernel_rfl) (by kernel_rfl) (fun _ _ _ h => h) (Or.inr ⟨by rfl, rfl⟩) hHeld ?_
              (try simp only [Act.put, List.setIfInBounds_toArray, List.set_cons_zero, List.set_cons_succ, List.getElem_toArray, List.getElem_cons_zero, List.getElem_cons_succ])
              refine wpAnyH_take (i := 12) (v := ?vt13) rfl (by kernel_rfl) (by kernel_rfl) (by kernel_rfl) (fun _ _ _ h => h) (Or.inl ⟨by rfl, ?hyt13⟩) hHeld ?restt13
              case hyt13 => intro w hSw; (try dsimp only at hSw); go_simp; try (with_reducible rfl)
              (try simp only [Act.put, List.setIfInBounds_toArray, List.set_cons_zero, List.set_cons_succ, List.getElem_toArray, List.getElem_cons_zero, List.getElem_cons_succ])
              refine wpAnyH_take (i := 13) (v := ?vt14) rfl (by kernel_rfl) (by kernel_rfl) (by kernel_rfl) (fun _ _ _ h => h) (Or.inl ⟨by rfl, ?hyt14⟩) hHeld ?restt14
              case hyt14 => intro w hSw; (try dsimp only at hSw); go_simp; try (with_reducible rfl)
              (try simp only [Act.put, List.setIfInBounds_toArray, List.set_cons_zero, List.set_cons_succ, List.getElem_toArray, List.getElem_cons_zero, List.getElem_cons_succ])
              refine wpAnyH_take (i := 14) (v := undef) rfl (by kernel_rfl) (by kernel_rfl) (by kernel_rfl) (fun _ _ _ h => h) (Or.inr ⟨by rfl, rfl⟩) hHeld ?_
              (try simp only [Act.put, List.setIfInBounds_toArray, List.set_cons_zero, List.set_cons_succ, List.getElem_toArray, List.getElem_cons_zero, List.getElem_cons_succ])
              refine wpAnyH_take (i := 15) (v := undef) rfl (by kernel_rfl) (by kernel_rfl) (by kernel_rfl) (fun _ _ _ h => h) (Or.inr ⟨by rfl, rfl⟩) hHeld ?_
              (try simp only [Act.put, List.setIfInBounds_toArray, List.set_cons_zero, List.set_cons_succ, List.getElem_toArray, List.getElem_cons_zero, List.getElem_cons_succ])
              refine wpAnyH_take (i := 16) (v := undef) rfl (by kernel_rfl) (by kernel_rfl) (by kernel_rfl) (fun _ _ _ h => h) (Or.inr ⟨by rfl, rfl⟩) hHeld ?_
              (try simp only [Act.put, List.setIfInBounds_toArray, List.set_cons_zero, List.set_cons_succ, List.getElem_toArray, List.getElem_cons_zero, List.getElem_cons_succ])
              refine wpAnyH_take (i := 17) (v := undef) rfl (by kernel_rfl) (by kernel_rfl) (by kernel_rfl) (fun _ _ _ h => h) (Or.inr ⟨by rfl, rfl⟩) hHeld ?_
              (try simp only [Act.put, List.setIfInBounds_toArray, List.set_cons_zero, List.set_cons_succ, List.getElem_toArray, List.getElem_cons_zero, List.getElem_cons_succ])
              refine wpAnyH_take (i := 18) (v := ?vt19) rfl (by kernel_rfl) (by kernel_rfl) (by kernel_rfl) (fun _ _ _ h => h) (Or.inl ⟨by rfl, ?hyt19⟩) hHeld ?restt19
              case hyt19 => intro w hSw; (try dsimp only at hSw); go_simp; try (with_reducible rfl)
              (try simp only [Act.put, List.setIfInBounds_toArray, List.set_cons_zero, List.set_cons_succ, List.getElem_toArray, List.getElem_cons_zero, List.getElem_cons_succ])
              refine wpAnyH_done (by kernel_rfl) ?_ _
              go_wp2_with fail
              go_ret
              exact ⟨rfl, HF1.out.drew⟩
            | true =>
              cases vv with
              | false =>
                have HGc : Hid (Fr (fun _ => False) w1 w1) := Lib.hid (Fr.refl _ _)
                refine wp_region_held_drew (S := fun w' => Fr (fun _ => False) w1 w') (by kernel_rfl) ?_ (fun hHeld => ?_)
                · exact (Fr.refl _ _).drew
                refine wpAnyH_take (i := 0) (v := ?vt20) rfl (by kernel_rfl) (by kernel_rfl) (by kernel_rfl) (fun _ _ _ h => h) (Or.inl ⟨by rfl, ?hyt20⟩) hHeld ?restt20
                case hyt20 => intro w hSw; (try dsimp only at hSw); go_simp; try (with_reducible rfl)
                (try simp only [Act.put, List.setIfInBounds_toArray, List.set_cons_zero, List.set_cons_succ, List.getElem_toArray, List.getElem_cons_zero])
                refine wpAnyH_take (i := 1) (v := ?vt21) rfl (by kernel_rfl) (by kernel_rfl) (by kernel_rfl) (fun _ _ _ h => h) (Or.inl ⟨by rfl, ?hyt21⟩) hHeld ?restt21
                case hyt21 => intro w hSw; (try dsimp only at hSw); obtain ⟨k0, k1, k2, k4, k5⟩ := HBX.out _ (HGc.out.trans hSw (fun _ _ h => h)); go_simp; try (with_reducible rfl)
                (try simp only [Act.put, List.setIfInBounds_toArray, List.set_cons_zero, List.set_cons_succ, List.getElem_toArray, List.getElem_cons_zero, List.getElem_cons_succ])
                refine wpAnyH_take (i := 2) (v := ?vt22) rfl (by kernel_rfl) (by kernel_rfl) (by kernel_rfl) (fun _ _ _ h => h) (Or.inl ⟨by rfl, ?hyt22⟩) hHeld ?restt22
                case hyt22 => intro w hSw; (try dsimp only at hSw); go_simp; try (with_reducible rfl)
                (try simp only [Act.put, List.setIfInBounds_toArray, List.set_cons_zero, List.set_cons_succ, List.getElem_toArray, List.getElem_cons_zero, List.getElem_cons_succ])
                refine wpAnyH_take (i := 3) (v := ?vt23) rfl (by kernel_rfl) (by kernel_rfl) (by kernel_rfl) (fun _ _ _ h => h) (Or.inl ⟨by rfl, ?hyt23⟩) hHeld ?restt23
                case hyt23 => intro w hSw; (try dsimp only at hSw); go_simp; try (with_reducible rfl)
                (try simp only [Act.put, List.setIfInBounds_toArray, List.set_cons_zero, List.set_cons_succ, List.getElem_toArray, List.getElem_cons_zero, List.getElem_cons_succ])
                refine wpAnyH_take (i := 4) (v := ?vt24) rfl (by kernel_rfl) (by kernel_rfl) (by kernel_rfl) (fun _ _ _ h => h) (Or.inl ⟨by rfl, ?hyt24⟩) hHeld ?restt24
                case hyt24 => intro w hSw; (try dsimp only at hSw); go_simp; try (with_reducible rfl)
                (try simp only [Act.put, List.setIfInBounds_toArray, List.set_cons_zero, List.set_cons_succ, List.getElem_toArray, List.getElem_cons_zero, List.getElem_cons_succ])
                refine wpAnyH_take (i := 5) (v := ?vt25) rfl (by kernel_rfl) (by kernel_rfl) (by kernel_rfl) (fun _ _ _ h => h) (Or.inl ⟨by rfl, ?hyt25⟩) hHeld ?restt25
                case hyt25 => intro w hSw; (try dsimp only at hSw); go_simp; try (with_reducible rfl)
                (try simp only [Act.put, List.setIfInBounds_toArray, List.set_cons_zero, List.set_cons_succ, List.getElem_toArray, List.getElem_cons_zero, List.getElem_cons_succ])
                refine wpAnyH_take (i := 6) (v := ?vt26) rfl (by kernel_rfl) (by kernel_rfl) (by kernel_rfl) (fun _ _ _ h => h) (Or.inl ⟨by rfl, ?hyt26⟩) hHeld ?restt26
                case hyt26 => intro w hSw; (try dsimp only at hSw); obtain ⟨k0, k1, k2, k4, k5⟩ := HBX.out _ (HGc.out.trans hSw (fun _ _ h => h)); go_simp; try (with_reducible rfl)
                (try simp only [Act.put, List.setIfInBounds_toArray, List.set_cons_zero, List.set_cons_succ, List.getElem_toArray, List.getElem_cons_zero, List.getElem_cons_succ])
                refine wpAnyH_take (i := 8) (v := ?vt27) rfl (by kernel_rfl) (by kernel_rfl) (by kernel_rfl) (fun _ _ _ h => h) (Or.inl ⟨by rfl, ?hyt27⟩) hHeld ?restt27
                case hyt27 => intro w hSw; (try dsimp only at hSw); go_simp; try (with_reducible rfl)
                (try simp only [Act.put, List.setIfInBounds_toArray, List.set_cons_zero, List.set_cons_succ, List.getElem_toArray, List.getElem_cons_zero, List.getElem_cons_succ])
                refine wpAnyH_take (i := 9) (v := ?vt28) rfl (by kernel_rfl) (by kernel_rfl) (by kernel_rfl) (fun _ _ _ h => h) (Or.inl ⟨by rfl, ?hyt28⟩) hHeld ?restt28
                case hyt28 => intro w hSw; (try dsimp only at hSw); obtain ⟨k0, k1, k2, k4, k5⟩ := HBX.out _ (HGc.out.trans hSw (fun _ _ h => h)); go_simp; try (with_reducible rfl)
                (try simp only [Act.put, List.setIfInBounds_toArray, List.set_cons_zero, List.set_cons_succ, List.getElem_toArray, List.getElem_cons_zero, List.getElem_cons_succ])
                refine wpAnyH_take (i := 10) (v := ?vt29) rfl (by kernel_rfl) (by kernel_rfl) (by kernel_rfl) (fun _ _ _ h => h) (Or.inl ⟨by rfl, ?hyt29⟩) hHeld ?restt29
                case hyt29 => intro w hSw; (try dsimp only at hSw); go_simp; try (with_reducible rfl)
                (try simp only [Act.put, List.setIfInBounds_toArray, List.set_cons_zero, List.set_cons_succ, List.getElem_toArray, List.getElem_cons_zero, List.getElem_cons_succ])
                refine wpAnyH_ready (rs := [7]) (by kernel_rfl) (by simp) ?_
                refine AllReadyH.cons rfl (fun Kx hKx => ?_) AllReadyH.nil
                go_simp
                have hcon := HWH.out w1.drew
                with_reducible refine hcon.mono ?_
                clear hcon
                rintro e' v1 ⟨rfl, hff⟩
                have HFn : Hid (Fr (fun _ => False) w1 v1) := Lib.hid ((Fr.refl _ _).drew.trans hff (fun _ _ h => h))
                clear hff
                have HGc := Lib.hid (HGc.out.trans HFn.out (fun _ _ h => h))
                refine hKx.out _ _ ?_ (fun hHeld => ?_)
                · exact HFn.out
                clear hKx Kx
                (try simp only [Act.put, List.setIfInBounds_toArray, List.set_cons_zero, List.set_cons_succ, List.getElem_toArray, List.getElem_cons_zero, List.getElem_cons_succ])
                refine wpAnyH_more (fun w' => Fr (fun _ => False) v1 w') (fun _ h => HFn.out.trans h (fun _ _ h => h)) ?_ (fun hHeld => ?_)
                · exact Fr.refl _ _
                clear HFn
                refine wpAnyH_take (i := 11) (v := ?vt30) rfl (by kernel_rfl) (by kernel_rfl) (by kernel_rfl) (fun _ _ _ h => h) (Or.inl ⟨by rfl, ?hyt30⟩) hHeld ?restt30
                case hyt30 => intro w hSw; (try dsimp only at hSw); go_simp; try (with_reducible rfl)
                (try simp only [Act.put, List.setIfInBounds_toArray, List.set_cons_zero, List.set_cons_succ, List.getElem_toArray, List.getElem_cons_zero, List.getElem_cons_succ])
                refine wpAnyH_take (i := 12) (v := ?vt31) rfl (by kernel_rfl) (by kernel_rfl) (by kernel_rfl) (fun _ _ _ h => h) (Or.inl ⟨by rfl, ?hyt31⟩) hHeld ?restt31
                case hyt31 => intro w hSw; (try dsimp only at hSw); go_simp; try (with_reducible rfl)
                (try simp only [Act.put, List.setIfInBounds_toArray, List.set_cons_zero, List.set_cons_succ, List.getElem_toArray, List.getElem_cons_zero, List.getElem_cons_succ])
                refine wpAnyH_take (i := 13) (v := ?vt32) rfl (by kernel_rfl) (by kernel_rfl) (by kernel_rfl) (fun _ _ _ h => h) (Or.inl ⟨by rfl, ?hyt32⟩) hHeld ?restt32
                case hyt32 => intro w hSw; (try dsimp only at hSw); go_simp; try (with_reducible rfl)
                (try simp only [Act.put, List.setIfInBounds_toArray, List.set_cons_zero, List.set_cons_succ, List.getElem_toArray, List.getElem_cons_zero, List.getElem_cons_succ])
                refine wpAnyH_take (i := 14) (v := undef) rfl (by kernel_rfl) (by kernel_rfl) (by kernel_rfl) (fun _ _ _ h => h) (Or.inr ⟨by rfl, rfl⟩) hHeld ?_
                (try simp only [Act.put, List.setIfInBounds_toArray, List.set_cons_zero, List.set_cons_succ, List.getElem_toArray, List.getElem_cons_zero, List.getElem_cons_succ])
                refine wpAnyH_take (i := 15) (v := undef) rfl (by kernel_rfl) (by kernel_rfl) (by kernel_rfl) (fun _ _ _ h => h) (Or.inr ⟨by rfl, rfl⟩) hHeld ?_
                (try simp only [Act.put, List.setIfInBounds_toArray, List.set_cons_zero, List.set_cons_succ, List.getElem_toArray, List.getElem_cons_zero, List.getElem_cons_succ])
                refine wpAnyH_take (i := 16) (v := undef) rfl (by kernel_rfl) (by kernel_rfl) (by kernel_rfl) (fun _ _ _ h => h) (Or.inr ⟨by rfl, rfl⟩) hHeld ?_
                (try simp only [Act.put, List.setIfInBounds_toArray, List.set_cons_zero, List.set_cons_succ, List.getElem_toArray, List.getElem_cons_zero, List.getElem_cons_succ])
                refine wpAnyH_take (i := 17) (v := undef) rfl (by kernel_rfl) (by kernel_rfl) (by kernel_rfl) (fun _ _ _ h => h) (Or.inr ⟨by rfl, rfl⟩) hHeld ?_
                (try simp only [Act.put, List.setIfInBounds_toArray, List.set_cons_zero, List.set_cons_succ, List.getElem_toArray, List.getElem_cons_zero, List.getElem_cons_succ])
                refine wpAnyH_take (i := 18) (v := ?vt37) rfl (by kernel_rfl) (by kernel_rfl) (by kernel_rfl) (fun _ _ _ h => h) (Or.inl ⟨by rfl, ?hyt37⟩) hHeld ?restt37
                case hyt37 => intro w hSw; (try dsimp only at hSw); go_simp; try (with_reducible rfl)
                (try simp only [Act.put, List.setIfInBounds_toArray, List.set_cons_zero, List.set_cons_succ, List.getElem_toArray, List.getElem_cons_zero, List.getElem_cons_succ])
                refine wpAnyH_done (by kernel_rfl) ?_ _
                go_wp2_with fail
                go_ret
                exact ⟨rfl, HF1.out.trans HGc.out (fun _ _ h => h)⟩
              | true =>
                cases vd with
                | false =>
                  have HGc : Hid (Fr (fun _ => False) w1 w1) := Lib.hid (Fr.refl _ _)
                  refine wp_region_held_drew (S := fun w' => Fr (fun _ => False) w1 w') (by kernel_rfl) ?_ (fun hHeld => ?_)
                  · exact (Fr.refl _ _).drew
                  refine wpAnyH_take (i := 0) (v := ?vt38) rfl (by kernel_rfl) (by kernel_rfl) (by kernel_rfl) (fun _ _ _ h => h) (Or.inl ⟨by rfl, ?hyt38⟩) hHeld ?restt38
                  case hyt38 => intro w hSw; (try dsimp only at hSw); go_simp; try (with_reducible rfl)
                  (try simp only [Act.put, List.setIfInBounds_toArray, List.set_cons_zero, List.set_cons_succ, List.getElem_toArray, List.getElem_cons_zero])
                  refine wpAnyH_take (i := 1) (v := ?vt39) rfl (by kernel_rfl) (by kernel_rfl) (by kernel_rfl) (fun _ _ _ h => h) (Or.inl ⟨by rfl, ?hyt39⟩) hHeld ?restt39
                  case hyt39 => intro w hSw; (try dsimp only at hSw); obtain ⟨k0, k1, k2, k4, k5⟩ := HBX.out _ (HGc.out.trans hSw (fun _ _ h => h)); go_simp; try (with_reducible rfl)
                  (try simp only [Act.put, List.setIfInBounds_toArray, List.set_cons_zero, List.set_cons_succ, List.getElem_toArray, List.getElem_cons_zero, List.getElem_cons_succ])
                  refine wpAnyH_take (i := 2) (v := ?vt40) rfl (by kernel_rfl) (by kernel_rfl) (by kernel_rfl) (fun _ _ _ h => h) (Or.inl ⟨by rfl, ?hyt40⟩) hHeld ?restt40
                  case hyt40 => intro w hSw; (try dsimp only at hSw); go_simp; try (with_reducible rfl)
                  (try simp only [Act.put, List.setIfInBounds_toArray, List.set_cons_zero, List.set_cons_succ, List.getElem_toArray, List.getElem_cons_zero, List.getElem_cons_succ])
                  refine wpAnyH_take (i := 3) (v := ?vt41) rfl (by kernel_rfl) (by kernel_rfl) (by kernel_rfl) (fun _ _ _ h => h) (Or.inl ⟨by rfl, ?hyt41⟩) hHeld ?restt41
                  case hyt41 => intro w hSw; (try dsimp only at hSw); go_simp; try (with_reducible rfl)
                  (try simp only [Act.put, List.setIfInBounds_toArray, List.set_cons_zero, List.set_cons_succ, List.getElem_toArray, List.getElem_cons_zero, List.getElem_cons_succ])
                  refine wpAnyH_take (i := 4) (v := ?vt42) rfl (by kernel_rfl) (by kernel_rfl) (by kernel_rfl) (fun _ _ _ h => h) (Or.inl ⟨by rfl, ?hyt42⟩) hHeld ?restt42
                  case hyt42 => intro w hSw; (try dsimp only at hSw); go_simp; try (with_reducible rfl)
                  (try simp only [Act.put, List.setIfInBounds_toArray, List.set_cons_zero, List.set_cons_succ, List.getElem_toArray, List.getElem_cons_zero, List.getElem_cons_succ])
                  refine wpAnyH_take (i := 5) (v := ?vt43) rfl (by kernel_rfl) (by kernel_rfl) (by kernel_rfl) (fun _ _ _ h => h) (Or.inl ⟨by rfl, ?hyt43⟩) hHeld ?restt43
                  case hyt43 => intro w hSw; (try dsimp only at hSw); go_simp; try (with_reducible rfl)
                  (try simp only [Act.put, List.setIfInBounds_toArray, List.set_cons_zero, List.set_cons_succ, List.getElem_toArray, List.getElem_cons_zero, List.getElem_cons_succ])
                  refine wpAnyH_take (i := 6) (v := ?vt44) rfl (by kernel_rfl) (by kernel_rfl) (by kernel_rfl) (fun _ _ _ h => h) (Or.inl ⟨by rfl, ?hyt44⟩) hHeld ?restt44
                  case hyt44 => intro w hSw; (try dsimp only at hSw); obtain ⟨k0, k1, k2, k4, k5⟩ := HBX.out _ (HGc.out.trans hSw (fun _ _ h => h)); go_simp; try (with_reducible rfl)
                  (try simp only [Act.put, List.setIfInBounds_toArray, List.set_cons_zero, List.set_cons_succ, List.getElem_toArray, List.getElem_cons_zero, List.getElem_cons_succ])
                  refine wpAnyH_take (i := 8) (v := ?vt45) rfl (by kernel_rfl) (by kernel_rfl) (by kernel_rfl) (fun _ _ _ h => h) (Or.inl ⟨by rfl, ?hyt45⟩) hHeld ?restt45
                  case hyt45 => intro w hSw; (try dsimp only at hSw); go_simp; try (with_reducible rfl)
                  (try simp only [Act.put, List.setIfInBounds_toArray, List.set_cons_zero, List.set_cons_succ, List.getElem_toArray, List.getElem_cons_zero, List.getElem_cons_succ])
                  refine wpAnyH_take (i := 9) (v := ?vt46) rfl (by kernel_rfl) (by kernel_rfl) (by kernel_rfl) (fun _ _ _ h => h) (Or.inl ⟨by rfl, ?hyt46⟩) hHeld ?restt46
                  case hyt46 => intro w hSw; (try dsimp only at hSw); obtain ⟨k0, k1, k2, k4, k5⟩ := HBX.out _ (HGc.out.trans hSw (fun _ _ h => h)); go_simp; try (with_reducible rfl)
                  (try simp only [Act.put, List.setIfInBounds_toArray, List.set_cons_zero, List.set_cons_succ, List.getElem_toArray, List.getElem_cons_zero, List.getElem_cons_succ])
                  refine wpAnyH_take (i := 10) (v := ?vt47) rfl (by kernel_rfl) (by kernel_rfl) (by kernel_rfl) (fun _ _ _ h => h) (Or.inl ⟨by rfl, ?hyt47⟩) hHeld ?restt47
                  case hyt47 => intro w hSw; (try dsimp only at hSw); go_simp; try (with_reducible rfl)
                  (try simp only [Act.put, List.setIfInBounds_toArray, List.set_cons_zero, List.set_cons_succ, List.getElem_toArray, List.getElem_cons_zero, List.getElem_cons_succ])
                  refine wpAnyH_ready (rs := [7]) (by kernel_rfl) (by simp) ?_
                  refine AllReadyH.cons rfl (fun Kx hKx => ?_) AllReadyH.nil
                  go_simp
                  have hcon := HWH.out w1.drew
                  with_reducible refine hcon.mono ?_
                  clear hcon
                  rintro e' v1 ⟨rfl, hff⟩
                  have HFn : Hid (Fr (fun _ => False) w1 v1) := Lib.hid ((Fr.refl _ _).drew.trans hff (fun _ _ h => h))
                  clear hff
                  have HGc := Lib.hid (HGc.out.trans HFn.out (fun _ _ h => h))
                  refine hKx.out _ _ ?_ (fun hHeld => ?_)
                  · exact HFn.out
                  clear hKx Kx
                  (try simp only [Act.put, List.setIfInBounds_toArray, List.set_cons_zero, List.set_cons_succ, List.getElem_toArray, List.getElem_cons_zero, List.getElem_cons_succ])
                  refine wpAnyH_more (fun w' => Fr (fun _ => False) v1 w') (fun _ h => HFn.out.trans h (fun _ _ h => h)) ?_ (fun hHeld => ?_)
                  · exact Fr.refl _ _
                  clear HFn
                  refine wpAnyH_take (i := 11) (v := ?vt48) rfl (by kernel_rfl) (by kernel_rfl) (by kernel_rfl) (fun _ _ _ h => h) (Or.inl ⟨by rfl, ?hyt48⟩) hHeld ?restt48
                  case hyt48 => intro w hSw; (try dsimp only at hSw); go_simp; try (with_reducible rfl)
                  (try simp only [Act.put, List.setIfInBounds_toArray, List.set_cons_zero, List.set_cons_succ, List.getElem_toArray, List.getElem_cons_zero, List.getElem_cons_succ])
                  refine wpAnyH_take (i := 12) (v := ?vt49) rfl (by kernel_rfl) (by kernel_rfl) (by kernel_rfl) (fun _ _ _ h => h) (Or.inl ⟨by rfl, ?hyt49⟩) hHeld ?restt49
                  case hyt49 => intro w hSw; (try dsimp only at hSw); go_simp; try (with_reducible rfl)
                  (try simp only [Act.put, List.setIfInBounds_toArray, List.set_cons_zero, List.set_cons_succ, List.getElem_toArray, List.getElem_cons_zero, List.getElem_cons_succ])
                  refine wpAnyH_take (i := 13) (v := ?vt50) rfl (by kernel_rfl) (by kernel_rfl) (by kernel_rfl) (fun _ _ _ h => h) (Or.inl ⟨by rfl, ?hyt50⟩) hHeld ?restt50
                  case hyt50 => intro w hSw; (try dsimp only at hSw); go_simp; try (with_reducible rfl)
                  (try simp only [Act.put, List.setIfInBounds_toArray, List.set_cons_zero, List.set_cons_succ, List.getElem_toArray, List.getElem_cons_zero, List.getElem_cons_succ])
                  refine wpAnyH_take (i := 14) (v := ?vt51) rfl (by kernel_rfl) (by kernel_rfl) (by kernel_rfl) (fun _ _ _ h => h) (Or.inl ⟨by rfl, ?hyt51⟩) hHeld ?restt51
                  case hyt51 => intro w hSw; (try dsimp only at hSw); go_simp; try (with_reducible rfl)
                  (try simp only [Act.put, List.setIfInBounds_toArray, List.set_cons_zero, List.set_cons_succ, List.getElem_toArray, List.getElem_cons_zero, List.getElem_cons_succ])
                  refine wpAnyH_take (i := 15) (v := ?vt52) rfl (by kernel_rfl) (by kernel_rfl) (by kernel_rfl) (fun _ _ _ h => h) (Or.inl ⟨by rfl, ?hyt52⟩) hHeld ?restt52
                  case hyt52 => intro w hSw; (try dsimp only at hSw); obtain ⟨k0, k1, k2, k4, k5⟩ := HBX.out _ (HGc.out.trans hSw (fun _ _ h => h)); go_simp; try (with_reducible rfl)
                  (try simp only [Act.put, List.setIfInBounds_toArray, List.set_cons_zero, List.set_cons_succ, List.getElem_toArray, List.getElem_cons_zero, List.getElem_cons_succ])
                  refine wpAnyH_take (i := 16) (v := ?vt53) rfl (by kernel_rfl) (by kernel_rfl) (by kernel_rfl) (fun _ _ _ h => h) (Or.inl ⟨by rfl, ?hyt53⟩) hHeld ?restt53
                  case hyt53 => intro w hSw; (try dsimp only at hSw); go_simp; try (with_reducible rfl)
                  (try simp only [Act.put, List.setIfInBounds_toArray, List.set_cons_zero, List.set_cons_succ, List.getElem_toArray, List.getElem_cons_zero, List.getElem_cons_succ])
                  refine wpAnyH_take (i := 17) (v := ?vt54) rfl (by kernel_rfl) (by kernel_rfl) (by kernel_rfl) (fun _ _ _ h => h) (Or.inl ⟨by rfl, ?hyt54⟩) hHeld ?restt54
                  case hyt54 => intro w hSw; (try dsimp only at hSw); go_simp; try (with_reducible rfl)
                  (try simp only [Act.put, List.setIfInBounds_toArray, List.set_cons_zero, List.set_cons_succ, List.getElem_toArray, List.getElem_cons_zero, List.getElem_cons_succ])
                  refine wpAnyH_take (i := 18) (v := ?vt55) rfl (by kernel_rfl) (by kernel_rfl) (by kernel_rfl) (fun _ _ _ h => h) (Or.inl ⟨by rfl, ?hyt55⟩) hHeld ?restt55
                  case hyt55 => intro w hSw; (try dsimp only at hSw); go_simp; try (with_reducible rfl)
                  (try simp only [Act.put, List.setIfInBounds_toArray, List.set_cons_zero, List.set_cons_succ, List.getElem_toArray, List.getElem_cons_zero, List.getElem_cons_succ])
                  refine wpAnyH_done (by kernel_rfl) ?_ _
                  go_wp2_with fail
                  go_ret
                  exact ⟨rfl, HF1.out.trans HGc.out (fun _ _ h => h)⟩
                | true =>
                  have HGc : Hid (Fr (fun _ => False) w1 w1) := Lib.hid (Fr.refl _ _)
                  refine wp_region_held_drew (S := fun w' => Fr (fun _ => False) w1 w') (by kernel_rfl) ?_ (fun hHeld => ?_)
                  · exact (Fr.refl _ _).drew
                  refine wpAnyH_take (i := 0) (v := ?vt56) rfl (by kernel_rfl) (by kernel_rfl) (by kernel_rfl) (fun _ _ _ h => h) (Or.inl ⟨by rfl, ?hyt56⟩) hHeld ?restt56
                  case hyt56 => intro w hSw; (try dsimp only at hSw); go_simp; try (with_reducible rfl)
                  (try simp only [Act.put, List.setIfInBounds_toArray, List.set_cons_zero, List.set_cons_succ, List.getElem_toArray, List.getElem_cons_zero])
                  refine wpAnyH_take (i := 1) (v := ?vt57) rfl (by kernel_rfl) (by kernel_rfl) (by kernel_rfl) (fun _ _ _ h => h) (Or.inl ⟨by rfl, ?hyt57⟩) hHeld ?restt57
                  case hyt57 => intro w hSw; (try dsimp only at hSw); obtain ⟨k0, k1, k2, k4, k5⟩ := HBX.out _ (HGc.out.trans hSw (fun _ _ h => h)); go_simp; try (with_reducible rfl)
                  (try simp only [Act.put, List.setIfInBounds_toArray, List.set_cons_zero, List.set_cons_succ, List.getElem_toArray, List.getElem_cons_zero, List.getElem_cons_succ])
                  refine wpAnyH_take (i := 2) (v := ?vt58) rfl (by kernel_rfl) (by kernel_rfl) (by kernel_rfl) (fun _ _ _ h => h) (Or.inl ⟨by rfl, ?hyt58⟩) hHeld ?restt58
                  case hyt58 => intro w hSw; (try dsimp only at hSw); go_simp; try (with_reducible rfl)
                  (try simp only [Act.put, List.setIfInBounds_toArray, List.set_cons_zero, List.set_cons_succ, List.getElem_toArray, List.getElem_cons_zero, List.getElem_cons_succ])
                  refine wpAnyH_take (i := 3) (v := ?vt59) rfl (by kernel_rfl) (by kernel_rfl) (by kernel_rfl) (fun _ _ _ h => h) (Or.inl ⟨by rfl, ?hyt59⟩) hHeld ?restt59
                  case hyt59 => intro w hSw; (try dsimp only at hSw); go_simp; try (with_reducible rfl)
                  (try simp only [Act.put, List.setIfInBounds_toArray, List.set_cons_zero, List.set_cons_succ, List.getElem_toArray, List.getElem_cons_zero, List.getElem_cons_succ])
                  refine wpAnyH_take (i := 4) (v := ?vt60) rfl (by kernel_rfl) (by kernel_rfl) (by kernel_rfl) (fun _ _ _ h => h) (Or.inl ⟨by rfl, ?hyt60⟩) hHeld ?restt60
                  case hyt60 => intro w hSw; (try dsimp only at hSw); go_simp; try (with_reducible rfl)
                  (try simp only [Act.put, List.setIfInBounds_toArray, List.set_cons_zero, List.set_cons_succ, List.getElem_toArray, List.getElem_cons_zero, List.getElem_cons_succ])
                  refine wpAnyH_take (i := 5) (v := ?vt61) rfl (by kernel_rfl) (by kernel_rfl) (by kernel_rfl) (fun _ _ _ h => h) (Or.inl ⟨by rfl, ?hyt61⟩) hHeld ?restt61
                  case hyt61 => intro w hSw; (try dsimp only at hSw); go_simp; try (with_reducible rfl)
                  (try simp only [Act.put, List.setIfInBounds_toArray, List.set_cons_zero, List.set_cons_succ, List.getElem_toArray, List.getElem_cons_zero, List.getElem_cons_succ])
                  refine wpAnyH_take (i := 6) (v := ?vt62) rfl (by kernel_rfl) (by kernel_rfl) (by kernel_rfl) (fun _ _ _ h => h) (Or.inl ⟨by rfl, ?hyt62⟩) hHeld ?restt62
                  case hyt62 => intro w hSw; (try dsimp only at hSw); obtain ⟨k0, k1, k2, k4, k5⟩ := HBX.out _ (HGc.out.trans hSw (fun _ _ h => h)); go_simp; try (with_reducible rfl)
                  (try simp only [Act.put, List.setIfInBounds_toArray, List.set_cons_zero, List.set_cons_succ, List.getElem_toArray, List.getElem_cons_zero, List.getElem_cons_succ])
                  refine wpAnyH_take (i := 8) (v := ?vt63) rfl (by kernel_rfl) (by kernel_rfl) (by kernel_rfl) (fun _ _ _ h => h) (Or.inl ⟨by rfl, ?hyt63⟩) hHeld ?restt63
                  case hyt63 => intro w hSw; (try dsimp only at hSw); go_simp; try (with_reducible rfl)
                  (try simp only [Act.put, List.setIfInBounds_toArray, List.set_cons_zero, List.set_cons_succ, List.getElem_toArray, List.getElem_cons_zero, List.getElem_cons_succ])
                  refine wpAnyH_take (i := 9) (v := ?vt64) rfl (by kernel_rfl) (by kernel_rfl) (by kernel_rfl) (fun _ _ _ h => h) (Or.inl ⟨by rfl, ?hyt64⟩) hHeld ?restt64
                  case hyt64 => intro w hSw; (try dsimp only at hSw); obtain ⟨k0, k1, k2, k4, k5⟩ := HBX.out _ (HGc.out.trans hSw (fun _ _ h => h)); go_simp; try (with_reducible rfl)
                  (try simp only [Act.put, List.setIfInBounds_toArray, List.set_cons_zero, List.set_cons_succ, List.getElem_toArray, List.getElem_cons_zero, List.getElem_cons_succ])
                  refine wpAnyH_take (i := 10) (v := ?vt65) rfl (by kernel_rfl) (by kernel_rfl) (by kernel_rfl) (fun _ _ _ h => h) (Or.inl ⟨by rfl, ?hyt65⟩) hHeld ?restt65
                  case hyt65 => intro w hSw; (try dsimp only at hSw); go_simp; try (with_reducible rfl)
                  (try simp only [Act.put, List.setIfInBounds_toArray, List.set_cons_zero, List.set_cons_succ, List.getElem_toArray, List.getElem_cons_zero, List.getElem_cons_succ])
                  refine wpAnyH_ready (rs := [7]) (by kernel_rfl) (by simp) ?_
                  refine AllReadyH.cons rfl (fun Kx hKx => ?_) AllReadyH.nil
                  go_simp
                  have hcon := HWH.out w1.drew
                  with_reducible refine hcon.mono ?_
                  clear hcon
                  rintro e' v1 ⟨rfl, hff⟩
                  have HFn : Hid (Fr (fun _ => False) w1 v1) := Lib.hid ((Fr.refl _ _).drew.trans hff (fun _ _ h => h))
                  clear hff
                  have HGc := Lib.hid (HGc.out.trans HFn.out (fun _ _ h => h))
                  refine hKx.out _ _ ?_ (fun hHeld => ?_)
                  · exact HFn.out
                  clear hKx Kx
                  (try simp only [Act.put, List.setIfInBounds_toArray, List.set_cons_zero, List.set_cons_succ, List.getElem_toArray, List.getElem_cons_zero, List.getElem_cons_succ])
                  refine wpAnyH_more (fun w' => Fr (fun _ => False) v1 w') (fun _ h => HFn.out.trans h (fun _ _ h => h)) ?_ (fun hHeld => ?_)
                  · exact Fr.refl _ _
                  clear HFn
                  refine wpAnyH_take (i := 11) (v := ?vt66) rfl (by kernel_rfl) (by kernel_rfl) (by kernel_rfl) (fun _ _ _ h => h) (Or.inl ⟨by rfl, ?hyt66⟩) hHeld ?restt66
                  case hyt66 => intro w hSw; (try dsimp only at hSw); go_simp; try (with_reducible rfl)
                  (try simp only [Act.put, List.setIfInBounds_toArray, List.set_cons_zero, List.set_cons_succ, List.getElem_toArray, List.getElem_cons_zero, List.getElem_cons_succ])
                  refine wpAnyH_take (i := 12) (v := ?vt67) rfl (by kernel_rfl) (by kernel_rfl) (by kernel_rfl) (fun _ _ _ h => h) (Or.inl ⟨by rfl, ?hyt67⟩) hHeld ?restt67
                  case hyt67 => intro w hSw; (try dsimp only at hSw); go_simp; try (with_reducible rfl)
                  (try simp only [Act.put, List.setIfInBounds_toArray, List.set_cons_zero, List.set_cons_succ, List.getElem_toArray, List.getElem_cons_zero, List.getElem_cons_succ])
                  refine wpAnyH_take (i := 13) (v := ?vt68) rfl (by kernel_rfl) (by kernel_rfl) (by kernel_rfl) (fun _ _ _ h => h) (Or.inl ⟨by rfl, ?hyt68⟩) hHeld ?restt68
                  case hyt68 => intro w hSw; (try dsimp only at hSw); go_simp; try (with_reducible rfl)
                  (try simp only [Act.put, List.setIfInBounds_toArray, List.set_cons_zero, List.set_cons_succ, List.getElem_toArray, List.getElem_cons_zero, List.getElem_cons_succ])
                  refine wpAnyH_take (i := 14) (v := ?vt69) rfl (by kernel_rfl) (by kernel_rfl) (by kernel_rfl) (fun _ _ _ h => h) (Or.inl ⟨by rfl, ?hyt69⟩) hHeld ?restt69
                  case hyt69 => intro w hSw; (try dsimp only at hSw); go_simp; try (with_reducible rfl)
                  (try simp only [Act.put, List.setIfInBounds_toArray, List.set_cons_zero, List.set_cons_succ, List.getElem_toArray, List.getElem_cons_zero, List.getElem_cons_succ])
                  refine wpAnyH_take (i := 15) (v := ?vt70) rfl (by kernel_rfl) (by kernel_rfl) (by kernel_rfl) (fun _ _ _ h => h) (Or.inl ⟨by rfl, ?hyt70⟩) hHeld ?restt70
                  case hyt70 => intro w hSw; (try dsimp only at hSw); obtain ⟨k0, k1, k2, k4, k5⟩ := HBX.out _ (HGc.out.trans hSw (fun _ _ h => h)); go_simp; try (with_reducible rfl)
                  (try simp only [Act.put, List.setIfInBounds_toArray, List.set_cons_zero, List.set_cons_succ, List.getElem_toArray, List.getElem_cons_zero, List.getElem_cons_succ])
                  refine wpAnyH_take (i := 16) (v := ?vt71) rfl (by kernel_rfl) (by kernel_rfl) (by kernel_rfl) (fun _ _ _ h => h) (Or.inl ⟨by rfl, ?hyt71⟩) hHeld ?restt71
                  case hyt71 => intro w hSw; (try dsimp only at hSw); go_simp; try (with_reducible rfl)
                  (try simp only [Act.put, List.setIfInBounds_toArray, List.set_cons_zero, List.set_cons_succ, List.getElem_toArray, List.getElem_cons_zero, List.getElem_cons_succ])
                  refine wpAnyH_take (i := 17) (v := ?vt72) rfl (by kernel_rfl) (by kernel_rfl) (by kernel_rfl) (fun _ _ _ h => h) (Or.inl ⟨by rfl, ?hyt72⟩) hHeld ?restt72
                  case hyt72 => intro w hSw; (try dsimp only at hSw); go_simp; try (with_reducible rfl)
                  (try simp only [Act.put, List.setIfInBounds_toArray, List.set_cons_zero, List.set_cons_succ, List.getElem_toArray, List.getElem_cons_zero, List.getElem_cons_succ])
                  refine wpAnyH_take (i := 18) (v := ?vt73) rfl (by kernel_rfl) (by kernel_rfl) (by kernel_rfl) (fun _ _ _ h => h) (Or.inl ⟨by rfl, ?hyt73⟩) hHeld ?restt73
                  case hyt73 => intro w hSw; (try dsimp only at hSw); go_simp; try (with_reducible rfl)
                  (try simp only [Act.put, List.setIfInBounds_toArray, List.set_cons_zero, List.set_cons_succ, List.getElem_toArray, List.getElem_cons_zero, List.getElem_cons_succ])
                  refine wpAnyH_done (by kernel_rfl) ?_ _
                  go_wp2_with fail
                  have hgc := HGc.out
                  clear HGc
                  have HGc : Hid (Fr (fun _ => False) w1 v1) := Lib.hid hgc
                  have k5 : v1.cell? ⟨g, 5, none⟩ = some (.slice A nd k) := (HBX.out _ hgc).2.2.2.2
                  clear hgc
                  go_loopw [3] (fun v wr => ∃ i : Nat, i ≤ nd ∧ v = .int .i64 (i : Int) ∧ Hid (∀ j, j < i → j + 1 < nd → Op.bytesLess (d.getD j []) (d.getD (j + 1) []) = true) ∧ Hid (Fr (fun _ => False) v1 wr)) (fun v _ => nd - (intOf v).toNat)
                  case atStart => exact ⟨0, Nat.zero_le _, rfl, Lib.hid (fun j hj => by omega), Lib.hid (Fr.refl _ _)⟩
                  case round =>
                    obtain ⟨i, hi, rfl, HE, HFr⟩ := hrel
                    rename World => wr
                    have HB : Hid (∀ w', Fr (fun _ => False) wr w' → w'.cell? ⟨g, 5, none⟩ = some (.slice A nd k)) := Lib.hid (fun w' hf => (HBX.out _ ((HGc.out.trans HFr.out (fun _ _ h => h)).trans hf (fun _ _ h => h))).2.2.2.2)
                    have k6 : wr.cell? ⟨g, 5, none⟩ = some (.slice A nd k) := HB.out _ (Fr.refl _ _)
                    have hn63 := HND.out
                    have ew : IntKind.i64.wrap ((i : Int) + 1) = ((i + 1 : Nat) : Int) := by rw [IntKind.wrap_i64]; omega
                    by_cases hlt : i + 1 < nd
                    · have t1 : decide (((i + 1 : Nat) : Int) < (nd : Int)) = true := decide_eq_true (by omega)
                      have t1' : decide ((i : Int) + 1 < (nd : Int)) = true := decide_eq_true (by omega)
                      obtain ⟨x, hx⟩ : ∃ x, d[i]? = some x := ⟨_, List.getElem?_eq_getElem (by have := HLN.out; omega)⟩
                      obtain ⟨y, hy⟩ : ∃ y, d[i + 1]? = some y := ⟨_, List.getElem?_eq_getElem (by have := HLN.out; omega)⟩
                      have hLr := HL.out.fr (HF1.out.trans (HGc.out.trans HFr.out (fun _ _ h => h)) (fun _ _ h => h))
                      obtain ⟨gg, oo, rfl, _, hrx⟩ := hLr.2.2 i x hx
                      obtain ⟨g', o', e', _, hry⟩ := hLr.2.2 (i + 1) y hy
                      injection e' with e'
                      injection e' with e1 e2
                      subst e1 e2
                      have hx32 := HL.out.2.1 x (List.mem_of_getElem? hx)
                      have hy32 := HL.out.2.1 y (List.mem_of_getElem? hy)
                      obtain ⟨CX, hCX⟩ : ∃ C, (x.map bytec).toArray = C := ⟨_, rfl⟩
                      obtain ⟨CY, hCY⟩ : ∃ C, (y.map bytec).toArray = C := ⟨_, rfl⟩
                      have hls := fun w' => rLess_any x y w' hx32 hy32 CX CY hCX hCY
                      obtain ⟨b, hb⟩ : ∃ b, Op.bytesLess x y = b := ⟨_, rfl⟩
                      rw [hb] at hls
                      have HBL : Hid (Op.bytesLess (d.getD i []) (d.getD (i + 1) []) = b) := Lib.hid (by rw [← hb, List.getD_eq_getElem?_getD, List.getD_eq_getElem?_getD, hx, hy]; rfl)
                      have HRX : Hid (∀ w', Fr (fun _ => False) wr w' → w'.rangeAt gg (oo + i * 32) (x.map bytec)) := Lib.hid (fun w' hf => range_fr hrx hf (fun h => h))
                      have HRY : Hid (∀ w', Fr (fun _ => False) wr w' → w'.rangeAt gg (oo + (i + 1) * 32) (y.map bytec)) := Lib.hid (fun w' hf => range_fr hry hf (fun h => h))
                      have HLS := Lib.hid hls
                      have HCX := Lib.hid hCX
                      have HCY := Lib.hid hCY
                      have HX32 := Lib.hid hx32
                      have HY32 := Lib.hid hy32
                      have hik : i < nd := by omega
                      have hik' : (i : Int) + 1 < (nd : Int) := by omega
                      have hik0 : (0 : Int) ≤ (i : Int) + 1 := by omega
                      clear hls hCX hCY hx32 hy32 hb hrx hry hLr hx hy
                      go_upto_region 8 with fail
                      refine wp_region_held_drew (S := fun w' => Fr (fun _ => False) wr w') (by kernel_rfl) (Fr.refl _ _).drew (fun hH => ?_)
                      refine tk 0 hH ?_
                      refine tk 1 hH ?_ (hy := by intro w hSw; (try dsimp only at hSw); have kk := HB.out w hSw; go_simp; try (with_reducible rfl))
                      refine tk 2 hH ?_
                      refine tk 3 hH ?_
                      refine tk 4 (v := .agg CX) hH ?_ (hy := fun w hSw => exec_load_h (.tmp 58) rfl gg (oo + i * 32) rfl x HX32.out CX HCX.out (HRX.out w hSw))
                      refine tk 5 hH ?_
                      refine tk 6 hH ?_ (hy := by intro w hSw; (try dsimp only at hSw); have kk := HB.out w hSw; go_simp; try (with_reducible rfl))
                      refine tk 7 hH ?_
                      refine tk 8 hH ?_
                      refine tk 9 hH ?_
                      refine tk 10 (v := .agg CY) hH ?_ (hy := fun w hSw => exec_load_h (.tmp 64) rfl gg (oo + (i + 1) * 32) rfl y HY32.out CY HCY.out (HRY.out w hSw))
                      refine rdo 11 (fun Kx hKx => ?_)
                      go_simp
                      have hcon := HLS.out wr.drew
                      with_reducible refine hcon.mono ?_
                      clear hcon
                      rintro e' wv ⟨rfl, hff⟩
                      have hfv : Fr (fun _ => False) wr wv := (Fr.refl _ _).drew.trans hff (fun _ _ h => h)
                      have HFV := Lib.hid hfv
                      refine hKx.out _ _ hfv (fun hH => ?_)
                      clear hKx Kx hff hfv
                      (try simp only [Act.put, List.setIfInBounds_toArray, List.set_cons_zero, List.set_cons_succ, List.getElem_toArray, List.getElem_cons_zero, List.getElem_cons_succ])
                      refine tk 12 hH ?_
                      refine wpAnyH_done (by kernel_rfl) ?_ _
                      cases b with
                      | true =>
                        go_wp2_with fail
                        exact ⟨⟨i + 1, by omega, rfl, Lib.hid (fun j hj hj2 => by
                          by_cases h : j < i
                          · exact HE.out j h hj2
                          · obtain rfl : j = i := by omega
                            exact HBL.out), Lib.hid (HFr.out.trans HFV.out (fun _ _ h => h))⟩, by show nd - ((i : Int) + 1).toNat < nd - (i : Int).toNat; omega⟩
                      | false =>
                        have HV : Hid (vr = false) := Lib.hid (by
                          cases vr with
                          | false => rfl
                          | true =>
                            have h := HI.out.1 rfl i (by have := HLN.out; omega)
                            rw [HBL.out] at h
                            cases h)
                        have hvt := HV.out
                        subst hvt
                        go_wp2_with fail
                        go_ret
                        exact ⟨rfl, ((HF1.out.trans HGc.out (fun _ _ h => h)).trans HFr.out (fun _ _ h => h)).trans HFV.out (fun _ _ h => h)⟩
                    · have t1 : decide (((i + 1 : Nat) : Int) < (nd : Int)) = false := decide_eq_false (by omega)
                      have t1' : decide ((i : Int) + 1 < (nd : Int)) = false := decide_eq_false (by omega)
                      have HV : Hid (vr = true) := Lib.hid (HI.out.2 (fun j hj => HE.out j (by have := HLN.out; omega) (by have := HLN.out; omega)))
                      have hvt := HV.out
                      subst hvt
                      go_wp2_with fail
                      go_ret
                      exact ⟨rfl, (HF1.out.trans HGc.out (fun _ _ h => h)).trans HFr.out (fun _ _ h => h)⟩
end Go.Proofs.Ytbnkahjmeobblaa
namespace Go.Proofs.Ytbnkahjmeobblaa
open Go.RowKit Mem Go.Lib LebM UtfM AcM OpM HeM
attribute [local go_sem ↓] Go.wp_at_zero Go.wp_at_succ
set_option linter.unusedVariables false

set_option maxRecDepth 100000 in
set_option maxHeartbeats 6400000 in
theorem hRight_any (ch : Ch) (A : Option Addr) (k : Nat) (A2 : Option Addr) (n2 k2 : Nat) (w : World) (hd : Hsh w A ch.d.length ch.d) (ha : ch.a.length ≤ 1000000) (hm : ch.m.length ≤ 1000000) (hdl : ch.d.length ≤ 1000000) :
    Calls Try.prog 10 #[chc ch A k A2 n2 k2] w fun e w' => e = .returned (.bool (rightH ch)) ∧ Fr (fun _ => False) w w' := by
  obtain ⟨a, q, s, t, m, d⟩ := ch
  simp only at hd ha hm hdl
  unfold chc
  simp only
  obtain ⟨nd, hnd⟩ : ∃ nd, d.length = nd := ⟨_, rfl⟩
  obtain ⟨va, hva⟩ : ∃ v, actorB a = v := ⟨_, rfl⟩
  obtain ⟨vq, hvq⟩ : ∃ v, rightN q = v := ⟨_, rfl⟩
  obtain ⟨vs, hvs⟩ : ∃ v, rightN s = v := ⟨_, rfl⟩
  obtain ⟨vl, hvl⟩ : ∃ v, decide (m.length ≤ 1000) = v := ⟨_, rfl⟩
  obtain ⟨vv, hvv⟩ : ∃ v, decide (wh m = m.length) = v := ⟨_, rfl⟩
  obtain ⟨vd, hvd⟩ : ∃ v, decide (d.length ≤ 16) = v := ⟨_, rfl⟩
  obtain ⟨vr, hvr⟩ : ∃ v, rises d = v := ⟨_, rfl⟩
  have e : rightH ⟨a, q, s, t, m, d⟩ = (va && (vq && (vs && (vl && (vv && (vd && vr)))))) := by unfold rightH; rw [hva, hvq, hvs, hvl, hvv, hvd, hvr]
  rw [e]
  have hac := fun (w : World) (j : Nat) (hj : j = w.heap.size) => actor1 a w hj (by omega)
  have hval := fun (w : World) (j : Nat) (hj : j = w.heap.size) => valid_one m w hj (by omega)
  have hri := fun (w' : World) (hf : Fr (fun _ => False) w w') => rising_any A d.length k d w' (hd.fr hf) (by omega)
  rw [hva] at hac
  rw [hvv] at hval
  rw [hvr, hnd] at hri
  obtain ⟨ml, hml⟩ : ∃ ml, m.length = ml := ⟨_, rfl⟩
  have hsz := txt_sz m
  rw [hml] at hsz hvl
  rw [hnd] at hvd ⊢
  have tl : decide ((ml : Int) ≤ 1000) = vl := by rw [← hvl]; exact decide_eq_decide.2 (by omega)
  have td : decide ((nd : Int) ≤ 16) = vd := by rw [← hvd]; exact decide_eq_decide.2 (by omega)
  have tl' : decide (ml ≤ 1000) = vl := hvl
  have td' : decide (nd ≤ 16) = vd := hvd
  obtain ⟨g, hg⟩ : ∃ g, w.heap.size = g := ⟨_, rfl⟩
  obtain ⟨w1, hw1⟩ : ∃ w1, w.alloc (.cells [.string (txt a), .int .i64 q, .int .i64 s, .int .i64 t, .string (txt m), .slice A nd k, .slice A2 n2 k2].toArray 25) = w1 := ⟨_, rfl⟩
  have HR1 : Hid (Row w1 g 25 [.string (txt a), .int .i64 q, .int .i64 s, .int .i64 t, .string (txt m), .slice A nd k, .slice A2 n2 k2]) := Lib.hid (by rw [← hw1, ← hg]; exact Row.new _ _ _)
  have HF1 : Hid (Fr (fun _ => False) w w1) := Lib.hid (by rw [← hw1]; exact (Fr.refl _ _).alloc _)
  have HAC := Lib.hid hac
  have HVA := Lib.hid hval
  have HRI := Lib.hid hri
  have b0 : w1.cell? ⟨g, 0, none⟩ = some (.string (txt a)) := Row.cell HR1.out rfl
  have b1 : w1.cell? ⟨g, 1, none⟩ = some (.int .i64 q) := Row.cell HR1.out rfl
  have b2 : w1.cell? ⟨g, 2, none⟩ = some (.int .i64 s) := Row.cell HR1.out rfl
  have b4 : w1.cell? ⟨g, 4, none⟩ = some (.string (txt m)) := Row.cell HR1.out rfl
  have b5 : w1.cell? ⟨g, 5, none⟩ = some (.slice A nd k) := Row.cell HR1.out rfl
  clear hac hval hri hd ha hm hdl hnd hva hvl hvv hvd hvr hml e
  go_enter Try.func10, Try.ntmps10
  go_wp2_with fail
  clear hw1 hg b0 b1 b2 b4 b5
  refine (HAC.out _ _ rfl).mono ?_
  rintro e w2 ⟨rfl, hf2⟩
  have HR2 := Lib.hid (HR1.out.fr hf2 (fun h => h))
  have HF2 := Lib.hid (HF1.out.trans hf2 (fun _ _ h => h))
  clear hf2
  have b0 : w2.cell? ⟨g, 0, none⟩ = some (.string (txt a)) := Row.cell HR2.out rfl
  have b1 : w2.cell? ⟨g, 1, none⟩ = some (.int .i64 q) := Row.cell HR2.out rfl
  have b2 : w2.cell? ⟨g, 2, none⟩ = some (.int .i64 s) := Row.cell HR2.out rfl
  have b4 : w2.cell? ⟨g, 4, none⟩ = some (.string (txt m)) := Row.cell HR2.out rfl
  have b5 : w2.cell? ⟨g, 5, none⟩ = some (.slice A nd k) := Row.cell HR2.out rfl
  cases va with
  | false =>
    go_wp2_with fail
    go_ret
    exact ⟨rfl, HF2.out⟩
  | true =>
    go_wp2_with fail
    refine (rightN_any q w2).mono ?_
    rintro e w3 ⟨rfl, rfl⟩
    rw [hvq]
    cases vq with
    | false =>
      go_wp2_with fail
      go_ret
      exact ⟨rfl, HF2.out⟩
    | true =>
      go_wp2_with fail
      refine (rightN_any s w2).mono ?_
      rintro e w3 ⟨rfl, rfl⟩
      rw [hvs]
      cases vs with
      | false =>
        go_wp2_with fail
        go_ret
        exact ⟨rfl, HF2.out⟩
      | true =>
        cases vl with
        | false =>
          go_wp2_with fail
          go_ret
          exact ⟨rfl, HF2.out⟩
        | true =>
          go_wp2_with fail
          clear b0 b1 b2 b4 b5
          refine (HVA.out _ _ rfl).mono ?_
          rintro e w4 ⟨rfl, hf4⟩
          have HR4 := Lib.hid (HR2.out.fr hf4 (fun h => h))
          have HF4 := Lib.hid (HF2.out.trans hf4 (fun _ _ h => h))
          clear hf4
          have b0 : w4.cell? ⟨g, 0, none⟩ = some (.string (txt a)) := Row.cell HR4.out rfl
          have b1 : w4.cell? ⟨g, 1, none⟩ = some (.int .i64 q) := Row.cell HR4.out rfl
          have b2 : w4.cell? ⟨g, 2, none⟩ = some (.int .i64 s) := Row.cell HR4.out rfl
          have b4 : w4.cell? ⟨g, 4, none⟩ = some (.string (txt m)) := Row.cell HR4.out rfl
          have b5 : w4.cell? ⟨g, 5, none⟩ = some (.slice A nd k) := Row.cell HR4.out rfl
          cases vv with
          | false =>
            go_wp2_with fail
            go_ret
            exact ⟨rfl, HF4.out⟩
          | true =>
            cases vd with
            | false =>
              go_wp2_with fail
              go_ret
              exact ⟨rfl, HF4.out⟩
            | true =>
              go_wp2_with fail
              refine (HRI.out w4 HF4.out).mono ?_
              rintro e w5 ⟨rfl, hf5⟩
              have HF5 := Lib.hid (HF4.out.trans hf5 (fun _ _ h => h))
              clear b0 b1 b2 b4 b5 hf5
              go_wp2_with fail
              go_ret
              exact ⟨rfl, HF5.out⟩
set_option maxRecDepth 100000 in
set_option maxHeartbeats 3200000 in
theorem putText_any (x : Tx) (w : World) (hl : x.length ≤ 1000000) : Calls Try.prog 31 #[.string (txt x)] w (Gives w (headT x)) := by
  have hsz := txt_sz x
  obtain ⟨l, hlx⟩ : ∃ l, x.length = l := ⟨_, rfl⟩
  rw [hlx] at hl hsz
  have e2 : IntKind.u64.wrap (l : Int) = (l : Int) := by rw [IntKind.wrap_u64]; omega
  have hU := U_any l w (show l < 18446744073709551616 by omega)
  have hul2 := u_len10 (show l < 18446744073709551616 by omega)
  obtain ⟨R, hR⟩ : ∃ R, headT x = R := ⟨_, rfl⟩
  have hRE : R = u l ++ x := by rw [← hR]; unfold headT; rw [hlx]
  rw [hR]
  obtain ⟨C, hC⟩ : ∃ C, u l = C := ⟨_, rfl⟩
  rw [hC] at hU hRE hul2
  have HU := Lib.hid hU
  have HRE := Lib.hid hRE
  have HRL : Hid (R.length ≤ 1000000000000) := Lib.hid (by rw [hRE, List.length_append]; omega)
  clear hU hR hRE hC hl hlx hul2
  go_enter Try.func31, Try.ntmps31
  go_wp2_with fail
  refine HU.out.mono ?_
  rintro e w1 ⟨A1, c1, rfl, ho1, hf1⟩
  have HO1 := Lib.hid ho1
  have HF1 := Lib.hid hf1
  have HS1 : Hid (w.heap.size ≤ w1.heap.size) := Lib.hid hf1.size
  clear ho1 hf1
  go_wp2_with (at_builtin; refine wpList_appX _ rfl _ _ rfl w.heap.size _ _ C x rfl HO1.out rfl R HRE.out HRL.out HS1.out ?_)
  intro A2 c2 w2 ho2 hf2
  have HO2 := Lib.hid ho2
  have HF2 : Hid (Fr (fun _ => False) w w2) := Lib.hid (HF1.out.trans hf2 (fun k hk h => by have := (HO1.out.lt k h).1; omega))
  clear ho2 hf2
  obtain ⟨z, hz⟩ : ∃ z, R.length = z := ⟨_, rfl⟩
  have HZ := Lib.hid hz
  rw [hz]
  clear hz
  go_wp2_with fail
  go_ret
  exact ⟨A2, c2, by rw [HZ.out]; rfl, HO2.out, HF2.out⟩
theorem flat_len32 : ∀ (D : List Tx), (∀ h ∈ D, h.length = 32) → D.flatten.length = D.length * 32
  | [], _ => rfl
  | h :: D, hh => by
    rw [List.flatten_cons, List.length_append, hh h (List.mem_cons_self ..), flat_len32 D (fun x hx => hh x (List.mem_cons_of_mem _ hx)), List.length_cons]
    omega
set_option maxRecDepth 100000 in
set_option maxHeartbeats 6400000 in
theorem putDeps_any (A : Option Addr) (n c : Nat) (L : List Tx) (w : World) (hL : Hsh w A n L) (hn : n ≤ 100000) : Calls Try.prog 30 #[.slice A n c] w (Gives w (u L.length ++ L.flatten)) := by
  have e2 : IntKind.u64.wrap (n : Int) = (n : Int) := by rw [IntKind.wrap_u64]; omega
  have hU := U_any n w (show n < 18446744073709551616 by omega)
  have hul2 := u_len10 (show n < 18446744073709551616 by omega)
  have HLN := Lib.hid hL.1
  have HL := Lib.hid hL
  have HUL := Lib.hid hul2
  rw [hL.1]
  obtain ⟨base, hbase⟩ : ∃ b, w.heap.size = b := ⟨_, rfl⟩
  unfold Gives at hU ⊢
  rw [hbase] at hU ⊢
  obtain ⟨R, hR⟩ : ∃ R, u n ++ L.flatten = R := ⟨_, rfl⟩
  rw [hR]
  have HRE := Lib.hid hR
  have HU := Lib.hid hU
  have HB := Lib.hid hbase
  clear hU hul2 hL hR hbase
  go_enter Try.func30, Try.ntmps30
  go_wp2_with fail
  refine HU.out.mono ?_
  rintro e w1 ⟨A1, c1, rfl, ho1, hf1⟩
  obtain ⟨B1, hB1⟩ : ∃ B, u n = B := ⟨_, rfl⟩
  rw [hB1] at ho1 ⊢
  have HB1 := Lib.hid hB1
  have HO1 := Lib.hid ho1
  have HF1 := Lib.hid hf1
  clear ho1 hf1 hB1
  go_wp2_with fail
  go_loopw [3, 12] (fun b v wr => ∃ k : Nat, k ≤ n ∧ v = .int .i64 (k : Int) ∧ ∃ A1 c1 B, b = .slice A1 B.length c1 ∧ Hid (B = u n ++ (L.take k).flatten) ∧ Hid (Own wr base A1 c1 B) ∧ Hid (Fr (fun _ => False) w wr)) (fun _ v _ => n - (intOf v).toNat)
  case atStart => exact ⟨0, Nat.zero_le _, rfl, A1, c1, B1, rfl, Lib.hid (by rw [HB1.out]; simp), HO1, HF1⟩
  case round =>
    obtain ⟨k, hk, rfl, A3, c3, B, rfl, HBE, HO, HF⟩ := hrel
    rename World => wr
    by_cases hlt : k < n
    · have t1 : decide ((k : Int) < (n : Int)) = true := decide_eq_true (by omega)
      obtain ⟨x, hx⟩ : ∃ x, L[k]? = some x := ⟨_, List.getElem?_eq_getElem (by have := HLN.out; omega)⟩
      have hLr := HL.out.fr HF.out
      obtain ⟨g, o, rfl, _, hrx⟩ := hLr.2.2 k x hx
      have hx32 := HL.out.2.1 x (List.mem_of_getElem? hx)
      have hnext : B ++ x = u n ++ (L.take (k + 1)).flatten := by
        rw [List.take_add_one, hx, List.flatten_append, HBE.out]
        simp
      have hbl : (B ++ x).length ≤ 1000000000000 := by
        have h1 := flat_len32 (L.take (k + 1)) (fun y hy => HL.out.2.1 y (List.mem_of_mem_take hy))
        have h2 := HUL.out
        rw [List.length_take] at h1
        rw [hnext, List.length_append]
        omega
      obtain ⟨B3, hB3⟩ : ∃ B3, B3 = B ++ x := ⟨_, rfl⟩
      rw [← hB3] at hnext hbl
      obtain ⟨C, hC⟩ : ∃ C, (x.map bytec).toArray = C := ⟨_, rfl⟩
      have HSZ : Hid (C.size = 32) := Lib.hid (by rw [← hC]; simp [hx32])
      have HONE : Hid (C.all (·.oneCell') = true) := Lib.hid (by rw [← hC, List.all_toArray, List.all_eq_true]; exact hb_one x)
      have HRX := Lib.hid hrx
      have HC := Lib.hid hC
      have HX32 := Lib.hid hx32
      have HN := Lib.hid hnext
      have HBL := Lib.hid hbl
      have HB3 := Lib.hid hB3
      have hkn : k < n := hlt
      obtain ⟨p, hp⟩ : ∃ p, wr.heap.size = p := ⟨_, rfl⟩
      obtain ⟨w2, hw2⟩ : ∃ w2, wr.alloc (.cells #[.int .u8 0, .int .u8 0, .int .u8 0, .int .u8 0, .int .u8 0, .int .u8 0, .int .u8 0, .int .u8 0, .int .u8 0, .int .u8 0, .int .u8 0, .int .u8 0, .int .u8 0, .int .u8 0, .int .u8 0, .int .u8 0, .int .u8 0, .int .u8 0, .int .u8 0, .int .u8 0, .int .u8 0, .int .u8 0, .int .u8 0, .int .u8 0, .int .u8 0, .int .u8 0, .int .u8 0, .int .u8 0, .int .u8 0, .int .u8 0, .int .u8 0, .int .u8 0] 60) = w2 := ⟨_, rfl⟩
      have hb2 : w2.heap[p]? = some (.cells (Array.replicate 32 (.int .u8 0)) 60 (0, 0)) := by rw [← hw2, ← hp]; exact heap_alloc_new _ _
      have HB2 := Lib.hid hb2
      have HF2 : Hid (Fr (fun _ => False) wr w2) := Lib.hid (by rw [← hw2]; exact (Fr.refl _ _).alloc _)
      have HPB : Hid (base ≤ p) := Lib.hid (by have := HF.out.size; have := HB.out; omega)
      have HOL : Hid (∀ k, (Value.slice A3 B.length c3).ownBlock = some k → base ≤ k ∧ k < p) := Lib.hid (fun k hk => by have := HO.out.lt k hk; omega)
      clear hLr hrx hx32 hnext hbl hB3 hC hb2 hx
      go_wp2_with (first | (refine load_h rfl (.tmp 14) rfl g (o + k * 32) rfl x HX32.out C HC.out HRX.out ?_) | (refine wpList_store_blk hashT20 rfl (.tmp 5) (.tmp 15) rfl p rfl C rfl _ _ HB2.out HSZ.out (by simp) HONE.out ?_))
      intro w3 hb3 hf3
      have HO3 : Hid (Own w3 base A3 c3 B) := Lib.hid (hf3.own (HO.out.fr HF2.out) (fun k hk h => by have h1 : k = p := h; have := HOL.out k hk; omega))
      have HRD3 : Hid (Rd w3 (some ⟨p, 0, none⟩) 32 (x.map bytec)) := Lib.hid (by have h := rd_blk (xs := x.map bytec) (by rw [HC.out]; exact hb3); rwa [List.length_map, HX32.out] at h)
      have HF3 : Hid (Fr (fun _ => False) w w3) := Lib.hid ((HF.out.trans HF2.out (fun _ _ h => h)).trans hf3 (fun k hk h => by have h1 : k = p := h; have := HPB.out; have := HB.out; omega))
      have HS3 : Hid (base ≤ w3.heap.size) := Lib.hid (by have := HF3.out.size; have := HB.out; omega)
      clear hw2 hp hb3 hf3
      go_wp2_with (at_builtin; refine wpList_appB _ rfl (.tmp 16) (.tmp 17) rfl base A3 c3 B rfl HO3.out (some ⟨p, 0, none⟩) 32 32 x rfl HRD3.out (by omega) B3 HB3.out HBL.out HS3.out ?_)
      intro A4 c4 w4 ho4 hf4 _
      have HO4 := Lib.hid ho4
      have HF4 : Hid (Fr (fun _ => False) w w4) := Lib.hid (HF3.out.trans hf4 (fun k hk h => by have := HOL.out k h; have := HB.out; omega))
      clear ho4 hf4
      go_wp2_with fail
      exact ⟨⟨k + 1, by omega, rfl, A4, c4, B3, rfl, HN, HO4, HF4⟩, by show n - ((k : Int) + 1).toNat < n - (k : Int).toNat; omega⟩
    · have t1 : decide ((k : Int) < (n : Int)) = false := decide_eq_false (by omega)
      have hkn : k = n := by omega
      subst hkn
      have HBR : Hid (B = R) := Lib.hid (by rw [HBE.out, List.take_of_length_le (by have := HLN.out; omega), HRE.out])
      have hbr := HBR.out
      subst hbr
      obtain ⟨z, hz⟩ : ∃ z, B.length = z := ⟨_, rfl⟩
      have HZ := Lib.hid hz
      rw [hz]
      clear hz
      go_wp2_with fail
      go_ret
      exact ⟨A3, c3, by rw [HZ.out]; rfl, HO.out, HF.out⟩
end Go.Proofs.Ytbnkahjmeobblaa
