/-
  Layer 20, the reference: Few, Same (of what is the same); spoken.
  Layer 20, the reference: Right (written by gen_rright.py).
-/
import Derived.Test.YtbnkahjmeobblaaHeX
import Derived.Test.YtbnkahjmeobblaaZm33
import Derived.Test.YtbnkahjmeobblaaZm25
import Derived.Test.YtbnkahjmeobblaaZm39
import Derived.Test.YtbnkahjmeobblaaOpW
import Derived.Test.YtbnkahjmeobblaaOpZ
import Derived.Test.YtbnkahjmeobblaaOpZa
import Derived.Test.YtbnkahjmeobblaaZm14
namespace Go.Proofs.Ytbnkahjmeobblaa
open Go.RowKit Mem Go.Lib LebM UtfM AcM OpM HeM
attribute [local go_sem ↓] Go.wp_at_zero Go.wp_at_succ
set_option linter.unusedVariables false

/-- a change that is an argument: what is known of it -/
structure ChOk (w : World) (ch : Ch) (A : Option Addr) (A6 : Option Addr) (n6 : Nat) (L : List Om) : Prop where
  hd : Hsh w A ch.d.length ch.d
  hL : Ops w A6 n6 L
  la : ch.a.length ≤ 9223372036854775807
  lm : ch.m.length ≤ 9223372036854775807
  ld : ch.d.length ≤ 9223372036854775807
  ln : n6 ≤ 9223372036854775807
  lens : ∀ x ∈ L, x.lens
  t0 : -9223372036854775808 ≤ ch.t
  t1 : ch.t < 9223372036854775808
def fewH (ch : Ch) (n6 : Nat) (L : List Om) : Bool := decide (ch.a.length ≤ 100) && (decide (ch.m.length ≤ 2000) && (decide (ch.d.length ≤ 40) && (decide (n6 ≤ 30) && fewB L)))
set_option maxRecDepth 100000 in
set_option maxHeartbeats 6400000 in
theorem rFew20_any (ch : Ch) (A : Option Addr) (k : Nat) (A6 : Option Addr) (n6 k6 : Nat) (L : List Om) (w : World) (h : ChOk w ch A A6 n6 L) :
    Calls Try.prog 9 #[chc ch A k A6 n6 k6, .int .i64 30] w fun e w' => e = .returned (.bool (fewH ch n6 L)) ∧ Fr (fun _ => False) w w' := by
  obtain ⟨hd, hL, la, lm, ld, ln, lens, _, _⟩ := h
  have hfw := fun w' (hf : Fr (fun _ => False) w w') => rfew_any A6 n6 k6 L 30 w' (hL.fr hf) ln (by omega) lens
  obtain ⟨bf, hbf⟩ : ∃ b, (decide (n6 ≤ 30) && fewB L) = b := ⟨_, rfl⟩
  simp only [hbf] at hfw
  have hfw2 : ∀ w' (hf : Fr (fun _ => False) w w'), Calls Try.prog 20 #[.slice A6 n6 k6, .int .i64 30] w' fun e w'' => e = .returned (.bool bf) ∧ w' = w'' := hfw
  obtain ⟨a, q, s, t, m, d⟩ := ch
  simp only at la lm ld
  unfold fewH chc
  simp only
  rw [hbf]
  have hsa := txt_sz a
  have hsm := txt_sz m
  obtain ⟨na, hna⟩ : ∃ n, a.length = n := ⟨_, rfl⟩
  obtain ⟨nm, hnm⟩ : ∃ n, m.length = n := ⟨_, rfl⟩
  obtain ⟨nd, hnd⟩ : ∃ n, d.length = n := ⟨_, rfl⟩
  rw [hna] at hsa la ⊢
  rw [hnm] at hsm lm ⊢
  rw [hnd] at ld ⊢
  obtain ⟨ba, hba⟩ : ∃ b, decide (na ≤ 100) = b := ⟨_, rfl⟩
  obtain ⟨bm, hbm⟩ : ∃ b, decide (nm ≤ 2000) = b := ⟨_, rfl⟩
  obtain ⟨bd, hbd⟩ : ∃ b, decide (nd ≤ 40) = b := ⟨_, rfl⟩
  rw [hba, hbm, hbd]
  have ta : decide ((na : Int) ≤ 100) = ba := by rw [← hba]; exact decide_eq_decide.2 (by omega)
  have tm : decide ((nm : Int) ≤ 2000) = bm := by rw [← hbm]; exact decide_eq_decide.2 (by omega)
  have td : decide ((nd : Int) ≤ 40) = bd := by rw [← hbd]; exact decide_eq_decide.2 (by omega)
  obtain ⟨g, hg⟩ : ∃ g, w.heap.size = g := ⟨_, rfl⟩
  obtain ⟨w1, hw1⟩ : ∃ w1, w.alloc (.cells [.string (txt a), .int .i64 q, .int .i64 s, .int .i64 t, .string (txt m), .slice A nd k, .slice A6 n6 k6].toArray 25) = w1 := ⟨_, rfl⟩
  have hr1 : Row w1 g 25 [.string (txt a), .int .i64 q, .int .i64 s, .int .i64 t, .string (txt m), .slice A nd k, .slice A6 n6 k6] := by rw [← hw1, ← hg]; exact Row.new _ _ _
  have HF1 : Hid (Fr (fun _ => False) w w1) := Lib.hid (by rw [← hw1]; exact (Fr.refl _ _).alloc _)
  have b0 : w1.cell? ⟨g, 0, none⟩ = some (.string (txt a)) := Row.cell hr1 rfl
  have b4 : w1.cell? ⟨g, 4, none⟩ = some (.string (txt m)) := Row.cell hr1 rfl
  have b5 : w1.cell? ⟨g, 5, none⟩ = some (.slice A nd k) := Row.cell hr1 rfl
  have b6 : w1.cell? ⟨g, 6, none⟩ = some (.slice A6 n6 k6) := Row.cell hr1 rfl
  have HFW := Lib.hid hfw2
  clear hfw hfw2 hbf hd hL lens ln hna hnm hnd hr1
  cases ba with
  | false =>
    go_enter Try.func9, Try.ntmps9
    go_wp2_with fail
    go_ret
    exact ⟨rfl, HF1.out⟩
  | true =>
    cases bm with
    | false =>
      go_enter Try.func9, Try.ntmps9
      go_wp2_with fail
      go_ret
      exact ⟨rfl, HF1.out⟩
    | true =>
      cases bd with
      | false =>
        go_enter Try.func9, Try.ntmps9
        go_wp2_with fail
        go_ret
        exact ⟨rfl, HF1.out⟩
      | true =>
        go_enter Try.func9, Try.ntmps9
        go_wp2_with fail
        refine (HFW.out _ HF1.out).mono ?_
        rintro e w2 ⟨rfl, rfl⟩
        go_wp2_with fail
        go_ret
        exact ⟨rfl, HF1.out⟩
/-- are all of whom ops speak actors? -/
def spokenB (L : List Om) : Bool := (namesM L).all (fun y => actorB y.a)
set_option maxRecDepth 100000 in
set_option maxHeartbeats 6400000 in
theorem spoken_any (ch : Ch) (A : Option Addr) (k : Nat) (A6 : Option Addr) (n6 k6 : Nat) (L : List Om) (w : World) (hL : Ops w A6 n6 L) (hn : n6 ≤ 1000) (hok : ∀ x ∈ L, x.o.pr.length ≤ 1000) (hlen : ∀ y ∈ namesM L, y.a.length ≤ 1000000) (hnl : (namesM L).length ≤ 10000000) :
    Calls Try.prog 12 #[chc ch A k A6 n6 k6] w fun e w' => e = .returned (.bool (spokenB L)) ∧ Fr (fun _ => False) w w' := by
  have hnm := fun w' (hf : Fr (fun _ => False) w w') => rnames_any A6 n6 k6 L w' (hL.fr hf) hn hok
  obtain ⟨N, hN⟩ : ∃ N, namesM L = N := ⟨_, rfl⟩
  unfold spokenB
  rw [hN] at hlen hnl ⊢
  simp only [hN] at hnm
  obtain ⟨a, q, s, t, m, d⟩ := ch
  unfold chc
  simp only
  obtain ⟨nn, hnn⟩ : ∃ n, N.length = n := ⟨_, rfl⟩
  obtain ⟨r, hr⟩ : ∃ r, N.all (fun y => actorB y.a) = r := ⟨_, rfl⟩
  rw [hr]
  rw [hnn] at hnl
  simp only [hnn] at hnm
  obtain ⟨g, hg⟩ : ∃ g, w.heap.size = g := ⟨_, rfl⟩
  obtain ⟨w1, hw1⟩ : ∃ w1, w.alloc (.cells [.string (txt a), .int .i64 q, .int .i64 s, .int .i64 t, .string (txt m), .slice A d.length k, .slice A6 n6 k6].toArray 25) = w1 := ⟨_, rfl⟩
  have hr1 : Row w1 g 25 [.string (txt a), .int .i64 q, .int .i64 s, .int .i64 t, .string (txt m), .slice A d.length k, .slice A6 n6 k6] := by rw [← hw1, ← hg]; exact Row.new _ _ _
  have HF1 : Hid (Fr (fun _ => False) w w1) := Lib.hid (by rw [← hw1]; exact (Fr.refl _ _).alloc _)
  have b6 : w1.cell? ⟨g, 6, none⟩ = some (.slice A6 n6 k6) := Row.cell hr1 rfl
  have HNM := Lib.hid hnm
  have HNN := Lib.hid hnn
  have HRR := Lib.hid hr
  have HLEN := Lib.hid hlen
  have hnl2 : nn ≤ 10000000 := hnl
  clear hnm hL hok hN hlen hr1 hr hnn hnl
  go_enter Try.func12, Try.ntmps12
  go_wp2_with fail
  refine (HNM.out _ HF1.out).mono ?_
  rintro e w2 ⟨A2, c2, rfl, ho2, hf2⟩
  have HP2 : Hid (Nms w2 A2 nn N) := Lib.hid (by have h := ho2.prs; rwa [HNN.out] at h)
  have HF2 := Lib.hid (HF1.out.trans hf2 (fun _ _ h => h))
  clear ho2 hf2 b6 hw1 hg
  go_wp2_with fail
  go_loopw [4] (fun v wr => ∃ i : Nat, i ≤ nn ∧ v = .int .i64 (i : Int) ∧ Hid (∀ y ∈ N.take i, actorB y.a = true) ∧ wr = w2) (fun v _ => nn - (intOf v).toNat)
  case atStart => exact ⟨0, Nat.zero_le _, rfl, Lib.hid (fun y hy => by simp at hy), rfl⟩
  case round =>
    obtain ⟨i, hi, rfl, HE, rfl⟩ := hrel
    by_cases hlt : i < nn
    · have t1 : decide ((i : Int) < (nn : Int)) = true := decide_eq_true (by omega)
      obtain ⟨y, hy⟩ : ∃ y, N[i]? = some y := ⟨_, List.getElem?_eq_getElem (by have := HNN.out; omega)⟩
      obtain ⟨gg, oo, rfl, _, h1, h2⟩ := HP2.out.2 i y hy
      have hac := fun w => ractor_any y.a w (by have := HLEN.out y (List.mem_of_getElem? hy); omega)
      obtain ⟨b, hb⟩ : ∃ b, actorB y.a = b := ⟨_, rfl⟩
      rw [hb] at hac
      have h2' : wr.cell? ⟨gg, oo + i * 2 + 1, none⟩ = some (.string (txt y.a)) := h2
      have HY := Lib.hid hy
      have HBB := Lib.hid hb
      have HAC := Lib.hid hac
      have hlt' : (i : Int) < (nn : Int) := by omega
      clear hac hy hb h1 h2
      go_wp2_with fail
      refine (HAC.out _).mono ?_
      rintro e w3 ⟨rfl, rfl⟩
      cases b with
      | true =>
        go_wp2_with fail
        exact ⟨⟨i + 1, by omega, rfl, Lib.hid (fun z hz => by
          rw [List.take_add_one, HY.out] at hz
          rcases List.mem_append.1 hz with h | h
          · exact HE.out z h
          · simp at h; rw [h]; exact HBB.out), by first | rfl | trivial⟩, by show nn - ((i : Int) + 1).toNat < nn - (i : Int).toNat; omega⟩
      | false =>
        have HV : Hid (r = false) := Lib.hid (by
          rw [← HRR.out]
          cases hq : N.all (fun y => actorB y.a)
          · rfl
          · have h := List.all_eq_true.1 hq y (List.mem_of_getElem? HY.out)
            rw [HBB.out] at h
            cases h)
        have hvt := HV.out
        subst hvt
        go_wp2_with fail
        go_ret
        exact ⟨rfl, HF2.out⟩
    · have t1 : decide ((i : Int) < (nn : Int)) = false := decide_eq_false (by omega)
      have HV : Hid (r = true) := Lib.hid (by
        rw [← HRR.out, List.all_eq_true]
        intro y hy
        exact HE.out y (by rw [List.take_of_length_le (by have := HNN.out; omega)]; exact hy))
      have hvt := HV.out
      subst hvt
      go_wp2_with fail
      go_ret
      exact ⟨rfl, HF2.out⟩
set_option maxRecDepth 100000 in
set_option maxHeartbeats 6400000 in
theorem rSame20_any (ch : Ch) (A : Option Addr) (k : Nat) (A' : Option Addr) (k' : Nat) (w : World) (hd : Hsh w A ch.d.length ch.d) (hd' : Hsh w A' ch.d.length ch.d) (hdl : ch.d.length ≤ 1000000) :
    Calls Try.prog 17 #[chc ch A k none 0 0, chc ch A' k' none 0 0] w fun e w' => e = .returned (.bool true) ∧ Fr (fun _ => False) w w' := by
  obtain ⟨a, q, s, t, m, d⟩ := ch
  simp only at hd hd' hdl
  unfold chc
  simp only
  have hsame := fun w' => rsameO_any none 0 0 [] none 0 0 [] w' (Ops.nil _ _) (Ops.nil _ _) (by omega) (by omega) (fun x hx => by cases hx) (fun x hx => by cases hx) true (by simp)
  obtain ⟨nd, hnd⟩ : ∃ n, d.length = n := ⟨_, rfl⟩
  rw [hnd] at hd hd' hdl ⊢
  obtain ⟨g, hg⟩ : ∃ g, w.heap.size = g := ⟨_, rfl⟩
  obtain ⟨w1, hw1⟩ : ∃ w1, w.alloc (.cells [.string (txt a), .int .i64 q, .int .i64 s, .int .i64 t, .string (txt m), .slice A nd k, .slice none 0 0].toArray 25) = w1 := ⟨_, rfl⟩
  obtain ⟨g2, hg2⟩ : ∃ g, w1.heap.size = g := ⟨_, rfl⟩
  obtain ⟨w2, hw2⟩ : ∃ w2, w1.alloc (.cells [.string (txt a), .int .i64 q, .int .i64 s, .int .i64 t, .string (txt m), .slice A' nd k', .slice none 0 0].toArray 25) = w2 := ⟨_, rfl⟩
  have HR1 : Hid (Row w2 g 25 [.string (txt a), .int .i64 q, .int .i64 s, .int .i64 t, .string (txt m), .slice A nd k, .slice none 0 0]) := Lib.hid (by rw [← hw2]; refine Row.alloc ?_ _; rw [← hw1, ← hg]; exact Row.new _ _ _)
  have HR2 : Hid (Row w2 g2 25 [.string (txt a), .int .i64 q, .int .i64 s, .int .i64 t, .string (txt m), .slice A' nd k', .slice none 0 0]) := Lib.hid (by rw [← hw2, ← hg2]; exact Row.new _ _ _)
  have HF : Hid (Fr (fun _ => False) w w2) := Lib.hid (by rw [← hw2, ← hw1]; exact ((Fr.refl _ _).alloc _).alloc _)
  have HBX : Hid (∀ w', Fr (fun _ => False) w2 w' → w'.cell? ⟨g, 5, none⟩ = some (.slice A nd k) ∧ w'.cell? ⟨g, 6, none⟩ = some (.slice none 0 0) ∧ w'.cell? ⟨g2, 5, none⟩ = some (.slice A' nd k') ∧ w'.cell? ⟨g2, 6, none⟩ = some (.slice none 0 0)) :=
    Lib.hid (fun w' hf => ⟨(HR1.out.fr hf (fun h => h)).cell rfl, (HR1.out.fr hf (fun h => h)).cell rfl, (HR2.out.fr hf (fun h => h)).cell rfl, (HR2.out.fr hf (fun h => h)).cell rfl⟩)
  have HSA := Lib.hid hsame
  have HL := Lib.hid hd
  have HL' := Lib.hid hd'
  have HLN := Lib.hid hd.1
  have b0 : w2.cell? ⟨g, 0, none⟩ = some (.string (txt a)) := Row.cell HR1.out rfl
  have b1 : w2.cell? ⟨g, 1, none⟩ = some (.int .i64 q) := Row.cell HR1.out rfl
  have b2 : w2.cell? ⟨g, 2, none⟩ = some (.int .i64 s) := Row.cell HR1.out rfl
  have b3 : w2.cell? ⟨g, 3, none⟩ = some (.int .i64 t) := Row.cell HR1.out rfl
  have b4 : w2.cell? ⟨g, 4, none⟩ = some (.string (txt m)) := Row.cell HR1.out rfl
  have b5 : w2.cell? ⟨g, 5, none⟩ = some (.slice A nd k) := Row.cell HR1.out rfl
  have d0 : w2.cell? ⟨g2, 0, none⟩ = some (.string (txt a)) := Row.cell HR2.out rfl
  have d1 : w2.cell? ⟨g2, 1, none⟩ = some (.int .i64 q) := Row.cell HR2.out rfl
  have d2 : w2.cell? ⟨g2, 2, none⟩ = some (.int .i64 s) := Row.cell HR2.out rfl
  have d3 : w2.cell? ⟨g2, 3, none⟩ = some (.int .i64 t) := Row.cell HR2.out rfl
  have d4 : w2.cell? ⟨g2, 4, none⟩ = some (.string (txt m)) := Row.cell HR2.out rfl
  have d5 : w2.cell? ⟨g2, 5, none⟩ = some (.slice A' nd k') := Row.cell HR2.out rfl
  clear hsame hd hd' hnd
  go_enter Try.func17, Try.ntmps17
  go_wp2_with fail
  clear hw1 hw2 hg hg2 b0 b1 b2 b3 b4 d0 d1 d2 d3 d4
  go_loopw [5] (fun v wr => ∃ i : Nat, i ≤ nd ∧ v = .int .i64 (i : Int) ∧ Hid (Fr (fun _ => False) w2 wr)) (fun v _ => nd - (intOf v).toNat)
  case atStart => exact ⟨0, Nat.zero_le _, rfl, Lib.hid (Fr.refl _ _)⟩
  case round =>
    obtain ⟨i, hi, rfl, HFr⟩ := hrel
    rename World => wr
    have HB : Hid (∀ w', Fr (fun _ => False) wr w' → w'.cell? ⟨g, 5, none⟩ = some (.slice A nd k) ∧ w'.cell? ⟨g, 6, none⟩ = some (.slice none 0 0) ∧ w'.cell? ⟨g2, 5, none⟩ = some (.slice A' nd k') ∧ w'.cell? ⟨g2, 6, none⟩ = some (.slice none 0 0)) := Lib.hid (fun w' hf => HBX.out _ (HFr.out.trans hf (fun _ _ h => h)))
    obtain ⟨k5, k6, k7, k8⟩ := HB.out _ (Fr.refl _ _)
    by_cases hlt : i < nd
    · have t1 : decide ((i : Int) < (nd : Int)) = true := decide_eq_true (by omega)
      obtain ⟨x, hx⟩ : ∃ x, d[i]? = some x := ⟨_, List.getElem?_eq_getElem (by have := HLN.out; omega)⟩
      have hLr := HL.out.fr (HF.out.trans HFr.out (fun _ _ h => h))
      have hLr' := HL'.out.fr (HF.out.trans HFr.out (fun _ _ h => h))
      obtain ⟨gg, oo, rfl, _, hrx⟩ := hLr.2.2 i x hx
      obtain ⟨g', o', rfl, _, hry⟩ := hLr'.2.2 i x hx
      have hx32 := HL.out.2.1 x (List.mem_of_getElem? hx)
      obtain ⟨q1, q2⟩ := h_neq hx32 hx32
      have q3 : (!(x == x)) = false := by simp
      rw [q3] at q2
      obtain ⟨CX, hCX⟩ : ∃ C, (x.map bytec).toArray = C := ⟨_, rfl⟩
      rw [hCX] at q1 q2
      have HRX : Hid (∀ w', Fr (fun _ => False) wr w' → w'.rangeAt gg (oo + i * 32) (x.map bytec)) := Lib.hid (fun w' hf => range_fr hrx hf (fun h => h))
      have HRY : Hid (∀ w', Fr (fun _ => False) wr w' → w'.rangeAt g' (o' + i * 32) (x.map bytec)) := Lib.hid (fun w' hf => range_fr hry hf (fun h => h))
      have HCX := Lib.hid hCX
      have HX32 := Lib.hid hx32
      have hik' : (i : Int) < (nd : Int) := by omega
      clear hCX hx32 hrx hry hLr hLr' hx q3
      go_upto_region 6 with fail
      refine wp_region_held_drew (S := fun w' => Fr (fun _ => False) wr w') (by kernel_rfl) (Fr.refl _ _).drew (fun hH => ?_)
      refine tk 0 hH ?_
      refine tk 1 hH ?_ (hy := by intro w hSw; (try dsimp only at hSw); obtain ⟨kk5, kk6, kk7, kk8⟩ := HB.out w hSw; go_simp; try (with_reducible rfl))
      refine tk 2 hH ?_
      refine tk 3 hH ?_
      refine tk 4 (v := .agg CX) hH ?_ (hy := fun w hSw => exec_load_h (.tmp 58) rfl gg (oo + i * 32) rfl x HX32.out CX HCX.out (HRX.out w hSw))
      refine tk 5 hH ?_
      refine tk 6 hH ?_ (hy := by intro w hSw; (try dsimp only at hSw); obtain ⟨kk5, kk6, kk7, kk8⟩ := HB.out w hSw; go_simp; try (with_reducible rfl))
      refine tk 7 hH ?_
      refine tk 8 hH ?_
      refine tk 9 (v := .agg CX) hH ?_ (hy := fun w hSw => exec_load_h (.tmp 63) rfl g' (o' + i * 32) rfl x HX32.out CX HCX.out (HRY.out w hSw))
      refine tk 10 hH ?_
      refine wpAnyH_done (by kernel_rfl) ?_ _
      go_wp2_with fail
      exact ⟨⟨i + 1, by omega, rfl, Lib.hid HFr.out.drew⟩, by show nd - ((i : Int) + 1).toNat < nd - (i : Int).toNat; omega⟩
    · have t1 : decide ((i : Int) < (nd : Int)) = false := decide_eq_false (by omega)
      go_wp2_with fail
      refine (HSA.out _).mono ?_
      rintro e w3 ⟨rfl, hf3⟩
      have HF3 := Lib.hid ((HF.out.trans HFr.out (fun _ _ h => h)).trans hf3 (fun _ _ h => h))
      clear hf3 k5 k6 k7 k8
      go_wp2_with fail
      go_ret
      exact ⟨rfl, HF3.out⟩
end Go.Proofs.Ytbnkahjmeobblaa
namespace Go.Proofs.Ytbnkahjmeobblaa
open Go.RowKit Mem Go.Lib LebM UtfM AcM OpM HeM
attribute [local go_sem ↓] Go.wp_at_zero Go.wp_at_succ
set_option linter.unusedVariables false

set_option maxRecDepth 100000 in
set_option maxHeartbeats 12800000 in
theorem rRight20_any (ch : Ch) (A : Option Addr) (k : Nat) (A2 : Option Addr) (n2 k2 : Nat) (w : World) (hd : Hsh w A ch.d.length ch.d) (ha : ch.a.length ≤ 1000000) (hm : ch.m.length ≤ 1000000) (hdl : ch.d.length ≤ 1000000) :
    Calls Try.prog 11 #[chc ch A k A2 n2 k2] w fun e w' => e = .returned (.bool (rightH ch)) ∧ Fr (fun _ => False) w w' := by
  obtain ⟨a, q, s, t, m, d⟩ := ch
  simp only at hd ha hm hdl
  unfold chc
  simp only
  obtain ⟨nd, hnd⟩ : ∃ nd, d.length = nd := ⟨_, rfl⟩
  obtain ⟨va, hva⟩ : ∃ v, actorB a = v := ⟨_, rfl⟩
  obtain ⟨bq0, hq0⟩ : ∃ v, decide (q < 1) = v := ⟨_, rfl⟩
  obtain ⟨bq1, hq1⟩ : ∃ v, decide (9007199254740991 < q) = v := ⟨_, rfl⟩
  obtain ⟨bs0, hs0⟩ : ∃ v, decide (s < 1) = v := ⟨_, rfl⟩
  obtain ⟨bs1, hs1⟩ : ∃ v, decide (9007199254740991 < s) = v := ⟨_, rfl⟩
  obtain ⟨vl, hvl⟩ : ∃ v, decide (m.length ≤ 1000) = v := ⟨_, rfl⟩
  obtain ⟨vv, hvv⟩ : ∃ v, decide (wh m = m.length) = v := ⟨_, rfl⟩
  obtain ⟨vd, hvd⟩ : ∃ v, decide (d.length ≤ 16) = v := ⟨_, rfl⟩
  obtain ⟨vr, hvr⟩ : ∃ v, rises d = v := ⟨_, rfl⟩
  have nle : ∀ x y : Int, decide (x ≤ y) = !decide (y < x) := fun x y => by by_cases h : x ≤ y <;> simp [h] <;> omega
  have e : rightH ⟨a, q, s, t, m, d⟩ = (va && ((!bq0 && !bq1) && ((!bs0 && !bs1) && (vl && (vv && (vd && vr)))))) := by unfold rightH rightN; simp only; rw [hva, hvl, hvv, hvd, hvr, nle 1 q, nle q, nle 1 s, nle s, hq0, hq1, hs0, hs1]
  rw [e]
  have HI : Hid (vr = true ↔ ∀ j, j + 1 < d.length → Op.bytesLess (d.getD j []) (d.getD (j + 1) []) = true) := Lib.hid (by rw [← hvr]; exact rises_iff d)
  have hac := fun (w : World) => ractor_any a w (by omega)
  have hwh := fun (w : World) => rWhere_any m w (by omega)
  have hwl := wh_le m
  rw [hva] at hac
  obtain ⟨wm, hwm⟩ : ∃ k, wh m = k := ⟨_, rfl⟩
  obtain ⟨ml, hml⟩ : ∃ ml, m.length = ml := ⟨_, rfl⟩
  have hsz := txt_sz m
  rw [hwm] at hvv hwl
  simp only [hwm] at hwh
  rw [hml] at hsz hvl hvv hwl
  rw [hnd] at hvd HI hd hdl ⊢
  have tl : decide ((1000 : Int) < (ml : Int)) = !vl := by rw [← hvl]; by_cases h : ml ≤ 1000 <;> simp [h] <;> omega
  have tv : decide ((wm : Int) < (ml : Int)) = !vv := by rw [← hvv]; by_cases h : wm = ml <;> simp [h] <;> omega
  have td : decide ((16 : Int) < (nd : Int)) = !vd := by rw [← hvd]; by_cases h : nd ≤ 16 <;> simp [h] <;> omega
  have tl' : decide (1000 < ml) = !vl := by rw [← hvl]; by_cases h : ml ≤ 1000 <;> simp [h] <;> omega
  have tv' : decide (wm < ml) = !vv := by rw [← hvv]; by_cases h : wm = ml <;> simp [h] <;> omega
  have td' : decide (16 < nd) = !vd := by rw [← hvd]; by_cases h : nd ≤ 16 <;> simp [h] <;> omega
  obtain ⟨g, hg⟩ : ∃ g, w.heap.size = g := ⟨_, rfl⟩
  obtain ⟨w1, hw1⟩ : ∃ w1, w.alloc (.cells [.string (txt a), .int .i64 q, .int .i64 s, .int .i64 t, .string (txt m), .slice A nd k, .slice A2 n2 k2].toArray 25) = w1 := ⟨_, rfl⟩
  have HR1 : Hid (Row w1 g 25 [.string (txt a), .int .i64 q, .int .i64 s, .int .i64 t, .string (txt m), .slice A nd k, .slice A2 n2 k2]) := Lib.hid (by rw [← hw1, ← hg]; exact Row.new _ _ _)
  have HF1 : Hid (Fr (fun _ => False) w w1) := Lib.hid (by rw [← hw1]; exact (Fr.refl _ _).alloc _)
  have HBX : Hid (∀ w', Fr (fun _ => False) w1 w' → w'.cell? ⟨g, 0, none⟩ = some (.string (txt a)) ∧ w'.cell? ⟨g, 1, none⟩ = some (.int .i64 q) ∧ w'.cell? ⟨g, 2, none⟩ = some (.int .i64 s) ∧ w'.cell? ⟨g, 4, none⟩ = some (.string (txt m)) ∧ w'.cell? ⟨g, 5, none⟩ = some (.slice A nd k)) :=
    Lib.hid (fun w' hf => by
      have h := HR1.out.fr hf (fun h => h)
      exact ⟨h.cell rfl, h.cell rfl, h.cell rfl, h.cell rfl, h.cell rfl⟩)
  have HL := Lib.hid hd
  have HLN : Hid (d.length = nd) := Lib.hid hd.1
  have HND : Hid (nd ≤ 1000000) := Lib.hid hdl
  have HAC := Lib.hid hac
  have HWH : Hid (∀ w, Calls Try.prog 26 #[.string (txt m)] w fun e w' => e = .returned (.int .i64 (wm : Int)) ∧ Fr (fun _ => False) w w') := Lib.hid hwh
  obtain ⟨b0, b1, b2, b4, b5⟩ := HBX.out w1 (Fr.refl _ _)
  clear hac hwh hd ha hm hdl hnd hva hvl hvv hvd hvr hml e hwm hwl nle
  go_enter Try.func11, Try.ntmps11
  go_wp2_with fail
  clear hw1 hg
  refine (HAC.out _).mono ?_
  rintro e w2 ⟨rfl, rfl⟩
  cases va with
  | false =>
    go_wp2_with fail
    go_ret
    exact ⟨rfl, HF1.out⟩
  | true =>
    cases bq0 with
    | true =>
      go_wp2_with fail
      go_ret
      exact ⟨rfl, HF1.out⟩
    | false =>
      cases bq1 with
      | true =>
        go_wp2_with fail
        go_ret
        exact ⟨rfl, HF1.out⟩
      | false =>
        cases bs0 with
        | true =>
          go_wp2_with fail
          go_ret
          exact ⟨rfl, HF1.out⟩
        | false =>
          cases bs1 with
          | true =>
            go_wp2_with fail
            go_ret
            exact ⟨rfl, HF1.out⟩
          | false =>
            go_upto_region 3 with fail
            cases vl with
            | false =>
              have HGc : Hid (Fr (fun _ => False) w1 w1) := Lib.hid (Fr.refl _ _)
              refine wp_region_held_drew (S := fun w' => Fr (fun _ => False) w1 w') (by kernel_rfl) ?_ (fun hHeld => ?_)
              · exact (Fr.refl _ _).drew
              refine wpAnyH_take (i := 0) (v := ?vt1) rfl (by kernel_rfl) (by kernel_rfl) (by kernel_rfl) (fun _ _ _ h => h) (Or.inl ⟨by rfl, ?hyt1⟩) hHeld ?restt1
              case hyt1 => intro w hSw; (try dsimp only at hSw); go_simp; try (with_reducible rfl)
              (try simp only [Act.put, List.setIfInBounds_toArray, List.set_cons_zero, List.set_cons_succ, List.getElem_toArray, List.getElem_cons_zero])
              refine wpAnyH_take (i := 1) (v := ?vt2) rfl (by kernel_rfl) (by kernel_rfl) (by kernel_rfl) (fun _ _ _ h => h) (Or.inl ⟨by rfl, ?hyt2⟩) hHeld ?restt2
              case hyt2 => intro w hSw; (try dsimp only at hSw); obtain ⟨k0, k1, k2, k4, k5⟩ := HBX.out _ (HGc.out.trans hSw (fun _ _ h => h)); go_simp; try (with_reducible rfl)
              (try simp only [Act.put, List.setIfInBounds_toArray, List.set_cons_zero, List.set_cons_succ, List.getElem_toArray, List.getElem_cons_zero, List.getElem_cons_succ])
              refine wpAnyH_take (i := 2) (v := ?vt3) rfl (by kernel_rfl) (by kernel_rfl) (by kernel_rfl) (fun _ _ _ h => h) (Or.inl ⟨by rfl, ?hyt3⟩) hHeld ?restt3
              case hyt3 => intro w hSw; (try dsimp only at hSw); go_simp; try (with_reducible rfl)
              (try simp only [Act.put, List.setIfInBounds_toArray, List.set_cons_zero, List.set_cons_succ, List.getElem_toArray, List.getElem_cons_zero, List.getElem_cons_succ])
              refine wpAnyH_take (i := 3) (v := ?vt4) rfl (by kernel_rfl) (by kernel_rfl) (by kernel_rfl) (fun _ _ _ h => h) (Or.inl ⟨by rfl, ?hyt4⟩) hHeld ?restt4
              case hyt4 => intro w hSw; (try dsimp only at hSw); go_simp; try (with_reducible rfl)
              (try simp only [Act.put, List.setIfInBounds_toArray, List.set_cons_zero, List.set_cons_succ, List.getElem_toArray, List.getElem_cons_zero, List.getElem_cons_succ])
              refine wpAnyH_take (i := 4) (v := ?vt5) rfl (by kernel_rfl) (by kernel_rfl) (by kernel_rfl) (fun _ _ _ h => h) (Or.inl ⟨by rfl, ?hyt5⟩) hHeld ?restt5
              case hyt5 => intro w hSw; (try dsimp only at hSw); go_simp; try (with_reducible rfl)
              (try simp only [Act.put, List.setIfInBounds_toArray, List.set_cons_zero, List.set_cons_succ, List.getElem_toArray, List.getElem_cons_zero, List.getElem_cons_succ])
              refine wpAnyH_take (i := 5) (v := undef) rfl (by kernel_rfl) (by kernel_rfl) (by kernel_rfl) (fun _ _ _ h => h) (Or.inr ⟨by rfl, rfl⟩) hHeld ?_
              (try simp only [Act.put, List.setIfInBounds_toArray, List.set_cons_zero, List.set_cons_succ, List.getElem_toArray, List.getElem_cons_zero, List.getElem_cons_succ])
              refine wpAnyH_take (i := 6) (v := undef) rfl (by kernel_rfl) (by kernel_rfl) (by kernel_rfl) (fun _ _ _ h => h) (Or.inr ⟨by rfl, rfl⟩) hHeld ?_
              (try simp only [Act.put, List.setIfInBounds_toArray, List.set_cons_zero, List.set_cons_succ, List.getElem_toArray, List.getElem_cons_zero, List.getElem_cons_succ])
              refine wpAnyH_take (i := 7) (v := undef) rfl (by kernel_rfl) (by kernel_rfl) (by kernel_rfl) (fun _ _ _ h => h) (Or.inr ⟨by rfl, rfl⟩) hHeld ?_
              (try simp only [Act.put, List.setIfInBounds_toArray, List.set_cons_zero, List.set_cons_succ, List.getElem_toArray, List.getElem_cons_zero, List.getElem_cons_succ])
              refine wpAnyH_take (i := 8) (v := undef) rfl (by kernel_rfl) (by kernel_rfl) (by kernel_rfl) (fun _ _ _ h => h) (Or.inr ⟨by rfl, rfl⟩) hHeld ?_
              (try simp only [Act.put, List.setIfInBounds_toArray, List.set_cons_zero, List.set_cons_succ, List.getElem_toArray, List.getElem_cons_zero, List.getElem_cons_succ])
              refine wpAnyH_take (i := 9) (v := undef) rfl (by kernel_rfl) (by kernel_rfl) (by kernel_rfl) (fun _ _ _ h => h) (Or.inr ⟨by rfl, rfl⟩) hHeld ?_
              (try simp only [Act.put, List.setIfInBounds_toArray, List.set_cons_zero, List.set_cons_succ, List.getElem_toArray, List.getElem_cons_zero, List.getElem_cons_succ])
              refine wpAnyH_take (i := 10) (v := undef) rfl (by kernel_rfl) (by kernel_rfl) (by kernel_rfl) (fun _ _ _ h => h) (Or.inr ⟨by rfl, rfl⟩) hHeld ?_
              (try simp only [Act.put, List.setIfInBounds_toArray, List.set_cons_zero, List.set_cons_succ, List.getElem_toArray, List.getElem_cons_zero, List.getElem_cons_succ])
              refine wpAnyH_take (i := 11) (v := undef) rfl (by kernel_rfl) (by kernel_rfl) (by kernel_rfl) (fun _ _ _ h => h) (Or.inr ⟨by rfl, rfl⟩) hHeld ?_
              (try simp only [Act.put, List.setIfInBounds_toArray, List.set_cons_zero, List.set_cons_succ, List.getElem_toArray, List.getElem_cons_zero, List.getElem_cons_succ])
              refine wpAnyH_take (i := 12) (v := ?vt13) rfl (by kernel_rfl) (by kernel_rfl) (by kernel_rfl) (fun _ _ _ h => h) (Or.inl ⟨by rfl, ?hyt13⟩) hHeld ?restt13
              case hyt13 => intro w hSw; (try dsimp only at hSw); go_simp; try (with_reducible rfl)
              (try simp only [Act.put, List.setIfInBounds_toArray, List.set_cons_zero, List.set_cons_succ, List.getElem_toArray, List.getElem_cons_zero, List.getElem_cons_succ])
              refine wpAnyH_take (i := 13) (v := ?vt14) rfl (by kernel_rfl) (by kernel_rfl) (by kernel_rfl) (fun _ _ _ h => h) (Or.inl ⟨by rfl, ?hyt14⟩) hHeld ?restt14
              case hyt14 => intro w hSw; (try dsimp only at hSw); go_simp; try (with_reducible rfl)
              (try simp only [Act.put, List.setIfInBounds_toArray, List.set_cons_zero, List.set_cons_succ, List.getElem_toArray, List.getElem_cons_zero, List.getElem_cons_succ])
              refine wpAnyH_take (i := 14) (v := undef) rfl (by kernel_rfl) (by kernel_rfl) (by kernel_rfl) (fun _ _ _ h => h) (Or.inr ⟨by rfl, rfl⟩) hHeld ?_
              (try simp only [Act.put, List.setIfInBounds_toArray, List.set_cons_zero, List.set_cons_succ, List.getElem_toArray, List.getElem_cons_zero, List.getElem_cons_succ])
              refine wpAnyH_take (i := 15) (v := undef) rfl (by kernel_rfl) (by kernel_rfl) (by kernel_rfl) (fun _ _ _ h => h) (Or.inr ⟨by rfl, rfl⟩) hHeld ?_
              (try simp only [Act.put, List.setIfInBounds_toArray, List.set_cons_zero, List.set_cons_succ, List.getElem_toArray, List.getElem_cons_zero, List.getElem_cons_succ])
              refine wpAnyH_take (i := 16) (v := undef) rfl (by kernel_rfl) (by kernel_rfl) (by kernel_rfl) (fun _ _ _ h => h) (Or.inr ⟨by rfl, rfl⟩) hHeld ?_
              (try simp only [Act.put, List.setIfInBounds_toArray, List.set_cons_zero, List.set_cons_succ, List.getElem_toArray, List.getElem_cons_zero, List.getElem_cons_succ])
              refine wpAnyH_take (i := 17) (v := undef) rfl (by kernel_rfl) (by kernel_rfl) (by kernel_rfl) (fun _ _ _ h => h) (Or.inr ⟨by rfl, rfl⟩) hHeld ?_
              (try simp only [Act.put, List.setIfInBounds_toArray, List.set_cons_zero, List.set_cons_succ, List.getElem_toArray, List.getElem_cons_zero, List.getElem_cons_succ])
              refine wpAnyH_take (i := 18) (v := ?vt19) rfl (by kernel_rfl) (by kernel_rfl) (by kernel_rfl) (fun _ _ _ h => h) (Or.inl ⟨by rfl, ?hyt19⟩) hHeld ?restt19
              case hyt19 => intro w hSw; (try dsimp only at hSw); go_simp; try (with_reducible rfl)
              (try simp only [Act.put, List.setIfInBounds_toArray, List.set_cons_zero, List.set_cons_succ, List.getElem_toArray, List.getElem_cons_zero, List.getElem_cons_succ])
              refine wpAnyH_done (by kernel_rfl) ?_ _
              go_wp2_with fail
              go_ret
              exact ⟨rfl, HF1.out.drew⟩
            | true =>
              cases vv with
              | false =>
                have HGc : Hid (Fr (fun _ => False) w1 w1) := Lib.hid (Fr.refl _ _)
                refine wp_region_held_drew (S := fun w' => Fr (fun _ => False) w1 w') (by kernel_rfl) ?_ (fun hHeld => ?_)
                · exact (Fr.refl _ _).drew
                refine wpAnyH_take (i := 0) (v := ?vt20) rfl (by kernel_rfl) (by kernel_rfl) (by kernel_rfl) (fun _ _ _ h => h) (Or.inl ⟨by rfl, ?hyt20⟩) hHeld ?restt20
                case hyt20 => intro w hSw; (try dsimp only at hSw); go_simp; try (with_reducible rfl)
                (try simp only [Act.put, List.setIfInBounds_toArray, List.set_cons_zero, List.set_cons_succ, List.getElem_toArray, List.getElem_cons_zero])
                refine wpAnyH_take (i := 1) (v := ?vt21) rfl (by kernel_rfl) (by kernel_rfl) (by kernel_rfl) (fun _ _ _ h => h) (Or.inl ⟨by rfl, ?hyt21⟩) hHeld ?restt21
                case hyt21 => intro w hSw; (try dsimp only at hSw); obtain ⟨k0, k1, k2, k4, k5⟩ := HBX.out _ (HGc.out.trans hSw (fun _ _ h => h)); go_simp; try (with_reducible rfl)
                (try simp only [Act.put, List.setIfInBounds_toArray, List.set_cons_zero, List.set_cons_succ, List.getElem_toArray, List.getElem_cons_zero, List.getElem_cons_succ])
                refine wpAnyH_take (i := 2) (v := ?vt22) rfl (by kernel_rfl) (by kernel_rfl) (by kernel_rfl) (fun _ _ _ h => h) (Or.inl ⟨by rfl, ?hyt22⟩) hHeld ?restt22
                case hyt22 => intro w hSw; (try dsimp only at hSw); go_simp; try (with_reducible rfl)
                (try simp only [Act.put, List.setIfInBounds_toArray, List.set_cons_zero, List.set_cons_succ, List.getElem_toArray, List.getElem_cons_zero, List.getElem_cons_succ])
                refine wpAnyH_take (i := 3) (v := ?vt23) rfl (by kernel_rfl) (by kernel_rfl) (by kernel_rfl) (fun _ _ _ h => h) (Or.inl ⟨by rfl, ?hyt23⟩) hHeld ?restt23
                case hyt23 => intro w hSw; (try dsimp only at hSw); go_simp; try (with_reducible rfl)
                (try simp only [Act.put, List.setIfInBounds_toArray, List.set_cons_zero, List.set_cons_succ, List.getElem_toArray, List.getElem_cons_zero, List.getElem_cons_succ])
                refine wpAnyH_take (i := 4) (v := ?vt24) rfl (by kernel_rfl) (by kernel_rfl) (by kernel_rfl) (fun _ _ _ h => h) (Or.inl ⟨by rfl, ?hyt24⟩) hHeld ?restt24
                case hyt24 => intro w hSw; (try dsimp only at hSw); go_simp; try (with_reducible rfl)
                (try simp only [Act.put, List.setIfInBounds_toArray, List.set_cons_zero, List.set_cons_succ, List.getElem_toArray, List.getElem_cons_zero, List.getElem_cons_succ])
                refine wpAnyH_take (i := 5) (v := ?vt25) rfl (by kernel_rfl) (by kernel_rfl) (by kernel_rfl) (fun _ _ _ h => h) (Or.inl ⟨by rfl, ?hyt25⟩) hHeld ?restt25
                case hyt25 => intro w hSw; (try dsimp only at hSw); go_simp; try (with_reducible rfl)
                (try simp only [Act.put, List.setIfInBounds_toArray, List.set_cons_zero, List.set_cons_succ, List.getElem_toArray, List.getElem_cons_zero, List.getElem_cons_succ])
                refine wpAnyH_take (i := 6) (v := ?vt26) rfl (by kernel_rfl) (by kernel_rfl) (by kernel_rfl) (fun _ _ _ h => h) (Or.inl ⟨by rfl, ?hyt26⟩) hHeld ?restt26
                case hyt26 => intro w hSw; (try dsimp only at hSw); obtain ⟨k0, k1, k2, k4, k5⟩ := HBX.out _ (HGc.out.trans hSw (fun _ _ h => h)); go_simp; try (with_reducible rfl)
                (try simp only [Act.put, List.setIfInBounds_toArray, List.set_cons_zero, List.set_cons_succ, List.getElem_toArray, List.getElem_cons_zero, List.getElem_cons_succ])
                refine wpAnyH_take (i := 8) (v := ?vt27) rfl (by kernel_rfl) (by kernel_rfl) (by kernel_rfl) (fun _ _ _ h => h) (Or.inl ⟨by rfl, ?hyt27⟩) hHeld ?restt27
                case hyt27 => intro w hSw; (try dsimp only at hSw); go_simp; try (with_reducible rfl)
                (try simp only [Act.put, List.setIfInBounds_toArray, List.set_cons_zero, List.set_cons_succ, List.getElem_toArray, List.getElem_cons_zero, List.getElem_cons_succ])
                refine wpAnyH_take (i := 9) (v := ?vt28) rfl (by kernel_rfl) (by kernel_rfl) (by kernel_rfl) (fun _ _ _ h => h) (Or.inl ⟨by rfl, ?hyt28⟩) hHeld ?restt28
                case hyt28 => intro w hSw; (try dsimp only at hSw); obtain ⟨k0, k1, k2, k4, k5⟩ := HBX.out _ (HGc.out.trans hSw (fun _ _ h => h)); go_simp; try (with_reducible rfl)
                (try simp only [Act.put, List.setIfInBounds_toArray, List.set_cons_zero, List.set_cons_succ, List.getElem_toArray, List.getElem_cons_zero, List.getElem_cons_succ])
                refine wpAnyH_take (i := 10) (v := ?vt29) rfl (by kernel_rfl) (by kernel_rfl) (by kernel_rfl) (fun _ _ _ h => h) (Or.inl ⟨by rfl, ?hyt29⟩) hHeld ?restt29
                case hyt29 => intro w hSw; (try dsimp only at hSw); go_simp; try (with_reducible rfl)
                (try simp only [Act.put, List.setIfInBounds_toArray, List.set_cons_zero, List.set_cons_succ, List.getElem_toArray, List.getElem_cons_zero, List.getElem_cons_succ])
                refine wpAnyH_ready (rs := [7]) (by kernel_rfl) (by simp) ?_
                refine AllReadyH.cons rfl (fun Kx hKx => ?_) AllReadyH.nil
                go_simp
                have hcon := HWH.out w1.drew
                with_reducible refine hcon.mono ?_
                clear hcon
                rintro e' v1 ⟨rfl, hff⟩
                have HFn : Hid (Fr (fun _ => False) w1 v1) := Lib.hid ((Fr.refl _ _).drew.trans hff (fun _ _ h => h))
                clear hff
                have HGc := Lib.hid (HGc.out.trans HFn.out (fun _ _ h => h))
                refine hKx.out _ _ ?_ (fun hHeld => ?_)
                · exact HFn.out
                clear hKx Kx
                (try simp only [Act.put, List.setIfInBounds_toArray, List.set_cons_zero, List.set_cons_succ, List.getElem_toArray, List.getElem_cons_zero, List.getElem_cons_succ])
                refine wpAnyH_more (fun w' => Fr (fun _ => False) v1 w') (fun _ h => HFn.out.trans h (fun _ _ h => h)) ?_ (fun hHeld => ?_)
                · exact Fr.refl _ _
                clear HFn
                refine wpAnyH_take (i := 11) (v := ?vt30) rfl (by kernel_rfl) (by kernel_rfl) (by kernel_rfl) (fun _ _ _ h => h) (Or.inl ⟨by rfl, ?hyt30⟩) hHeld ?restt30
                case hyt30 => intro w hSw; (try dsimp only at hSw); go_simp; try (with_reducible rfl)
                (try simp only [Act.put, List.setIfInBounds_toArray, List.set_cons_zero, List.set_cons_succ, List.getElem_toArray, List.getElem_cons_zero, List.getElem_cons_succ])
                refine wpAnyH_take (i := 12) (v := ?vt31) rfl (by kernel_rfl) (by kernel_rfl) (by kernel_rfl) (fun _ _ _ h => h) (Or.inl ⟨by rfl, ?hyt31⟩) hHeld ?restt31
                case hyt31 => intro w hSw; (try dsimp only at hSw); go_simp; try (with_reducible rfl)
                (try simp only [Act.put, List.setIfInBounds_toArray, List.set_cons_zero, List.set_cons_succ, List.getElem_toArray, List.getElem_cons_zero, List.getElem_cons_succ])
                refine wpAnyH_take (i := 13) (v := ?vt32) rfl (by kernel_rfl) (by kernel_rfl) (by kernel_rfl) (fun _ _ _ h => h) (Or.inl ⟨by rfl, ?hyt32⟩) hHeld ?restt32
                case hyt32 => intro w hSw; (try dsimp only at hSw); go_simp; try (with_reducible rfl)
                (try simp only [Act.put, List.setIfInBounds_toArray, List.set_cons_zero, List.set_cons_succ, List.getElem_toArray, List.getElem_cons_zero, List.getElem_cons_succ])
                refine wpAnyH_take (i := 14) (v := undef) rfl (by kernel_rfl) (by kernel_rfl) (by kernel_rfl) (fun _ _ _ h => h) (Or.inr ⟨by rfl, rfl⟩) hHeld ?_
                (try simp only [Act.put, List.setIfInBounds_toArray, List.set_cons_zero, List.set_cons_succ, List.getElem_toArray, List.getElem_cons_zero, List.getElem_cons_succ])
                refine wpAnyH_take (i := 15) (v := undef) rfl (by kernel_rfl) (by kernel_rfl) (by kernel_rfl) (fun _ _ _ h => h) (Or.inr ⟨by rfl, rfl⟩) hHeld ?_
                (try simp only [Act.put, List.setIfInBounds_toArray, List.set_cons_zero, List.set_cons_succ, List.getElem_toArray, List.getElem_cons_zero, List.getElem_cons_succ])
                refine wpAnyH_take (i := 16) (v := undef) rfl (by kernel_rfl) (by kernel_rfl) (by kernel_rfl) (fun _ _ _ h => h) (Or.inr ⟨by rfl, rfl⟩) hHeld ?_
                (try simp only [Act.put, List.setIfInBounds_toArray, List.set_cons_zero, List.set_cons_succ, List.getElem_toArray, List.getElem_cons_zero, List.getElem_cons_succ])
                refine wpAnyH_take (i := 17) (v := undef) rfl (by kernel_rfl) (by kernel_rfl) (by kernel_rfl) (fun _ _ _ h => h) (Or.inr ⟨by rfl, rfl⟩) hHeld ?_
                (try simp only [Act.put, List.setIfInBounds_toArray, List.set_cons_zero, List.set_cons_succ, List.getElem_toArray, List.getElem_cons_zero, List.getElem_cons_succ])
                refine wpAnyH_take (i := 18) (v := ?vt37) rfl (by kernel_rfl) (by kernel_rfl) (by kernel_rfl) (fun _ _ _ h => h) (Or.inl ⟨by rfl, ?hyt37⟩) hHeld ?restt37
                case hyt37 => intro w hSw; (try dsimp only at hSw); go_simp; try (with_reducible rfl)
                (try simp only [Act.put, List.setIfInBounds_toArray, List.set_cons_zero, List.set_cons_succ, List.getElem_toArray, List.getElem_cons_zero, List.getElem_cons_succ])
                refine wpAnyH_done (by kernel_rfl) ?_ _
                go_wp2_with fail
                go_ret
                exact ⟨rfl, HF1.out.trans HGc.out (fun _ _ h => h)⟩
              | true =>
                cases vd with
                | false =>
                  have HGc : Hid (Fr (fun _ => False) w1 w1) := Lib.hid (Fr.refl _ _)
                  refine wp_region_held_drew (S := fun w' => Fr (fun _ => False) w1 w') (by kernel_rfl) ?_ (fun hHeld => ?_)
                  · exact (Fr.refl _ _).drew
                  refine wpAnyH_take (i := 0) (v := ?vt38) rfl (by kernel_rfl) (by kernel_rfl) (by kernel_rfl) (fun _ _ _ h => h) (Or.inl ⟨by rfl, ?hyt38⟩) hHeld ?restt38
                  case hyt38 => intro w hSw; (try dsimp only at hSw); go_simp; try (with_reducible rfl)
                  (try simp only [Act.put, List.setIfInBounds_toArray, List.set_cons_zero, List.set_cons_succ, List.getElem_toArray, List.getElem_cons_zero])
                  refine wpAnyH_take (i := 1) (v := ?vt39) rfl (by kernel_rfl) (by kernel_rfl) (by kernel_rfl) (fun _ _ _ h => h) (Or.inl ⟨by rfl, ?hyt39⟩) hHeld ?restt39
                  case hyt39 => intro w hSw; (try dsimp only at hSw); obtain ⟨k0, k1, k2, k4, k5⟩ := HBX.out _ (HGc.out.trans hSw (fun _ _ h => h)); go_simp; try (with_reducible rfl)
                  (try simp only [Act.put, List.setIfInBounds_toArray, List.set_cons_zero, List.set_cons_succ, List.getElem_toArray, List.getElem_cons_zero, List.getElem_cons_succ])
                  refine wpAnyH_take (i := 2) (v := ?vt40) rfl (by kernel_rfl) (by kernel_rfl) (by kernel_rfl) (fun _ _ _ h => h) (Or.inl ⟨by rfl, ?hyt40⟩) hHeld ?restt40
                  case hyt40 => intro w hSw; (try dsimp only at hSw); go_simp; try (with_reducible rfl)
                  (try simp only [Act.put, List.setIfInBounds_toArray, List.set_cons_zero, List.set_cons_succ, List.getElem_toArray, List.getElem_cons_zero, List.getElem_cons_succ])
                  refine wpAnyH_take (i := 3) (v := ?vt41) rfl (by kernel_rfl) (by kernel_rfl) (by kernel_rfl) (fun _ _ _ h => h) (Or.inl ⟨by rfl, ?hyt41⟩) hHeld ?restt41
                  case hyt41 => intro w hSw; (try dsimp only at hSw); go_simp; try (with_reducible rfl)
                  (try simp only [Act.put, List.setIfInBounds_toArray, List.set_cons_zero, List.set_cons_succ, List.getElem_toArray, List.getElem_cons_zero, List.getElem_cons_succ])
                  refine wpAnyH_take (i := 4) (v := ?vt42) rfl (by kernel_rfl) (by kernel_rfl) (by kernel_rfl) (fun _ _ _ h => h) (Or.inl ⟨by rfl, ?hyt42⟩) hHeld ?restt42
                  case hyt42 => intro w hSw; (try dsimp only at hSw); go_simp; try (with_reducible rfl)
                  (try simp only [Act.put, List.setIfInBounds_toArray, List.set_cons_zero, List.set_cons_succ, List.getElem_toArray, List.getElem_cons_zero, List.getElem_cons_succ])
                  refine wpAnyH_take (i := 5) (v := ?vt43) rfl (by kernel_rfl) (by kernel_rfl) (by kernel_rfl) (fun _ _ _ h => h) (Or.inl ⟨by rfl, ?hyt43⟩) hHeld ?restt43
                  case hyt43 => intro w hSw; (try dsimp only at hSw); go_simp; try (with_reducible rfl)
                  (try simp only [Act.put, List.setIfInBounds_toArray, List.set_cons_zero, List.set_cons_succ, List.getElem_toArray, List.getElem_cons_zero, List.getElem_cons_succ])
                  refine wpAnyH_take (i := 6) (v := ?vt44) rfl (by kernel_rfl) (by kernel_rfl) (by kernel_rfl) (fun _ _ _ h => h) (Or.inl ⟨by rfl, ?hyt44⟩) hHeld ?restt44
                  case hyt44 => intro w hSw; (try dsimp only at hSw); obtain ⟨k0, k1, k2, k4, k5⟩ := HBX.out _ (HGc.out.trans hSw (fun _ _ h => h)); go_simp; try (with_reducible rfl)
                  (try simp only [Act.put, List.setIfInBounds_toArray, List.set_cons_zero, List.set_cons_succ, List.getElem_toArray, List.getElem_cons_zero, List.getElem_cons_succ])
                  refine wpAnyH_take (i := 8) (v := ?vt45) rfl (by kernel_rfl) (by kernel_rfl) (by kernel_rfl) (fun _ _ _ h => h) (Or.inl ⟨by rfl, ?hyt45⟩) hHeld ?restt45
                  case hyt45 => intro w hSw; (try dsimp only at hSw); go_simp; try (with_reducible rfl)
                  (try simp only [Act.put, List.setIfInBounds_toArray, List.set_cons_zero, List.set_cons_succ, List.getElem_toArray, List.getElem_cons_zero, List.getElem_cons_succ])
                  refine wpAnyH_take (i := 9) (v := ?vt46) rfl (by kernel_rfl) (by kernel_rfl) (by kernel_rfl) (fun _ _ _ h => h) (Or.inl ⟨by rfl, ?hyt46⟩) hHeld ?restt46
                  case hyt46 => intro w hSw; (try dsimp only at hSw); obtain ⟨k0, k1, k2, k4, k5⟩ := HBX.out _ (HGc.out.trans hSw (fun _ _ h => h)); go_simp; try (with_reducible rfl)
                  (try simp only [Act.put, List.setIfInBounds_toArray, List.set_cons_zero, List.set_cons_succ, List.getElem_toArray, List.getElem_cons_zero, List.getElem_cons_succ])
                  refine wpAnyH_take (i := 10) (v := ?vt47) rfl (by kernel_rfl) (by kernel_rfl) (by kernel_rfl) (fun _ _ _ h => h) (Or.inl ⟨by rfl, ?hyt47⟩) hHeld ?restt47
                  case hyt47 => intro w hSw; (try dsimp only at hSw); go_simp; try (with_reducible rfl)
                  (try simp only [Act.put, List.setIfInBounds_toArray, List.set_cons_zero, List.set_cons_succ, List.getElem_toArray, List.getElem_cons_zero, List.getElem_cons_succ])
                  refine wpAnyH_ready (rs := [7]) (by kernel_rfl) (by simp) ?_
                  refine AllReadyH.cons rfl (fun Kx hKx => ?_) AllReadyH.nil
                  go_simp
                  have hcon := HWH.out w1.drew
                  with_reducible refine hcon.mono ?_
                  clear hcon
                  rintro e' v1 ⟨rfl, hff⟩
                  have HFn : Hid (Fr (fun _ => False) w1 v1) := Lib.hid ((Fr.refl _ _).drew.trans hff (fun _ _ h => h))
                  clear hff
                  have HGc := Lib.hid (HGc.out.trans HFn.out (fun _ _ h => h))
                  refine hKx.out _ _ ?_ (fun hHeld => ?_)
                  · exact HFn.out
                  clear hKx Kx
                  (try simp only [Act.put, List.setIfInBounds_toArray, List.set_cons_zero, List.set_cons_succ, List.getElem_toArray, List.getElem_cons_zero, List.getElem_cons_succ])
                  refine wpAnyH_more (fun w' => Fr (fun _ => False) v1 w') (fun _ h => HFn.out.trans h (fun _ _ h => h)) ?_ (fun hHeld => ?_)
                  · exact Fr.refl _ _
                  clear HFn
                  refine wpAnyH_take (i := 11) (v := ?vt48) rfl (by kernel_rfl) (by kernel_rfl) (by kernel_rfl) (fun _ _ _ h => h) (Or.inl ⟨by rfl, ?hyt48⟩) hHeld ?restt48
                  case hyt48 => intro w hSw; (try dsimp only at hSw); go_simp; try (with_reducible rfl)
                  (try simp only [Act.put, List.setIfInBounds_toArray, List.set_cons_zero, List.set_cons_succ, List.getElem_toArray, List.getElem_cons_zero, List.getElem_cons_succ])
                  refine wpAnyH_take (i := 12) (v := ?vt49) rfl (by kernel_rfl) (by kernel_rfl) (by kernel_rfl) (fun _ _ _ h => h) (Or.inl ⟨by rfl, ?hyt49⟩) hHeld ?restt49
                  case hyt49 => intro w hSw; (try dsimp only at hSw); go_simp; try (with_reducible rfl)
                  (try simp only [Act.put, List.setIfInBounds_toArray, List.set_cons_zero, List.set_cons_succ, List.getElem_toArray, List.getElem_cons_zero, List.getElem_cons_succ])
                  refine wpAnyH_take (i := 13) (v := ?vt50) rfl (by kernel_rfl) (by kernel_rfl) (by kernel_rfl) (fun _ _ _ h => h) (Or.inl ⟨by rfl, ?hyt50⟩) hHeld ?restt50
                  case hyt50 => intro w hSw; (try dsimp only at hSw); go_simp; try (with_reducible rfl)
                  (try simp only [Act.put, List.setIfInBounds_toArray, List.set_cons_zero, List.set_cons_succ, List.getElem_toArray, List.getElem_cons_zero, List.getElem_cons_succ])
                  refine wpAnyH_take (i := 14) (v := ?vt51) rfl (by kernel_rfl) (by kernel_rfl) (by kernel_rfl) (fun _ _ _ h => h) (Or.inl ⟨by rfl, ?hyt51⟩) hHeld ?restt51
                  case hyt51 => intro w hSw; (try dsimp only at hSw); go_simp; try (with_reducible rfl)
                  (try simp only [Act.put, List.setIfInBounds_toArray, List.set_cons_zero, List.set_cons_succ, List.getElem_toArray, List.getElem_cons_zero, List.getElem_cons_succ])
                  refine wpAnyH_take (i := 15) (v := ?vt52) rfl (by kernel_rfl) (by kernel_rfl) (by kernel_rfl) (fun _ _ _ h => h) (Or.inl ⟨by rfl, ?hyt52⟩) hHeld ?restt52
                  case hyt52 => intro w hSw; (try dsimp only at hSw); obtain ⟨k0, k1, k2, k4, k5⟩ := HBX.out _ (HGc.out.trans hSw (fun _ _ h => h)); go_simp; try (with_reducible rfl)
                  (try simp only [Act.put, List.setIfInBounds_toArray, List.set_cons_zero, List.set_cons_succ, List.getElem_toArray, List.getElem_cons_zero, List.getElem_cons_succ])
                  refine wpAnyH_take (i := 16) (v := ?vt53) rfl (by kernel_rfl) (by kernel_rfl) (by kernel_rfl) (fun _ _ _ h => h) (Or.inl ⟨by rfl, ?hyt53⟩) hHeld ?restt53
                  case hyt53 => intro w hSw; (try dsimp only at hSw); go_simp; try (with_reducible rfl)
                  (try simp only [Act.put, List.setIfInBounds_toArray, List.set_cons_zero, List.set_cons_succ, List.getElem_toArray, List.getElem_cons_zero, List.getElem_cons_succ])
                  refine wpAnyH_take (i := 17) (v := ?vt54) rfl (by kernel_rfl) (by kernel_rfl) (by kernel_rfl) (fun _ _ _ h => h) (Or.inl ⟨by rfl, ?hyt54⟩) hHeld ?restt54
                  case hyt54 => intro w hSw; (try dsimp only at hSw); go_simp; try (with_reducible rfl)
                  (try simp only [Act.put, List.setIfInBounds_toArray, List.set_cons_zero, List.set_cons_succ, List.getElem_toArray, List.getElem_cons_zero, List.getElem_cons_succ])
                  refine wpAnyH_take (i := 18) (v := ?vt55) rfl (by kernel_rfl) (by kernel_rfl) (by kernel_rfl) (fun _ _ _ h => h) (Or.inl ⟨by rfl, ?hyt55⟩) hHeld ?restt55
                  case hyt55 => intro w hSw; (try dsimp only at hSw); go_simp; try (with_reducible rfl)
                  (try simp only [Act.put, List.setIfInBounds_toArray, List.set_cons_zero, List.set_cons_succ, List.getElem_toArray, List.getElem_cons_zero, List.getElem_cons_succ])
                  refine wpAnyH_done (by kernel_rfl) ?_ _
                  go_wp2_with fail
                  go_ret
                  exact ⟨rfl, HF1.out.trans HGc.out (fun _ _ h => h)⟩
                | true =>
                  have HGc : Hid (Fr (fun _ => False) w1 w1) := Lib.hid (Fr.refl _ _)
                  refine wp_region_held_drew (S := fun w' => Fr (fun _ => False) w1 w') (by kernel_rfl) ?_ (fun hHeld => ?_)
                  · exact (Fr.refl _ _).drew
                  refine wpAnyH_take (i := 0) (v := ?vt56) rfl (by kernel_rfl) (by kernel_rfl) (by kernel_rfl) (fun _ _ _ h => h) (Or.inl ⟨by rfl, ?hyt56⟩) hHeld ?restt56
                  case hyt56 => intro w hSw; (try dsimp only at hSw); go_simp; try (with_reducible rfl)
                  (try simp only [Act.put, List.setIfInBounds_toArray, List.set_cons_zero, List.set_cons_succ, List.getElem_toArray, List.getElem_cons_zero])
                  refine wpAnyH_take (i := 1) (v := ?vt57) rfl (by kernel_rfl) (by kernel_rfl) (by kernel_rfl) (fun _ _ _ h => h) (Or.inl ⟨by rfl, ?hyt57⟩) hHeld ?restt57
                  case hyt57 => intro w hSw; (try dsimp only at hSw); obtain ⟨k0, k1, k2, k4, k5⟩ := HBX.out _ (HGc.out.trans hSw (fun _ _ h => h)); go_simp; try (with_reducible rfl)
                  (try simp only [Act.put, List.setIfInBounds_toArray, List.set_cons_zero, List.set_cons_succ, List.getElem_toArray, List.getElem_cons_zero, List.getElem_cons_succ])
                  refine wpAnyH_take (i := 2) (v := ?vt58) rfl (by kernel_rfl) (by kernel_rfl) (by kernel_rfl) (fun _ _ _ h => h) (Or.inl ⟨by rfl, ?hyt58⟩) hHeld ?restt58
                  case hyt58 => intro w hSw; (try dsimp only at hSw); go_simp; try (with_reducible rfl)
                  (try simp only [Act.put, List.setIfInBounds_toArray, List.set_cons_zero, List.set_cons_succ, List.getElem_toArray, List.getElem_cons_zero, List.getElem_cons_succ])
                  refine wpAnyH_take (i := 3) (v := ?vt59) rfl (by kernel_rfl) (by kernel_rfl) (by kernel_rfl) (fun _ _ _ h => h) (Or.inl ⟨by rfl, ?hyt59⟩) hHeld ?restt59
                  case hyt59 => intro w hSw; (try dsimp only at hSw); go_simp; try (with_reducible rfl)
                  (try simp only [Act.put, List.setIfInBounds_toArray, List.set_cons_zero, List.set_cons_succ, List.getElem_toArray, List.getElem_cons_zero, List.getElem_cons_succ])
                  refine wpAnyH_take (i := 4) (v := ?vt60) rfl (by kernel_rfl) (by kernel_rfl) (by kernel_rfl) (fun _ _ _ h => h) (Or.inl ⟨by rfl, ?hyt60⟩) hHeld ?restt60
                  case hyt60 => intro w hSw; (try dsimp only at hSw); go_simp; try (with_reducible rfl)
                  (try simp only [Act.put, List.setIfInBounds_toArray, List.set_cons_zero, List.set_cons_succ, List.getElem_toArray, List.getElem_cons_zero, List.getElem_cons_succ])
                  refine wpAnyH_take (i := 5) (v := ?vt61) rfl (by kernel_rfl) (by kernel_rfl) (by kernel_rfl) (fun _ _ _ h => h) (Or.inl ⟨by rfl, ?hyt61⟩) hHeld ?restt61
                  case hyt61 => intro w hSw; (try dsimp only at hSw); go_simp; try (with_reducible rfl)
                  (try simp only [Act.put, List.setIfInBounds_toArray, List.set_cons_zero, List.set_cons_succ, List.getElem_toArray, List.getElem_cons_zero, List.getElem_cons_succ])
                  refine wpAnyH_take (i := 6) (v := ?vt62) rfl (by kernel_rfl) (by kernel_rfl) (by kernel_rfl) (fun _ _ _ h => h) (Or.inl ⟨by rfl, ?hyt62⟩) hHeld ?restt62
                  case hyt62 => intro w hSw; (try dsimp only at hSw); obtain ⟨k0, k1, k2, k4, k5⟩ := HBX.out _ (HGc.out.trans hSw (fun _ _ h => h)); go_simp; try (with_reducible rfl)
                  (try simp only [Act.put, List.setIfInBounds_toArray, List.set_cons_zero, List.set_cons_succ, List.getElem_toArray, List.getElem_cons_zero, List.getElem_cons_succ])
                  refine wpAnyH_take (i := 8) (v := ?vt63) rfl (by kernel_rfl) (by kernel_rfl) (by kernel_rfl) (fun _ _ _ h => h) (Or.inl ⟨by rfl, ?hyt63⟩) hHeld ?restt63
                  case hyt63 => intro w hSw; (try dsimp only at hSw); go_simp; try (with_reducible rfl)
                  (try simp only [Act.put, List.setIfInBounds_toArray, List.set_cons_zero, List.set_cons_succ, List.getElem_toArray, List.getElem_cons_zero, List.getElem_cons_succ])
                  refine wpAnyH_take (i := 9) (v := ?vt64) rfl (by kernel_rfl) (by kernel_rfl) (by kernel_rfl) (fun _ _ _ h => h) (Or.inl ⟨by rfl, ?hyt64⟩) hHeld ?restt64
                  case hyt64 => intro w hSw; (try dsimp only at hSw); obtain ⟨k0, k1, k2, k4, k5⟩ := HBX.out _ (HGc.out.trans hSw (fun _ _ h => h)); go_simp; try (with_reducible rfl)
                  (try simp only [Act.put, List.setIfInBounds_toArray, List.set_cons_zero, List.set_cons_succ, List.getElem_toArray, List.getElem_cons_zero, List.getElem_cons_succ])
                  refine wpAnyH_take (i := 10) (v := ?vt65) rfl (by kernel_rfl) (by kernel_rfl) (by kernel_rfl) (fun _ _ _ h => h) (Or.inl ⟨by rfl, ?hyt65⟩) hHeld ?restt65
                  case hyt65 => intro w hSw; (try dsimp only at hSw); go_simp; try (with_reducible rfl)
                  (try simp only [Act.put, List.setIfInBounds_toArray, List.set_cons_zero, List.set_cons_succ, List.getElem_toArray, List.getElem_cons_zero, List.getElem_cons_succ])
                  refine wpAnyH_ready (rs := [7]) (by kernel_rfl) (by simp) ?_
                  refine AllReadyH.cons rfl (fun Kx hKx => ?_) AllReadyH.nil
                  go_simp
                  have hcon := HWH.out w1.drew
                  with_reducible refine hcon.mono ?_
                  clear hcon
                  rintro e' v1 ⟨rfl, hff⟩
                  have HFn : Hid (Fr (fun _ => False) w1 v1) := Lib.hid ((Fr.refl _ _).drew.trans hff (fun _ _ h => h))
                  clear hff
                  have HGc := Lib.hid (HGc.out.trans HFn.out (fun _ _ h => h))
                  refine hKx.out _ _ ?_ (fun hHeld => ?_)
                  · exact HFn.out
                  clear hKx Kx
                  (try simp only [Act.put, List.setIfInBounds_toArray, List.set_cons_zero, List.set_cons_succ, List.getElem_toArray, List.getElem_cons_zero, List.getElem_cons_succ])
                  refine wpAnyH_more (fun w' => Fr (fun _ => False) v1 w') (fun _ h => HFn.out.trans h (fun _ _ h => h)) ?_ (fun hHeld => ?_)
                  · exact Fr.refl _ _
                  clear HFn
                  refine wpAnyH_take (i := 11) (v := ?vt66) rfl (by kernel_rfl) (by kernel_rfl) (by kernel_rfl) (fun _ _ _ h => h) (Or.inl ⟨by rfl, ?hyt66⟩) hHeld ?restt66
                  case hyt66 => intro w hSw; (try dsimp only at hSw); go_simp; try (with_reducible rfl)
                  (try simp only [Act.put, List.setIfInBounds_toArray, List.set_cons_zero, List.set_cons_succ, List.getElem_toArray, List.getElem_cons_zero, List.getElem_cons_succ])
                  refine wpAnyH_take (i := 12) (v := ?vt67) rfl (by kernel_rfl) (by kernel_rfl) (by kernel_rfl) (fun _ _ _ h => h) (Or.inl ⟨by rfl, ?hyt67⟩) hHeld ?restt67
                  case hyt67 => intro w hSw; (try dsimp only at hSw); go_simp; try (with_reducible rfl)
                  (try simp only [Act.put, List.setIfInBounds_toArray, List.set_cons_zero, List.set_cons_succ, List.getElem_toArray, List.getElem_cons_zero, List.getElem_cons_succ])
                  refine wpAnyH_take (i := 13) (v := ?vt68) rfl (by kernel_rfl) (by kernel_rfl) (by kernel_rfl) (fun _ _ _ h => h) (Or.inl ⟨by rfl, ?hyt68⟩) hHeld ?restt68
                  case hyt68 => intro w hSw; (try dsimp only at hSw); go_simp; try (with_reducible rfl)
                  (try simp only [Act.put, List.setIfInBounds_toArray, List.set_cons_zero, List.set_cons_succ, List.getElem_toArray, List.getElem_cons_zero, List.getElem_cons_succ])
                  refine wpAnyH_take (i := 14) (v := ?vt69) rfl (by kernel_rfl) (by kernel_rfl) (by kernel_rfl) (fun _ _ _ h => h) (Or.inl ⟨by rfl, ?hyt69⟩) hHeld ?restt69
                  case hyt69 => intro w hSw; (try dsimp only at hSw); go_simp; try (with_reducible rfl)
                  (try simp only [Act.put, List.setIfInBounds_toArray, List.set_cons_zero, List.set_cons_succ, List.getElem_toArray, List.getElem_cons_zero, List.getElem_cons_succ])
                  refine wpAnyH_take (i := 15) (v := ?vt70) rfl (by kernel_rfl) (by kernel_rfl) (by kernel_rfl) (fun _ _ _ h => h) (Or.inl ⟨by rfl, ?hyt70⟩) hHeld ?restt70
                  case hyt70 => intro w hSw; (try dsimp only at hSw); obtain ⟨k0, k1, k2, k4, k5⟩ := HBX.out _ (HGc.out.trans hSw (fun _ _ h => h)); go_simp; try (with_reducible rfl)
                  (try simp only [Act.put, List.setIfInBounds_toArray, List.set_cons_zero, List.set_cons_succ, List.getElem_toArray, List.getElem_cons_zero, List.getElem_cons_succ])
                  refine wpAnyH_take (i := 16) (v := ?vt71) rfl (by kernel_rfl) (by kernel_rfl) (by kernel_rfl) (fun _ _ _ h => h) (Or.inl ⟨by rfl, ?hyt71⟩) hHeld ?restt71
                  case hyt71 => intro w hSw; (try dsimp only at hSw); go_simp; try (with_reducible rfl)
                  (try simp only [Act.put, List.setIfInBounds_toArray, List.set_cons_zero, List.set_cons_succ, List.getElem_toArray, List.getElem_cons_zero, List.getElem_cons_succ])
                  refine wpAnyH_take (i := 17) (v := ?vt72) rfl (by kernel_rfl) (by kernel_rfl) (by kernel_rfl) (fun _ _ _ h => h) (Or.inl ⟨by rfl, ?hyt72⟩) hHeld ?restt72
                  case hyt72 => intro w hSw; (try dsimp only at hSw); go_simp; try (with_reducible rfl)
                  (try simp only [Act.put, List.setIfInBounds_toArray, List.set_cons_zero, List.set_cons_succ, List.getElem_toArray, List.getElem_cons_zero, List.getElem_cons_succ])
                  refine wpAnyH_take (i := 18) (v := ?vt73) rfl (by kernel_rfl) (by kernel_rfl) (by kernel_rfl) (fun _ _ _ h => h) (Or.inl ⟨by rfl, ?hyt73⟩) hHeld ?restt73
                  case hyt73 => intro w hSw; (try dsimp only at hSw); go_simp; try (with_reducible rfl)
                  (try simp only [Act.put, List.setIfInBounds_toArray, List.set_cons_zero, List.set_cons_succ, List.getElem_toArray, List.getElem_cons_zero, List.getElem_cons_succ])
                  refine wpAnyH_done (by kernel_rfl) ?_ _
                  go_wp2_with fail
                  have hgc := HGc.out
                  clear HGc
                  have HGc : Hid (Fr (fun _ => False) w1 v1) := Lib.hid hgc
                  have k5 : v1.cell? ⟨g, 5, none⟩ = some (.slice A nd k) := (HBX.out _ hgc).2.2.2.2
                  clear hgc
                  go_loopw [3] (fun v wr => ∃ i : Nat, i ≤ nd ∧ v = .int .i64 (i : Int) ∧ Hid (∀ j, j < i → j + 1 < nd → Op.bytesLess (d.getD j []) (d.getD (j + 1) []) = true) ∧ Hid (Fr (fun _ => False) v1 wr)) (fun v _ => nd - (intOf v).toNat)
                  case atStart => exact ⟨0, Nat.zero_le _, rfl, Lib.hid (fun j hj => by omega), Lib.hid (Fr.refl _ _)⟩
                  case round =>
                    obtain ⟨i, hi, rfl, HE, HFr⟩ := hrel
                    rename World => wr
                    have HB : Hid (∀ w', Fr (fun _ => False) wr w' → w'.cell? ⟨g, 5, none⟩ = some (.slice A nd k)) := Lib.hid (fun w' hf => (HBX.out _ ((HGc.out.trans HFr.out (fun _ _ h => h)).trans hf (fun _ _ h => h))).2.2.2.2)
                    have k6 : wr.cell? ⟨g, 5, none⟩ = some (.slice A nd k) := HB.out _ (Fr.refl _ _)
                    have hn63 := HND.out
                    have ew : IntKind.i64.wrap ((i : Int) + 1) = ((i + 1 : Nat) : Int) := by rw [IntKind.wrap_i64]; omega
                    by_cases hlt : i + 1 < nd
                    · have t1 : decide (((i + 1 : Nat) : Int) < (nd : Int)) = true := decide_eq_true (by omega)
                      have t1' : decide ((i : Int) + 1 < (nd : Int)) = true := decide_eq_true (by omega)
                      obtain ⟨x, hx⟩ : ∃ x, d[i]? = some x := ⟨_, List.getElem?_eq_getElem (by have := HLN.out; omega)⟩
                      obtain ⟨y, hy⟩ : ∃ y, d[i + 1]? = some y := ⟨_, List.getElem?_eq_getElem (by have := HLN.out; omega)⟩
                      have hLr := HL.out.fr (HF1.out.trans (HGc.out.trans HFr.out (fun _ _ h => h)) (fun _ _ h => h))
                      obtain ⟨gg, oo, rfl, _, hrx⟩ := hLr.2.2 i x hx
                      obtain ⟨g', o', e', _, hry⟩ := hLr.2.2 (i + 1) y hy
                      injection e' with e'
                      injection e' with e1 e2
                      subst e1 e2
                      have hx32 := HL.out.2.1 x (List.mem_of_getElem? hx)
                      have hy32 := HL.out.2.1 y (List.mem_of_getElem? hy)
                      obtain ⟨CX, hCX⟩ : ∃ C, (x.map bytec).toArray = C := ⟨_, rfl⟩
                      obtain ⟨CY, hCY⟩ : ∃ C, (y.map bytec).toArray = C := ⟨_, rfl⟩
                      have hls := fun w' => rLess_any x y w' hx32 hy32 CX CY hCX hCY
                      obtain ⟨b, hb⟩ : ∃ b, Op.bytesLess x y = b := ⟨_, rfl⟩
                      rw [hb] at hls
                      have HBL : Hid (Op.bytesLess (d.getD i []) (d.getD (i + 1) []) = b) := Lib.hid (by rw [← hb, List.getD_eq_getElem?_getD, List.getD_eq_getElem?_getD, hx, hy]; rfl)
                      have HRX : Hid (∀ w', Fr (fun _ => False) wr w' → w'.rangeAt gg (oo + i * 32) (x.map bytec)) := Lib.hid (fun w' hf => range_fr hrx hf (fun h => h))
                      have HRY : Hid (∀ w', Fr (fun _ => False) wr w' → w'.rangeAt gg (oo + (i + 1) * 32) (y.map bytec)) := Lib.hid (fun w' hf => range_fr hry hf (fun h => h))
                      have HLS := Lib.hid hls
                      have HCX := Lib.hid hCX
                      have HCY := Lib.hid hCY
                      have HX32 := Lib.hid hx32
                      have HY32 := Lib.hid hy32
                      have hik : i < nd := by omega
                      have hik' : (i : Int) + 1 < (nd : Int) := by omega
                      have hik0 : (0 : Int) ≤ (i : Int) + 1 := by omega
                      clear hls hCX hCY hx32 hy32 hb hrx hry hLr hx hy
                      go_upto_region 8 with fail
                      refine wp_region_held_drew (S := fun w' => Fr (fun _ => False) wr w') (by kernel_rfl) (Fr.refl _ _).drew (fun hH => ?_)
                      refine tk 0 hH ?_
                      refine tk 1 hH ?_ (hy := by intro w hSw; (try dsimp only at hSw); have kk := HB.out w hSw; go_simp; try (with_reducible rfl))
                      refine tk 2 hH ?_
                      refine tk 3 hH ?_
                      refine tk 4 (v := .agg CX) hH ?_ (hy := fun w hSw => exec_load_h (.tmp 58) rfl gg (oo + i * 32) rfl x HX32.out CX HCX.out (HRX.out w hSw))
                      refine tk 5 hH ?_
                      refine tk 6 hH ?_ (hy := by intro w hSw; (try dsimp only at hSw); have kk := HB.out w hSw; go_simp; try (with_reducible rfl))
                      refine tk 7 hH ?_
                      refine tk 8 hH ?_
                      refine tk 9 hH ?_
                      refine tk 10 (v := .agg CY) hH ?_ (hy := fun w hSw => exec_load_h (.tmp 64) rfl gg (oo + (i + 1) * 32) rfl y HY32.out CY HCY.out (HRY.out w hSw))
                      refine rdo 11 (fun Kx hKx => ?_)
                      go_simp
                      have hcon := HLS.out wr.drew
                      with_reducible refine hcon.mono ?_
                      clear hcon
                      rintro e' wv ⟨rfl, hff⟩
                      have hfv : Fr (fun _ => False) wr wv := (Fr.refl _ _).drew.trans hff (fun _ _ h => h)
                      have HFV := Lib.hid hfv
                      refine hKx.out _ _ hfv (fun hH => ?_)
                      clear hKx Kx hff hfv
                      (try simp only [Act.put, List.setIfInBounds_toArray, List.set_cons_zero, List.set_cons_succ, List.getElem_toArray, List.getElem_cons_zero, List.getElem_cons_succ])
                      refine tk 12 hH ?_
                      refine wpAnyH_done (by kernel_rfl) ?_ _
                      cases b with
                      | true =>
                        go_wp2_with fail
                        exact ⟨⟨i + 1, by omega, rfl, Lib.hid (fun j hj hj2 => by
                          by_cases h : j < i
                          · exact HE.out j h hj2
                          · obtain rfl : j = i := by omega
                            exact HBL.out), Lib.hid (HFr.out.trans HFV.out (fun _ _ h => h))⟩, by show nd - ((i : Int) + 1).toNat < nd - (i : Int).toNat; omega⟩
                      | false =>
                        have HV : Hid (vr = false) := Lib.hid (by
                          cases vr with
                          | false => rfl
                          | true =>
                            have h := HI.out.1 rfl i (by have := HLN.out; omega)
                            rw [HBL.out] at h
                            cases h)
                        have hvt := HV.out
                        subst hvt
                        go_wp2_with fail
                        go_ret
                        exact ⟨rfl, ((HF1.out.trans HGc.out (fun _ _ h => h)).trans HFr.out (fun _ _ h => h)).trans HFV.out (fun _ _ h => h)⟩
                    · have t1 : decide (((i + 1 : Nat) : Int) < (nd : Int)) = false := decide_eq_false (by omega)
                      have t1' : decide ((i : Int) + 1 < (nd : Int)) = false := decide_eq_false (by omega)
                      have HV : Hid (vr = true) := Lib.hid (HI.out.2 (fun j hj => HE.out j (by have := HLN.out; omega) (by have := HLN.out; omega)))
                      have hvt := HV.out
                      subst hvt
                      go_wp2_with fail
                      go_ret
                      exact ⟨rfl, (HF1.out.trans HGc.out (fun _ _ h => h)).trans HFr.out (fun _ _ h => h)⟩
end Go.Proofs.Ytbnkahjmeobblaa
