/-
  Layer 11, the reference: Bytes (written by gen_bytes.py).
  Plain mathematics of layer 13: the reference's runs.
  Layer 19, the reference: a cell; a column of numbers, of steps, of texts, of truths.
  Layer 19, the reference's Put: one append onto a column (written by gen_one.py).
-/
import Derived.Test.YtedmnkcoflbciaaGreatRleZb
import Derived.Test.YtedmnkcoflbciaaGreatZm18
import Derived.Test.YtedmnkcoflbciaaGreatZm28
import Derived.Test.YtedmnkcoflbciaaGreatDelX
import Derived.Test.YtedmnkcoflbciaaGreatZm45
import Derived.Test.YtedmnkcoflbciaaGreatZm04
import Derived.Test.YtedmnkcoflbciaaGreatZm12
import Derived.Test.YtedmnkcoflbciaaGreatZm40
import Derived.Test.YtedmnkcoflbciaaGreatZm29
import Derived.Test.YtedmnkcoflbciaaGreatZm20
namespace Go.Proofs.YtedmnkcoflbciaaGreat
open Go.RowKit Mem Go.Lib RleM LebM
attribute [local go_sem ↓] Go.wp_at_zero Go.wp_at_succ
set_option linter.unusedVariables false

set_option maxRecDepth 1000000 in
set_option maxHeartbeats 3200000 in
theorem rBytes_any (A : Option Addr) (n c : Nat) (L : List (Bool × List UInt8)) (w : World) (hL : Cls sv w A n L) (hn : n ≤ 1000000) (hmay : ∀ (j : Nat) (d : Bool × List UInt8), L[j]? = some d → d.1 = false → d = (false, [])) (hlen : (tellG kR (gatherG L)).length ≤ 1000000000) :
    Calls Tryz.prog 27 #[.slice A n c] w (Gives w (tellW kR (gatherG L))) := by
  have HL := Lib.hid hL
  have HLL := Lib.hid hL.1
  have HMAY := Lib.hid hmay
  have HLEN := Lib.hid hlen
  obtain ⟨R, hR⟩ : ∃ R, R = tellW kR (gatherG L) := ⟨_, rfl⟩
  rw [← hR]
  have HR := Lib.hid hR
  obtain ⟨base, hbase⟩ : ∃ base, base = w.heap.size := ⟨_, rfl⟩
  have HBS := Lib.hid hbase
  have HB : Hid (base ≤ w.heap.size) := Lib.hid (by omega)
  clear hL hmay hlen hR hbase
  go_enter Tryz.func27, Tryz.ntmps27
  go_wp2_with fail
  go_loopw [3, 4] (fun b v wr => ∃ k : Nat, k ≤ n ∧ v = .int .i64 (k : Int) ∧ b = .bool ((L.take k).any (·.1)) ∧ Hid (Fr (fun _ => False) w wr)) (fun _ v _ => n - (intOf v).toNat)
  case atStart => exact ⟨0, Nat.zero_le _, rfl, by simp, Fr.refl _ _⟩
  case round =>
    obtain ⟨k, hk, rfl, rfl, HF⟩ := hrel
    rename World => wr
    by_cases hlt : k < n
    · obtain ⟨t, ht⟩ : ∃ t, L[k]? = some t := ⟨_, List.getElem?_eq_getElem (by have := HLL.out; omega)⟩
      obtain ⟨g, o, hA', hg, h1, h2⟩ := (HL.out.fr HF.out (fun _ _ => id)).2 k t ht
      subst hA'
      obtain ⟨i, x⟩ := t
      simp only [sv] at h1 h2
      have hnx : (L.take (k + 1)).any (·.1) = ((L.take k).any (·.1) || i) := by rw [List.take_add_one, ht]; simp
      obtain ⟨q, hq⟩ : ∃ q, q = (L.take k).any (·.1) := ⟨_, rfl⟩
      rw [← hq] at hnx ⊢
      have HNX := Lib.hid hnx
      clear ht h2 hnx hq
      cases q with
      | true =>
        go_wp2_with fail
        exact ⟨⟨k + 1, by omega, by go_num, by rw [HNX.out]; rfl, HF.out⟩, by simp [intOf]; omega⟩
      | false =>
        go_wp2_with fail
        exact ⟨⟨k + 1, by omega, by go_num, by rw [HNX.out]; rfl, HF.out⟩, by simp [intOf]; omega⟩
    · obtain rfl : k = n := by omega
      obtain ⟨q, hq⟩ : ∃ q, q = (L.take k).any (·.1) := ⟨_, rfl⟩
      rw [← hq]
      rw [List.take_of_length_le (by have := HLL.out; omega)] at hq
      cases q with
      | false =>
        have hall : ∀ c ∈ L, c = kR.zero := by
          intro c hc
          obtain ⟨j, hj⟩ := List.getElem?_of_mem hc
          refine HMAY.out j c hj ?_
          have h := List.any_eq_false.1 hq.symm c hc
          simpa using h
        have hx : R = [] := by rw [HR.out]; exact told_none hall
        have HX := Lib.hid hx
        clear hq hall hx
        go_wp2_with fail
        go_ret
        rw [HX.out]
        exact ⟨none, 0, rfl, Own.nil _ _, HF.out⟩
      | true =>
        obtain ⟨c0, hc0, hz0⟩ := List.any_eq_true.1 hq.symm
        have hx : R = tellG kR (gatherG L) := by rw [HR.out]; exact told_some hc0 (fun e => by rw [e] at hz0; exact absurd hz0 (by decide))
        have hA : ∀ ad, A = some ad → ad.block < base := by
          intro ad e
          obtain ⟨j, hj⟩ := List.getElem?_of_mem hc0
          obtain ⟨g, o, hA, hg, _⟩ := HL.out.2 j c0 hj
          rw [hA] at e
          injection e with e
          rw [← e, HBS.out]
          exact hg
        have HX := Lib.hid hx
        have HA := Lib.hid hA
        have HW := Lib.hid (wf_gather L)
        have HS := Lib.hid (spread_gather L).symm
        have HF' : Hid (Fr (fun b => base ≤ b) w wr) := Lib.hid (HF.out.mono (fun _ _ h => h.elim))
        clear hq hc0 hz0 hx hA
        go_wp2_with fail
        refine bl2 _ _ _ _ _ _ _ _ _ _ _ _ _ _ _ _ _ _ _ _ _ _ _ _ _ _ _ _ _ _ _ _ _ _ _ _ _ _ _ _ _ _ _ _ _ _ _ _ _ _ _ _ _ _ _ _ _ _ _ _ _ _ _ _ _ _ _ _ _ _ _ _ _ _ _ _ _ _ _ _ _ _ _ _ _ _ _ _ _ _ _ _ _ _ _ _ _ _ _ _ _ _ _ _ _ _ _ _ _ _ _ _ _ _ _ _ _ _ _ _ _ _ _ _ _ _ _ _ _ _ _ _ _ _ _ _ _ _ _ _ _ _ _ _ _ _ _ _ _ _ _ _ _ _ _ _ _ _ _ base A k c L (gatherG L) w wr HL HA hn HMAY HS HW HF' HB HLEN ?_
        intro A' c' R' w2 r7 r8 r25 r26 r27 r28 r29 r30 r31 r32 r33 r34 r35 r36 r37 r38 r39 r40 r41 r42 r43 r44 r45 r46 r47 r48 r49 r50 r51 r52 r53 r54 r55 r56 r57 r58 r59 r60 r61 r62 r63 r64 r65 r66 r67 r68 r69 r70 r71 r72 r73 r74 r75 r76 r77 r78 r79 r80 r81 r82 r83 r84 r85 r86 r87 r88 r89 r90 r91 r92 r93 r94 r95 r96 r97 r98 r99 r100 r101 r102 r103 r104 r105 r106 r107 r108 r109 r110 r111 r112 r113 r114 r115 r116 r117 r118 r119 r120 r121 r122 r123 r124 r125 r126 r127 r128 r129 r130 r131 r132 r133 r134 r135 r136 r137 r138 r139 r140 r141 r142 r143 r144 r145 r146 r147 r148 r149 r150 r151 r152 r153 r154 r155 r156 r157 r158 r159 HR' HO' HF2
        go_wp2_with fail
        go_ret
        rw [HX.out, ← HR'.out]
        exact ⟨A', c', rfl, by rw [← HBS.out]; exact HO'.out, HF2.out.mono (fun b hb h => by have := HBS.out; omega)⟩
end Go.Proofs.YtedmnkcoflbciaaGreat
namespace Go.Proofs.YtedmnkcoflbciaaGreat
open Go Go.RowKit LebM
namespace BooM
set_option linter.unusedVariables false

/-- so many runs are told: N; k truths are behind them; x comes next -/
structure RunB (L : List Bool) (N : List Nat) (k : Nat) (x : Bool) : Prop where
  spr : BooM.spr false N = L.take k
  le : k ≤ L.length
  odd : x = BooM.odd false N
  pos : ∀ n ∈ N.tail, n ≠ 0
  nxt : N ≠ [] → k < L.length → L[k]? = some x
theorem RunB.zero (L : List Bool) : RunB L [] 0 false := ⟨rfl, Nat.zero_le _, rfl, (fun n h => by simp at h), fun h => absurd rfl h⟩
theorem RunB.step {L : List Bool} {N : List Nat} {k n : Nat} {x : Bool} (h : RunB L N k x) (hk : k < L.length) (hn : ∀ j, j < n → L[k + j]? = some x) (hle : k + n ≤ L.length) (hend : k + n < L.length → L[k + n]? = some (!x)) : RunB L (N ++ [n]) (k + n) (!x) := by
  refine ⟨?_, hle, ?_, ?_, fun _ hlt => hend hlt⟩
  · rw [spr_snoc, h.spr, ← h.odd]
    apply List.ext_getElem?
    intro i
    by_cases h1 : i < k
    · rw [List.getElem?_append_left (by rw [List.length_take]; omega), List.getElem?_take_of_lt h1, List.getElem?_take_of_lt (by omega)]
    · have hl : (L.take k).length = k := by rw [List.length_take]; omega
      rw [List.getElem?_append_right (by omega), hl]
      by_cases h2 : i < k + n
      · rw [List.getElem?_replicate_of_lt (by omega), List.getElem?_take_of_lt h2]
        have := hn (i - k) (by omega)
        rw [show k + (i - k) = i by omega] at this
        exact this.symm
      · rw [List.getElem?_eq_none (by rw [List.length_replicate]; omega), List.getElem?_eq_none (by rw [List.length_take]; omega)]
  · rw [odd_snoc, h.odd]
  · intro m hm
    cases N with
    | nil => cases hm
    | cons a N =>
      rw [List.cons_append, List.tail_cons] at hm
      rcases List.mem_append.1 hm with hm | hm
      · exact h.pos m hm
      · rw [List.mem_singleton] at hm
        subst hm
        intro e
        subst e
        have h1 := h.nxt (by simp) hk
        have h2 := hend (by omega)
        rw [Nat.add_zero, h1] at h2
        injection h2 with h2
        cases x <;> cases h2
theorem RunB.some {L : List Bool} {N : List Nat} {k : Nat} {x : Bool} (h : RunB L N k x) : (decide (2 ≤ N.length) || x) = decide (2 ≤ N.length + 1) := by
  rw [h.odd, odd_is]
  by_cases h2 : 2 ≤ N.length
  · simp [h2]; omega
  · rcases (show N.length = 0 ∨ N.length = 1 by omega) with e | e <;> simp [e]
theorem RunB.putB {L : List Bool} {N : List Nat} {k : Nat} {x : Bool} (h : RunB L N k x) (hk : L.length ≤ k) : BooM.putB L = if 2 ≤ N.length then N.flatMap u else [] := by
  have hs : BooM.spr false N = L := by rw [h.spr, List.take_of_length_le hk]
  unfold BooM.putB
  cases N with
  | nil =>
    have : L = [] := by rw [← hs]; rfl
    subst this
    rfl
  | cons n l =>
    have hn : numsB L = n :: l := by rw [← hs]; exact nums_spr n l h.pos
    rw [hn]
    by_cases h2 : 2 ≤ (n :: l).length
    · rw [if_pos h2, if_neg (by omega)]
    · rw [if_neg h2, if_pos (by simp only [List.length_cons] at h2 ⊢; omega)]
end BooM
end Go.Proofs.YtedmnkcoflbciaaGreat
namespace Go.Proofs.YtedmnkcoflbciaaGreat
open Go.RowKit Mem Go.Lib LebM UtfM VaM OpM AcM RleM CsM
attribute [local go_sem ↓] Go.wp_at_zero Go.wp_at_succ
set_option linter.unusedVariables false

theorem cellSz19 : (Tryz.prog.info? 77).map (·.size) = some 2 := by kernel_rfl
set_option maxRecDepth 100000 in
theorem rcell_any (x : Int) (w : World) : Calls Tryz.prog 23 #[.int .i64 x] w fun e w' => e = .returned (.agg #[.bool true, .int .i64 x]) ∧ Fr (fun _ => False) w w' := by
  obtain ⟨w1, hw1⟩ : ∃ w1, w.alloc (.cells #[.bool false, .int .i64 0] 77) = w1 := ⟨_, rfl⟩
  obtain ⟨q, hq⟩ : ∃ q, w.heap.size = q := ⟨_, rfl⟩
  have hf1 : Fr (fun _ => False) w w1 := by rw [← hw1]; exact (Fr.refl _ _).alloc _
  have hqb : Row w1 q 77 [.bool false, .int .i64 0] := by rw [← hw1, ← hq]; exact Row.new w _ _
  have HF1 := Lib.hid hf1
  have HQB := Lib.hid hqb
  have HQ := Lib.hid hq
  clear hf1 hqb
  go_enter Tryz.func23, Tryz.ntmps23
  go_upto_region 1 with fail
  clear hw1 hq
  go_wp2_with (refine store_st cellSz19 rfl (.tmp 2) (.tmp 4) rfl q (by rfl) [.bool true, .int .i64 x] (by rfl) _ _ HQB.out rfl rfl (by simp [Value.oneCell']) ?_)
  intro w5 hr5 hf5
  have HF5 : Hid (Fr (fun _ => False) w w5) := Lib.hid (HF1.out.trans hf5 (fun b hb h => by have h1 := HQ.out; omega))
  have d0 : w5.cell? ⟨q, 0, none⟩ = some (.bool true) := hr5.cell rfl
  have d1 : w5.cell? ⟨q, 1, none⟩ = some (.int .i64 x) := hr5.cell rfl
  clear hr5 hf5
  go_wp2_with fail
  exact bodyPost_ret (v := .agg #[.bool true, .int .i64 x]) (by simp [results, Tryz.results23, go_sem, d0, d1]) rfl ⟨rfl, HF5.out⟩
/-- numbers without a sign as the reference has them -/
theorem refU_len {L : List C} {N : Nat} (h : ∀ x ∈ L, mayU x) (hl : L.length ≤ N) (hN : N ≤ 1000000) : (tellG kR (gatherG (L.map (refS false)))).length ≤ 1000000000 := by
  have h1 := (tell_le (K := kR) (L.map (refS false)) 10 N (by rw [List.length_map]; exact hl) hN (fun c hc => by
    obtain ⟨d, hd, rfl⟩ := List.mem_map.1 hc
    have hm := h d hd
    show (refS false d).2.length ≤ 10
    unfold refS
    split
    · exact Nat.zero_le _
    · rw [if_neg (by simp)]
      exact u_len10 (by have h2 := hm.2.1; have h3 := hm.2.2; omega))).1
  omega
theorem refS_len9 {L : List C} {N : Nat} (h : ∀ x ∈ L, mayS x) (hl : L.length ≤ N) (hN : N ≤ 1000000) : (tellG kR (gatherG (L.map (refS true)))).length ≤ 1000000000 := by
  have h1 := (tell_le (K := kR) (L.map (refS true)) 10 N (by rw [List.length_map]; exact hl) hN (fun c hc => by
    obtain ⟨d, hd, rfl⟩ := List.mem_map.1 hc
    have hm := h d hd
    show (refS true d).2.length ≤ 10
    unfold refS
    split
    · exact Nat.zero_le _
    · rw [if_pos rfl]
      exact s_len10 hm.2.1 hm.2.2)).1
  omega
theorem refS_none {s : Bool} {L : List C} : ∀ (j : Nat) (x : Bool × List UInt8), (L.map (refS s))[j]? = some x → x.1 = false → x = (false, []) := by
  intro j x hx h1
  obtain ⟨y, hy, rfl⟩ := List.mem_map.1 (List.mem_of_getElem? hx)
  have h' : y.1 = false := h1
  unfold refS
  rw [if_pos h', h']
theorem refW_none {L : List (Bool × List UInt8)} : ∀ (j : Nat) (x : Bool × List UInt8), (L.map refW)[j]? = some x → x.1 = false → x = (false, []) := by
  intro j x hx h1
  obtain ⟨y, hy, rfl⟩ := List.mem_map.1 (List.mem_of_getElem? hx)
  have h' : y.1 = false := h1
  unfold refW
  rw [if_pos h', h']
/-- Bytes of Numbers -/
theorem rnb_any (s : Bool) (A : Option Addr) (n c : Nat) (L : List C) (w : World) (P : List UInt8) (hL : Cls nv w A n L) (hn : n ≤ 1000000) (hr : ∀ x ∈ L, -9223372036854775808 ≤ x.2 ∧ x.2 < 9223372036854775808 ∧ (s = false → 0 ≤ x.2)) :
    Calls Tryz.prog 57 #[.slice A n c, .bool s] w fun e w' => ∃ A' c', e = .returned (.slice A' n c') ∧ Cls sv w' A' n (L.map (refS s)) ∧ Fr (fun _ => False) w w' := by
  have hln := hL.1
  refine (rNumbers_any A n c s L w hL hn (fun k t h => hr t (List.mem_of_getElem? h))).mono ?_
  rintro e w3 ⟨A3, c3, rfl, hO3, hf3⟩
  have h := hO3.cls
  rw [List.length_map, hln] at h ⊢
  exact ⟨A3, c3, rfl, h, hf3⟩
set_option maxRecDepth 100000 in
set_option maxHeartbeats 1600000 in
/-- a column of numbers without a sign -/
theorem rplain_any (A : Option Addr) (n c : Nat) (L : List C) (w : World) (hL : Cls nv w A n L) (hn : n ≤ 1000000) (hm : ∀ x ∈ L, mayU x) :
    Calls Tryz.prog 25 #[.slice A n c] w fun e w' => e = .returned (.string (txt (tU L))) ∧ Fr (fun _ => False) w w' := by
  have hln := hL.1
  have HN := Lib.hid (rnb_any false A n c L w [] hL hn (fun x hx => by have h1 := (hm x hx).2.1; have h2 := (hm x hx).2.2; exact ⟨by omega, h2, fun _ => h1⟩))
  have HY := Lib.hid (refS_none (s := false) (L := L))
  have HS := Lib.hid (refU_len hm (by rw [hln]; exact Nat.le_refl n) hn)
  have HQ : Hid (tellW kR (gatherG (L.map (refS false))) = tU L) := Lib.hid (ref_U hm)
  clear hL hm hln
  go_enter Tryz.func25, Tryz.ntmps25
  go_wp2_with fail
  refine HN.out.mono ?_
  rintro e w3 ⟨A3, c3, rfl, hC3, hf3⟩
  have HC3 := Lib.hid hC3
  have HF3 := Lib.hid hf3
  clear hC3 hf3
  go_wp2_with fail
  refine (rBytes_any A3 n c3 _ w3 HC3.out hn HY.out HS.out).mono ?_
  rintro e w4 ⟨A4, c4, rfl, hO4, hf4⟩
  rw [HQ.out] at hO4 ⊢
  have hst := hO4.str
  have HF4 := Lib.hid (HF3.out.trans hf4 (fun _ _ h => h))
  clear hO4 hf4
  go_wp2_with fail
  go_ret
  exact ⟨rfl, HF4.out⟩
set_option maxRecDepth 100000 in
set_option maxHeartbeats 1600000 in
/-- a column of steps -/
theorem rsteps_any (A : Option Addr) (n c : Nat) (L : List C) (w : World) (hL : Cls nv w A n L) (hn : n ≤ 1000000) (hm : ∀ x ∈ L, mayS x) :
    Calls Tryz.prog 26 #[.slice A n c] w (Gives w (tD L)) := by
  have hln := hL.1
  have hst := rSteps_any A n c L w hL hn (fun x hx => (hm x hx).2)
  have hdl0 : (stepsF 0 L).length = n := by rw [steps_len, hln]
  have hmd0 := steps_may 0 L hm
  unfold tD
  obtain ⟨D, hD⟩ : ∃ D, D = stepsF 0 L := ⟨_, rfl⟩
  rw [← hD] at hst hdl0 hmd0 ⊢
  rw [hdl0] at hst
  obtain ⟨P, hP⟩ : ∃ P, P = tellW kS (gatherG D) := ⟨_, rfl⟩
  have HQ : Hid (tellW kR (gatherG (D.map (refS true))) = P) := Lib.hid (by rw [hP]; exact ref_S hmd0)
  have HR : Hid (∀ x ∈ D, -9223372036854775808 ≤ x.2 ∧ x.2 < 9223372036854775808 ∧ (true = false → 0 ≤ x.2)) := Lib.hid (fun x hx => by have h1 := (hmd0 x hx).2; exact ⟨h1.1, h1.2, fun e => by cases e⟩)
  have HY := Lib.hid (refS_none (s := true) (L := D))
  have HS := Lib.hid (refS_len9 hmd0 (by rw [hdl0]; exact Nat.le_refl n) hn)
  have HST := Lib.hid hst
  have HDL := Lib.hid hdl0
  rw [← hP]
  clear hst hdl0 hmd0 hD hP hL hm hln
  go_enter Tryz.func26, Tryz.ntmps26
  go_wp2_with fail
  refine HST.out.mono ?_
  rintro e w2 ⟨A2, c2, rfl, hO2, hf2⟩
  have HC2 : Hid (Cls nv w2 A2 n D) := Lib.hid (by have h := hO2.cls; rw [HDL.out] at h; exact h)
  have HF2 := Lib.hid hf2
  clear hO2 hf2
  go_wp2_with fail
  refine (rnb_any true A2 n c2 D w2 [] HC2.out hn HR.out).mono ?_
  rintro e w3 ⟨A3, c3, rfl, hC3, hf3⟩
  have HC3 := Lib.hid hC3
  have HF3 := Lib.hid (HF2.out.trans hf3 (fun _ _ h => h))
  clear hC3 hf3
  go_wp2_with fail
  refine (rBytes_any A3 n c3 _ w3 HC3.out hn HY.out HS.out).mono ?_
  rintro e w4 ⟨A4, c4, rfl, hO4, hf4⟩
  rw [HQ.out] at hO4 ⊢
  have HO4 := Lib.hid (hO4.base HF3.out.size)
  have HF4 := Lib.hid (HF3.out.trans hf4 (fun _ _ h => h))
  clear hO4 hf4
  go_wp2_with fail
  go_ret
  exact ⟨A4, c4, rfl, HO4.out, HF4.out⟩
end Go.Proofs.YtedmnkcoflbciaaGreat
namespace Go.Proofs.YtedmnkcoflbciaaGreat
open Go.RowKit Mem Go.Lib LebM UtfM VaM OpM AcM RleM CsM
attribute [local go_sem ↓] Go.wp_at_zero Go.wp_at_succ
set_option linter.unusedVariables false

set_option maxRecDepth 1000000 in
noncomputable def rput24Code : Code := ((Tryz.f12.body.bind (regionAt 24)).getD .skip)
set_option maxRecDepth 1000000 in
set_option maxHeartbeats 12800000 in
theorem rput24_any (Q0 : Exit → Act → World → Prop) (s1 s2 s3 s4 s6 s7 s8 s9 s11 s12 s13 s14 s15 s17 s18 s19 s20 s21 s22 s23 s24 s25 s26 s27 s28 s29 s30 s31 s32 s33 s34 s35 s36 s37 s38 s39 s40 s41 s42 s43 s44 s45 s46 s47 s48 s49 s50 s51 s52 s53 s54 s55 s56 s57 s58 s59 s60 s61 s62 s63 s64 s65 s66 s67 s68 s69 s70 s71 s72 s73 s74 s75 s76 s77 s78 s79 s80 s81 s82 s83 s84 s85 s86 s87 s88 s89 s90 s91 s92 s93 s94 s95 s96 s97 s98 s99 s100 s101 s102 s103 s104 s105 s106 s107 s108 s109 s110 s111 s112 s113 s114 s115 s116 s117 s118 s119 s120 s121 s122 s123 s124 s125 s126 s127 s128 s129 s130 s131 s132 s133 s134 s135 s136 s137 s138 s139 s140 s141 s142 s143 s144 s145 s146 s147 s148 s149 s150 s151 s152 s153 s154 s155 s156 s157 s158 s159 s160 s161 s162 s163 s164 s165 s166 s167 s168 s169 s170 s171 s172 s173 s174 s175 s176 s177 s178 s179 s180 s181 s182 s183 s184 s185 s186 s187 s188 s189 s190 s191 s192 s193 s194 s195 s196 s197 s198 s199 s200 s201 s202 s203 s204 s205 s206 s207 s208 s209 s210 s211 s212 s213 s214 s215 s216 s217 s218 s219 s220 s221 s222 s223 s224 s225 s226 s227 s228 s229 s230 s231 s232 s233 s234 s235 s236 s237 s238 s239 s240 s241 s242 s243 s244 s245 : Value) (wc : World) (base g n : Nat) (D : Nat → Prop) (V : List Value) (R : List Rw) (q gp op np cP nT cT j : Nat) (AT : Option Addr) (sa : ByteArray) (z : Int) (X : List Value) (A : Option Addr) (c : Nat)
    (hS0 : Hid (ShL 75 wc base g D V R)) (hV : Hid (V[10]? = some (.slice A n c))) (hR : Hid (R[10]? = some ⟨⟨77, 2, n, X⟩, A, c⟩)) (hn : n ≤ 1000000) (hb : Hid (base ≤ wc.heap.size))
    (HC : Hid (∀ w', Fr (fun k => base ≤ k ∧ ¬ D k) wc w' → w'.cell? ⟨q, 12, none⟩ = some (.slice (some ⟨gp, op, none⟩) np cP) ∧ w'.cell? ⟨gp, op + j * 2 + 1, none⟩ = some (.string sa))) (hj : j < np)
    (HX : Hid (∀ w', Fr (fun _ => False) wc w' → Calls Tryz.prog 13 #[.slice AT nT cT, .string sa] w' (fun e w2 => e = .returned (.int .i64 z) ∧ w' = w2)))
    (hexit : ∀ (A' : Option Addr) (c' : Nat) (w'' : World) (r123 r124 r125 r126 r127 r128 r129 r130 r131 r132 r133 r134 r135 r136 : Value), Hid (ShL 75 w'' base g D (V.set 10 (.slice A' (n + 1) c')) (R.set 10 ⟨⟨77, 2, n + 1, X ++ [Value.bool true, Value.int IntKind.i64 z]⟩, A', c'⟩)) → Hid (Fr (fun k => base ≤ k ∧ ¬ D k) wc w'') → Q0 .normal ⟨List.toArray (.slice AT nT cT :: s1 :: s2 :: s3 :: s4 :: .pointer (some ⟨g, 0, none⟩) :: s6 :: s7 :: s8 :: s9 :: .pointer (some ⟨q, 0, none⟩) :: s11 :: s12 :: s13 :: s14 :: s15 :: .int .i64 (j : Int) :: s17 :: s18 :: s19 :: s20 :: s21 :: s22 :: s23 :: s24 :: s25 :: s26 :: s27 :: s28 :: s29 :: s30 :: s31 :: s32 :: s33 :: s34 :: s35 :: s36 :: s37 :: s38 :: s39 :: s40 :: s41 :: s42 :: s43 :: s44 :: s45 :: s46 :: s47 :: s48 :: s49 :: s50 :: s51 :: s52 :: s53 :: s54 :: s55 :: s56 :: s57 :: s58 :: s59 :: s60 :: s61 :: s62 :: s63 :: s64 :: s65 :: s66 :: s67 :: s68 :: s69 :: s70 :: s71 :: s72 :: s73 :: s74 :: s75 :: s76 :: s77 :: s78 :: s79 :: s80 :: s81 :: s82 :: s83 :: s84 :: s85 :: s86 :: s87 :: s88 :: s89 :: s90 :: s91 :: s92 :: s93 :: s94 :: s95 :: s96 :: s97 :: s98 :: s99 :: s100 :: s101 :: s102 :: s103 :: s104 :: s105 :: s106 :: s107 :: s108 :: s109 :: s110 :: s111 :: s112 :: s113 :: s114 :: s115 :: s116 :: s117 :: s118 :: s119 :: s120 :: s121 :: s122 :: r123 :: r124 :: r125 :: r126 :: r127 :: r128 :: r129 :: r130 :: r131 :: r132 :: r133 :: r134 :: r135 :: r136 :: s137 :: s138 :: s139 :: s140 :: s141 :: s142 :: s143 :: s144 :: s145 :: s146 :: s147 :: s148 :: s149 :: s150 :: s151 :: s152 :: s153 :: s154 :: s155 :: s156 :: s157 :: s158 :: s159 :: s160 :: s161 :: s162 :: s163 :: s164 :: s165 :: s166 :: s167 :: s168 :: s169 :: s170 :: s171 :: s172 :: s173 :: s174 :: s175 :: s176 :: s177 :: s178 :: s179 :: s180 :: s181 :: s182 :: s183 :: s184 :: s185 :: s186 :: s187 :: s188 :: s189 :: s190 :: s191 :: s192 :: s193 :: s194 :: s195 :: s196 :: s197 :: s198 :: s199 :: s200 :: s201 :: s202 :: s203 :: s204 :: s205 :: s206 :: s207 :: s208 :: s209 :: s210 :: s211 :: s212 :: s213 :: s214 :: s215 :: s216 :: s217 :: s218 :: s219 :: s220 :: s221 :: s222 :: s223 :: s224 :: s225 :: s226 :: s227 :: s228 :: s229 :: s230 :: s231 :: s232 :: s233 :: s234 :: s235 :: s236 :: s237 :: s238 :: s239 :: s240 :: s241 :: s242 :: s243 :: s244 :: s245 :: []), []⟩ w'') :
    Code.wp Tryz.prog rput24Code Q0 ⟨List.toArray (.slice AT nT cT :: s1 :: s2 :: s3 :: s4 :: .pointer (some ⟨g, 0, none⟩) :: s6 :: s7 :: s8 :: s9 :: .pointer (some ⟨q, 0, none⟩) :: s11 :: s12 :: s13 :: s14 :: s15 :: .int .i64 (j : Int) :: s17 :: s18 :: s19 :: s20 :: s21 :: s22 :: s23 :: s24 :: s25 :: s26 :: s27 :: s28 :: s29 :: s30 :: s31 :: s32 :: s33 :: s34 :: s35 :: s36 :: s37 :: s38 :: s39 :: s40 :: s41 :: s42 :: s43 :: s44 :: s45 :: s46 :: s47 :: s48 :: s49 :: s50 :: s51 :: s52 :: s53 :: s54 :: s55 :: s56 :: s57 :: s58 :: s59 :: s60 :: s61 :: s62 :: s63 :: s64 :: s65 :: s66 :: s67 :: s68 :: s69 :: s70 :: s71 :: s72 :: s73 :: s74 :: s75 :: s76 :: s77 :: s78 :: s79 :: s80 :: s81 :: s82 :: s83 :: s84 :: s85 :: s86 :: s87 :: s88 :: s89 :: s90 :: s91 :: s92 :: s93 :: s94 :: s95 :: s96 :: s97 :: s98 :: s99 :: s100 :: s101 :: s102 :: s103 :: s104 :: s105 :: s106 :: s107 :: s108 :: s109 :: s110 :: s111 :: s112 :: s113 :: s114 :: s115 :: s116 :: s117 :: s118 :: s119 :: s120 :: s121 :: s122 :: s123 :: s124 :: s125 :: s126 :: s127 :: s128 :: s129 :: s130 :: s131 :: s132 :: s133 :: s134 :: s135 :: s136 :: s137 :: s138 :: s139 :: s140 :: s141 :: s142 :: s143 :: s144 :: s145 :: s146 :: s147 :: s148 :: s149 :: s150 :: s151 :: s152 :: s153 :: s154 :: s155 :: s156 :: s157 :: s158 :: s159 :: s160 :: s161 :: s162 :: s163 :: s164 :: s165 :: s166 :: s167 :: s168 :: s169 :: s170 :: s171 :: s172 :: s173 :: s174 :: s175 :: s176 :: s177 :: s178 :: s179 :: s180 :: s181 :: s182 :: s183 :: s184 :: s185 :: s186 :: s187 :: s188 :: s189 :: s190 :: s191 :: s192 :: s193 :: s194 :: s195 :: s196 :: s197 :: s198 :: s199 :: s200 :: s201 :: s202 :: s203 :: s204 :: s205 :: s206 :: s207 :: s208 :: s209 :: s210 :: s211 :: s212 :: s213 :: s214 :: s215 :: s216 :: s217 :: s218 :: s219 :: s220 :: s221 :: s222 :: s223 :: s224 :: s225 :: s226 :: s227 :: s228 :: s229 :: s230 :: s231 :: s232 :: s233 :: s234 :: s235 :: s236 :: s237 :: s238 :: s239 :: s240 :: s241 :: s242 :: s243 :: s244 :: s245 :: []), []⟩ wc := by
  conv => arg 2; whnf
  have HIX : Hid (∀ w', Fr (fun _ => False) wc w' → Calls Tryz.prog 13 #[.slice AT nT cT, .string sa] w' (fun e w2 => e = .returned (.int .i64 z) ∧ Fr (fun _ => False) w' w2)) := Lib.hid (fun w' hf => (HX.out w' hf).mono (fun e w2 h => ⟨h.1, by rw [← h.2]; exact Fr.refl _ _⟩))
  have hmem := List.mem_of_getElem? hR.out
  have HMEM := Lib.hid hmem
  clear hmem
  have hSS : ∀ w2, Fr (fun _ => False) wc w2 → w2.cell? ⟨g, 10, none⟩ = some (.slice A n c) ∧ w2.cell? ⟨q, 12, none⟩ = some (.slice (some ⟨gp, op, none⟩) np cP) ∧ w2.cell? ⟨gp, op + j * 2 + 1, none⟩ = some (.string sa) := fun w2 hf => ⟨(hS0.out.fr0 hf).row.cell hV.out, HC.out w2 (hf.mono (fun _ _ h => h.elim))⟩
  have HSS := Lib.hid hSS
  have hdr : Fr (fun _ => False) wc wc.drew := (Fr.refl _ _).drew
  have HF0 := Lib.hid hdr
  refine wp_region_noPanic ?_
  refine wp_region_head 13 (fun w' => w'.cell? ⟨g, 10, none⟩ = some (.slice A n c) ∧ w'.cell? ⟨q, 12, none⟩ = some (.slice (some ⟨gp, op, none⟩) np cP) ∧ w'.cell? ⟨gp, op + j * 2 + 1, none⟩ = some (.string sa)) (hSS _ hdr) (fun hH => ?_)
  refine tk 0 hH ?_
  refine tk 1 hH ?_
  refine tk 2 hH ?_
  refine tk 3 hH ?_
  refine tk 4 hH ?_
  refine tk 5 hH ?_
  refine tk 6 hH ?_
  refine tk 7 hH ?_
  refine tk 8 hH ?_
  clear hH hSS hdr
  refine rd1 9 (fun K hK => ?_)
  go_simp
  refine (HIX.out _ HF0.out).mono ?_
  rintro e w1 ⟨rfl, hf⟩
  have HF1 := Lib.hid (HF0.out.trans hf (fun _ _ h => h))
  clear hf
  refine hK.out _ _ (HSS.out _ HF1.out) ?_
  clear hK K
  refine rd1 10 (fun K hK => ?_)
  go_simp
  refine (rcell_any z _).mono ?_
  rintro e w2 ⟨rfl, hf⟩
  have HF2 := Lib.hid (HF1.out.trans hf (fun _ _ h => h))
  clear hf
  refine hK.out _ _ (HSS.out _ HF2.out) ?_
  clear hK K
  refine rd1 11 (fun K hK => ?_)
  go_simp
  obtain ⟨kb, hkb⟩ : ∃ k, w2.heap.size = k := ⟨_, rfl⟩
  obtain ⟨wb, hwb⟩ : ∃ v, w2.alloc (.cells #[Value.bool true, Value.int IntKind.i64 z] 77) = v := ⟨_, rfl⟩
  rw [hkb, hwb]
  have hfb : Fr (fun _ => False) w2 wb := by rw [← hwb]; exact (Fr.refl _ _).alloc _
  have hrb : Row wb kb 77 [Value.bool true, Value.int IntKind.i64 z] := by rw [← hwb, ← hkb]; exact Row.new w2 _ _
  have HFB := Lib.hid (HF2.out.trans hfb (fun _ _ h => h))
  have HRB := Lib.hid hrb
  clear hkb hwb hfb hrb
  refine hK.out _ _ (HSS.out _ HFB.out) ?_
  clear hK K
  have hw : base ≤ wb.heap.size := by have h1 := hb.out; have h2 := HFB.out.size; omega
  have hsb := hS0.out.fr0 HFB.out
  have how := hsb.all _ HMEM.out
  unfold Rw.own Rw.v at how
  simp only at how
  refine rd1 12 (fun K hK => ?_)
  refine step_appS cellTC wb rfl (.tmp 124) (.tmp 134) rfl base (.slice A n c) n X rfl how ⟨kb, 0, none⟩ 1 [Value.bool true, Value.int IntKind.i64 z] rfl rfl (fun j u h => by rw [Mem.addr_add]; exact HRB.out.cell h) (two_one _ _) (n + 1) rfl (by unfold maxLen; omega) (by omega) hw ?_
  intro A' c' w2 hown2 hle hf2 hat
  have hs2 := hsb.turn (i := 10) (r := ⟨⟨77, 2, n, X⟩, A, c⟩) (q := ⟨⟨77, 2, n + 1, X ++ [Value.bool true, Value.int IntKind.i64 z]⟩, A', c'⟩) hR.out hf2 hown2 hat
  have hfw : Fr (fun k => base ≤ k ∧ ¬ D k) wc w2 := (HFB.out.mono (fun _ _ h => h.elim)).trans hf2 (fun j hj h => ⟨(how.lt j h).1, fun hd => (hsb.far j hd).2 _ HMEM.out h⟩)
  have HFX := Lib.hid hfw
  have hSw : w2.cell? ⟨g, 10, none⟩ = some (.slice A n c) ∧ w2.cell? ⟨q, 12, none⟩ = some (.slice (some ⟨gp, op, none⟩) np cP) ∧ w2.cell? ⟨gp, op + j * 2 + 1, none⟩ = some (.string sa) := ⟨hs2.row.cell hV.out, HC.out w2 hfw⟩
  refine hK.out _ _ hSw ?_
  refine hdone ?_
  clear hSw hK K HSS HF0 HF1 HF2
  obtain ⟨w3, hw3⟩ : ∃ v, w2.setCell ⟨g, 10, none⟩ (.slice A' (n + 1) c') = v := ⟨_, rfl⟩
  have hs3 := hs2.store 10 (.slice A' (n + 1) c')
  rw [hw3] at hs3
  have hg : base ≤ g ∧ ¬ D g := ⟨hs2.base, fun hd => (hs2.far g hd).1 rfl⟩
  have hf3 : Fr (fun k => base ≤ k ∧ ¬ D k) wc w3 := hfw.trans (by rw [← hw3]; exact Fr.set1 _ _ _ _) (fun k _ h => by rw [h]; exact hg)
  have HS3 := Lib.hid hs3
  have HF3 := Lib.hid hf3
  have t0 : w2.cell? ⟨g, 10, none⟩ = some (.slice A n c) := hs2.row.cell hV.out
  have f0 := hs2.row.free 10
  clear hs2 hs3 hf3 hfw hf2 hown2 hle hat how hsb hg hS0 hV hR HC HFB HRB HMEM
  go_wp2_with fail
  refine NoPanic.normal ?_
  exact hexit _ _ _ _ _ _ _ _ _ _ _ _ _ _ _ _ _ HS3 HF3
set_option maxRecDepth 1000000 in
noncomputable def rput25Code : Code := ((Tryz.f12.body.bind (regionAt 25)).getD .skip)
set_option maxRecDepth 1000000 in
set_option maxHeartbeats 12800000 in
theorem rput25_any (Q0 : Exit → Act → World → Prop) (s0 s1 s2 s3 s4 s6 s7 s8 s9 s11 s12 s13 s14 s15 s17 s18 s19 s20 s21 s22 s23 s24 s25 s26 s27 s28 s29 s30 s31 s32 s33 s34 s35 s36 s37 s38 s39 s40 s41 s42 s43 s44 s45 s46 s47 s48 s49 s50 s51 s52 s53 s54 s55 s56 s57 s58 s59 s60 s61 s62 s63 s64 s65 s66 s67 s68 s69 s70 s71 s72 s73 s74 s75 s76 s77 s78 s79 s80 s81 s82 s83 s84 s85 s86 s87 s88 s89 s90 s91 s92 s93 s94 s95 s96 s97 s98 s99 s100 s101 s102 s103 s104 s105 s106 s107 s108 s109 s110 s111 s112 s113 s114 s115 s116 s117 s118 s119 s120 s121 s122 s123 s124 s125 s126 s127 s128 s129 s130 s131 s132 s133 s134 s135 s136 s137 s138 s139 s140 s141 s142 s143 s144 s145 s146 s147 s148 s149 s150 s151 s152 s153 s154 s155 s156 s157 s158 s159 s160 s161 s162 s163 s164 s165 s166 s167 s168 s169 s170 s171 s172 s173 s174 s175 s176 s177 s178 s179 s180 s181 s182 s183 s184 s185 s186 s187 s188 s189 s190 s191 s192 s193 s194 s195 s196 s197 s198 s199 s200 s201 s202 s203 s204 s205 s206 s207 s208 s209 s210 s211 s212 s213 s214 s215 s216 s217 s218 s219 s220 s221 s222 s223 s224 s225 s226 s227 s228 s229 s230 s231 s232 s233 s234 s235 s236 s237 s238 s239 s240 s241 s242 s243 s244 s245 : Value) (wc : World) (base g n : Nat) (D : Nat → Prop) (V : List Value) (R : List Rw) (q gp op np cP j : Nat) (z : Int) (X : List Value) (A : Option Addr) (c : Nat)
    (hS0 : Hid (ShL 75 wc base g D V R)) (hV : Hid (V[11]? = some (.slice A n c))) (hR : Hid (R[11]? = some ⟨⟨77, 2, n, X⟩, A, c⟩)) (hn : n ≤ 1000000) (hb : Hid (base ≤ wc.heap.size))
    (HC : Hid (∀ w', Fr (fun k => base ≤ k ∧ ¬ D k) wc w' → w'.cell? ⟨q, 12, none⟩ = some (.slice (some ⟨gp, op, none⟩) np cP) ∧ w'.cell? ⟨gp, op + j * 2, none⟩ = some (.int .i64 z))) (hj : j < np)
    (hexit : ∀ (A' : Option Addr) (c' : Nat) (w'' : World) (r137 r138 r139 r140 r141 r142 r143 r144 r145 r146 r147 r148 : Value), Hid (ShL 75 w'' base g D (V.set 11 (.slice A' (n + 1) c')) (R.set 11 ⟨⟨77, 2, n + 1, X ++ [Value.bool true, Value.int IntKind.i64 z]⟩, A', c'⟩)) → Hid (Fr (fun k => base ≤ k ∧ ¬ D k) wc w'') → Q0 .normal ⟨List.toArray (s0 :: s1 :: s2 :: s3 :: s4 :: .pointer (some ⟨g, 0, none⟩) :: s6 :: s7 :: s8 :: s9 :: .pointer (some ⟨q, 0, none⟩) :: s11 :: s12 :: s13 :: s14 :: s15 :: .int .i64 (j : Int) :: s17 :: s18 :: s19 :: s20 :: s21 :: s22 :: s23 :: s24 :: s25 :: s26 :: s27 :: s28 :: s29 :: s30 :: s31 :: s32 :: s33 :: s34 :: s35 :: s36 :: s37 :: s38 :: s39 :: s40 :: s41 :: s42 :: s43 :: s44 :: s45 :: s46 :: s47 :: s48 :: s49 :: s50 :: s51 :: s52 :: s53 :: s54 :: s55 :: s56 :: s57 :: s58 :: s59 :: s60 :: s61 :: s62 :: s63 :: s64 :: s65 :: s66 :: s67 :: s68 :: s69 :: s70 :: s71 :: s72 :: s73 :: s74 :: s75 :: s76 :: s77 :: s78 :: s79 :: s80 :: s81 :: s82 :: s83 :: s84 :: s85 :: s86 :: s87 :: s88 :: s89 :: s90 :: s91 :: s92 :: s93 :: s94 :: s95 :: s96 :: s97 :: s98 :: s99 :: s100 :: s101 :: s102 :: s103 :: s104 :: s105 :: s106 :: s107 :: s108 :: s109 :: s110 :: s111 :: s112 :: s113 :: s114 :: s115 :: s116 :: s117 :: s118 :: s119 :: s120 :: s121 :: s122 :: s123 :: s124 :: s125 :: s126 :: s127 :: s128 :: s129 :: s130 :: s131 :: s132 :: s133 :: s134 :: s135 :: s136 :: r137 :: r138 :: r139 :: r140 :: r141 :: r142 :: r143 :: r144 :: r145 :: r146 :: r147 :: r148 :: s149 :: s150 :: s151 :: s152 :: s153 :: s154 :: s155 :: s156 :: s157 :: s158 :: s159 :: s160 :: s161 :: s162 :: s163 :: s164 :: s165 :: s166 :: s167 :: s168 :: s169 :: s170 :: s171 :: s172 :: s173 :: s174 :: s175 :: s176 :: s177 :: s178 :: s179 :: s180 :: s181 :: s182 :: s183 :: s184 :: s185 :: s186 :: s187 :: s188 :: s189 :: s190 :: s191 :: s192 :: s193 :: s194 :: s195 :: s196 :: s197 :: s198 :: s199 :: s200 :: s201 :: s202 :: s203 :: s204 :: s205 :: s206 :: s207 :: s208 :: s209 :: s210 :: s211 :: s212 :: s213 :: s214 :: s215 :: s216 :: s217 :: s218 :: s219 :: s220 :: s221 :: s222 :: s223 :: s224 :: s225 :: s226 :: s227 :: s228 :: s229 :: s230 :: s231 :: s232 :: s233 :: s234 :: s235 :: s236 :: s237 :: s238 :: s239 :: s240 :: s241 :: s242 :: s243 :: s244 :: s245 :: []), []⟩ w'') :
    Code.wp Tryz.prog rput25Code Q0 ⟨List.toArray (s0 :: s1 :: s2 :: s3 :: s4 :: .pointer (some ⟨g, 0, none⟩) :: s6 :: s7 :: s8 :: s9 :: .pointer (some ⟨q, 0, none⟩) :: s11 :: s12 :: s13 :: s14 :: s15 :: .int .i64 (j : Int) :: s17 :: s18 :: s19 :: s20 :: s21 :: s22 :: s23 :: s24 :: s25 :: s26 :: s27 :: s28 :: s29 :: s30 :: s31 :: s32 :: s33 :: s34 :: s35 :: s36 :: s37 :: s38 :: s39 :: s40 :: s41 :: s42 :: s43 :: s44 :: s45 :: s46 :: s47 :: s48 :: s49 :: s50 :: s51 :: s52 :: s53 :: s54 :: s55 :: s56 :: s57 :: s58 :: s59 :: s60 :: s61 :: s62 :: s63 :: s64 :: s65 :: s66 :: s67 :: s68 :: s69 :: s70 :: s71 :: s72 :: s73 :: s74 :: s75 :: s76 :: s77 :: s78 :: s79 :: s80 :: s81 :: s82 :: s83 :: s84 :: s85 :: s86 :: s87 :: s88 :: s89 :: s90 :: s91 :: s92 :: s93 :: s94 :: s95 :: s96 :: s97 :: s98 :: s99 :: s100 :: s101 :: s102 :: s103 :: s104 :: s105 :: s106 :: s107 :: s108 :: s109 :: s110 :: s111 :: s112 :: s113 :: s114 :: s115 :: s116 :: s117 :: s118 :: s119 :: s120 :: s121 :: s122 :: s123 :: s124 :: s125 :: s126 :: s127 :: s128 :: s129 :: s130 :: s131 :: s132 :: s133 :: s134 :: s135 :: s136 :: s137 :: s138 :: s139 :: s140 :: s141 :: s142 :: s143 :: s144 :: s145 :: s146 :: s147 :: s148 :: s149 :: s150 :: s151 :: s152 :: s153 :: s154 :: s155 :: s156 :: s157 :: s158 :: s159 :: s160 :: s161 :: s162 :: s163 :: s164 :: s165 :: s166 :: s167 :: s168 :: s169 :: s170 :: s171 :: s172 :: s173 :: s174 :: s175 :: s176 :: s177 :: s178 :: s179 :: s180 :: s181 :: s182 :: s183 :: s184 :: s185 :: s186 :: s187 :: s188 :: s189 :: s190 :: s191 :: s192 :: s193 :: s194 :: s195 :: s196 :: s197 :: s198 :: s199 :: s200 :: s201 :: s202 :: s203 :: s204 :: s205 :: s206 :: s207 :: s208 :: s209 :: s210 :: s211 :: s212 :: s213 :: s214 :: s215 :: s216 :: s217 :: s218 :: s219 :: s220 :: s221 :: s222 :: s223 :: s224 :: s225 :: s226 :: s227 :: s228 :: s229 :: s230 :: s231 :: s232 :: s233 :: s234 :: s235 :: s236 :: s237 :: s238 :: s239 :: s240 :: s241 :: s242 :: s243 :: s244 :: s245 :: []), []⟩ wc := by
  conv => arg 2; whnf
  have hmem := List.mem_of_getElem? hR.out
  have HMEM := Lib.hid hmem
  clear hmem
  have hSS : ∀ w2, Fr (fun _ => False) wc w2 → w2.cell? ⟨g, 11, none⟩ = some (.slice A n c) ∧ w2.cell? ⟨q, 12, none⟩ = some (.slice (some ⟨gp, op, none⟩) np cP) ∧ w2.cell? ⟨gp, op + j * 2, none⟩ = some (.int .i64 z) := fun w2 hf => ⟨(hS0.out.fr0 hf).row.cell hV.out, HC.out w2 (hf.mono (fun _ _ h => h.elim))⟩
  have HSS := Lib.hid hSS
  have hdr : Fr (fun _ => False) wc wc.drew := (Fr.refl _ _).drew
  have HF0 := Lib.hid hdr
  refine wp_region_noPanic ?_
  refine wp_region_head 11 (fun w' => w'.cell? ⟨g, 11, none⟩ = some (.slice A n c) ∧ w'.cell? ⟨q, 12, none⟩ = some (.slice (some ⟨gp, op, none⟩) np cP) ∧ w'.cell? ⟨gp, op + j * 2, none⟩ = some (.int .i64 z)) (hSS _ hdr) (fun hH => ?_)
  refine tk 0 hH ?_
  refine tk 1 hH ?_
  refine tk 2 hH ?_
  refine tk 3 hH ?_
  refine tk 4 hH ?_
  refine tk 5 hH ?_
  refine tk 6 hH ?_
  refine tk 7 hH ?_
  clear hH hSS hdr
  refine rd1 8 (fun K hK => ?_)
  go_simp
  refine (rcell_any z _).mono ?_
  rintro e w1 ⟨rfl, hf⟩
  have HF1 := Lib.hid (HF0.out.trans hf (fun _ _ h => h))
  clear hf
  refine hK.out _ _ (HSS.out _ HF1.out) ?_
  clear hK K
  refine rd1 9 (fun K hK => ?_)
  go_simp
  obtain ⟨kb, hkb⟩ : ∃ k, w1.heap.size = k := ⟨_, rfl⟩
  obtain ⟨wb, hwb⟩ : ∃ v, w1.alloc (.cells #[Value.bool true, Value.int IntKind.i64 z] 77) = v := ⟨_, rfl⟩
  rw [hkb, hwb]
  have hfb : Fr (fun _ => False) w1 wb := by rw [← hwb]; exact (Fr.refl _ _).alloc _
  have hrb : Row wb kb 77 [Value.bool true, Value.int IntKind.i64 z] := by rw [← hwb, ← hkb]; exact Row.new w1 _ _
  have HFB := Lib.hid (HF1.out.trans hfb (fun _ _ h => h))
  have HRB := Lib.hid hrb
  clear hkb hwb hfb hrb
  refine hK.out _ _ (HSS.out _ HFB.out) ?_
  clear hK K
  have hw : base ≤ wb.heap.size := by have h1 := hb.out; have h2 := HFB.out.size; omega
  have hsb := hS0.out.fr0 HFB.out
  have how := hsb.all _ HMEM.out
  unfold Rw.own Rw.v at how
  simp only at how
  refine rd1 10 (fun K hK => ?_)
  refine step_appS cellTC wb rfl (.tmp 138) (.tmp 146) rfl base (.slice A n c) n X rfl how ⟨kb, 0, none⟩ 1 [Value.bool true, Value.int IntKind.i64 z] rfl rfl (fun j u h => by rw [Mem.addr_add]; exact HRB.out.cell h) (two_one _ _) (n + 1) rfl (by unfold maxLen; omega) (by omega) hw ?_
  intro A' c' w2 hown2 hle hf2 hat
  have hs2 := hsb.turn (i := 11) (r := ⟨⟨77, 2, n, X⟩, A, c⟩) (q := ⟨⟨77, 2, n + 1, X ++ [Value.bool true, Value.int IntKind.i64 z]⟩, A', c'⟩) hR.out hf2 hown2 hat
  have hfw : Fr (fun k => base ≤ k ∧ ¬ D k) wc w2 := (HFB.out.mono (fun _ _ h => h.elim)).trans hf2 (fun j hj h => ⟨(how.lt j h).1, fun hd => (hsb.far j hd).2 _ HMEM.out h⟩)
  have HFX := Lib.hid hfw
  have hSw : w2.cell? ⟨g, 11, none⟩ = some (.slice A n c) ∧ w2.cell? ⟨q, 12, none⟩ = some (.slice (some ⟨gp, op, none⟩) np cP) ∧ w2.cell? ⟨gp, op + j * 2, none⟩ = some (.int .i64 z) := ⟨hs2.row.cell hV.out, HC.out w2 hfw⟩
  refine hK.out _ _ hSw ?_
  refine hdone ?_
  clear hSw hK K HSS HF0 HF1
  obtain ⟨w3, hw3⟩ : ∃ v, w2.setCell ⟨g, 11, none⟩ (.slice A' (n + 1) c') = v := ⟨_, rfl⟩
  have hs3 := hs2.store 11 (.slice A' (n + 1) c')
  rw [hw3] at hs3
  have hg : base ≤ g ∧ ¬ D g := ⟨hs2.base, fun hd => (hs2.far g hd).1 rfl⟩
  have hf3 : Fr (fun k => base ≤ k ∧ ¬ D k) wc w3 := hfw.trans (by rw [← hw3]; exact Fr.set1 _ _ _ _) (fun k _ h => by rw [h]; exact hg)
  have HS3 := Lib.hid hs3
  have HF3 := Lib.hid hf3
  have t0 : w2.cell? ⟨g, 11, none⟩ = some (.slice A n c) := hs2.row.cell hV.out
  have f0 := hs2.row.free 11
  clear hs2 hs3 hf3 hfw hf2 hown2 hle hat how hsb hg hS0 hV hR HC HFB HRB HMEM
  go_wp2_with fail
  refine NoPanic.normal ?_
  exact hexit _ _ _ _ _ _ _ _ _ _ _ _ _ _ _ HS3 HF3
set_option maxRecDepth 1000000 in
noncomputable def rput19Code : Code := ((Tryz.f12.body.bind (regionAt 19)).getD .skip)
set_option maxRecDepth 1000000 in
set_option maxHeartbeats 12800000 in
theorem rput19_any (Q0 : Exit → Act → World → Prop) (s0 s1 s2 s3 s4 s6 s7 s8 s9 s11 s12 s13 s14 s15 s16 s17 s18 s19 s20 s21 s22 s23 s24 s25 s26 s27 s28 s29 s30 s31 s32 s33 s34 s35 s36 s37 s38 s39 s40 s41 s42 s43 s44 s45 s46 s47 s48 s49 s50 s51 s52 s53 s54 s55 s56 s57 s58 s59 s60 s61 s62 s63 s64 s65 s66 s67 s68 s69 s70 s71 s72 s73 s74 s75 s76 s77 s78 s79 s80 s81 s82 s83 s84 s85 s86 s87 s88 s89 s90 s91 s92 s93 s94 s95 s96 s97 s98 s99 s100 s101 s102 s103 s104 s105 s106 s107 s108 s109 s110 s111 s112 s113 s114 s115 s116 s117 s118 s119 s120 s121 s122 s123 s124 s125 s126 s127 s128 s129 s130 s131 s132 s133 s134 s135 s136 s137 s138 s139 s140 s141 s142 s143 s144 s145 s146 s147 s148 s149 s150 s151 s152 s153 s154 s155 s156 s157 s158 s159 s160 s161 s162 s163 s164 s165 s166 s167 s168 s169 s170 s171 s172 s173 s174 s175 s176 s177 s178 s179 s180 s181 s182 s183 s184 s185 s186 s187 s188 s189 s190 s191 s192 s193 s194 s195 s196 s197 s198 s199 s200 s201 s202 s203 s204 s205 s206 s207 s208 s209 s210 s211 s212 s213 s214 s215 s216 s217 s218 s219 s220 s221 s222 s223 s224 s225 s226 s227 s228 s229 s230 s231 s232 s233 s234 s235 s236 s237 s238 s239 s240 s241 s242 s243 s244 s245 : Value) (wc : World) (base g n : Nat) (D : Nat → Prop) (V : List Value) (R : List Rw) (q : Nat) (z : Int) (X : List Value) (A : Option Addr) (c : Nat)
    (hS0 : Hid (ShL 75 wc base g D V R)) (hV : Hid (V[6]? = some (.slice A n c))) (hR : Hid (R[6]? = some ⟨⟨77, 2, n, X⟩, A, c⟩)) (hn : n ≤ 1000000) (hb : Hid (base ≤ wc.heap.size))
    (HC : Hid (∀ w', Fr (fun k => base ≤ k ∧ ¬ D k) wc w' → w'.cell? ⟨q, 7, none⟩ = some (.int .i64 z)))
    (hexit : ∀ (A' : Option Addr) (c' : Nat) (w'' : World) (r102 r103 r104 r105 r106 r107 r108 r109 : Value), Hid (ShL 75 w'' base g D (V.set 6 (.slice A' (n + 1) c')) (R.set 6 ⟨⟨77, 2, n + 1, X ++ [Value.bool true, Value.int IntKind.i64 z]⟩, A', c'⟩)) → Hid (Fr (fun k => base ≤ k ∧ ¬ D k) wc w'') → Q0 .normal ⟨List.toArray (s0 :: s1 :: s2 :: s3 :: s4 :: .pointer (some ⟨g, 0, none⟩) :: s6 :: s7 :: s8 :: s9 :: .pointer (some ⟨q, 0, none⟩) :: s11 :: s12 :: s13 :: s14 :: s15 :: s16 :: s17 :: s18 :: s19 :: s20 :: s21 :: s22 :: s23 :: s24 :: s25 :: s26 :: s27 :: s28 :: s29 :: s30 :: s31 :: s32 :: s33 :: s34 :: s35 :: s36 :: s37 :: s38 :: s39 :: s40 :: s41 :: s42 :: s43 :: s44 :: s45 :: s46 :: s47 :: s48 :: s49 :: s50 :: s51 :: s52 :: s53 :: s54 :: s55 :: s56 :: s57 :: s58 :: s59 :: s60 :: s61 :: s62 :: s63 :: s64 :: s65 :: s66 :: s67 :: s68 :: s69 :: s70 :: s71 :: s72 :: s73 :: s74 :: s75 :: s76 :: s77 :: s78 :: s79 :: s80 :: s81 :: s82 :: s83 :: s84 :: s85 :: s86 :: s87 :: s88 :: s89 :: s90 :: s91 :: s92 :: s93 :: s94 :: s95 :: s96 :: s97 :: s98 :: s99 :: s100 :: s101 :: r102 :: r103 :: r104 :: r105 :: r106 :: r107 :: r108 :: r109 :: s110 :: s111 :: s112 :: s113 :: s114 :: s115 :: s116 :: s117 :: s118 :: s119 :: s120 :: s121 :: s122 :: s123 :: s124 :: s125 :: s126 :: s127 :: s128 :: s129 :: s130 :: s131 :: s132 :: s133 :: s134 :: s135 :: s136 :: s137 :: s138 :: s139 :: s140 :: s141 :: s142 :: s143 :: s144 :: s145 :: s146 :: s147 :: s148 :: s149 :: s150 :: s151 :: s152 :: s153 :: s154 :: s155 :: s156 :: s157 :: s158 :: s159 :: s160 :: s161 :: s162 :: s163 :: s164 :: s165 :: s166 :: s167 :: s168 :: s169 :: s170 :: s171 :: s172 :: s173 :: s174 :: s175 :: s176 :: s177 :: s178 :: s179 :: s180 :: s181 :: s182 :: s183 :: s184 :: s185 :: s186 :: s187 :: s188 :: s189 :: s190 :: s191 :: s192 :: s193 :: s194 :: s195 :: s196 :: s197 :: s198 :: s199 :: s200 :: s201 :: s202 :: s203 :: s204 :: s205 :: s206 :: s207 :: s208 :: s209 :: s210 :: s211 :: s212 :: s213 :: s214 :: s215 :: s216 :: s217 :: s218 :: s219 :: s220 :: s221 :: s222 :: s223 :: s224 :: s225 :: s226 :: s227 :: s228 :: s229 :: s230 :: s231 :: s232 :: s233 :: s234 :: s235 :: s236 :: s237 :: s238 :: s239 :: s240 :: s241 :: s242 :: s243 :: s244 :: s245 :: []), []⟩ w'') :
    Code.wp Tryz.prog rput19Code Q0 ⟨List.toArray (s0 :: s1 :: s2 :: s3 :: s4 :: .pointer (some ⟨g, 0, none⟩) :: s6 :: s7 :: s8 :: s9 :: .pointer (some ⟨q, 0, none⟩) :: s11 :: s12 :: s13 :: s14 :: s15 :: s16 :: s17 :: s18 :: s19 :: s20 :: s21 :: s22 :: s23 :: s24 :: s25 :: s26 :: s27 :: s28 :: s29 :: s30 :: s31 :: s32 :: s33 :: s34 :: s35 :: s36 :: s37 :: s38 :: s39 :: s40 :: s41 :: s42 :: s43 :: s44 :: s45 :: s46 :: s47 :: s48 :: s49 :: s50 :: s51 :: s52 :: s53 :: s54 :: s55 :: s56 :: s57 :: s58 :: s59 :: s60 :: s61 :: s62 :: s63 :: s64 :: s65 :: s66 :: s67 :: s68 :: s69 :: s70 :: s71 :: s72 :: s73 :: s74 :: s75 :: s76 :: s77 :: s78 :: s79 :: s80 :: s81 :: s82 :: s83 :: s84 :: s85 :: s86 :: s87 :: s88 :: s89 :: s90 :: s91 :: s92 :: s93 :: s94 :: s95 :: s96 :: s97 :: s98 :: s99 :: s100 :: s101 :: s102 :: s103 :: s104 :: s105 :: s106 :: s107 :: s108 :: s109 :: s110 :: s111 :: s112 :: s113 :: s114 :: s115 :: s116 :: s117 :: s118 :: s119 :: s120 :: s121 :: s122 :: s123 :: s124 :: s125 :: s126 :: s127 :: s128 :: s129 :: s130 :: s131 :: s132 :: s133 :: s134 :: s135 :: s136 :: s137 :: s138 :: s139 :: s140 :: s141 :: s142 :: s143 :: s144 :: s145 :: s146 :: s147 :: s148 :: s149 :: s150 :: s151 :: s152 :: s153 :: s154 :: s155 :: s156 :: s157 :: s158 :: s159 :: s160 :: s161 :: s162 :: s163 :: s164 :: s165 :: s166 :: s167 :: s168 :: s169 :: s170 :: s171 :: s172 :: s173 :: s174 :: s175 :: s176 :: s177 :: s178 :: s179 :: s180 :: s181 :: s182 :: s183 :: s184 :: s185 :: s186 :: s187 :: s188 :: s189 :: s190 :: s191 :: s192 :: s193 :: s194 :: s195 :: s196 :: s197 :: s198 :: s199 :: s200 :: s201 :: s202 :: s203 :: s204 :: s205 :: s206 :: s207 :: s208 :: s209 :: s210 :: s211 :: s212 :: s213 :: s214 :: s215 :: s216 :: s217 :: s218 :: s219 :: s220 :: s221 :: s222 :: s223 :: s224 :: s225 :: s226 :: s227 :: s228 :: s229 :: s230 :: s231 :: s232 :: s233 :: s234 :: s235 :: s236 :: s237 :: s238 :: s239 :: s240 :: s241 :: s242 :: s243 :: s244 :: s245 :: []), []⟩ wc := by
  conv => arg 2; whnf
  have hmem := List.mem_of_getElem? hR.out
  have HMEM := Lib.hid hmem
  clear hmem
  have hSS : ∀ w2, Fr (fun _ => False) wc w2 → w2.cell? ⟨g, 6, none⟩ = some (.slice A n c) ∧ w2.cell? ⟨q, 7, none⟩ = some (.int .i64 z) := fun w2 hf => ⟨(hS0.out.fr0 hf).row.cell hV.out, HC.out w2 (hf.mono (fun _ _ h => h.elim))⟩
  have HSS := Lib.hid hSS
  have hdr : Fr (fun _ => False) wc wc.drew := (Fr.refl _ _).drew
  have HF0 := Lib.hid hdr
  refine wp_region_noPanic ?_
  refine wp_region_head 7 (fun w' => w'.cell? ⟨g, 6, none⟩ = some (.slice A n c) ∧ w'.cell? ⟨q, 7, none⟩ = some (.int .i64 z)) (hSS _ hdr) (fun hH => ?_)
  refine tk 0 hH ?_
  refine tk 1 hH ?_
  refine tk 2 hH ?_
  refine tk 3 hH ?_
  clear hH hSS hdr
  refine rd1 4 (fun K hK => ?_)
  go_simp
  refine (rcell_any z _).mono ?_
  rintro e w1 ⟨rfl, hf⟩
  have HF1 := Lib.hid (HF0.out.trans hf (fun _ _ h => h))
  clear hf
  refine hK.out _ _ (HSS.out _ HF1.out) ?_
  clear hK K
  refine rd1 5 (fun K hK => ?_)
  go_simp
  obtain ⟨kb, hkb⟩ : ∃ k, w1.heap.size = k := ⟨_, rfl⟩
  obtain ⟨wb, hwb⟩ : ∃ v, w1.alloc (.cells #[Value.bool true, Value.int IntKind.i64 z] 77) = v := ⟨_, rfl⟩
  rw [hkb, hwb]
  have hfb : Fr (fun _ => False) w1 wb := by rw [← hwb]; exact (Fr.refl _ _).alloc _
  have hrb : Row wb kb 77 [Value.bool true, Value.int IntKind.i64 z] := by rw [← hwb, ← hkb]; exact Row.new w1 _ _
  have HFB := Lib.hid (HF1.out.trans hfb (fun _ _ h => h))
  have HRB := Lib.hid hrb
  clear hkb hwb hfb hrb
  refine hK.out _ _ (HSS.out _ HFB.out) ?_
  clear hK K
  have hw : base ≤ wb.heap.size := by have h1 := hb.out; have h2 := HFB.out.size; omega
  have hsb := hS0.out.fr0 HFB.out
  have how := hsb.all _ HMEM.out
  unfold Rw.own Rw.v at how
  simp only at how
  refine rd1 6 (fun K hK => ?_)
  refine step_appS cellTC wb rfl (.tmp 103) (.tmp 107) rfl base (.slice A n c) n X rfl how ⟨kb, 0, none⟩ 1 [Value.bool true, Value.int IntKind.i64 z] rfl rfl (fun j u h => by rw [Mem.addr_add]; exact HRB.out.cell h) (two_one _ _) (n + 1) rfl (by unfold maxLen; omega) (by omega) hw ?_
  intro A' c' w2 hown2 hle hf2 hat
  have hs2 := hsb.turn (i := 6) (r := ⟨⟨77, 2, n, X⟩, A, c⟩) (q := ⟨⟨77, 2, n + 1, X ++ [Value.bool true, Value.int IntKind.i64 z]⟩, A', c'⟩) hR.out hf2 hown2 hat
  have hfw : Fr (fun k => base ≤ k ∧ ¬ D k) wc w2 := (HFB.out.mono (fun _ _ h => h.elim)).trans hf2 (fun j hj h => ⟨(how.lt j h).1, fun hd => (hsb.far j hd).2 _ HMEM.out h⟩)
  have HFX := Lib.hid hfw
  have hSw : w2.cell? ⟨g, 6, none⟩ = some (.slice A n c) ∧ w2.cell? ⟨q, 7, none⟩ = some (.int .i64 z) := ⟨hs2.row.cell hV.out, HC.out w2 hfw⟩
  refine hK.out _ _ hSw ?_
  refine hdone ?_
  clear hSw hK K HSS HF0 HF1
  obtain ⟨w3, hw3⟩ : ∃ v, w2.setCell ⟨g, 6, none⟩ (.slice A' (n + 1) c') = v := ⟨_, rfl⟩
  have hs3 := hs2.store 6 (.slice A' (n + 1) c')
  rw [hw3] at hs3
  have hg : base ≤ g ∧ ¬ D g := ⟨hs2.base, fun hd => (hs2.far g hd).1 rfl⟩
  have hf3 : Fr (fun k => base ≤ k ∧ ¬ D k) wc w3 := hfw.trans (by rw [← hw3]; exact Fr.set1 _ _ _ _) (fun k _ h => by rw [h]; exact hg)
  have HS3 := Lib.hid hs3
  have HF3 := Lib.hid hf3
  have t0 : w2.cell? ⟨g, 6, none⟩ = some (.slice A n c) := hs2.row.cell hV.out
  have f0 := hs2.row.free 6
  clear hs2 hs3 hf3 hfw hf2 hown2 hle hat how hsb hg hS0 hV hR HC HFB HRB HMEM
  go_wp2_with fail
  refine NoPanic.normal ?_
  exact hexit _ _ _ _ _ _ _ _ _ _ _ HS3 HF3
set_option maxRecDepth 1000000 in
noncomputable def rput20Code : Code := ((Tryz.f12.body.bind (regionAt 20)).getD .skip)
set_option maxRecDepth 1000000 in
set_option maxHeartbeats 12800000 in
theorem rput20_any (Q0 : Exit → Act → World → Prop) (s0 s1 s2 s3 s4 s6 s7 s8 s9 s10 s11 s12 s13 s14 s16 s17 s18 s19 s20 s21 s22 s23 s24 s25 s26 s27 s28 s29 s30 s31 s32 s33 s34 s35 s36 s37 s38 s39 s40 s41 s42 s43 s44 s45 s46 s47 s48 s49 s50 s51 s52 s53 s54 s55 s56 s57 s58 s59 s60 s61 s62 s63 s64 s65 s66 s67 s68 s69 s70 s71 s72 s73 s74 s75 s76 s77 s78 s79 s80 s81 s82 s83 s84 s85 s86 s87 s88 s89 s90 s91 s92 s93 s94 s95 s96 s97 s98 s99 s100 s101 s102 s103 s104 s105 s106 s107 s108 s109 s110 s111 s112 s113 s114 s115 s116 s117 s118 s119 s120 s121 s122 s123 s124 s125 s126 s127 s128 s129 s130 s131 s132 s133 s134 s135 s136 s137 s138 s139 s140 s141 s142 s143 s144 s145 s146 s147 s148 s149 s150 s151 s152 s153 s154 s155 s156 s157 s158 s159 s160 s161 s162 s163 s164 s165 s166 s167 s168 s169 s170 s171 s172 s173 s174 s175 s176 s177 s178 s179 s180 s181 s182 s183 s184 s185 s186 s187 s188 s189 s190 s191 s192 s193 s194 s195 s196 s197 s198 s199 s200 s201 s202 s203 s204 s205 s206 s207 s208 s209 s210 s211 s212 s213 s214 s215 s216 s217 s218 s219 s220 s221 s222 s223 s224 s225 s226 s227 s228 s229 s230 s231 s232 s233 s234 s235 s236 s237 s238 s239 s240 s241 s242 s243 s244 s245 : Value) (wc : World) (base g n : Nat) (D : Nat → Prop) (V : List Value) (R : List Rw) (q : Nat) (i : Bool) (z : Int) (X : List Value) (A : Option Addr) (c : Nat)
    (hS0 : Hid (ShL 75 wc base g D V R)) (hV : Hid (V[9]? = some (.slice A n c))) (hR : Hid (R[9]? = some ⟨⟨77, 2, n, X⟩, A, c⟩)) (hn : n ≤ 1000000) (hb : Hid (base ≤ wc.heap.size))
    (HC : Hid (∀ w', Fr (fun k => base ≤ k ∧ ¬ D k) wc w' → w'.cell? ⟨q, 0, none⟩ = some (.bool i) ∧ w'.cell? ⟨q, 1, none⟩ = some (.int .i64 z)))
    (hexit : ∀ (A' : Option Addr) (c' : Nat) (w'' : World) (r110 r111 r112 r113 r114 r115 : Value), Hid (ShL 75 w'' base g D (V.set 9 (.slice A' (n + 1) c')) (R.set 9 ⟨⟨77, 2, n + 1, X ++ [Value.bool i, Value.int IntKind.i64 z]⟩, A', c'⟩)) → Hid (Fr (fun k => base ≤ k ∧ ¬ D k) wc w'') → Q0 .normal ⟨List.toArray (s0 :: s1 :: s2 :: s3 :: s4 :: .pointer (some ⟨g, 0, none⟩) :: s6 :: s7 :: s8 :: s9 :: s10 :: s11 :: s12 :: s13 :: s14 :: .pointer (some ⟨q, 0, none⟩) :: s16 :: s17 :: s18 :: s19 :: s20 :: s21 :: s22 :: s23 :: s24 :: s25 :: s26 :: s27 :: s28 :: s29 :: s30 :: s31 :: s32 :: s33 :: s34 :: s35 :: s36 :: s37 :: s38 :: s39 :: s40 :: s41 :: s42 :: s43 :: s44 :: s45 :: s46 :: s47 :: s48 :: s49 :: s50 :: s51 :: s52 :: s53 :: s54 :: s55 :: s56 :: s57 :: s58 :: s59 :: s60 :: s61 :: s62 :: s63 :: s64 :: s65 :: s66 :: s67 :: s68 :: s69 :: s70 :: s71 :: s72 :: s73 :: s74 :: s75 :: s76 :: s77 :: s78 :: s79 :: s80 :: s81 :: s82 :: s83 :: s84 :: s85 :: s86 :: s87 :: s88 :: s89 :: s90 :: s91 :: s92 :: s93 :: s94 :: s95 :: s96 :: s97 :: s98 :: s99 :: s100 :: s101 :: s102 :: s103 :: s104 :: s105 :: s106 :: s107 :: s108 :: s109 :: r110 :: r111 :: r112 :: r113 :: r114 :: r115 :: s116 :: s117 :: s118 :: s119 :: s120 :: s121 :: s122 :: s123 :: s124 :: s125 :: s126 :: s127 :: s128 :: s129 :: s130 :: s131 :: s132 :: s133 :: s134 :: s135 :: s136 :: s137 :: s138 :: s139 :: s140 :: s141 :: s142 :: s143 :: s144 :: s145 :: s146 :: s147 :: s148 :: s149 :: s150 :: s151 :: s152 :: s153 :: s154 :: s155 :: s156 :: s157 :: s158 :: s159 :: s160 :: s161 :: s162 :: s163 :: s164 :: s165 :: s166 :: s167 :: s168 :: s169 :: s170 :: s171 :: s172 :: s173 :: s174 :: s175 :: s176 :: s177 :: s178 :: s179 :: s180 :: s181 :: s182 :: s183 :: s184 :: s185 :: s186 :: s187 :: s188 :: s189 :: s190 :: s191 :: s192 :: s193 :: s194 :: s195 :: s196 :: s197 :: s198 :: s199 :: s200 :: s201 :: s202 :: s203 :: s204 :: s205 :: s206 :: s207 :: s208 :: s209 :: s210 :: s211 :: s212 :: s213 :: s214 :: s215 :: s216 :: s217 :: s218 :: s219 :: s220 :: s221 :: s222 :: s223 :: s224 :: s225 :: s226 :: s227 :: s228 :: s229 :: s230 :: s231 :: s232 :: s233 :: s234 :: s235 :: s236 :: s237 :: s238 :: s239 :: s240 :: s241 :: s242 :: s243 :: s244 :: s245 :: []), []⟩ w'') :
    Code.wp Tryz.prog rput20Code Q0 ⟨List.toArray (s0 :: s1 :: s2 :: s3 :: s4 :: .pointer (some ⟨g, 0, none⟩) :: s6 :: s7 :: s8 :: s9 :: s10 :: s11 :: s12 :: s13 :: s14 :: .pointer (some ⟨q, 0, none⟩) :: s16 :: s17 :: s18 :: s19 :: s20 :: s21 :: s22 :: s23 :: s24 :: s25 :: s26 :: s27 :: s28 :: s29 :: s30 :: s31 :: s32 :: s33 :: s34 :: s35 :: s36 :: s37 :: s38 :: s39 :: s40 :: s41 :: s42 :: s43 :: s44 :: s45 :: s46 :: s47 :: s48 :: s49 :: s50 :: s51 :: s52 :: s53 :: s54 :: s55 :: s56 :: s57 :: s58 :: s59 :: s60 :: s61 :: s62 :: s63 :: s64 :: s65 :: s66 :: s67 :: s68 :: s69 :: s70 :: s71 :: s72 :: s73 :: s74 :: s75 :: s76 :: s77 :: s78 :: s79 :: s80 :: s81 :: s82 :: s83 :: s84 :: s85 :: s86 :: s87 :: s88 :: s89 :: s90 :: s91 :: s92 :: s93 :: s94 :: s95 :: s96 :: s97 :: s98 :: s99 :: s100 :: s101 :: s102 :: s103 :: s104 :: s105 :: s106 :: s107 :: s108 :: s109 :: s110 :: s111 :: s112 :: s113 :: s114 :: s115 :: s116 :: s117 :: s118 :: s119 :: s120 :: s121 :: s122 :: s123 :: s124 :: s125 :: s126 :: s127 :: s128 :: s129 :: s130 :: s131 :: s132 :: s133 :: s134 :: s135 :: s136 :: s137 :: s138 :: s139 :: s140 :: s141 :: s142 :: s143 :: s144 :: s145 :: s146 :: s147 :: s148 :: s149 :: s150 :: s151 :: s152 :: s153 :: s154 :: s155 :: s156 :: s157 :: s158 :: s159 :: s160 :: s161 :: s162 :: s163 :: s164 :: s165 :: s166 :: s167 :: s168 :: s169 :: s170 :: s171 :: s172 :: s173 :: s174 :: s175 :: s176 :: s177 :: s178 :: s179 :: s180 :: s181 :: s182 :: s183 :: s184 :: s185 :: s186 :: s187 :: s188 :: s189 :: s190 :: s191 :: s192 :: s193 :: s194 :: s195 :: s196 :: s197 :: s198 :: s199 :: s200 :: s201 :: s202 :: s203 :: s204 :: s205 :: s206 :: s207 :: s208 :: s209 :: s210 :: s211 :: s212 :: s213 :: s214 :: s215 :: s216 :: s217 :: s218 :: s219 :: s220 :: s221 :: s222 :: s223 :: s224 :: s225 :: s226 :: s227 :: s228 :: s229 :: s230 :: s231 :: s232 :: s233 :: s234 :: s235 :: s236 :: s237 :: s238 :: s239 :: s240 :: s241 :: s242 :: s243 :: s244 :: s245 :: []), []⟩ wc := by
  conv => arg 2; whnf
  have hmem := List.mem_of_getElem? hR.out
  have HMEM := Lib.hid hmem
  clear hmem
  refine wp_region_lit ?_
  have d0 : wc.cell? ⟨g, 9, none⟩ = some (.slice A n c) := hS0.out.row.cell hV.out
  obtain ⟨d1, d2⟩ := HC.out wc (Fr.refl _ _)
  have HC2 := HC
  obtain ⟨kb, hkb⟩ : ∃ k, wc.heap.size = k := ⟨_, rfl⟩
  obtain ⟨wb, hwb⟩ : ∃ v, wc.alloc (.cells #[Value.bool i, Value.int IntKind.i64 z] 77) = v := ⟨_, rfl⟩
  have hfb : Fr (fun _ => False) wc wb := by rw [← hwb]; exact (Fr.refl _ _).alloc _
  have hrb : Row wb kb 77 [Value.bool i, Value.int IntKind.i64 z] := by rw [← hwb, ← hkb]; exact Row.new wc _ _
  have HFB := Lib.hid hfb
  have HRB := Lib.hid hrb
  clear hfb hrb
  have hw : base ≤ wb.heap.size := by have h1 := hb.out; have h2 := HFB.out.size; omega
  have hsb := hS0.out.fr0 HFB.out
  have how := hsb.all _ HMEM.out
  unfold Rw.own Rw.v at how
  simp only at how
  have HOW := Lib.hid how
  clear how
  go_wp2_with (at_builtin; refine wpList_appM cellTC wb rfl (.tmp 111) (.tmp 113) rfl base (.slice A n c) n X rfl HOW.out ⟨kb, 0, none⟩ 1 1 [Value.bool i, Value.int IntKind.i64 z] rfl rfl (fun j u h => by rw [Mem.addr_add]; exact HRB.out.cell h) (two_one _ _) (n + 1) rfl (by unfold maxLen; omega) (by omega) hw ?_)
  intro A' c' w2 hown2 hle hf2 hat
  have hs2 := hsb.turn (i := 9) (r := ⟨⟨77, 2, n, X⟩, A, c⟩) (q := ⟨⟨77, 2, n + 1, X ++ [Value.bool i, Value.int IntKind.i64 z]⟩, A', c'⟩) hR.out hf2 hown2 hat
  have hfw : Fr (fun k => base ≤ k ∧ ¬ D k) wc w2 := (HFB.out.mono (fun _ _ h => h.elim)).trans hf2 (fun j hj h => ⟨(HOW.out.lt j h).1, fun hd => (hsb.far j hd).2 _ HMEM.out h⟩)
  obtain ⟨w3, hw3⟩ : ∃ v, w2.setCell ⟨g, 9, none⟩ (.slice A' (n + 1) c') = v := ⟨_, rfl⟩
  have hs3 := hs2.store 9 (.slice A' (n + 1) c')
  rw [hw3] at hs3
  have hg : base ≤ g ∧ ¬ D g := ⟨hs2.base, fun hd => (hs2.far g hd).1 rfl⟩
  have hf3 : Fr (fun k => base ≤ k ∧ ¬ D k) wc w3 := hfw.trans (by rw [← hw3]; exact Fr.set1 _ _ _ _) (fun k _ h => by rw [h]; exact hg)
  have HS3 := Lib.hid hs3
  have HF3 := Lib.hid hf3
  have t0 : w2.cell? ⟨g, 9, none⟩ = some (.slice A n c) := hs2.row.cell hV.out
  have f0 := hs2.row.free 9
  clear hs2 hs3 hf3 hfw hf2 hown2 hle hat hsb hw hkb hwb hg hS0 hV hR HC HFB HRB HMEM
  go_wp2_with fail
  exact hexit _ _ _ _ _ _ _ _ _ HS3 HF3
end Go.Proofs.YtedmnkcoflbciaaGreat
