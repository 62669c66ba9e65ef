import Derived.Test.YtbabgnadgdidmaaGreatZm00
import Derived.Test.YtbabgnadgdidmaaGreatZm11
import Derived.Test.YtbabgnadgdidmaaGreatZm03
set_option maxRecDepth 100000
set_option maxHeartbeats 12800000
namespace Go.Proofs.YtbabgnadgdidmaaGreat
section
open Go.RowKit Mem Go.Lib LebM UtfM VaM OpM
attribute [local go_sem ↓] Go.wp_at_zero Go.wp_at_succ
set_option linter.unusedVariables false
def fewB (L : List Om) : Bool := L.all fun x => fewO x.o
theorem rfew_any (A : Option Addr) (n c : Nat) (L : List Om) (m : Nat) (w : World) (hL : Ops w A n L) (hn : n ≤ 9223372036854775807) (hm : m ≤ 1000) (hok : ∀ x ∈ L, x.o.obj.a.length ≤ 9223372036854775807 ∧ x.o.elem.a.length ≤ 9223372036854775807 ∧ x.o.key.length ≤ 9223372036854775807 ∧ x.o.val.s.length ≤ 9223372036854775807 ∧ x.o.pr.length ≤ 9223372036854775807 ∧ ∀ y ∈ x.o.pr, y.a.length ≤ 9223372036854775807) :
    Calls Tryz.prog 8 #[.slice A n c, .int .i64 (m : Int)] w fun e w' => e = .returned (.bool (decide (n ≤ m) && fewB L)) ∧ w = w' := by
 have hln := hL.len;by_cases hnm : m < n
 · have t1 : decide ((m : Int) < (n : Int)) = true := decide_eq_true (by omega);have t1' : decide (m < n) = true := decide_eq_true (by omega);rw [decide_eq_false (show ¬ n ≤ m by omega), Bool.false_and];clear hL hln hok;go_enter Tryz.func8, Tryz.ntmps8;go_wp2_with fail;go_ret;exact ⟨rfl, rfl⟩
 · have t1 : decide ((m : Int) < (n : Int)) = false := decide_eq_false (by omega);have t1' : decide (m < n) = false := decide_eq_false (by omega);rw [decide_eq_true (show n ≤ m by omega), Bool.true_and];obtain ⟨r, hr⟩ := nm_ (fewB L);rw [hr];have HR := hid hr;have HL := hid hL;have HLN := hid hln;have HOK := hid hok;have hn1 : n ≤ 1000 := by omega
   have HN1 := hid hn1;clear hL hln hok hr hn hnm;go_enter Tryz.func8, Tryz.ntmps8;go_wp2_with fail
   go_loop [5] (fun i => ∃ k : Nat, k ≤ n ∧ i = .int .i64 (k : Int) ∧ Hid (fewB (L.take k) = true)) (fun i => n - (intOf i).toNat)
   case atStart => exact ⟨0, Nat.zero_le _, rfl, (rfl : fewB (L.take 0) = true)⟩
   case round =>
    obtain ⟨k, hk, rfl, HA⟩ := hrel;by_cases hlt : k < n
    · obtain ⟨x, hx⟩ : ∃ x, L[k]? = some x := ⟨_, List.getElem?_eq_getElem (by have := HLN.out; omega)⟩
      obtain ⟨b, o, rfl, hb, hat⟩ := HL.out.1.2 k x hx;obtain ⟨k0, k1, k2, k3, k4, k5, k6, k7, k8, k9, k10, k11, k12⟩ := hat;have hpr := HL.out.2 x (List.mem_of_getElem? hx);obtain ⟨b1, b2, b3, b4, b5, b6⟩ := HOK.out x (List.mem_of_getElem? hx);have hnext : fewB (L.take (k + 1)) = fewO x.o := by
       have h := HA.out;unfold fewB at h ⊢;rw [List.take_add_one, hx, List.all_append, h, Option.toList_some];simp
      have hbad : fewO x.o = false → false = r := fun h => by
       rw [← HR.out];rw [h] at hnext;unfold fewB at hnext ⊢;rw [← List.take_append_drop (k + 1) L, List.all_append, hnext, Bool.false_and]
      have HNX := hid hnext;have hs1 := txt_sz x.o.key;have hs2 := txt_sz x.o.val.s;have hs3 := txt_sz x.o.obj.a;have hs4 := txt_sz x.o.elem.a;obtain ⟨l1, hl1⟩ : ∃ l, l = x.o.key.length := ⟨_, rfl⟩
      obtain ⟨l2, hl2⟩ : ∃ l, l = x.o.val.s.length := ⟨_, rfl⟩
      obtain ⟨l3, hl3⟩ : ∃ l, l = x.o.obj.a.length := ⟨_, rfl⟩
      obtain ⟨l4, hl4⟩ : ∃ l, l = x.o.elem.a.length := ⟨_, rfl⟩
      obtain ⟨l5, hl5⟩ : ∃ l, l = x.o.pr.length := ⟨_, rfl⟩
      rw [← hl1] at hs1 b3;rw [← hl2] at hs2 b4;rw [← hl3] at hs3 b1;rw [← hl4] at hs4 b2;rw [← hl5] at b5 k12;have HX := hid hx;have hfe : fewO x.o = (decide (l5 ≤ 40) && decide (l1 ≤ 5000) && decide (l2 ≤ 5000) && decide (l3 ≤ 100) && decide (l4 ≤ 100) && x.o.pr.all fun x => decide (x.a.length ≤ 100)) := by unfold fewO; rw [hl1, hl2, hl3, hl4, hl5]
      have HL5 := hid hl5;have HPR := hid hpr;have HB6 := hid b6;rw [hfe] at hbad;have HFE := hid hfe;clear hx hnext hl1 hl2 hl3 hl4 hl5 hpr hfe b6;by_cases g0 : 40 < l5
      · have s0 : decide ((40 : Int) < (l5 : Int)) = true := decide_eq_true (by omega);have s0' : decide (40 < l5) = true := decide_eq_true (by omega);have hrf : false = r := hbad (by rw [decide_eq_false (show ¬ l5 ≤ 40 by omega)]; simp);have HRF := hid hrf;clear hrf hbad;go_wp2_with fail;go_ret;exact ⟨by rw [← HRF.out]; rfl, rfl⟩
      · have s0 : decide ((40 : Int) < (l5 : Int)) = false := decide_eq_false (by omega);have s0' : decide (40 < l5) = false := decide_eq_false (by omega);by_cases g1 : 5000 < l1
        · have s1 : decide ((5000 : Int) < (l1 : Int)) = true := decide_eq_true (by omega);have s1' : decide (5000 < l1) = true := decide_eq_true (by omega);have hrf : false = r := hbad (by rw [decide_eq_false (show ¬ l1 ≤ 5000 by omega)]; simp);have HRF := hid hrf;clear hrf hbad;go_wp2_with fail;go_ret;exact ⟨by rw [← HRF.out]; rfl, rfl⟩
        · have s1 : decide ((5000 : Int) < (l1 : Int)) = false := decide_eq_false (by omega);have s1' : decide (5000 < l1) = false := decide_eq_false (by omega);by_cases g2 : 5000 < l2
          · have s2 : decide ((5000 : Int) < (l2 : Int)) = true := decide_eq_true (by omega);have s2' : decide (5000 < l2) = true := decide_eq_true (by omega);have hrf : false = r := hbad (by rw [decide_eq_false (show ¬ l2 ≤ 5000 by omega)]; simp);have HRF := hid hrf;clear hrf hbad;go_wp2_with fail;go_ret;exact ⟨by rw [← HRF.out]; rfl, rfl⟩
          · have s2 : decide ((5000 : Int) < (l2 : Int)) = false := decide_eq_false (by omega);have s2' : decide (5000 < l2) = false := decide_eq_false (by omega);by_cases g3 : 100 < l3
            · have s3 : decide ((100 : Int) < (l3 : Int)) = true := decide_eq_true (by omega);have s3' : decide (100 < l3) = true := decide_eq_true (by omega);have hrf : false = r := hbad (by rw [decide_eq_false (show ¬ l3 ≤ 100 by omega)]; simp);have HRF := hid hrf;clear hrf hbad;go_wp2_with fail;go_ret;exact ⟨by rw [← HRF.out]; rfl, rfl⟩
            · have s3 : decide ((100 : Int) < (l3 : Int)) = false := decide_eq_false (by omega);have s3' : decide (100 < l3) = false := decide_eq_false (by omega);by_cases g4 : 100 < l4
              · have s4 : decide ((100 : Int) < (l4 : Int)) = true := decide_eq_true (by omega);have s4' : decide (100 < l4) = true := decide_eq_true (by omega);have hrf : false = r := hbad (by rw [decide_eq_false (show ¬ l4 ≤ 100 by omega)]; simp);have HRF := hid hrf;clear hrf hbad;go_wp2_with fail;go_ret;exact ⟨by rw [← HRF.out]; rfl, rfl⟩
              · have s4 : decide ((100 : Int) < (l4 : Int)) = false := decide_eq_false (by omega);have s4' : decide (100 < l4) = false := decide_eq_false (by omega);clear hbad;go_wp2_with fail;clear k0 k1 k2 k3 k4 k5 k6 k7 k8 k9 k10 k11
                go_loop [6] (fun i => ∃ j : Nat, j ≤ l5 ∧ i = .int .i64 (j : Int) ∧ Hid ((x.o.pr.take j).all (fun x => decide (x.a.length ≤ 100)) = true)) (fun i => l5 - (intOf i).toNat)
                case atStart => exact ⟨0, Nat.zero_le _, rfl, (rfl : (x.o.pr.take 0).all (fun x => decide (x.a.length ≤ 100)) = true)⟩
                case round =>
                 obtain ⟨j, hj, rfl, HB⟩ := hrel;by_cases hlt2 : j < l5
                 · obtain ⟨y, hy⟩ : ∃ y, x.o.pr[j]? = some y := ⟨_, List.getElem?_eq_getElem (by have := HL5.out; omega)⟩
                   obtain ⟨g, q, hA, hg, n0, n1⟩ := HPR.out.1.2 j y hy;simp only [ncc, nac] at n0 n1;rw [hA] at k12;have hby := HB6.out y (List.mem_of_getElem? hy);have hs := txt_sz y.a;obtain ⟨z, hz⟩ : ∃ z, z = y.a.length := ⟨_, rfl⟩
                   rw [← hz] at hs hby;have HZ := hid hz;have HY := hid hy;clear hy hA hz;by_cases h : 100 < z
                   · have t2 : decide ((100 : Int) < (z : Int)) = true := decide_eq_true (by omega);have t2' : decide (100 < z) = true := decide_eq_true (by omega);have hal : (x.o.pr.all fun x => decide (x.a.length ≤ 100)) = false := by
                      rw [List.all_eq_false];exact ⟨y, List.mem_of_getElem? HY.out, by have := HZ.out; simp; omega⟩
                     have hrf : false = r := by
                      have h := HNX.out;rw [HFE.out, hal, Bool.and_false] at h;rw [← HR.out];unfold fewB at h ⊢;rw [← List.take_append_drop (k + 1) L, List.all_append, h, Bool.false_and]
                     have HRF := hid hrf;clear hrf hal;go_wp2_with fail;go_ret;exact ⟨by rw [← HRF.out]; rfl, rfl⟩
                   · have t2 : decide ((100 : Int) < (z : Int)) = false := decide_eq_false (by omega);have t2' : decide (100 < z) = false := decide_eq_false (by omega);have HB2 : Hid ((x.o.pr.take (j + 1)).all (fun x => decide (x.a.length ≤ 100)) = true) := hid (by
                      have h := HB.out;rw [List.take_add_one, HY.out, List.all_append, h, Option.toList_some];have := HZ.out;simp;omega)
                     go_wp2_with fail
                     go_round
                     case rel => exact ⟨j + 1, by omega, by go_num, HB2⟩
                     case measure => simp [intOf]; omega
                 · obtain rfl : j = l5 := by omega
                   have HA2 : Hid (fewB (L.take (k + 1)) = true) := hid (by
                    have h := HB.out;rw [List.take_of_length_le (by have := HL5.out; omega)] at h;rw [HNX.out, HFE.out, h];simp;omega)
                   go_wp2_with fail
                   go_round
                   case rel => exact ⟨k + 1, by omega, by go_num, HA2⟩
                   case measure => simp [intOf]; omega
    · obtain rfl : k = n := by omega
      have hrf : true = r := by
       rw [← HR.out];have := HA.out;rw [List.take_of_length_le (by have := HLN.out; omega)] at this;exact this.symm
      have HRF := hid hrf;clear hrf;go_wp2_with fail;go_ret;exact ⟨by rw [← HRF.out]; rfl, rfl⟩
end
section
open Go Go.RowKit Mem LebM OpM
namespace AcM
theorem rise_split {O : List Tx} (h : Rise O) (j : Nat) : ∀ x ∈ O.take j, ∀ y ∈ O.drop j, Op.bytesLess x y = true := by
 have h2 := h;unfold Rise at h2;rw [← List.take_append_drop j O] at h2;exact (List.pairwise_append.1 h2).2.2
theorem cand_iff {a : Tx} {N : List Nm} {y : Nm} (hy : y ∈ N) {j : Nat} (hj : j ≤ (othersA a N).length) :
    y.a ∈ (othersA a N).drop j ↔ y.a ≠ a ∧ (j = 0 ∨ ∃ z, (othersA a N)[j - 1]? = some z ∧ Op.bytesLess z y.a = true) := by
 have hr := others_rise a N;constructor
 · intro h;refine ⟨((others_mem a N _).1 (List.mem_of_mem_drop h)).1, ?_⟩;rcases Nat.eq_zero_or_pos j with h0 | h0
   · exact Or.inl h0
   · obtain ⟨z, hz⟩ : ∃ z, (othersA a N)[j - 1]? = some z := ⟨_, List.getElem?_eq_getElem (by omega)⟩
     refine Or.inr ⟨z, hz, rise_split hr j z (List.mem_of_getElem? (i := j - 1) ?_) _ h⟩;rw [List.getElem?_take, if_pos (by omega), hz]
 · rintro ⟨hne, h⟩;have hm : y.a ∈ othersA a N := (others_mem a N _).2 ⟨hne, y, hy, rfl⟩;rcases h with rfl | ⟨z, hz, hl⟩
   · exact hm
   · rw [← List.take_append_drop j (othersA a N)] at hm;rcases List.mem_append.1 hm with h1 | h1
     · exfalso;obtain ⟨i, hi⟩ := List.getElem?_of_mem h1;have hil := (List.getElem?_eq_some_iff.1 hi).1;rw [List.length_take] at hil;rw [List.getElem?_take, if_pos (by omega)] at hi;by_cases hij : i = j - 1
       · subst hij;rw [hz] at hi;injection hi with hi
         rw [hi, bless_irr] at hl;cases hl
       · have hlt : Op.bytesLess y.a z = true := by
          refine rise_split hr (j - 1) y.a (List.mem_of_getElem? (i := i) ?_) z (List.mem_of_getElem? (i := 0) ?_)
          · rw [List.getElem?_take, if_pos (by omega), hi]
          · rw [List.getElem?_drop, Nat.add_zero, hz]
         rw [bless_asym hlt] at hl;cases hl
     · exact h1
def Best (O : List Tx) (j : Nat) (M N : List Nm) (z : Int) : Prop :=
 (z = -1 ∧ ∀ y ∈ M, y.a ∉ O.drop j) ∨ ∃ (b : Nat) (y : Nm), z = (b : Int) ∧ N[b]? = some y ∧ y.a ∈ O.drop j ∧ ∀ x ∈ M, x.a ∈ O.drop j → Op.bytesLess x.a y.a = false
theorem best_none (O : List Tx) (j : Nat) (N : List Nm) : Best O j [] N (-1) := Or.inl ⟨rfl, fun y h => by cases h⟩
theorem mem_next {N : List Nm} {k : Nat} {y x : Nm} (hy : N[k]? = some y) (hx : x ∈ N.take (k + 1)) : x ∈ N.take k ∨ x = y := by
 rw [List.take_add_one, hy] at hx
 simpa using hx
theorem best_skip {O : List Tx} {j k : Nat} {N : List Nm} {z : Int} {y : Nm} (h : Best O j (N.take k) N z) (hy : N[k]? = some y) (hn : y.a ∉ O.drop j) : Best O j (N.take (k + 1)) N z := by
 rcases h with ⟨h1, h2⟩ | ⟨b, y0, h1, h2, h3, h4⟩
 · refine Or.inl ⟨h1, fun x hx => ?_⟩;rcases mem_next hy hx with hx | rfl
   · exact h2 x hx
   · exact hn
 · refine Or.inr ⟨b, y0, h1, h2, h3, fun x hx hin => ?_⟩;rcases mem_next hy hx with hx | rfl
   · exact h4 x hx hin
   · exact absurd hin hn
theorem best_new {O : List Tx} {j k : Nat} {N : List Nm} {y : Nm} (h : ∀ x ∈ N.take k, x.a ∉ O.drop j) (hy : N[k]? = some y) (hin : y.a ∈ O.drop j) : Best O j (N.take (k + 1)) N (k : Int) := by
 refine Or.inr ⟨k, y, rfl, hy, hin, fun x hx hx2 => ?_⟩;rcases mem_next hy hx with hx | rfl
 · exact absurd hx2 (h x hx)
 · exact bless_irr _
theorem best_less {O : List Tx} {j k : Nat} {N : List Nm} {y y0 : Nm} (h : ∀ x ∈ N.take k, x.a ∈ O.drop j → Op.bytesLess x.a y0.a = false) (hy : N[k]? = some y) (hin : y.a ∈ O.drop j) (hl : Op.bytesLess y.a y0.a = true) : Best O j (N.take (k + 1)) N (k : Int) := by
 refine Or.inr ⟨k, y, rfl, hy, hin, fun x hx hx2 => ?_⟩;rcases mem_next hy hx with hx | rfl
 · cases h3 : Op.bytesLess x.a y.a with
   | false => rfl
   | true =>
    have := bless_trans h3 hl;rw [h x hx hx2] at this;cases this
 · exact bless_irr _
theorem best_keep {O : List Tx} {j k b : Nat} {N : List Nm} {y y0 : Nm} (h : ∀ x ∈ N.take k, x.a ∈ O.drop j → Op.bytesLess x.a y0.a = false) (hb : N[b]? = some y0) (hin0 : y0.a ∈ O.drop j) (hy : N[k]? = some y) (hl : Op.bytesLess y.a y0.a = false) : Best O j (N.take (k + 1)) N (b : Int) := by
 refine Or.inr ⟨b, y0, rfl, hb, hin0, fun x hx hx2 => ?_⟩;rcases mem_next hy hx with hx | rfl
 · exact h x hx hx2
 · exact hl
theorem best_end {O : List Tx} {j : Nat} {N : List Nm} (hm : ∀ z ∈ O, ∃ y ∈ N, y.a = z) (h : ∀ y ∈ N, y.a ∉ O.drop j) : O.length ≤ j := by
 rcases Nat.lt_or_ge j O.length with h0 | h0
 · exfalso;have hz : O[j] ∈ O.drop j := List.mem_of_getElem? (i := 0) (by rw [List.getElem?_drop, Nat.add_zero]; exact List.getElem?_eq_getElem h0);obtain ⟨y, hy, e⟩ := hm _ (List.mem_of_mem_drop hz);exact h y hy (e ▸ hz)
 · exact h0
theorem best_is {O : List Tx} {j : Nat} {N : List Nm} {y : Nm} (hr : Rise O) (hm : ∀ z ∈ O, ∃ y ∈ N, y.a = z) (hin : y.a ∈ O.drop j) (h : ∀ x ∈ N, x.a ∈ O.drop j → Op.bytesLess x.a y.a = false) : O[j]? = some y.a := by
 obtain ⟨i, hi⟩ := List.getElem?_of_mem hin;have hil := (List.getElem?_eq_some_iff.1 hi).1;rw [List.length_drop] at hil;rw [List.getElem?_drop] at hi;rcases Nat.eq_zero_or_pos i with h0 | h0
 · rw [h0, Nat.add_zero] at hi;exact hi
 · exfalso;obtain ⟨z, hz⟩ : ∃ z, O[j]? = some z := ⟨_, List.getElem?_eq_getElem (by omega)⟩
   have hz2 : z ∈ O.drop j := List.mem_of_getElem? (i := 0) (by rw [List.getElem?_drop, Nat.add_zero]; exact hz);obtain ⟨x, hx, rfl⟩ := hm z (List.mem_of_getElem? hz);have h1 := h x hx hz2;have h2 := rise_split hr (j + 1) x.a (List.mem_of_getElem? (i := j) (by rw [List.getElem?_take, if_pos (by omega), hz])) y.a (List.mem_of_getElem? (i := i - 1) (by rw [List.getElem?_drop, show j + 1 + (i - 1) = j + i by omega, hi]));rw [h1] at h2;cases h2
end AcM
end
end Go.Proofs.YtbabgnadgdidmaaGreat
