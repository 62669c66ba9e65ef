/-
  Plain mathematics of layer 18: the least one that is greater than all that are there.
  Layer 18, the reference: Table (written by gen_rtab.py).
-/
import Derived.Test.YtedmnkcoflbciaaGreatZm03
import Derived.Test.YtedmnkcoflbciaaGreatZm18
namespace Go.Proofs.YtedmnkcoflbciaaGreat
open Go Go.RowKit Mem LebM OpM
namespace AcM

theorem rise_split {O : List Tx} (h : Rise O) (j : Nat) : ∀ x ∈ O.take j, ∀ y ∈ O.drop j, Op.bytesLess x y = true := by
  have h2 := h
  unfold Rise at h2
  rw [← List.take_append_drop j O] at h2
  exact (List.pairwise_append.1 h2).2.2
/-- who may come next -/
theorem cand_iff {a : Tx} {N : List Nm} {y : Nm} (hy : y ∈ N) {j : Nat} (hj : j ≤ (othersA a N).length) :
    y.a ∈ (othersA a N).drop j ↔ y.a ≠ a ∧ (j = 0 ∨ ∃ z, (othersA a N)[j - 1]? = some z ∧ Op.bytesLess z y.a = true) := by
  have hr := others_rise a N
  constructor
  · intro h
    refine ⟨((others_mem a N _).1 (List.mem_of_mem_drop h)).1, ?_⟩
    rcases Nat.eq_zero_or_pos j with h0 | h0
    · exact Or.inl h0
    · obtain ⟨z, hz⟩ : ∃ z, (othersA a N)[j - 1]? = some z := ⟨_, List.getElem?_eq_getElem (by omega)⟩
      refine Or.inr ⟨z, hz, rise_split hr j z (List.mem_of_getElem? (i := j - 1) ?_) _ h⟩
      rw [List.getElem?_take, if_pos (by omega), hz]
  · rintro ⟨hne, h⟩
    have hm : y.a ∈ othersA a N := (others_mem a N _).2 ⟨hne, y, hy, rfl⟩
    rcases h with rfl | ⟨z, hz, hl⟩
    · exact hm
    · rw [← List.take_append_drop j (othersA a N)] at hm
      rcases List.mem_append.1 hm with h1 | h1
      · exfalso
        obtain ⟨i, hi⟩ := List.getElem?_of_mem h1
        have hil := (List.getElem?_eq_some_iff.1 hi).1
        rw [List.length_take] at hil
        rw [List.getElem?_take, if_pos (by omega)] at hi
        by_cases hij : i = j - 1
        · subst hij
          rw [hz] at hi
          injection hi with hi
          rw [hi, bless_irr] at hl
          cases hl
        · have hlt : Op.bytesLess y.a z = true := by
            refine rise_split hr (j - 1) y.a (List.mem_of_getElem? (i := i) ?_) z (List.mem_of_getElem? (i := 0) ?_)
            · rw [List.getElem?_take, if_pos (by omega), hi]
            · rw [List.getElem?_drop, Nat.add_zero, hz]
          rw [bless_asym hlt] at hl
          cases hl
      · exact h1
/-- the least one met so far -/
def Best (O : List Tx) (j : Nat) (M N : List Nm) (z : Int) : Prop :=
  (z = -1 ∧ ∀ y ∈ M, y.a ∉ O.drop j) ∨ ∃ (b : Nat) (y : Nm), z = (b : Int) ∧ N[b]? = some y ∧ y.a ∈ O.drop j ∧ ∀ x ∈ M, x.a ∈ O.drop j → Op.bytesLess x.a y.a = false
theorem best_none (O : List Tx) (j : Nat) (N : List Nm) : Best O j [] N (-1) := Or.inl ⟨rfl, fun y h => by cases h⟩
theorem mem_next {N : List Nm} {k : Nat} {y x : Nm} (hy : N[k]? = some y) (hx : x ∈ N.take (k + 1)) : x ∈ N.take k ∨ x = y := by
  rw [List.take_add_one, hy] at hx
  simpa using hx
theorem best_skip {O : List Tx} {j k : Nat} {N : List Nm} {z : Int} {y : Nm} (h : Best O j (N.take k) N z) (hy : N[k]? = some y) (hn : y.a ∉ O.drop j) : Best O j (N.take (k + 1)) N z := by
  rcases h with ⟨h1, h2⟩ | ⟨b, y0, h1, h2, h3, h4⟩
  · refine Or.inl ⟨h1, fun x hx => ?_⟩
    rcases mem_next hy hx with hx | rfl
    · exact h2 x hx
    · exact hn
  · refine Or.inr ⟨b, y0, h1, h2, h3, fun x hx hin => ?_⟩
    rcases mem_next hy hx with hx | rfl
    · exact h4 x hx hin
    · exact absurd hin hn
theorem best_new {O : List Tx} {j k : Nat} {N : List Nm} {y : Nm} (h : ∀ x ∈ N.take k, x.a ∉ O.drop j) (hy : N[k]? = some y) (hin : y.a ∈ O.drop j) : Best O j (N.take (k + 1)) N (k : Int) := by
  refine Or.inr ⟨k, y, rfl, hy, hin, fun x hx hx2 => ?_⟩
  rcases mem_next hy hx with hx | rfl
  · exact absurd hx2 (h x hx)
  · exact bless_irr _
theorem best_less {O : List Tx} {j k : Nat} {N : List Nm} {y y0 : Nm} (h : ∀ x ∈ N.take k, x.a ∈ O.drop j → Op.bytesLess x.a y0.a = false) (hy : N[k]? = some y) (hin : y.a ∈ O.drop j) (hl : Op.bytesLess y.a y0.a = true) : Best O j (N.take (k + 1)) N (k : Int) := by
  refine Or.inr ⟨k, y, rfl, hy, hin, fun x hx hx2 => ?_⟩
  rcases mem_next hy hx with hx | rfl
  · cases h3 : Op.bytesLess x.a y.a with
    | false => rfl
    | true =>
      have := bless_trans h3 hl
      rw [h x hx hx2] at this
      cases this
  · exact bless_irr _
theorem best_keep {O : List Tx} {j k b : Nat} {N : List Nm} {y y0 : Nm} (h : ∀ x ∈ N.take k, x.a ∈ O.drop j → Op.bytesLess x.a y0.a = false) (hb : N[b]? = some y0) (hin0 : y0.a ∈ O.drop j) (hy : N[k]? = some y) (hl : Op.bytesLess y.a y0.a = false) : Best O j (N.take (k + 1)) N (b : Int) := by
  refine Or.inr ⟨b, y0, rfl, hb, hin0, fun x hx hx2 => ?_⟩
  rcases mem_next hy hx with hx | rfl
  · exact h x hx hx2
  · exact hl
/-- nobody comes any more -/
theorem best_end {O : List Tx} {j : Nat} {N : List Nm} (hm : ∀ z ∈ O, ∃ y ∈ N, y.a = z) (h : ∀ y ∈ N, y.a ∉ O.drop j) : O.length ≤ j := by
  rcases Nat.lt_or_ge j O.length with h0 | h0
  · exfalso
    have hz : O[j] ∈ O.drop j := List.mem_of_getElem? (i := 0) (by rw [List.getElem?_drop, Nat.add_zero]; exact List.getElem?_eq_getElem h0)
    obtain ⟨y, hy, e⟩ := hm _ (List.mem_of_mem_drop hz)
    exact h y hy (e ▸ hz)
  · exact h0
/-- who comes next -/
theorem best_is {O : List Tx} {j : Nat} {N : List Nm} {y : Nm} (hr : Rise O) (hm : ∀ z ∈ O, ∃ y ∈ N, y.a = z) (hin : y.a ∈ O.drop j) (h : ∀ x ∈ N, x.a ∈ O.drop j → Op.bytesLess x.a y.a = false) : O[j]? = some y.a := by
  obtain ⟨i, hi⟩ := List.getElem?_of_mem hin
  have hil := (List.getElem?_eq_some_iff.1 hi).1
  rw [List.length_drop] at hil
  rw [List.getElem?_drop] at hi
  rcases Nat.eq_zero_or_pos i with h0 | h0
  · rw [h0, Nat.add_zero] at hi
    exact hi
  · exfalso
    obtain ⟨z, hz⟩ : ∃ z, O[j]? = some z := ⟨_, List.getElem?_eq_getElem (by omega)⟩
    have hz2 : z ∈ O.drop j := List.mem_of_getElem? (i := 0) (by rw [List.getElem?_drop, Nat.add_zero]; exact hz)
    obtain ⟨x, hx, rfl⟩ := hm z (List.mem_of_getElem? hz)
    have h1 := h x hx hz2
    have h2 := rise_split hr (j + 1) x.a (List.mem_of_getElem? (i := j) (by rw [List.getElem?_take, if_pos (by omega), hz])) y.a (List.mem_of_getElem? (i := i - 1) (by rw [List.getElem?_drop, show j + 1 + (i - 1) = j + i by omega, hi]))
    rw [h1] at h2
    cases h2
end AcM
end Go.Proofs.YtedmnkcoflbciaaGreat
namespace Go.Proofs.YtedmnkcoflbciaaGreat
open Go.RowKit Mem Go.Lib LebM UtfM VaM OpM AcM
attribute [local go_sem ↓] Go.wp_at_zero Go.wp_at_succ
set_option linter.unusedVariables false

/-- how long a slice is -/
def lenOfS : Value → Nat
  | .slice _ n _ => n
  | _ => 0
theorem names_shortR {L : List Om} (h : ∀ x ∈ L, x.short) : ∀ y ∈ namesM L, y.a.length ≤ 1000000 := by
  intro y hy
  obtain ⟨x, hx, hy⟩ := List.mem_flatMap.1 hy
  obtain ⟨h1, h2, _, _, _, h6⟩ := h x hx
  have hm := (List.mem_filter.1 hy).1
  rcases List.mem_cons.1 hm with rfl | hm
  · exact h1
  · rcases List.mem_cons.1 hm with rfl | hm
    · exact h2
    · exact h6 y hm
set_option maxRecDepth 100000 in
set_option maxHeartbeats 12800000 in
/-- THE CONTRACT of the reference's Table -/
theorem racTable_any (a : Tx) (A : Option Addr) (n c : Nat) (L : List Om) (w : World) (hL : Ops w A n L) (hn : n ≤ 1000) (ha : a.length ≤ 1000000) (hok : ∀ x ∈ L, x.short ∧ x.o.pr.length ≤ 1000) :
    Calls Tryz.prog 9 #[.string (txt a), .slice A n c] w fun e w' => ∃ A' c', e = .returned (.slice A' (tabA a (namesM L)).length c') ∧ OwT w' w.heap.size A' c' (tabA a (namesM L)) ∧ Fr (fun _ => False) w w' := by
  obtain ⟨w0, hw0⟩ : ∃ w0, w.alloc (.cells #[.string (txt a)] 9) = w0 := ⟨_, rfl⟩
  obtain ⟨base, hbase⟩ : ∃ b, w.heap.size = b := ⟨_, rfl⟩
  have hf0 : Fr (fun _ => False) w w0 := by rw [← hw0]; exact (Fr.refl _ _).alloc _
  have ho0 : OwT w0 base (some ⟨base, 0, none⟩) 1 [a] := by rw [← hw0, ← hbase]; exact OwT.one w a
  have hnm := rnames_any A n c L w0 (hL.fr hf0) hn (fun x hx => (hok x hx).2)
  have hnl : (namesM L).length ≤ 1002000 := by
    have h1 := namesM_len (L := L) (fun x hx => (hok x hx).2)
    have h2 := hL.len
    omega
  have hns := names_shortR (fun x hx => (hok x hx).1)
  obtain ⟨N, hN⟩ : ∃ N, namesM L = N := ⟨_, rfl⟩
  rw [hN] at hnm hnl hns ⊢
  obtain ⟨l, hl⟩ : ∃ l, N.length = l := ⟨_, rfl⟩
  rw [hl] at hnm hnl
  obtain ⟨O, hO⟩ : ∃ O, othersA a N = O := ⟨_, rfl⟩
  have hol : O.length ≤ l := by rw [← hO, ← hl]; exact others_len a N
  obtain ⟨lo, hlo⟩ : ∃ lo, O.length = lo := ⟨_, rfl⟩
  rw [hlo] at hol
  have hcd : ∀ y ∈ N, ∀ j, j ≤ lo → (y.a ∈ O.drop j ↔ y.a ≠ a ∧ (j = 0 ∨ ∃ z, O[j - 1]? = some z ∧ Op.bytesLess z y.a = true)) := fun y hy j hj => by
    subst hO
    exact cand_iff hy (by omega)
  have hos : ∀ z ∈ O, z.length ≤ 1000000 := fun z hz => by
    obtain ⟨_, y, hy, rfl⟩ := (others_mem a N z).1 (by rw [hO]; exact hz)
    exact hns y hy
  have hri : Rise O := by rw [← hO]; exact others_rise a N
  have hmm : ∀ z ∈ O, ∃ y ∈ N, y.a = z := fun z hz => ((others_mem a N z).1 (by rw [hO]; exact hz)).2
  have HNM := Lib.hid hnm
  have HNS := Lib.hid hns
  have HLN := Lib.hid hl
  have HF0 := Lib.hid hf0
  have HO0 := Lib.hid ho0
  have HCD := Lib.hid hcd
  have HOS := Lib.hid hos
  have HRI := Lib.hid hri
  have HMM := Lib.hid hmm
  have HLO := Lib.hid hlo
  have HT : Hid (tabA a N = a :: O) := Lib.hid (by unfold tabA; rw [hO])
  have HB : Hid (w.heap.size = base) := Lib.hid hbase
  rw [hbase]
  clear hL hok hnm hns hN hl hf0 ho0 hcd hos hri hmm hO hlo
  go_enter Tryz.func9, Tryz.ntmps9
  go_wp2_with fail
  clear hw0
  refine HNM.out.mono ?_
  rintro e w1 ⟨A2, c2, rfl, ho2, hf1⟩
  have HON1 : Hid (OwnN w1 base A2 c2 N) := Lib.hid (OwnP.base ho2 (by rw [← HB.out]; exact HF0.out.size))
  have HO1 := Lib.hid (HO0.out.fr hf1)
  have HF1 := Lib.hid (HF0.out.trans hf1 (fun _ _ h => h))
  clear ho2 hf1 hbase
  go_wp2_with fail
  go_loopw [5] (fun v wr => ∃ q : Nat, 1 ≤ q ∧ q ≤ lo + 1 ∧ ∃ A1 c1, v = .slice A1 q c1 ∧ Hid (OwT wr base A1 c1 (a :: O.take (q - 1))) ∧ Hid (OwnN wr base A2 c2 N) ∧ Hid (Fr (fun _ => False) w wr)) (fun v _ => lo + 1 - lenOfS v)
  case atStart => exact ⟨1, Nat.le_refl _, by omega, _, _, rfl, Lib.hid (by simpa using HO1.out), HON1, HF1⟩
  case round =>
    obtain ⟨q, hq1, hq2, A1, c1, rfl, HO, HON, HF⟩ := hrel
    rename World => wr
    have HQL : Hid ((a :: O.take (q - 1)).length = q) := Lib.hid (by rw [List.length_cons, List.length_take, HLO.out]; omega)
    obtain ⟨z0, hz0⟩ : ∃ z, (a :: O.take (q - 1))[q - 1]? = some z := ⟨_, List.getElem?_eq_getElem (by have := HQL.out; omega)⟩
    have hzl : z0.length ≤ 1000000 := by
      rcases List.mem_cons.1 (List.mem_of_getElem? hz0) with e | h
      · rw [e]; exact ha
      · exact HOS.out z0 (List.mem_of_mem_take h)
    have hlast : 1 < q → O[q - 2]? = some z0 := fun h => by
      rw [show q - 1 = (q - 2) + 1 by omega, List.getElem?_cons_succ, List.getElem?_take, if_pos (by omega)] at hz0
      exact hz0
    obtain ⟨q1, hq1'⟩ : ∃ q1, q - 1 = q1 := ⟨_, rfl⟩
    have eq1 : IntKind.i64.wrap ((q : Int) - 1) = (q1 : Int) := by rw [IntKind.wrap_i64]; omega
    have eq2 : q1 < q := by omega
    rw [hq1'] at hz0
    have HZ0 := Lib.hid hz0
    have HZL := Lib.hid hzl
    have HLA := Lib.hid hlast
    have HQ1 := Lib.hid hq1'
    clear hz0 hzl hlast hq1'
    go_wp2_with fail
    go_loopw [7, 8] (fun b v wq => ∃ k : Nat, k ≤ l ∧ v = .int .i64 (k : Int) ∧ ∃ z : Int, b = .int .i64 z ∧ Hid (Best O q1 (N.take k) N z) ∧ z < (l : Int) ∧ -1 ≤ z ∧ Hid (OwT wq base A1 c1 (a :: O.take q1)) ∧ Hid (OwnN wq base A2 c2 N) ∧ Hid (Fr (fun _ => False) w wq)) (fun _ v _ => l - (intOf v).toNat)
    case atStart => exact ⟨0, Nat.zero_le _, rfl, -1, rfl, Lib.hid (by simpa using best_none O q1 N), by omega, by omega, by rw [← HQ1.out]; exact HO, HON, HF⟩
    case round =>
      obtain ⟨k, hk, rfl, z, rfl, HBS, hz1, hz2, HOQ, HONQ, HFQ⟩ := hrel
      rename World => wq
      by_cases hlt : k < l
      · obtain ⟨y, hy⟩ : ∃ y, N[k]? = some y := ⟨_, List.getElem?_eq_getElem (by have := HLN.out; omega)⟩
        have HONK : Hid (∀ w', Fr (fun _ => False) wq w' → ∀ k y, N[k]? = some y → ∃ g o, A2 = some ⟨g, o, none⟩ ∧ w'.cell? ⟨g, o + k * 2, none⟩ = some (ncc y) ∧ w'.cell? ⟨g, o + k * 2 + 1, none⟩ = some (nac y)) := Lib.hid (fun w' hf k y hy => by
          obtain ⟨g, o, e, _, h0, h1⟩ := (HONQ.out.fr hf).prs.2 k y hy
          exact ⟨g, o, e, h0, h1⟩)
        obtain ⟨gy, oy, hA2, n0, n1⟩ := HONK.out wq (Fr.refl _ _) k y hy
        subst hA2
        simp only [ncc, nac] at n0 n1
        have hyl := HNS.out y (List.mem_of_getElem? hy)
        have hcd := HCD.out y (List.mem_of_getElem? hy) q1 (by have := HQ1.out; omega)
        have HYK := Lib.hid hy
        have HYL := Lib.hid hyl
        have hrl1 := fun w => racLess_any z0 y.a w (by have := HZL.out; omega) (by have := HYL.out; omega)
        have t1 := beq_txt y.a a
        have hr0 := fun (w' : World) (hf : Fr (fun _ => False) wq w') => rd_tx (HOQ.out.fr hf).rd (k := q1) (by have := HQL.out; rw [HQ1.out] at this; have := HQ1.out; omega)
        obtain ⟨s, hs⟩ : ∃ s, Op.bytesLess z0 y.a = s := ⟨_, rfl⟩
        rw [hs] at hrl1
        have HRL1 := Lib.hid hrl1
        have HS1 := Lib.hid hs
        have HR0 := Lib.hid hr0
        have HCDK := Lib.hid hcd
        clear hy hyl hcd hrl1 hs hr0
        by_cases hya : y.a = a
        · -- the author
          rw [decide_eq_true hya] at t1
          have HB2 : Hid (Best O q1 (N.take (k + 1)) N z) := Lib.hid (best_skip HBS.out HYK.out (fun h => (HCDK.out.1 h).1 hya))
          clear hya
          go_wp2_with fail
          go_roundw
          case rel => exact ⟨k + 1, by omega, by go_num, z, rfl, HB2, hz1, hz2, HOQ, HONQ, HFQ⟩
          case measure => simp [intOf] <;> omega
        · rw [decide_eq_false hya] at t1
          have HYA := Lib.hid hya
          clear hya
          by_cases hqq : 1 < q
          · have t2 : decide ((1 : Int) < (q : Int)) = true := decide_eq_true (by omega)
            have t2' : decide (1 < q) = true := decide_eq_true hqq
            obtain ⟨ad0, z0', hA1, hz0', hc0⟩ := HR0.out wq (Fr.refl _ _)
            obtain rfl : z0 = z0' := by
              have h := HZ0.out
              rw [hz0'] at h
              injection h with h
              exact h.symm
            subst hA1
            have HHQ := Lib.hid hqq
            clear hqq hz0'
            cases s with
            | false =>
              have HB2 : Hid (Best O q1 (N.take (k + 1)) N z) := Lib.hid (best_skip HBS.out HYK.out (fun h => by
                rcases (HCDK.out.1 h).2 with h0 | ⟨z', h1, h2⟩
                · have := HQ1.out; have := HHQ.out; omega
                · have h3 := HLA.out HHQ.out
                  rw [show q - 2 = q1 - 1 by have := HQ1.out; omega, h1] at h3
                  injection h3 with h3
                  rw [h3, HS1.out] at h2
                  cases h2))
              go_wp2_with fail
              refine (HRL1.out _).mono ?_
              rintro e w2 ⟨rfl, hf2⟩
              have HO2 := Lib.hid (HOQ.out.fr hf2)
              have HON2 := Lib.hid (HONQ.out.fr hf2)
              have HF2 := Lib.hid (HFQ.out.trans hf2 (fun _ _ h => h))
              clear hf2
              go_wp2_with fail
              go_roundw
              case rel => exact ⟨k + 1, by omega, by go_num, z, rfl, HB2, hz1, hz2, HO2, HON2, HF2⟩
              case measure => simp [intOf] <;> omega
            | true =>
              have HIN : Hid (y.a ∈ O.drop q1) := Lib.hid (HCDK.out.2 ⟨HYA.out, Or.inr ⟨z0, by have := HLA.out HHQ.out; rwa [show q - 2 = q1 - 1 by have := HQ1.out; omega] at this, HS1.out⟩⟩)
              go_upto_region 9 with (refine (HRL1.out _).mono ?_; rintro e w2 ⟨rfl, hf2⟩)
              have HO2 := Lib.hid (HOQ.out.fr hf2)
              have HON2 := Lib.hid (HONQ.out.fr hf2)
              have HF2 := Lib.hid (HFQ.out.trans hf2 (fun _ _ h => h))
              have HFW : Hid (Fr (fun _ => False) wq w2) := Lib.hid (hf2)
              rcases HBS.out with ⟨rfl, hno⟩ | ⟨b, y0, rfl, hb, hin, hmin⟩
              · have HB2 : Hid (Best O q1 (N.take (k + 1)) N (k : Int)) := Lib.hid (best_new hno HYK.out HIN.out)
                clear hno
                go_wp2_with fail
                go_roundw
                case rel => exact ⟨k + 1, by omega, by go_num, (k : Int), rfl, HB2, by omega, by omega, HO2, HON2, HF2⟩
                case measure => simp [intOf] <;> omega
              · obtain ⟨g', o', e', m0, m1⟩ := HONK.out w2 HFW.out b y0 hb
                injection e' with e'
                injection e' with e1 e2
                subst e1 e2
                simp only [ncc, nac] at m0 m1
                have hrl2 := fun w => racLess_any y.a y0.a w (by have := HYL.out; omega) (by have := HNS.out y0 (List.mem_of_getElem? hb); omega)
                have t3 : decide ((b : Int) < 0) = false := decide_eq_false (by omega)
                obtain ⟨r, hr⟩ : ∃ r, Op.bytesLess y.a y0.a = r := ⟨_, rfl⟩
                rw [hr] at hrl2
                have HRL2 := Lib.hid hrl2
                have HRR := Lib.hid hr
                have HBB := Lib.hid hb
                have HMI := Lib.hid hmin
                have HI0 := Lib.hid hin
                clear hrl2 hr hb hmin hin
                cases r with
                | true =>
                  have HB2 : Hid (Best O q1 (N.take (k + 1)) N (k : Int)) := Lib.hid (best_less HMI.out HYK.out HIN.out HRR.out)
                  go_wp2_with fail
                  refine (HRL2.out _).mono ?_
                  rintro e w3 ⟨rfl, hf3⟩
                  have HO3 := Lib.hid (HO2.out.fr hf3)
                  have HON3 := Lib.hid (HON2.out.fr hf3)
                  have HF3 := Lib.hid (HF2.out.trans hf3 (fun _ _ h => h))
                  clear hf3
                  go_wp2_with fail
                  go_roundw
                  case rel => exact ⟨k + 1, by omega, by go_num, (k : Int), rfl, HB2, by omega, by omega, HO3, HON3, HF3⟩
                  case measure => simp [intOf] <;> omega
                | false =>
                  have HB2 : Hid (Best O q1 (N.take (k + 1)) N (b : Int)) := Lib.hid (best_keep HMI.out HBB.out HI0.out HYK.out HRR.out)
                  go_wp2_with fail
                  refine (HRL2.out _).mono ?_
                  rintro e w3 ⟨rfl, hf3⟩
                  have HO3 := Lib.hid (HO2.out.fr hf3)
                  have HON3 := Lib.hid (HON2.out.fr hf3)
                  have HF3 := Lib.hid (HF2.out.trans hf3 (fun _ _ h => h))
                  clear hf3
                  go_wp2_with fail
                  go_roundw
                  case rel => exact ⟨k + 1, by omega, by go_num, (b : Int), rfl, HB2, hz1, hz2, HO3, HON3, HF3⟩
                  case measure => simp [intOf] <;> omega
          · have t2 : decide ((1 : Int) < (q : Int)) = false := decide_eq_false (by omega)
            have t2' : decide (1 < q) = false := decide_eq_false hqq
            have HIN : Hid (y.a ∈ O.drop q1) := Lib.hid (HCDK.out.2 ⟨HYA.out, Or.inl (by have := HQ1.out; omega)⟩)
            clear hqq
            go_upto_region 9 with fail
            have HFW : Hid (Fr (fun _ => False) wq wq) := Lib.hid (Fr.refl _ _)
            rcases HBS.out with ⟨rfl, hno⟩ | ⟨b, y0, rfl, hb, hin, hmin⟩
            · have HB2 : Hid (Best O q1 (N.take (k + 1)) N (k : Int)) := Lib.hid (best_new hno HYK.out HIN.out)
              clear hno
              go_wp2_with fail
              go_roundw
              case rel => exact ⟨k + 1, by omega, by go_num, (k : Int), rfl, HB2, by omega, by omega, HOQ, HONQ, HFQ⟩
              case measure => simp [intOf] <;> omega
            · obtain ⟨g', o', e', m0, m1⟩ := HONK.out wq HFW.out b y0 hb
              injection e' with e'
              injection e' with e1 e2
              subst e1 e2
              simp only [ncc, nac] at m0 m1
              have hrl2 := fun w => racLess_any y.a y0.a w (by have := HYL.out; omega) (by have := HNS.out y0 (List.mem_of_getElem? hb); omega)
              have t3 : decide ((b : Int) < 0) = false := decide_eq_false (by omega)
              obtain ⟨r, hr⟩ : ∃ r, Op.bytesLess y.a y0.a = r := ⟨_, rfl⟩
              rw [hr] at hrl2
              have HRL2 := Lib.hid hrl2
              have HRR := Lib.hid hr
              have HBB := Lib.hid hb
              have HMI := Lib.hid hmin
              have HI0 := Lib.hid hin
              clear hrl2 hr hb hmin hin
              cases r with
              | true =>
                have HB2 : Hid (Best O q1 (N.take (k + 1)) N (k : Int)) := Lib.hid (best_less HMI.out HYK.out HIN.out HRR.out)
                go_wp2_with fail
                refine (HRL2.out _).mono ?_
                rintro e w3 ⟨rfl, hf3⟩
                have HO3 := Lib.hid (HOQ.out.fr hf3)
                have HON3 := Lib.hid (HONQ.out.fr hf3)
                have HF3 := Lib.hid (HFQ.out.trans hf3 (fun _ _ h => h))
                clear hf3
                go_wp2_with fail
                go_roundw
                case rel => exact ⟨k + 1, by omega, by go_num, (k : Int), rfl, HB2, by omega, by omega, HO3, HON3, HF3⟩
                case measure => simp [intOf] <;> omega
              | false =>
                have HB2 : Hid (Best O q1 (N.take (k + 1)) N (b : Int)) := Lib.hid (best_keep HMI.out HBB.out HI0.out HYK.out HRR.out)
                go_wp2_with fail
                refine (HRL2.out _).mono ?_
                rintro e w3 ⟨rfl, hf3⟩
                have HO3 := Lib.hid (HOQ.out.fr hf3)
                have HON3 := Lib.hid (HONQ.out.fr hf3)
                have HF3 := Lib.hid (HFQ.out.trans hf3 (fun _ _ h => h))
                clear hf3
                go_wp2_with fail
                go_roundw
                case rel => exact ⟨k + 1, by omega, by go_num, (b : Int), rfl, HB2, hz1, hz2, HO3, HON3, HF3⟩
                case measure => simp [intOf] <;> omega
      · obtain rfl : k = l := by omega
        have hall : N.take k = N := List.take_of_length_le (by have := HLN.out; omega)
        rw [hall] at HBS
        clear hall
        rcases HBS.out with ⟨rfl, hno⟩ | ⟨b, y, rfl, hb, hin, hmin⟩
        · have he : lo ≤ q1 := by
            have := best_end HMM.out hno
            rw [HLO.out] at this
            exact this
          have HRES : Hid (OwT wq base A1 c1 (tabA a N)) := Lib.hid (by
            have h := HOQ.out
            rw [List.take_of_length_le (by have := HLO.out; omega)] at h
            rw [HT.out]
            exact h)
          have HLL : Hid ((tabA a N).length = q) := Lib.hid (by rw [HT.out, List.length_cons, HLO.out]; have := HQ1.out; omega)
          clear hno he
          go_wp2_with fail
          go_ret
          exact ⟨A1, c1, by rw [HLL.out]; rfl, HRES.out, HFQ.out⟩
        · have hnx : O[q1]? = some y.a := best_is HRI.out HMM.out hin hmin
          have hq1l : q1 < lo := by
            have := (List.getElem?_eq_some_iff.1 hnx).1
            have := HLO.out
            omega
          have HQL1 : Hid (q1 < lo) := Lib.hid hq1l
          obtain ⟨gy, oy, hA2, _, n0, n1⟩ := HONQ.out.prs.2 b y hb
          subst hA2
          simp only [ncc, nac] at n0 n1
          obtain ⟨XS, hXS⟩ : ∃ X, (a :: O.take q1).map tc = X := ⟨_, rfl⟩
          have HXS := Lib.hid hXS
          have HOW : Hid (wq.ownsRow base 9 1 (.slice A1 q c1) q XS) := Lib.hid (by
            have h := HOQ.out
            unfold OwT at h
            rw [hXS] at h
            have e : (a :: O.take q1).length = q := by have := HQL.out; rw [HQ1.out] at this; exact this
            rw [e] at h
            exact h)
          have HTK : Hid (a :: O.take (q + 1 - 1) = (a :: O.take q1) ++ [y.a]) := Lib.hid (by
            rw [show q + 1 - 1 = q1 + 1 by have := HQ1.out; omega, List.take_add_one, hnx]
            rfl)
          have HSZ : Hid (base ≤ wq.heap.size) := Lib.hid (by rw [← HB.out]; exact HFQ.out.size)
          clear hb hin hmin hnx hq1l hXS
          go_wp2_with (at_builtin; refine wpList_app strT _ rfl _ _ rfl base _ _ _ rfl (HOW.out.alloc _) _ _ _ _ rfl (Rd.one _ _ _) (tc_one [y.a]) (by unfold maxLen; omega) (by omega) (by have := HSZ.out; simp; omega) ?_)
          intro A3 c3 w3 _ _ ho3 hf3 _
          have HO3 : Hid (OwT w3 base A3 c3 (a :: O.take (q + 1 - 1))) := Lib.hid (by
            rw [HTK.out]
            refine OwT.snoc (n := q) ?_ (by rw [HXS.out]; exact ho3)
            have := HQL.out
            rw [HQ1.out] at this
            exact this)
          have HON3 : Hid (OwnN w3 base (some ⟨gy, oy, none⟩) c2 N) := Lib.hid (by
            have h2 : Fr (fun k => (Value.slice A1 q c1).ownBlock = some k) wq w3 := ((Fr.refl (fun k => (Value.slice A1 q c1).ownBlock = some k) wq).alloc _).trans hf3 (fun _ _ h => h)
            exact h2.own HONQ.out (fun k hk h => own_two HONQ.out HOW.out (by decide) hk h))
          have HF3 : Hid (Fr (fun _ => False) w w3) := Lib.hid (HFQ.out.trans (((Fr.refl (fun k => (Value.slice A1 q c1).ownBlock = some k) wq).alloc _).trans hf3 (fun _ _ h => h)) (fun k hk h => by
            have h1 := (HOW.out.lt k h).1
            have := HB.out
            omega))
          have HQ2 : Hid (1 ≤ q + 1 ∧ q + 1 ≤ lo + 1) := Lib.hid ⟨by omega, by have := HQL1.out; have := HQ1.out; omega⟩
          clear ho3 hf3
          go_wp2_with fail
          exact ⟨⟨q + 1, HQ2.out.1, HQ2.out.2, A3, c3, rfl, HO3, HON3, HF3⟩, by have := HQ2.out; simp [lenOfS]; omega⟩
end Go.Proofs.YtedmnkcoflbciaaGreat
