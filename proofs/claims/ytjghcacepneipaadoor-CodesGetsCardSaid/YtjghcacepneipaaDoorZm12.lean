/-
  Plain mathematics of layer 5: the lengths by weights: a code there is (Kraft's sum is whole), 0 just of who has no weight, who weighs more has no longer one, and with little weight nothing is halved.
  The program's Right: whether there is a code of lengths.
-/
import Derived.Test.YtjghcacepneipaaDoorZm11
import Derived.Test.YtjghcacepneipaaDoorZm01
import Derived.Test.YtjghcacepneipaaDoorZm07
namespace Go.Proofs.YtjghcacepneipaaDoor.HuffM

theorem gI_len (W : List Nat) (i : Nat) (hi : i ≤ W.length) : (gI W i).length = cnt (W.take i) := by
  induction i with
  | zero => simp [gI, cnt]
  | succ i ih =>
    have ih := ih (by omega)
    have e : W[i]? = some (W.getD i 0) := by rw [List.getD_eq_getElem?_getD, List.getElem?_eq_getElem (by omega)]; rfl
    rw [gI_step, take_snoc e]
    unfold cnt at ih ⊢
    rw [List.countP_append]
    split
    · rename_i h
      rw [List.length_append, ih, List.countP_singleton]
      simp only [decide_eq_true_eq, h, if_true]
      rfl
    · rename_i h
      rw [ih, List.countP_singleton]
      simp only [decide_eq_true_eq, h, if_false]
      omega
theorem gI_mem (W : List Nat) (i j : Nat) (hj : j < i) (h : 0 < W.getD j 0) : (⟨W.getD j 0, [j]⟩ : Grp) ∈ gI W i := by
  induction i with
  | zero => omega
  | succ i ih =>
    rw [gI_step]
    rcases Nat.lt_succ_iff_lt_or_eq.1 hj with h1 | rfl
    · split
      · exact List.mem_append_left _ (ih h1)
      · exact ih h1
    · rw [if_pos h]; simp
theorem gI_nosy (W : List Nat) (i s : Nat) (h : ¬ 0 < W.getD s 0) : s ∉ sy (gI W i) := by
  intro hs
  obtain ⟨g, hg, hs⟩ := List.mem_flatMap.1 hs
  obtain ⟨h1, j, _, h3, h4⟩ := gI_w W i g hg
  rw [h4] at hs
  simp at hs
  subst hs
  omega
/-- what once tells of each symbol, where two or more have weight -/
structure OnceD (W : List Nat) (L : List (Grp × Nat)) : Prop where
  map : L.map (·.1) = gI W W.length
  dep : Dep L
  at_ : ∀ p ∈ L, ∀ s ∈ p.1.s, oat (onceL W) s = p.2
theorem once_dep {W : List Nat} (h : (gI W W.length).length ≠ 1) : (∃ L, OnceD W L) ∧ ∀ s, ¬ 0 < W.getD s 0 → oat (onceL W) s = 0 := by
  have e : onceL W = mergeF (gI W W.length).length (gI W W.length) (once0 W) := by unfold onceL; simp only [if_neg h]
  obtain ⟨L, h1, h2, h3, h4⟩ := merge_dep (gI W W.length).length (gI W W.length) (once0 W) (by omega) (good0 W)
  refine ⟨⟨L, h1, h2, fun p hp s hs => ?_⟩, fun s hs => ?_⟩
  · rw [e, h3 p hp s hs]
    have := zero_at W.length s
    unfold once0
    omega
  · rw [e, h4 s (gI_nosy W _ s hs)]
    exact zero_at _ _
theorem once_one {W : List Nat} (h : (gI W W.length).length = 1) : ∃ j, j < W.length ∧ 0 < W.getD j 0 ∧ (∀ s, 0 < W.getD s 0 → s = j) ∧ ∀ s, oat (onceL W) s = if s = j then 1 else 0 := by
  obtain ⟨g, hg⟩ : ∃ g, gI W W.length = [g] := by
    cases hl : gI W W.length with
    | nil => rw [hl] at h; simp at h
    | cons g l =>
      cases l with
      | nil => exact ⟨g, rfl⟩
      | cons _ _ => rw [hl] at h; simp at h
  obtain ⟨h1, j, h2, h3, h4⟩ := gI_w W W.length g (by rw [hg]; simp)
  refine ⟨j, h2, by omega, fun s hs => ?_, fun s => ?_⟩
  · have hs1 : s < W.length := by
      rcases Nat.lt_or_ge s W.length with h | h
      · exact h
      · rw [List.getD_eq_getElem?_getD, List.getElem?_eq_none h] at hs; simp at hs
    have := gI_mem W W.length s hs1 hs
    rw [hg] at this
    simp at this
    rw [← this] at h4
    simpa using h4
  · unfold onceL
    simp only [h, if_true]
    rw [merge_one _ _ _ (by omega), hg]
    have e : ((gat [g] 0).s.getD 0 0) = j := by unfold gat; simp [h4]
    rw [e]
    unfold oat
    rw [List.getD_eq_getElem?_getD, List.getElem?_set]
    unfold once0
    by_cases hsj : j = s
    · subst hsj
      simp [h2]
    · rw [if_neg hsj, if_neg (fun h => hsj h.symm), ← List.getD_eq_getElem?_getD]
      exact zero_at _ _
theorem once_zero (W : List Nat) (s : Nat) : oat (onceL W) s = 0 ↔ ¬ 0 < W.getD s 0 := by
  by_cases h : (gI W W.length).length = 1
  · obtain ⟨j, h1, h2, h3, h4⟩ := once_one h
    rw [h4]
    constructor
    · intro h5 h6
      rw [if_pos (h3 s h6)] at h5
      omega
    · intro h5
      rw [if_neg]
      rintro rfl
      exact h5 h2
  · obtain ⟨⟨L, hL⟩, h0⟩ := once_dep h
    refine ⟨fun h5 h6 => ?_, h0 s⟩
    have hs1 : s < W.length := by
      rcases Nat.lt_or_ge s W.length with h | h
      · exact h
      · rw [List.getD_eq_getElem?_getD, List.getElem?_eq_none h] at h6; simp at h6
    have hm := gI_mem W W.length s hs1 h6
    rw [← hL.map] at hm
    obtain ⟨p, hp, hpe⟩ := List.mem_map.1 hm
    have hlen : 2 ≤ L.length := by
      have h7 := List.length_pos_of_mem hp
      have h8 : L.length = (gI W W.length).length := by rw [← hL.map, List.length_map]
      omega
    have h7 := hL.dep.deep hlen p hp
    have h8 := hL.at_ p hp s (by rw [hpe]; simp)
    omega
theorem once_mono {W : List Nat} {i k : Nat} (hk : 0 < W.getD k 0) (h : W.getD k 0 < W.getD i 0) : oat (onceL W) i ≤ oat (onceL W) k := by
  have lt : ∀ {s : Nat}, 0 < W.getD s 0 → s < W.length := fun {s} h6 => by
    rcases Nat.lt_or_ge s W.length with h | h
    · exact h
    · rw [List.getD_eq_getElem?_getD, List.getElem?_eq_none h] at h6; simp at h6
  by_cases h1 : (gI W W.length).length = 1
  · obtain ⟨j, _, _, h3, _⟩ := once_one h1
    have e1 := h3 i (by omega)
    have e2 := h3 k hk
    subst e1
    subst e2
    omega
  · obtain ⟨⟨L, hL⟩, _⟩ := once_dep h1
    have hmi := gI_mem W W.length i (lt (by omega)) (by omega)
    have hmk := gI_mem W W.length k (lt hk) hk
    rw [← hL.map] at hmi hmk
    obtain ⟨p, hp, hpe⟩ := List.mem_map.1 hmi
    obtain ⟨q, hq, hqe⟩ := List.mem_map.1 hmk
    have h2 := hL.dep.mono hp hq (by rw [hpe, hqe]; exact h)
    rw [hL.at_ p hp i (by rw [hpe]; simp), hL.at_ q hq k (by rw [hqe]; simp)]
    exact h2
theorem fits_of {most : Nat} {o : List Nat} (h : ∀ s, oat o s ≤ most) : fits most o = true := by
  unfold fits
  rw [List.all_eq_true]
  intro x hx
  obtain ⟨i, hi, rfl⟩ := List.getElem_of_mem hx
  have := h i
  unfold oat at this
  rw [List.getD_eq_getElem?_getD, List.getElem?_eq_getElem hi] at this
  simpa using this
theorem fits_at {most : Nat} {o : List Nat} (h : fits most o = true) (s : Nat) : oat o s ≤ most := by
  unfold fits at h
  rw [List.all_eq_true] at h
  unfold oat
  rw [List.getD_eq_getElem?_getD]
  cases hs : o[s]? with
  | none => simp
  | some x => simpa using h x (List.mem_of_getElem? hs)
/-- with little weight no length is above 15 -/
theorem once_small {W : List Nat} (h : W.sum < 2584) : fits 15 (onceL W) = true := by
  refine fits_of fun s => ?_
  by_cases h1 : (gI W W.length).length = 1
  · obtain ⟨j, _, _, _, h4⟩ := once_one h1
    rw [h4]
    split <;> omega
  · obtain ⟨⟨L, hL⟩, h0⟩ := once_dep h1
    by_cases h6 : 0 < W.getD s 0
    · have hs1 : s < W.length := by
        rcases Nat.lt_or_ge s W.length with h | h
        · exact h
        · rw [List.getD_eq_getElem?_getD, List.getElem?_eq_none h] at h6; simp at h6
      have hm := gI_mem W W.length s hs1 h6
      rw [← hL.map] at hm
      obtain ⟨p, hp, hpe⟩ := List.mem_map.1 hm
      rw [hL.at_ p hp s (by rw [hpe]; simp)]
      refine hL.dep.small (fun q hq => ?_) ?_ p hp
      · have := List.mem_map_of_mem (f := (·.1)) hq
        rw [hL.map] at this
        exact (gI_w W _ _ this).1
      · have e : wsum L = sumW (gI W W.length) := by
          rw [← hL.map]
          unfold wsum sumW
          rw [List.map_map]
          rfl
        rw [e, gI_sum W _ (Nat.le_refl _), List.take_length]
        exact h
    · rw [h0 s h6]; omega
/-- the parts, symbol by symbol -/
theorem part_sum (W : List Nat) (o : List Nat) (ho : o.length = W.length) (hz : ∀ s, oat o s = 0 ↔ ¬ 0 < W.getD s 0) (h15 : ∀ s, oat o s ≤ 15) (i : Nat) (hi : i ≤ W.length) :
    rsum ((o.take i).map fun x : Nat => (x : Int)) = ((gI W i).map fun g => 2 ^ (15 - oat o (g.s.getD 0 0))).sum := by
  induction i with
  | zero => simp [gI, rsum]
  | succ i ih =>
    have ih := ih (by omega)
    have e : o[i]? = some (oat o i) := by unfold oat; rw [List.getD_eq_getElem?_getD, List.getElem?_eq_getElem (by omega)]; rfl
    rw [gI_step, take_snoc e, List.map_append, List.map_singleton, rsum_snoc, ih]
    have hzi := hz i
    have h1 := h15 i
    split
    · rename_i h
      rw [List.map_append, List.sum_append]
      congr 1
      have hpos : 0 < oat o i := by omega
      unfold kr
      rw [if_pos (by omega)]
      simp only [List.map_cons, List.map_nil, List.sum_cons, List.sum_nil, List.getD_cons_zero, Int.toNat_natCast, Nat.add_zero]
      rw [show (32768 : Nat) = 2 ^ 15 from rfl, Nat.pow_div h1 (by omega)]
    · rename_i h
      have : oat o i = 0 := hzi.2 h
      rw [this]
      rfl
theorem many_once (W : List Nat) (o : List Nat) (ho : o.length = W.length) (hz : ∀ s, oat o s = 0 ↔ ¬ 0 < W.getD s 0) (i : Nat) (hi : i ≤ W.length) :
    many ((o.take i).map fun x : Nat => (x : Int)) = (gI W i).length := by
  induction i with
  | zero => simp [gI, many]
  | succ i ih =>
    have ih := ih (by omega)
    have e : o[i]? = some (oat o i) := by unfold oat; rw [List.getD_eq_getElem?_getD, List.getElem?_eq_getElem (by omega)]; rfl
    rw [gI_step, take_snoc e, List.map_append, List.map_singleton, many_snoc, ih]
    have hzi := hz i
    split
    · rename_i h
      rw [if_pos (by omega), List.length_append]; rfl
    · rename_i h
      rw [if_neg (by omega)]; rfl
theorem ones_one (o : List Nat) (j : Nat) (hj : j < o.length) (h : ∀ s, oat o s = if s = j then 1 else 0) (i : Nat) (hi : i ≤ o.length) :
    ones ((o.take i).map fun x : Nat => (x : Int)) = if j < i then 1 else 0 := by
  induction i with
  | zero => simp [ones]
  | succ i ih =>
    have ih := ih (by omega)
    have e : o[i]? = some (oat o i) := by unfold oat; rw [List.getD_eq_getElem?_getD, List.getElem?_eq_getElem (by omega)]; rfl
    rw [take_snoc e, List.map_append, List.map_singleton, ones_snoc, ih, h i]
    by_cases h1 : i = j
    · subst h1
      simp
    · by_cases h2 : j < i
      · have h3 : j < i + 1 := by omega
        simp [h1, h2, h3]
      · have h3 : ¬ j < i + 1 := by omega
        simp [h1, h2, h3]
/-- there is a code of the lengths -/
theorem once_right {W : List Nat} (h : fits 15 (onceL W) = true) (hs : ∃ s, 0 < W.getD s 0) : rightB ((onceL W).map fun x : Nat => (x : Int)) = true := by
  have h15 := fits_at h
  have hl := onceL_len W
  have hz := once_zero W
  unfold rightB
  rw [Bool.and_eq_true]
  constructor
  · rw [List.all_eq_true]
    intro x hx
    obtain ⟨n, hn, rfl⟩ := List.mem_map.1 hx
    unfold fits at h
    rw [List.all_eq_true] at h
    have := h n hn
    simp at this
    unfold inR
    simp
    omega
  · rw [Bool.or_eq_true]
    by_cases h1 : (gI W W.length).length = 1
    · right
      obtain ⟨j, h2, _, _, h4⟩ := once_one h1
      have e1 := many_once W (onceL W) hl hz W.length (Nat.le_refl _)
      have e2 := ones_one (onceL W) j (by omega) h4 W.length (by omega)
      rw [← hl, List.take_length] at e1
      rw [← hl, List.take_length] at e2
      rw [if_pos (by omega)] at e2
      rw [hl, h1] at e1
      rw [e1, e2]
      rfl
    · left
      obtain ⟨⟨L, hL⟩, _⟩ := once_dep h1
      have e := part_sum W (onceL W) hl hz h15 W.length (Nat.le_refl _)
      rw [← hl, List.take_length, hl] at e
      have hd : ∀ p ∈ L, oat (onceL W) (p.1.s.getD 0 0) = p.2 := by
        intro p hp
        have h5 := List.mem_map_of_mem (f := (·.1)) hp
        rw [hL.map] at h5
        obtain ⟨_, j, _, _, h6⟩ := gI_w W _ _ h5
        have h6 : p.1.s = [j] := h6
        have h7 := hL.at_ p hp j (by rw [h6]; simp)
        rw [h6]
        exact h7
      have hk := hL.dep.kraft 15 (by
        rintro rfl
        obtain ⟨s, hs⟩ := hs
        have hs1 : s < W.length := by
          rcases Nat.lt_or_ge s W.length with h | h
          · exact h
          · rw [List.getD_eq_getElem?_getD, List.getElem?_eq_none h] at hs; simp at hs
        have hm := gI_mem W W.length s hs1 hs
        rw [← hL.map] at hm
        simp at hm) (fun p hp => by rw [← hd p hp]; exact h15 _)
      have e3 : ((gI W W.length).map fun g => 2 ^ (15 - oat (onceL W) (g.s.getD 0 0))).sum = ksum 15 L := by
        rw [← hL.map, List.map_map]
        unfold ksum
        congr 1
        apply List.map_congr_left
        intro p hp
        simp only [Function.comp_def]
        rw [hd p hp]
      rw [e, e3, hk]
      rfl
theorem half_pos (W : List Nat) (s : Nat) : 0 < (half W).getD s 0 ↔ 0 < W.getD s 0 := by
  unfold half
  rw [List.getD_eq_getElem?_getD, List.getD_eq_getElem?_getD, List.getElem?_map]
  cases W[s]? with
  | none => simp
  | some x => simp; omega
/-- what the lengths by weights are: those of once, of weights that are 0 at the same places -/
theorem lens_is {most : Nat} (hm : 1 ≤ most) : ∀ (n : Nat) (W : List Nat), W.sum ≤ n → cnt W ≤ 2 ^ most → ∃ W', W'.length = W.length ∧ (∀ s, 0 < W'.getD s 0 ↔ 0 < W.getD s 0) ∧ lens most W = onceL W' ∧ fits most (onceL W') = true := by
  intro n
  induction n with
  | zero =>
    intro W hn hc
    cases h : fits most (onceL W) with
    | true => exact ⟨W, rfl, fun _ => Iff.rfl, lens_yes h, h⟩
    | false => have := (lens_no hm hc h).2; omega
  | succ n ih =>
    intro W hn hc
    cases h : fits most (onceL W) with
    | true => exact ⟨W, rfl, fun _ => Iff.rfl, lens_yes h, h⟩
    | false =>
      obtain ⟨h1, h2⟩ := lens_no hm hc h
      obtain ⟨W', h3, h4, h5, h6⟩ := ih (half W) (by omega) (by rw [cnt_half]; exact hc)
      exact ⟨W', by rw [h3, half_len], fun s => by rw [h4, half_pos], by rw [h1, h5], h6⟩
/-- 5.1, 5.4 in plain words -/
theorem lens_short {most : Nat} {W : List Nat} (hm : 1 ≤ most) (hm2 : most ≤ 15) (hc : cnt W ≤ 2 ^ most) :
    (lens most W).length = W.length ∧ (∀ s, oat (lens most W) s ≤ most) ∧ (∀ s, oat (lens most W) s = 0 ↔ ¬ 0 < W.getD s 0) ∧
    ((∃ s, 0 < W.getD s 0) → rightB ((lens most W).map fun x : Nat => (x : Int)) = true) := by
  obtain ⟨W', h1, h2, h3, h4⟩ := lens_is hm W.sum W (Nat.le_refl _) hc
  refine ⟨lens_len most W, fun s => ?_, fun s => ?_, fun ⟨s, hs⟩ => ?_⟩
  · rw [h3]; exact fits_at h4 s
  · rw [h3, once_zero, h2]
  · rw [h3]
    exact once_right (fits_of fun s => by have := fits_at h4 s; omega) ⟨s, (h2 s).2 hs⟩
/-- with little weight, and where 15 bits' longest is within the most: nothing is halved -/
theorem lens_free {most : Nat} {W : List Nat} (hs : W.sum < 2000) (hl : ∀ s, oat (lens 15 W) s ≤ most) :
    lens most W = lens 15 W ∧ ∀ i k, 0 < W.getD k 0 → W.getD k 0 < W.getD i 0 → oat (lens most W) i ≤ oat (lens most W) k := by
  have h1 : lens 15 W = onceL W := lens_yes (once_small (by omega))
  rw [h1] at hl
  have h2 : lens most W = onceL W := lens_yes (fits_of hl)
  rw [h1, h2]
  exact ⟨rfl, fun i k hk h => once_mono hk h⟩
end Go.Proofs.YtjghcacepneipaaDoor.HuffM
namespace Go.Proofs.YtjghcacepneipaaDoor
open Go.RowKit HuffM Mem Go.Lib

namespace HuffM
theorem many_zero {L : List Int} (h : many L = 0) : rsum L = 0 ∧ ones L = 0 := by
  induction L with
  | nil => exact ⟨rfl, rfl⟩
  | cons x L ih =>
    unfold many at h
    rw [List.countP_cons] at h
    have hx : ¬ 0 < x := by
      intro hx
      rw [if_pos (by simpa using hx)] at h
      omega
    have h' : many L = 0 := by unfold many; omega
    obtain ⟨h1, h2⟩ := ih h'
    constructor
    · show kr x + rsum L = 0
      rw [h1, kr, if_neg hx]
    · unfold ones at h2 ⊢
      rw [List.countP_cons, h2, if_neg (by simp; omega)]
theorem many_one {L : List Int} (hL : L.all inR = true) (h : many L = 1) : ∃ x : Int, 0 < x ∧ x ≤ 15 ∧ rsum L = kr x ∧ ones L = if x = 1 then 1 else 0 := by
  induction L with
  | nil => simp [many] at h
  | cons x L ih =>
    rw [List.all_cons, Bool.and_eq_true] at hL
    have hxr : 0 ≤ x ∧ x ≤ 15 := by simpa [inR] using hL.1
    unfold many at h
    rw [List.countP_cons] at h
    by_cases hx : 0 < x
    · rw [if_pos (by simpa using hx)] at h
      obtain ⟨h1, h2⟩ := many_zero (L := L) (by unfold many; omega)
      refine ⟨x, hx, hxr.2, ?_, ?_⟩
      · show kr x + rsum L = kr x
        rw [h1, Nat.add_zero]
      · unfold ones at h2 ⊢
        rw [List.countP_cons, h2]
        by_cases h1 : x = 1
        · rw [if_pos (by simpa using h1), if_pos h1]
        · rw [if_neg (by simpa using h1), if_neg h1]
    · rw [if_neg (by simpa using hx)] at h
      obtain ⟨y, h1, h2, h3, h4⟩ := ih hL.2 (by unfold many; omega)
      refine ⟨y, h1, h2, ?_, ?_⟩
      · show kr x + rsum L = kr y
        rw [h3, show kr x = 0 from by rw [kr, if_neg hx], Nat.zero_add]
      · rw [← h4]
        unfold ones
        rw [List.countP_cons, if_neg (by simp; omega), Nat.add_zero]
theorem right_sum {L : List Int} (hL : L.all inR = true) : rightB L = (rsum L == 32768 || (many L == 1 && rsum L == 16384)) := by
  unfold rightB
  rw [hL, Bool.true_and]
  congr 1
  by_cases h : many L = 1
  · obtain ⟨x, h1, h2, h3, h4⟩ := many_one hL h
    rw [h3, h4]
    congr 1
    obtain ⟨n, rfl⟩ := Int.eq_ofNat_of_zero_le (show 0 ≤ x by omega)
    have hn : n = 1 ∨ n = 2 ∨ n = 3 ∨ n = 4 ∨ n = 5 ∨ n = 6 ∨ n = 7 ∨ n = 8 ∨ n = 9 ∨ n = 10 ∨ n = 11 ∨ n = 12 ∨ n = 13 ∨ n = 14 ∨ n = 15 := by omega
    rcases hn with h | h | h | h | h | h | h | h | h | h | h | h | h | h | h <;> subst h <;> decide
  · rw [show (many L == 1) = false by simpa using h, Bool.false_and, Bool.false_and]
end HuffM

set_option maxRecDepth 100000 in
set_option maxHeartbeats 1600000 in
theorem pRight_any (A : Option Addr) (n c : Nat) (L : List Int) (w : World) (hr : Rd w A n (L.map intc)) (hn : n ≤ 1000) :
    Calls Tryd.prog 65 #[.slice A n c] w fun e w' => e = .returned (.bool (rightB L)) ∧ w = w' := by
  have hln : L.length = n := by simpa using hr.1
  have HR := Lib.hid hr
  have HLN := Lib.hid hln
  clear hr hln
  go_enter Tryd.func65, Tryd.ntmps65
  go_wp2
  go_loop [3, 4, 9] (fun b a i => ∃ k s m : Nat, k ≤ n ∧ i = .int .i64 (k : Int) ∧ a = .int .i64 (s : Int) ∧ b = .int .i64 (m : Int) ∧ s ≤ 32768 * k ∧ m ≤ k ∧
    Hid (s = rsum (L.take k)) ∧ Hid (m = many (L.take k)) ∧ Hid ((L.take k).all inR = true)) (fun _ _ i => n - (intOf i).toNat)
  case atStart => exact ⟨0, 0, 0, by omega, rfl, rfl, rfl, by omega, by omega, rfl, rfl, rfl⟩
  case round =>
    obtain ⟨k, s, m, hk, rfl, rfl, rfl, hs, hm, Hs, Hm, Ha⟩ := hrel
    by_cases hlt : k < n
    · obtain ⟨ad, u, rfl, hu, hcell⟩ := HR.out.at_ hlt
      obtain ⟨x, hx⟩ : ∃ x, L[k]? = some x := ⟨_, List.getElem?_eq_getElem (by have := HLN.out; omega)⟩
      obtain rfl : intc x = u := by simpa [hx] using hu
      unfold intc at hcell
      have HX := Lib.hid hx
      clear hu hx
      rcases (show x < 0 ∨ 15 < x ∨ x = 0 ∨ (1 ≤ x ∧ x ≤ 15) by omega) with h | h | h | ⟨h, h'⟩
      · have hno : rightB L = false := not_right HX.out (by simp [inR]; omega)
        have HNO := Lib.hid hno
        clear hno
        go_wp2
        go_ret
        rw [HNO.out]
        exact ⟨rfl, rfl⟩
      · have hno : rightB L = false := not_right HX.out (by simp [inR]; omega)
        have HNO := Lib.hid hno
        have t : ¬ x < 0 := by omega
        clear hno
        go_wp2
        go_ret
        rw [HNO.out]
        exact ⟨rfl, rfl⟩
      · subst h
        have h1 := take_snoc HX.out
        have e1 : s = rsum (L.take (k + 1)) := by rw [h1, rsum_snoc, ← Hs.out, kr_zero]; rfl
        have e2 : m = many (L.take (k + 1)) := by rw [h1, many_snoc, ← Hm.out]; rfl
        have e4 : (L.take (k + 1)).all inR = true := by rw [h1, all_snoc, Ha.out]; rfl
        have E := Lib.hid (And.intro e1 (And.intro e2 e4))
        clear h1 e1 e2 e4
        go_wp2
        go_round
        case rel => exact ⟨k + 1, s, m, by omega, by go_num, rfl, rfl, by omega, by omega, E.out.1, E.out.2.1, E.out.2.2⟩
        case measure => simp [intOf] <;> omega
      · have h1 := take_snoc HX.out
        obtain ⟨q, hq⟩ : ∃ q, q = kr x := ⟨_, rfl⟩
        have hq1 : q ≤ 32768 := by rw [hq]; exact kr_le x
        have e1 : s + q = rsum (L.take (k + 1)) := by rw [h1, rsum_snoc, ← Hs.out, hq]
        have e2 : m + 1 = many (L.take (k + 1)) := by rw [h1, many_snoc, ← Hm.out, if_pos (by omega)]
        have e4 : (L.take (k + 1)).all inR = true := by rw [h1, all_snoc, Ha.out]; simp [inR]; omega
        have E := Lib.hid (And.intro e1 (And.intro e2 e4))
        have hsh : (32768 : Int) / 2 ^ x.toNat = (q : Int) := by
          rw [hq, kr, if_pos (by omega)]
          simp
        clear h1 e1 e2 e4 hq
        go_wp2
        go_round
        case rel => exact ⟨k + 1, s + q, m + 1, by omega, by go_num, by go_num, by go_num, by omega, by omega, E.out.1, E.out.2.1, E.out.2.2⟩
        case measure => simp [intOf] <;> omega
    · obtain rfl : k = n := by omega
      have hres : rightB L = (s == 32768 || (m == 1 && s == 16384)) := by
        have e : L.take k = L := List.take_of_length_le (by have := HLN.out; omega)
        have h := Ha.out
        rw [e] at h
        rw [right_sum h, Hs.out, Hm.out, e]
      have HRES := Lib.hid hres
      clear hres
      have fin : ∀ (v : Bool), (s == 32768 || (m == 1 && s == 16384)) = v → rightB L = v := fun v h => HRES.out.trans h
      have FIN := Lib.hid fin
      clear fin
      by_cases c1 : s = 32768
      · have t1 : ((s : Int) == 32768) = true := by simp; omega
        have hv := FIN.out true (by simp [c1])
        have HV := Lib.hid hv
        clear c1 hv
        go_wp2
        go_ret
        rw [HV.out]
        exact ⟨rfl, rfl⟩
      · have t1 : ((s : Int) == 32768) = false := by simp; omega
        by_cases c2 : m = 1
        · have t2 : ((m : Int) == 1) = true := by simp; omega
          by_cases c3 : s = 16384
          · have t3 : ((s : Int) == 16384) = true := by simp; omega
            have hv := FIN.out true (by simp [c2, c3])
            have HV := Lib.hid hv
            clear c1 c2 c3 hv
            go_wp2
            go_ret
            rw [HV.out]
            exact ⟨rfl, rfl⟩
          · have t3 : ((s : Int) == 16384) = false := by simp; omega
            have hv := FIN.out false (by simp [c1, c3])
            have HV := Lib.hid hv
            clear c1 c2 c3 hv
            go_wp2
            go_ret
            rw [HV.out]
            exact ⟨rfl, rfl⟩
        · have t2 : ((m : Int) == 1) = false := by simp; omega
          have hv := FIN.out false (by simp [c1, c2])
          have HV := Lib.hid hv
          clear c1 c2 hv
          go_wp2
          go_ret
          rw [HV.out]
          exact ⟨rfl, rfl⟩
end Go.Proofs.YtjghcacepneipaaDoor
