/-
  Plain mathematics of layer 5's lengths: the reference's joins make depths (XHuffP), in the groups' own row.
  Plain mathematics of layer 5: the lengths by weights: a code there is (Kraft's sum is whole), 0 just of who has no weight, who weighs more has no longer one, and with little weight nothing is halved.
  Layer 8, plain: lengths that give a code for the items; how many bits are put at most.
  Layer 6, plain: tokens, whether one may stand, what tokens tell, how long bytes are the same, the best distance, pressing.
  Layer 7, plain: the tables of lengths and distances, the symbol of a number, how often symbols are met.
  Layer 7, plain: symbols and what follows them: bounds, back, and rising.
  Layer 9, plain: the bits of tokens; the three ways; the shortest.
-/
import Derived.Test.YtahfmcdhcbfkaaaGreatDoorZm00
import Derived.WalkKit
namespace Go.Proofs.YtahfmcdhcbfkaaaGreatDoor.HuffM

theorem aI_first (l : List Grp) (i : Nat) : ∀ j, j < aI l i → wt l (aI l i) < wt l j := by
  induction i with
  | zero => intro j hj; simp [aI] at hj
  | succ i ih =>
    intro j hj
    rw [aI] at hj ⊢
    split
    · rename_i h
      rw [if_pos h] at hj
      have := aI_le l i j hj
      omega
    · rename_i h
      rw [if_neg h] at hj
      exact ih j hj
theorem bI_first {l : List Grp} {a i b : Nat} (h : bI l a i = some b) : ∀ j, j < b → j ≠ a → wt l b < wt l j := by
  induction i generalizing b with
  | zero => cases h
  | succ i ih =>
    rw [bI] at h
    cases hb : bI l a i with
    | none =>
      rw [hb] at h
      simp only at h
      split at h
      · injection h with h
        subst h
        intro j hj hja
        exact absurd (bI_none hb j hj) hja
      · cases h
    | some b' =>
      rw [hb] at h
      simp only at h
      split at h
      · rename_i hc
        injection h with h
        subst h
        intro j hj hja
        have := (bI_some hb).2.2 j hj hja
        omega
      · injection h with h
        subst h
        exact ih hb
theorem rI_run (l : List Grp) (a b : Nat) (i k : Nat) (hk : i + k ≤ l.length) (hn : ∀ j, i ≤ j → j < i + k → j ≠ a ∧ j ≠ b) : rI l a b (i + k) = rI l a b i ++ (l.drop i).take k := by
  induction k with
  | zero => simp
  | succ k ih =>
    rw [show i + (k + 1) = (i + k) + 1 by omega, rI, if_pos (hn (i + k) (by omega) (by omega)), ih (by omega) (fun j h1 h2 => hn j h1 (by omega)), List.append_assoc]
    congr 1
    have e : (l.drop i)[k]? = some (gat l (i + k)) := by
      rw [List.getElem?_drop, List.getElem?_eq_getElem (by omega)]
      unfold gat
      rw [List.getD_eq_getElem?_getD, List.getElem?_eq_getElem (by omega)]
      rfl
    exact (take_snoc e).symm
theorem rI_skip (l : List Grp) (a b i : Nat) (h : i = a ∨ i = b) : rI l a b (i + 1) = rI l a b i := by
  rw [rI, if_neg (fun h' => by rcases h with h | h; exact h'.1 h; exact h'.2 h)]
theorem cut3 (l : List Grp) (i j : Nat) (hij : i < j) (hj : j < l.length) : l = l.take i ++ gat l i :: ((l.drop (i + 1)).take (j - i - 1) ++ gat l j :: l.drop (j + 1)) := by
  have e1 : l.drop i = gat l i :: l.drop (i + 1) := by
    rw [List.drop_eq_getElem_cons (by omega)]
    unfold gat
    rw [List.getD_eq_getElem?_getD, List.getElem?_eq_getElem (by omega)]
    rfl
  have e2 : l.drop j = gat l j :: l.drop (j + 1) := by
    rw [List.drop_eq_getElem_cons (by omega)]
    unfold gat
    rw [List.getD_eq_getElem?_getD, List.getElem?_eq_getElem (by omega)]
    rfl
  have e3 : l.drop (i + 1) = (l.drop (i + 1)).take (j - i - 1) ++ l.drop j := by
    conv => lhs; rw [← List.take_append_drop (j - i - 1) (l.drop (i + 1))]
    rw [List.drop_drop, show i + 1 + (j - i - 1) = j by omega]
  conv => lhs; rw [← List.take_append_drop i l, e1, e3, e2]
theorem rI_cut (l : List Grp) (a b i j : Nat) (hij : i < j) (hj : j < l.length) (h : i = a ∧ j = b ∨ i = b ∧ j = a) :
    rI l a b l.length = l.take i ++ ((l.drop (i + 1)).take (j - i - 1) ++ l.drop (j + 1)) := by
  have h1 := rI_run l a b 0 i (by omega) (fun k _ h2 => by omega)
  have h2 := rI_skip l a b i (by omega)
  have h3 := rI_run l a b (i + 1) (j - i - 1) (by omega) (fun k _ h2 => by omega)
  have h4 := rI_skip l a b j (by omega)
  have h5 := rI_run l a b (j + 1) (l.length - (j + 1)) (by omega) (fun k _ h2 => by omega)
  rw [show j + 1 + (l.length - (j + 1)) = l.length by omega] at h5
  rw [show i + 1 + (j - i - 1) = j by omega] at h3
  rw [Nat.zero_add] at h1
  rw [h5, h4, h3, h2, h1]
  have e : (l.drop (j + 1)).take (l.length - (j + 1)) = l.drop (j + 1) := List.take_of_length_le (by rw [List.length_drop]; omega)
  rw [e]
  simp [rI]
theorem in_take {l : List Grp} {i : Nat} {z : Grp} (h : z ∈ l.take i) : ∃ j, j < i ∧ j < l.length ∧ z = gat l j := by
  obtain ⟨k, hk, rfl⟩ := List.getElem_of_mem h
  rw [List.length_take] at hk
  refine ⟨k, by omega, by omega, ?_⟩
  unfold gat
  rw [List.getElem_take, List.getD_eq_getElem?_getD, List.getElem?_eq_getElem (by omega)]
  rfl
theorem in_drop {l : List Grp} {i : Nat} {z : Grp} (h : z ∈ l.drop i) : ∃ j, i ≤ j ∧ j < l.length ∧ z = gat l j := by
  obtain ⟨k, hk, rfl⟩ := List.getElem_of_mem h
  rw [List.length_drop] at hk
  refine ⟨i + k, by omega, by omega, ?_⟩
  unfold gat
  rw [List.getElem_drop, List.getD_eq_getElem?_getD, List.getElem?_eq_getElem (by omega)]
  rfl
theorem in_mid {l : List Grp} {i k : Nat} {z : Grp} (h : z ∈ (l.drop i).take k) : ∃ j, i ≤ j ∧ j < i + k ∧ j < l.length ∧ z = gat l j := by
  obtain ⟨q, hq, rfl⟩ := List.getElem_of_mem h
  rw [List.length_take, List.length_drop] at hq
  refine ⟨i + q, by omega, by omega, by omega, ?_⟩
  unfold gat
  rw [List.getElem_take, List.getElem_drop, List.getD_eq_getElem?_getD, List.getElem?_eq_getElem (by omega)]
  rfl
/-- what a join takes, and what it leaves, in their row -/
theorem join_row {l : List Grp} (h : 2 ≤ l.length) : ∃ A B C E x y, l = A ++ x :: B ∧ A ++ B = C ++ y :: E ∧ joinG l = C ++ E ++ [⟨x.w + y.w, x.s ++ y.s⟩] ∧ grp l = ⟨x.w + y.w, x.s ++ y.s⟩ ∧
    (∀ z ∈ A, x.w < z.w) ∧ (∀ z ∈ B, x.w ≤ z.w) ∧ (∀ z ∈ C, y.w < z.w) ∧ (∀ z ∈ E, y.w ≤ z.w) := by
  obtain ⟨h1, h2, h3, h4, h5⟩ := pick h
  have ha : ∀ j, j < l.length → wt l (pa l) ≤ wt l j := aI_le l l.length
  have ha' : ∀ j, j < pa l → wt l (pa l) < wt l j := aI_first l l.length
  have hb' : ∀ j, j < pb l → j ≠ pa l → wt l (pb l) < wt l j := by
    cases hb : bI l (pa l) l.length with
    | none =>
      have h0 := bI_none hb 0 (by omega)
      have h1 := bI_none hb 1 (by omega)
      omega
    | some b =>
      have e : pb l = b := by unfold pb; rw [hb]; rfl
      rw [e]
      exact bI_first hb
  obtain ⟨a, hea⟩ : ∃ a, a = pa l := ⟨_, rfl⟩
  obtain ⟨b, heb⟩ : ∃ b, b = pb l := ⟨_, rfl⟩
  have hg : grp l = ⟨(gat l a).w + (gat l b).w, (gat l a).s ++ (gat l b).s⟩ := by rw [hea, heb]; rfl
  have hj : joinG l = rI l a b l.length ++ [grp l] := by rw [hea, heb]; rfl
  rw [← hea, ← heb] at h3
  rw [← hea] at h1 ha ha'
  rw [← heb] at h2
  rw [← hea, ← heb] at h5 hb'
  clear h4 hea heb
  rcases Nat.lt_or_ge a b with hab | hab
  · have hc := cut3 l a b hab h2
    have hr := rI_cut l a b a b hab h2 (Or.inl ⟨rfl, rfl⟩)
    refine ⟨l.take a, (l.drop (a + 1)).take (b - a - 1) ++ gat l b :: l.drop (b + 1), l.take a ++ (l.drop (a + 1)).take (b - a - 1), l.drop (b + 1), gat l a, gat l b, hc, by simp, ?_, hg, ?_, ?_, ?_, ?_⟩
    · rw [hj, hr, hg]; simp
    · intro z hz
      obtain ⟨j, hj1, _, rfl⟩ := in_take hz
      exact ha' j hj1
    · intro z hz
      have hz : z ∈ l := by rw [hc]; simp only [List.mem_append, List.mem_cons] at hz ⊢; exact Or.inr (Or.inr hz)
      obtain ⟨j, _, hj2, rfl⟩ := in_drop (i := 0) (by simpa using hz)
      exact ha j hj2
    · intro z hz
      rcases List.mem_append.1 hz with hz | hz
      · obtain ⟨j, hj1, _, rfl⟩ := in_take hz
        exact hb' j (by omega) (by omega)
      · obtain ⟨j, hj1, hj2, _, rfl⟩ := in_mid hz
        exact hb' j (by omega) (by omega)
    · intro z hz
      obtain ⟨j, hj1, hj2, rfl⟩ := in_drop hz
      exact h5 j hj2 (by omega)
  · have hba : b < a := by omega
    have hc := cut3 l b a hba h1
    have hr := rI_cut l a b b a hba h1 (Or.inr ⟨rfl, rfl⟩)
    refine ⟨l.take b ++ gat l b :: (l.drop (b + 1)).take (a - b - 1), l.drop (a + 1), l.take b, (l.drop (b + 1)).take (a - b - 1) ++ l.drop (a + 1), gat l a, gat l b, by rw [List.append_assoc]; exact hc, by simp, ?_, hg, ?_, ?_, ?_, ?_⟩
    · rw [hj, hr, hg]
    · intro z hz
      rcases List.mem_append.1 hz with hz | hz
      · obtain ⟨j, hj1, _, rfl⟩ := in_take hz
        exact ha' j (by omega)
      · rcases List.mem_cons.1 hz with rfl | hz
        · exact ha' b hba
        · obtain ⟨j, hj1, hj2, _, rfl⟩ := in_mid hz
          exact ha' j (by omega)
    · intro z hz
      obtain ⟨j, hj1, hj2, rfl⟩ := in_drop hz
      exact ha j hj2
    · intro z hz
      obtain ⟨j, hj1, _, rfl⟩ := in_take hz
      exact hb' j hj1 (by omega)
    · intro z hz
      rcases List.mem_append.1 hz with hz | hz
      · obtain ⟨j, hj1, hj2, hj3, rfl⟩ := in_mid hz
        exact h5 j hj3 (by omega)
      · obtain ⟨j, hj1, hj2, rfl⟩ := in_drop hz
        exact h5 j hj2 (by omega)
theorem map_split {L : List (Grp × Nat)} {P S : List Grp} (h : L.map (·.1) = P ++ S) : ∃ P' S', L = P' ++ S' ∧ P'.map (·.1) = P ∧ S'.map (·.1) = S := by
  obtain ⟨P', S', h1, h2, h3⟩ := List.map_eq_append_iff.1 h
  exact ⟨P', S', h1, h2, h3⟩
theorem all_map {L : List (Grp × Nat)} {P : Grp → Prop} (h : ∀ z ∈ L.map (·.1), P z) : ∀ z ∈ L, P z.1 := fun z hz => h z.1 (List.mem_map_of_mem hz)
/-- the depths of a row of groups: the lengths that their symbols still get -/
theorem merge_dep (f : Nat) : ∀ (l : List Grp) (o : List Nat), l.length ≤ f + 1 → Good l o →
    ∃ L : List (Grp × Nat), L.map (·.1) = l ∧ Dep L ∧ (∀ p ∈ L, ∀ s ∈ p.1.s, oat (mergeF f l o) s = oat o s + p.2) ∧ ∀ s, s ∉ sy l → oat (mergeF f l o) s = oat o s := by
  have base : ∀ (f : Nat) (l : List Grp) (o : List Nat), l.length ≤ 1 → ∃ L : List (Grp × Nat), L.map (·.1) = l ∧ Dep L ∧ (∀ p ∈ L, ∀ s ∈ p.1.s, oat (mergeF f l o) s = oat o s + p.2) ∧ ∀ s, s ∉ sy l → oat (mergeF f l o) s = oat o s := by
    intro f l o h
    rw [merge_one f l o h]
    cases l with
    | nil => exact ⟨[], rfl, .nil, fun p hp => by simp at hp, fun _ _ => rfl⟩
    | cons g l =>
      cases l with
      | nil => exact ⟨[(g, 0)], rfl, .one g, fun p hp s _ => by simp at hp; subst hp; rfl, fun _ _ => rfl⟩
      | cons _ _ => simp at h
  induction f with
  | zero => intro l o h _; exact base 0 l o (by omega)
  | succ f ih =>
    intro l o hl hg
    by_cases h1 : l.length ≤ 1
    · exact base _ l o h1
    · have h2 : 2 ≤ l.length := by omega
      obtain ⟨hgood, hin, hout⟩ := hg.join h2
      obtain ⟨L', hm, hdep, hat, hno⟩ := ih (joinG l) (incs o (grp l).s) (by rw [join_len h2]; omega) hgood
      obtain ⟨A, B, C, E, x, y, hlr, hAB, hj, hgr, hA, hB, hC, hE⟩ := join_row h2
      rw [hj] at hm
      obtain ⟨R', S', rfl, hR', hS'⟩ := map_split hm
      obtain ⟨C', E', rfl, hC', hE'⟩ := map_split hR'
      obtain ⟨p, rfl⟩ : ∃ p, S' = [p] := by
        cases S' with
        | nil => simp at hS'
        | cons p S' =>
          cases S' with
          | nil => exact ⟨p, rfl⟩
          | cons _ _ => simp at hS'
      obtain ⟨gp, d⟩ := p
      simp at hS'
      subst hS'
      have hmAB : (C' ++ (y, d + 1) :: E').map (·.1) = A ++ B := by rw [hAB, List.map_append, List.map_cons, hC', hE']
      obtain ⟨A', B', hsp, hA', hB'⟩ := map_split hmAB
      have hmf : mergeF (f + 1) l o = mergeF f (joinG l) (incs o (grp l).s) := by rw [mergeF, if_neg h1]
      have hstep : Dep (A' ++ (x, d + 1) :: B') :=
        .step A' B' C' E' x y d _ rfl hsp.symm (all_map (P := fun z => x.w < z.w) (by rw [hA']; exact hA)) (all_map (P := fun z => x.w ≤ z.w) (by rw [hB']; exact hB))
          (all_map (P := fun z => y.w < z.w) (by rw [hC']; exact hC)) (all_map (P := fun z => y.w ≤ z.w) (by rw [hE']; exact hE)) hdep
      have hmap : (A' ++ (x, d + 1) :: B').map (·.1) = l := by rw [List.map_append, List.map_cons, hA', hB']; exact hlr.symm
      have hpm := step_perm (l := A' ++ (x, d + 1) :: B') rfl hsp.symm
      refine ⟨_, hmap, hstep, fun p hp s hs => ?_, fun s hs => ?_⟩
      · rw [hmf]
        have hnd := hg.nd
        rw [← hmap] at hnd
        have hnd := (sy_perm (hpm.map (·.1))).nodup_iff.1 hnd
        rw [List.map_cons, List.map_cons] at hnd
        rcases List.mem_cons.1 (hpm.subset hp) with rfl | hp
        · have hs' : s ∈ (grp l).s := by rw [hgr]; exact List.mem_append_left _ hs
          have h3 := hat (⟨x.w + y.w, x.s ++ y.s⟩, d) (by simp) s (List.mem_append_left _ hs)
          rw [h3, hin s hs']
          show _ = oat o s + (d + 1)
          omega
        · rcases List.mem_cons.1 hp with rfl | hp
          · have hs' : s ∈ (grp l).s := by rw [hgr]; exact List.mem_append_right _ hs
            have h3 := hat (⟨x.w + y.w, x.s ++ y.s⟩, d) (by simp) s (List.mem_append_right _ hs)
            rw [h3, hin s hs']
            show _ = oat o s + (d + 1)
            omega
          · have hs' : s ∉ (grp l).s := by
              rw [hgr]
              exact disj hnd (List.mem_map_of_mem hp) hs
            have h3 := hat p (List.mem_append_left _ hp) s hs
            rw [h3, hout s hs']
      · rw [hmf]
        have hs1 : s ∉ sy (joinG l) := fun h => hs ((sy_join h2).subset h)
        have hs2 : s ∉ (grp l).s := fun h => hs1 (by rw [hj]; exact mem_sy (g := ⟨x.w + y.w, x.s ++ y.s⟩) (by simp) (by rw [hgr] at h; exact h))
        rw [hno s hs1, hout s hs2]
end Go.Proofs.YtahfmcdhcbfkaaaGreatDoor.HuffM
namespace Go.Proofs.YtahfmcdhcbfkaaaGreatDoor.HuffM

theorem gI_len (W : List Nat) (i : Nat) (hi : i ≤ W.length) : (gI W i).length = cnt (W.take i) := by
  induction i with
  | zero => simp [gI, cnt]
  | succ i ih =>
    have ih := ih (by omega)
    have e : W[i]? = some (W.getD i 0) := by rw [List.getD_eq_getElem?_getD, List.getElem?_eq_getElem (by omega)]; rfl
    rw [gI_step, take_snoc e]
    unfold cnt at ih ⊢
    rw [List.countP_append]
    split
    · rename_i h
      rw [List.length_append, ih, List.countP_singleton]
      simp only [decide_eq_true_eq, h, if_true]
      rfl
    · rename_i h
      rw [ih, List.countP_singleton]
      simp only [decide_eq_true_eq, h, if_false]
      omega
theorem gI_mem (W : List Nat) (i j : Nat) (hj : j < i) (h : 0 < W.getD j 0) : (⟨W.getD j 0, [j]⟩ : Grp) ∈ gI W i := by
  induction i with
  | zero => omega
  | succ i ih =>
    rw [gI_step]
    rcases Nat.lt_succ_iff_lt_or_eq.1 hj with h1 | rfl
    · split
      · exact List.mem_append_left _ (ih h1)
      · exact ih h1
    · rw [if_pos h]; simp
theorem gI_nosy (W : List Nat) (i s : Nat) (h : ¬ 0 < W.getD s 0) : s ∉ sy (gI W i) := by
  intro hs
  obtain ⟨g, hg, hs⟩ := List.mem_flatMap.1 hs
  obtain ⟨h1, j, _, h3, h4⟩ := gI_w W i g hg
  rw [h4] at hs
  simp at hs
  subst hs
  omega
/-- what once tells of each symbol, where two or more have weight -/
structure OnceD (W : List Nat) (L : List (Grp × Nat)) : Prop where
  map : L.map (·.1) = gI W W.length
  dep : Dep L
  at_ : ∀ p ∈ L, ∀ s ∈ p.1.s, oat (onceL W) s = p.2
theorem once_dep {W : List Nat} (h : (gI W W.length).length ≠ 1) : (∃ L, OnceD W L) ∧ ∀ s, ¬ 0 < W.getD s 0 → oat (onceL W) s = 0 := by
  have e : onceL W = mergeF (gI W W.length).length (gI W W.length) (once0 W) := by unfold onceL; simp only [if_neg h]
  obtain ⟨L, h1, h2, h3, h4⟩ := merge_dep (gI W W.length).length (gI W W.length) (once0 W) (by omega) (good0 W)
  refine ⟨⟨L, h1, h2, fun p hp s hs => ?_⟩, fun s hs => ?_⟩
  · rw [e, h3 p hp s hs]
    have := zero_at W.length s
    unfold once0
    omega
  · rw [e, h4 s (gI_nosy W _ s hs)]
    exact zero_at _ _
theorem once_one {W : List Nat} (h : (gI W W.length).length = 1) : ∃ j, j < W.length ∧ 0 < W.getD j 0 ∧ (∀ s, 0 < W.getD s 0 → s = j) ∧ ∀ s, oat (onceL W) s = if s = j then 1 else 0 := by
  obtain ⟨g, hg⟩ : ∃ g, gI W W.length = [g] := by
    cases hl : gI W W.length with
    | nil => rw [hl] at h; simp at h
    | cons g l =>
      cases l with
      | nil => exact ⟨g, rfl⟩
      | cons _ _ => rw [hl] at h; simp at h
  obtain ⟨h1, j, h2, h3, h4⟩ := gI_w W W.length g (by rw [hg]; simp)
  refine ⟨j, h2, by omega, fun s hs => ?_, fun s => ?_⟩
  · have hs1 : s < W.length := by
      rcases Nat.lt_or_ge s W.length with h | h
      · exact h
      · rw [List.getD_eq_getElem?_getD, List.getElem?_eq_none h] at hs; simp at hs
    have := gI_mem W W.length s hs1 hs
    rw [hg] at this
    simp at this
    rw [← this] at h4
    simpa using h4
  · unfold onceL
    simp only [h, if_true]
    rw [merge_one _ _ _ (by omega), hg]
    have e : ((gat [g] 0).s.getD 0 0) = j := by unfold gat; simp [h4]
    rw [e]
    unfold oat
    rw [List.getD_eq_getElem?_getD, List.getElem?_set]
    unfold once0
    by_cases hsj : j = s
    · subst hsj
      simp [h2]
    · rw [if_neg hsj, if_neg (fun h => hsj h.symm), ← List.getD_eq_getElem?_getD]
      exact zero_at _ _
theorem once_zero (W : List Nat) (s : Nat) : oat (onceL W) s = 0 ↔ ¬ 0 < W.getD s 0 := by
  by_cases h : (gI W W.length).length = 1
  · obtain ⟨j, h1, h2, h3, h4⟩ := once_one h
    rw [h4]
    constructor
    · intro h5 h6
      rw [if_pos (h3 s h6)] at h5
      omega
    · intro h5
      rw [if_neg]
      rintro rfl
      exact h5 h2
  · obtain ⟨⟨L, hL⟩, h0⟩ := once_dep h
    refine ⟨fun h5 h6 => ?_, h0 s⟩
    have hs1 : s < W.length := by
      rcases Nat.lt_or_ge s W.length with h | h
      · exact h
      · rw [List.getD_eq_getElem?_getD, List.getElem?_eq_none h] at h6; simp at h6
    have hm := gI_mem W W.length s hs1 h6
    rw [← hL.map] at hm
    obtain ⟨p, hp, hpe⟩ := List.mem_map.1 hm
    have hlen : 2 ≤ L.length := by
      have h7 := List.length_pos_of_mem hp
      have h8 : L.length = (gI W W.length).length := by rw [← hL.map, List.length_map]
      omega
    have h7 := hL.dep.deep hlen p hp
    have h8 := hL.at_ p hp s (by rw [hpe]; simp)
    omega
theorem once_mono {W : List Nat} {i k : Nat} (hk : 0 < W.getD k 0) (h : W.getD k 0 < W.getD i 0) : oat (onceL W) i ≤ oat (onceL W) k := by
  have lt : ∀ {s : Nat}, 0 < W.getD s 0 → s < W.length := fun {s} h6 => by
    rcases Nat.lt_or_ge s W.length with h | h
    · exact h
    · rw [List.getD_eq_getElem?_getD, List.getElem?_eq_none h] at h6; simp at h6
  by_cases h1 : (gI W W.length).length = 1
  · obtain ⟨j, _, _, h3, _⟩ := once_one h1
    have e1 := h3 i (by omega)
    have e2 := h3 k hk
    subst e1
    subst e2
    omega
  · obtain ⟨⟨L, hL⟩, _⟩ := once_dep h1
    have hmi := gI_mem W W.length i (lt (by omega)) (by omega)
    have hmk := gI_mem W W.length k (lt hk) hk
    rw [← hL.map] at hmi hmk
    obtain ⟨p, hp, hpe⟩ := List.mem_map.1 hmi
    obtain ⟨q, hq, hqe⟩ := List.mem_map.1 hmk
    have h2 := hL.dep.mono hp hq (by rw [hpe, hqe]; exact h)
    rw [hL.at_ p hp i (by rw [hpe]; simp), hL.at_ q hq k (by rw [hqe]; simp)]
    exact h2
theorem fits_of {most : Nat} {o : List Nat} (h : ∀ s, oat o s ≤ most) : fits most o = true := by
  unfold fits
  rw [List.all_eq_true]
  intro x hx
  obtain ⟨i, hi, rfl⟩ := List.getElem_of_mem hx
  have := h i
  unfold oat at this
  rw [List.getD_eq_getElem?_getD, List.getElem?_eq_getElem hi] at this
  simpa using this
theorem fits_at {most : Nat} {o : List Nat} (h : fits most o = true) (s : Nat) : oat o s ≤ most := by
  unfold fits at h
  rw [List.all_eq_true] at h
  unfold oat
  rw [List.getD_eq_getElem?_getD]
  cases hs : o[s]? with
  | none => simp
  | some x => simpa using h x (List.mem_of_getElem? hs)
/-- with little weight no length is above 15 -/
theorem once_small {W : List Nat} (h : W.sum < 2584) : fits 15 (onceL W) = true := by
  refine fits_of fun s => ?_
  by_cases h1 : (gI W W.length).length = 1
  · obtain ⟨j, _, _, _, h4⟩ := once_one h1
    rw [h4]
    split <;> omega
  · obtain ⟨⟨L, hL⟩, h0⟩ := once_dep h1
    by_cases h6 : 0 < W.getD s 0
    · have hs1 : s < W.length := by
        rcases Nat.lt_or_ge s W.length with h | h
        · exact h
        · rw [List.getD_eq_getElem?_getD, List.getElem?_eq_none h] at h6; simp at h6
      have hm := gI_mem W W.length s hs1 h6
      rw [← hL.map] at hm
      obtain ⟨p, hp, hpe⟩ := List.mem_map.1 hm
      rw [hL.at_ p hp s (by rw [hpe]; simp)]
      refine hL.dep.small (fun q hq => ?_) ?_ p hp
      · have := List.mem_map_of_mem (f := (·.1)) hq
        rw [hL.map] at this
        exact (gI_w W _ _ this).1
      · have e : wsum L = sumW (gI W W.length) := by
          rw [← hL.map]
          unfold wsum sumW
          rw [List.map_map]
          rfl
        rw [e, gI_sum W _ (Nat.le_refl _), List.take_length]
        exact h
    · rw [h0 s h6]; omega
/-- the parts, symbol by symbol -/
theorem part_sum (W : List Nat) (o : List Nat) (ho : o.length = W.length) (hz : ∀ s, oat o s = 0 ↔ ¬ 0 < W.getD s 0) (h15 : ∀ s, oat o s ≤ 15) (i : Nat) (hi : i ≤ W.length) :
    rsum ((o.take i).map fun x : Nat => (x : Int)) = ((gI W i).map fun g => 2 ^ (15 - oat o (g.s.getD 0 0))).sum := by
  induction i with
  | zero => simp [gI, rsum]
  | succ i ih =>
    have ih := ih (by omega)
    have e : o[i]? = some (oat o i) := by unfold oat; rw [List.getD_eq_getElem?_getD, List.getElem?_eq_getElem (by omega)]; rfl
    rw [gI_step, take_snoc e, List.map_append, List.map_singleton, rsum_snoc, ih]
    have hzi := hz i
    have h1 := h15 i
    split
    · rename_i h
      rw [List.map_append, List.sum_append]
      congr 1
      have hpos : 0 < oat o i := by omega
      unfold kr
      rw [if_pos (by omega)]
      simp only [List.map_cons, List.map_nil, List.sum_cons, List.sum_nil, List.getD_cons_zero, Int.toNat_natCast, Nat.add_zero]
      rw [show (32768 : Nat) = 2 ^ 15 from rfl, Nat.pow_div h1 (by omega)]
    · rename_i h
      have : oat o i = 0 := hzi.2 h
      rw [this]
      rfl
theorem many_once (W : List Nat) (o : List Nat) (ho : o.length = W.length) (hz : ∀ s, oat o s = 0 ↔ ¬ 0 < W.getD s 0) (i : Nat) (hi : i ≤ W.length) :
    many ((o.take i).map fun x : Nat => (x : Int)) = (gI W i).length := by
  induction i with
  | zero => simp [gI, many]
  | succ i ih =>
    have ih := ih (by omega)
    have e : o[i]? = some (oat o i) := by unfold oat; rw [List.getD_eq_getElem?_getD, List.getElem?_eq_getElem (by omega)]; rfl
    rw [gI_step, take_snoc e, List.map_append, List.map_singleton, many_snoc, ih]
    have hzi := hz i
    split
    · rename_i h
      rw [if_pos (by omega), List.length_append]; rfl
    · rename_i h
      rw [if_neg (by omega)]; rfl
theorem ones_one (o : List Nat) (j : Nat) (hj : j < o.length) (h : ∀ s, oat o s = if s = j then 1 else 0) (i : Nat) (hi : i ≤ o.length) :
    ones ((o.take i).map fun x : Nat => (x : Int)) = if j < i then 1 else 0 := by
  induction i with
  | zero => simp [ones]
  | succ i ih =>
    have ih := ih (by omega)
    have e : o[i]? = some (oat o i) := by unfold oat; rw [List.getD_eq_getElem?_getD, List.getElem?_eq_getElem (by omega)]; rfl
    rw [take_snoc e, List.map_append, List.map_singleton, ones_snoc, ih, h i]
    by_cases h1 : i = j
    · subst h1
      simp
    · by_cases h2 : j < i
      · have h3 : j < i + 1 := by omega
        simp [h1, h2, h3]
      · have h3 : ¬ j < i + 1 := by omega
        simp [h1, h2, h3]
/-- there is a code of the lengths -/
theorem once_right {W : List Nat} (h : fits 15 (onceL W) = true) (hs : ∃ s, 0 < W.getD s 0) : rightB ((onceL W).map fun x : Nat => (x : Int)) = true := by
  have h15 := fits_at h
  have hl := onceL_len W
  have hz := once_zero W
  unfold rightB
  rw [Bool.and_eq_true]
  constructor
  · rw [List.all_eq_true]
    intro x hx
    obtain ⟨n, hn, rfl⟩ := List.mem_map.1 hx
    unfold fits at h
    rw [List.all_eq_true] at h
    have := h n hn
    simp at this
    unfold inR
    simp
    omega
  · rw [Bool.or_eq_true]
    by_cases h1 : (gI W W.length).length = 1
    · right
      obtain ⟨j, h2, _, _, h4⟩ := once_one h1
      have e1 := many_once W (onceL W) hl hz W.length (Nat.le_refl _)
      have e2 := ones_one (onceL W) j (by omega) h4 W.length (by omega)
      rw [← hl, List.take_length] at e1
      rw [← hl, List.take_length] at e2
      rw [if_pos (by omega)] at e2
      rw [hl, h1] at e1
      rw [e1, e2]
      rfl
    · left
      obtain ⟨⟨L, hL⟩, _⟩ := once_dep h1
      have e := part_sum W (onceL W) hl hz h15 W.length (Nat.le_refl _)
      rw [← hl, List.take_length, hl] at e
      have hd : ∀ p ∈ L, oat (onceL W) (p.1.s.getD 0 0) = p.2 := by
        intro p hp
        have h5 := List.mem_map_of_mem (f := (·.1)) hp
        rw [hL.map] at h5
        obtain ⟨_, j, _, _, h6⟩ := gI_w W _ _ h5
        have h6 : p.1.s = [j] := h6
        have h7 := hL.at_ p hp j (by rw [h6]; simp)
        rw [h6]
        exact h7
      have hk := hL.dep.kraft 15 (by
        rintro rfl
        obtain ⟨s, hs⟩ := hs
        have hs1 : s < W.length := by
          rcases Nat.lt_or_ge s W.length with h | h
          · exact h
          · rw [List.getD_eq_getElem?_getD, List.getElem?_eq_none h] at hs; simp at hs
        have hm := gI_mem W W.length s hs1 hs
        rw [← hL.map] at hm
        simp at hm) (fun p hp => by rw [← hd p hp]; exact h15 _)
      have e3 : ((gI W W.length).map fun g => 2 ^ (15 - oat (onceL W) (g.s.getD 0 0))).sum = ksum 15 L := by
        rw [← hL.map, List.map_map]
        unfold ksum
        congr 1
        apply List.map_congr_left
        intro p hp
        simp only [Function.comp_def]
        rw [hd p hp]
      rw [e, e3, hk]
      rfl
theorem half_pos (W : List Nat) (s : Nat) : 0 < (half W).getD s 0 ↔ 0 < W.getD s 0 := by
  unfold half
  rw [List.getD_eq_getElem?_getD, List.getD_eq_getElem?_getD, List.getElem?_map]
  cases W[s]? with
  | none => simp
  | some x => simp; omega
/-- what the lengths by weights are: those of once, of weights that are 0 at the same places -/
theorem lens_is {most : Nat} (hm : 1 ≤ most) : ∀ (n : Nat) (W : List Nat), W.sum ≤ n → cnt W ≤ 2 ^ most → ∃ W', W'.length = W.length ∧ (∀ s, 0 < W'.getD s 0 ↔ 0 < W.getD s 0) ∧ lens most W = onceL W' ∧ fits most (onceL W') = true := by
  intro n
  induction n with
  | zero =>
    intro W hn hc
    cases h : fits most (onceL W) with
    | true => exact ⟨W, rfl, fun _ => Iff.rfl, lens_yes h, h⟩
    | false => have := (lens_no hm hc h).2; omega
  | succ n ih =>
    intro W hn hc
    cases h : fits most (onceL W) with
    | true => exact ⟨W, rfl, fun _ => Iff.rfl, lens_yes h, h⟩
    | false =>
      obtain ⟨h1, h2⟩ := lens_no hm hc h
      obtain ⟨W', h3, h4, h5, h6⟩ := ih (half W) (by omega) (by rw [cnt_half]; exact hc)
      exact ⟨W', by rw [h3, half_len], fun s => by rw [h4, half_pos], by rw [h1, h5], h6⟩
/-- 5.1, 5.4 in plain words -/
theorem lens_short {most : Nat} {W : List Nat} (hm : 1 ≤ most) (hm2 : most ≤ 15) (hc : cnt W ≤ 2 ^ most) :
    (lens most W).length = W.length ∧ (∀ s, oat (lens most W) s ≤ most) ∧ (∀ s, oat (lens most W) s = 0 ↔ ¬ 0 < W.getD s 0) ∧
    ((∃ s, 0 < W.getD s 0) → rightB ((lens most W).map fun x : Nat => (x : Int)) = true) := by
  obtain ⟨W', h1, h2, h3, h4⟩ := lens_is hm W.sum W (Nat.le_refl _) hc
  refine ⟨lens_len most W, fun s => ?_, fun s => ?_, fun ⟨s, hs⟩ => ?_⟩
  · rw [h3]; exact fits_at h4 s
  · rw [h3, once_zero, h2]
  · rw [h3]
    exact once_right (fits_of fun s => by have := fits_at h4 s; omega) ⟨s, (h2 s).2 hs⟩
/-- with little weight, and where 15 bits' longest is within the most: nothing is halved -/
theorem lens_free {most : Nat} {W : List Nat} (hs : W.sum < 2000) (hl : ∀ s, oat (lens 15 W) s ≤ most) :
    lens most W = lens 15 W ∧ ∀ i k, 0 < W.getD k 0 → W.getD k 0 < W.getD i 0 → oat (lens most W) i ≤ oat (lens most W) k := by
  have h1 : lens 15 W = onceL W := lens_yes (once_small (by omega))
  rw [h1] at hl
  have h2 : lens most W = onceL W := lens_yes (fits_of hl)
  rw [h1, h2]
  exact ⟨rfl, fun i k hk h => once_mono hk h⟩
end Go.Proofs.YtahfmcdhcbfkaaaGreatDoor.HuffM
namespace Go.Proofs.YtahfmcdhcbfkaaaGreatDoor.CoM
open HuffM BitsM

/-- lengths as numbers of any sign -/
def ints (l : List Nat) : List Int := l.map fun x : Nat => (x : Int)
theorem flat3_len (len : List Nat) (O : List Nat) : (O.flatMap fun o => low len[o]! 3).length = 3 * O.length := by
  induction O with
  | nil => rfl
  | cons o O ih =>
    rw [List.flatMap_cons, List.length_append, ih, low_length, List.length_cons]
    omega
theorem bump8_pos (W : List Nat) (i s : Nat) (hs : s < W.length) (h : 0 < W.getD s 0 ∨ i = s) : 0 < (bump8 W i).getD s 0 := by
  unfold bump8
  rw [List.getD_eq_getElem?_getD, List.getElem?_set]
  by_cases e : i = s
  · subst e
    rw [if_pos rfl, if_pos hs]
    simp
  · rw [if_neg e, ← List.getD_eq_getElem?_getD]
    rcases h with h | h
    · exact h
    · exact absurd h e
theorem weigh8_pos : ∀ (T : List It) (W : List Nat) (s : Nat), s < W.length → (0 < W.getD s 0 ∨ ∃ t ∈ T, t.s = s) → 0 < (weigh8 T W).getD s 0
  | [], W, s, hs, h => by
    rcases h with h | ⟨t, ht, _⟩
    · exact h
    · simp at ht
  | t :: T, W, s, hs, h => by
    show 0 < (weigh8 T (bump8 W t.s)).getD s 0
    refine weigh8_pos T _ s (by rw [bump8_len]; exact hs) ?_
    rcases h with h | ⟨u, hu, e⟩
    · exact .inl (bump8_pos W t.s s hs (.inl h))
    · rcases List.mem_cons.1 hu with h2 | h2
      · subst h2
        exact .inl (bump8_pos W u.s s hs (.inr e))
      · exact .inr ⟨u, h2, e⟩
/-- the lengths of the items' code are fit to read all of them -/
structure Code8 (T : List It) (len : List Nat) : Prop where
  len19 : len.length = 19
  le7 : ∀ x ∈ len, x ≤ 7
  right : rightB (ints len) = true
  met : ∀ t ∈ T, t.s ≤ 18 → 0 < len[t.s]! ∧ len[t.s]! ≤ 7
theorem getD_bang (l : List Nat) (i : Nat) : l[i]! = l.getD i 0 := by
  rcases Nat.lt_or_ge i l.length with h | h
  · rw [getElem!_pos l i h, List.getD_eq_getElem?_getD, List.getElem?_eq_getElem h]; rfl
  · rw [getElem!_neg l i (by omega), List.getD_eq_getElem?_getD, List.getElem?_eq_none h]; rfl
theorem code8 (T : List It) (hT : ∃ t ∈ T, t.s ≤ 18) : Code8 T (lens 7 (weigh8 T zeros19)) := by
  obtain ⟨W, hW⟩ : ∃ W, W = weigh8 T zeros19 := ⟨_, rfl⟩
  have hl : W.length = 19 := by rw [hW, weigh8_len]; rfl
  have hc : cnt W ≤ 2 ^ 7 := by
    have : cnt W ≤ W.length := List.countP_le_length
    omega
  obtain ⟨h1, h2, h3, h4⟩ := lens_short (most := 7) (W := W) (by omega) (by omega) hc
  have hpos : ∀ t ∈ T, t.s ≤ 18 → 0 < W.getD t.s 0 := fun t ht hs => by
    rw [hW]
    exact weigh8_pos T zeros19 t.s (by show t.s < 19; omega) (.inr ⟨t, ht, rfl⟩)
  rw [← hW]
  refine ⟨by rw [h1, hl], fun x hx => ?_, ?_, fun t ht hs => ?_⟩
  · obtain ⟨i, hi, rfl⟩ := List.getElem_of_mem hx
    have := h2 i
    unfold oat at this
    rwa [List.getD_eq_getElem?_getD, List.getElem?_eq_getElem hi] at this
  · obtain ⟨t, ht, hs⟩ := hT
    exact h4 ⟨t.s, hpos t ht hs⟩
  · rw [getD_bang]
    have := hpos t ht hs
    have h5 := h3 t.s
    have h6 := h2 t.s
    unfold oat at h5 h6
    exact ⟨by omega, h6⟩
theorem ints_len (l : List Nat) : (ints l).length = l.length := by simp [ints]
theorem ints_getD (l : List Nat) (i : Nat) : (ints l).getD i 0 = ((l.getD i 0 : Nat) : Int) := by
  unfold ints
  rw [List.getD_eq_getElem?_getD, List.getD_eq_getElem?_getD, List.getElem?_map]
  cases l[i]? <;> rfl
theorem itBits_len {T : List It} {len : List Nat} (C : Code8 T len) {t : It} (ht : t ∈ T) (hs : t.s ≤ 18) (hb : t.b ≤ 7) : (itBits (HuffM.codesL (ints len)) len t).length ≤ 14 := by
  have := (C.met t ht hs).2
  unfold itBits
  rw [List.length_append, List.length_reverse, low_length, low_length]
  omega
theorem flat_len_le {α β : Type} (f : α → List β) (N : Nat) : ∀ (l : List α), (∀ x ∈ l, (f x).length ≤ N) → (l.flatMap f).length ≤ N * l.length
  | [], _ => by simp
  | x :: l, h => by
    have h1 := h x (List.mem_cons_self ..)
    have h2 := flat_len_le f N l (fun y hy => h y (List.mem_cons_of_mem _ hy))
    rw [List.flatMap_cons, List.length_append, List.length_cons, Nat.mul_succ]
    omega
/-- how many bits are put at most -/
theorem putBits_len {A B : List Nat} (hA2 : A.length ≤ 286) (hB2 : B.length ≤ 30) (hA0 : 1 ≤ A.length) (hA : ∀ x ∈ A, x ≤ 15) (hB : ∀ x ∈ B, x ≤ 15) : (putBits A B).length ≤ 5000 := by
  have hL : ∀ x ∈ A ++ B, x ≤ 15 := fun x hx => by
    rcases List.mem_append.1 hx with h | h
    · exact hA x h
    · exact hB x h
  have hT0 : ∃ t ∈ items (A ++ B), t.s ≤ 18 := by
    cases hh : items (A ++ B) with
    | nil =>
      exfalso
      unfold items at hh
      obtain ⟨k, hk⟩ : ∃ k, (A ++ B).length = k + 1 := ⟨(A ++ B).length - 1, by rw [List.length_append]; omega⟩
      rw [hk, pressI, if_pos (by omega)] at hh
      cases hh
    | cons t T' => exact ⟨t, List.mem_cons_self .., (items_mem hL t (by rw [hh]; exact List.mem_cons_self ..)).1⟩
  have C := code8 _ hT0
  have hl := items_len (A ++ B)
  rw [List.length_append] at hl
  have hm := manyN_le (HuffM.lens 7 (weigh8 (items (A ++ B)) zeros19)) 15
  have hf := flat_len_le (itBits (HuffM.codesL (ints (HuffM.lens 7 (weigh8 (items (A ++ B)) zeros19)))) (HuffM.lens 7 (weigh8 (items (A ++ B)) zeros19))) 14 (items (A ++ B)) (fun t ht => itBits_len C ht (items_mem hL t ht).1 (items_mem hL t ht).2.1)
  show (low _ 5 ++ low _ 5 ++ low _ 4 ++ (ord.take (manyN (HuffM.lens 7 (weigh8 (items (A ++ B)) zeros19)) 15)).flatMap (fun o => low (HuffM.lens 7 (weigh8 (items (A ++ B)) zeros19))[o]! 3) ++ (items (A ++ B)).flatMap (itBits (HuffM.codesL (ints (HuffM.lens 7 (weigh8 (items (A ++ B)) zeros19)))) (HuffM.lens 7 (weigh8 (items (A ++ B)) zeros19)))).length ≤ 5000
  simp only [List.length_append, low_length, flat3_len, List.length_take]
  omega
theorem trim_len {L : List Nat} {m : Nat} (h : m ≤ L.length) : m ≤ (trimL L m).length ∧ (trimL L m).length ≤ L.length := by
  have h1 := trimN_le L m (L.length - m)
  unfold trimL
  rw [List.length_take]
  omega
theorem trim_mem {L : List Nat} {m : Nat} (hL : ∀ x ∈ L, x ≤ 15) : ∀ x ∈ trimL L m, x ≤ 15 := fun x hx => hL x (List.mem_of_mem_take hx)
theorem trim_getD (L : List Nat) (m : Nat) (h : m ≤ L.length) (i : Nat) : L.getD i 0 = (trimL L m).getD i 0 := by
  have h1 := trimN_le L m (L.length - m)
  unfold trimL
  rw [List.getD_eq_getElem?_getD, List.getD_eq_getElem?_getD, List.getElem?_take]
  by_cases hi : i < trimN L m (L.length - m)
  · rw [if_pos hi]
  · rw [if_neg hi]
    by_cases hl : i < L.length
    · have := trimN_zero L m (L.length - m) i (by omega) (by omega)
      rw [getElem!_pos L i hl] at this
      rw [List.getElem?_eq_getElem hl, this]
      rfl
    · rw [List.getElem?_eq_none (by omega)]
theorem lens_most {m : Nat} (hm : 1 ≤ m) : ∀ (s : Nat) (W : List Nat), W.sum ≤ s → cnt W ≤ 2 ^ m → ∀ x ∈ lens m W, x ≤ m := by
  intro s
  induction s with
  | zero =>
    intro W hs hc
    by_cases h : fits m (onceL W) = true
    · rw [lens_yes h]
      intro x hx
      have := List.all_eq_true.1 h x hx
      simpa using this
    · obtain ⟨_, hlt⟩ := lens_no hm hc (by simpa using h)
      omega
  | succ s ih =>
    intro W hs hc
    by_cases h : fits m (onceL W) = true
    · rw [lens_yes h]
      intro x hx
      have := List.all_eq_true.1 h x hx
      simpa using this
    · obtain ⟨e, hlt⟩ := lens_no hm hc (by simpa using h)
      rw [e]
      exact ih (half W) (by omega) (by rw [cnt_half]; exact hc)
end Go.Proofs.YtahfmcdhcbfkaaaGreatDoor.CoM
namespace Go.Proofs.YtahfmcdhcbfkaaaGreatDoor.LzM

structure Tok where
  b : UInt8
  l : Int
  d : Int
deriving DecidableEq, Inhabited

/-- may it stand behind n bytes? -/
def rightT (t : Tok) (n : Int) : Bool := if t.l = 0 ∧ t.d = 0 then true else decide (t.b = 0 ∧ 3 ≤ t.l ∧ t.l ≤ 258 ∧ 1 ≤ t.d ∧ t.d ≤ 32768 ∧ t.d ≤ n)

/-- a literal, a match -/
def lit (b : UInt8) : Tok := ⟨b, 0, 0⟩
def mat (l d : Nat) : Tok := ⟨0, l, d⟩

/-- n more bytes, each the one d ahead -/
def copy (d : Nat) : Nat → List UInt8 → List UInt8
  | 0, B => B
  | n + 1, B => copy d n (B ++ [B[B.length - d]!])

/-- what a token tells behind bytes -/
def addT (B : List UInt8) (t : Tok) : List UInt8 := if t.l = 0 then B ++ [t.b] else copy t.d.toNat t.l.toNat B

/-- how many a token tells -/
def wide (t : Tok) : Nat := if t.l = 0 then 1 else t.l.toNat

/-- what tokens tell behind bytes, at most so many; or the error -/
def openT (most : Int) : List UInt8 → List Tok → Except Nat (List UInt8)
  | B, [] => .ok B
  | B, t :: l => if rightT t B.length = false then .error 3 else if ((B.length + wide t : Nat) : Int) > most then .error 4 else openT most (addT B t) l

/-- how many bytes from i are the same as those d ahead: at most f more behind n, within B -/
def same (B : List UInt8) (i d : Nat) : Nat → Nat → Nat
  | 0, n => n
  | f + 1, n => if i + n < B.length ∧ B[i + n]! = B[i + n - d]! then same B i d f (n + 1) else n

def len (B : List UInt8) (i d : Nat) : Nat := same B i d 258 0

/-- the best of the distances below k: its length, itself (0, 0: none) -/
def best (B : List UInt8) (i : Nat) : Nat → Nat × Nat
  | 0 => (0, 0)
  | k + 1 => if (best B i k).1 < len B i (k + 1) then (len B i (k + 1), k + 1) else best B i k

/-- the best at i -/
def find (B : List UInt8) (i : Nat) : Nat × Nat := best B i (min i 32768)

/-- pressing from i on -/
def pressF (B : List UInt8) : Nat → Nat → List Tok
  | 0, _ => []
  | f + 1, i => if i < B.length then (if (find B i).1 < 3 then lit B[i]! :: pressF B f (i + 1) else mat (find B i).1 (find B i).2 :: pressF B f (i + (find B i).1)) else []

def press (B : List UInt8) : List Tok := pressF B B.length 0

theorem copy_length (d : Nat) : ∀ (n : Nat) (B : List UInt8), (copy d n B).length = B.length + n
  | 0, B => rfl
  | n + 1, B => by rw [copy, copy_length d n]; simp; omega

theorem copy_succ (d : Nat) : ∀ (n : Nat) (B : List UInt8), copy d (n + 1) B = copy d n B ++ [(copy d n B)[(copy d n B).length - d]!]
  | 0, B => rfl
  | n + 1, B => by rw [copy, copy_succ d n, copy]

theorem right_cases {t : Tok} {n : Nat} (h : rightT t (n : Nat) = true) : (∃ b, t = ⟨b, 0, 0⟩) ∨ ∃ L D : Nat, t = ⟨0, (L : Int), (D : Int)⟩ ∧ 3 ≤ L ∧ L ≤ 258 ∧ 1 ≤ D ∧ D ≤ 32768 ∧ D ≤ n := by
  obtain ⟨b, l, d⟩ := t
  unfold rightT at h
  split at h
  · rename_i hc
    obtain ⟨rfl, rfl⟩ : l = 0 ∧ d = 0 := hc
    exact .inl ⟨b, rfl⟩
  · simp only [decide_eq_true_eq] at h
    obtain ⟨rfl, h1, h2, h3, h4, h5⟩ := h
    refine .inr ⟨l.toNat, d.toNat, ?_, by omega, by omega, by omega, by omega, by omega⟩
    rw [Int.toNat_of_nonneg (by omega), Int.toNat_of_nonneg (by omega)]

theorem same_ge (B : List UInt8) (i d : Nat) : ∀ f n, n ≤ same B i d f n
  | 0, n => Nat.le_refl _
  | f + 1, n => by
    unfold same
    split
    · exact Nat.le_trans (Nat.le_succ n) (same_ge B i d f (n + 1))
    · exact Nat.le_refl _

theorem same_le (B : List UInt8) (i d : Nat) : ∀ f n, same B i d f n ≤ n + f
  | 0, n => Nat.le_refl _
  | f + 1, n => by
    unfold same
    split
    · have := same_le B i d f (n + 1); omega
    · omega

theorem same_in (B : List UInt8) (i d : Nat) : ∀ f n, i + n ≤ B.length → i + same B i d f n ≤ B.length
  | 0, n, h => h
  | f + 1, n, h => by
    unfold same
    split
    · exact same_in B i d f (n + 1) (by omega)
    · exact h

theorem same_eq (B : List UInt8) (i d : Nat) : ∀ f n k, n ≤ k → k < same B i d f n → B[i + k]! = B[i + k - d]!
  | 0, n, k, h, h' => by unfold same at h'; omega
  | f + 1, n, k, h, h' => by
    unfold same at h'
    split at h'
    · rename_i hc
      by_cases e : k = n
      · rw [e]; exact hc.2
      · exact same_eq B i d f (n + 1) k (by omega) h'
    · omega

theorem len_le (B : List UInt8) (i d : Nat) : len B i d ≤ 258 := by have := same_le B i d 258 0; unfold len; omega
theorem len_in (B : List UInt8) (i d : Nat) (h : i ≤ B.length) : i + len B i d ≤ B.length := same_in B i d 258 0 h

/-- no fuel changes it once it has stopped: n more of the 258 -/
theorem same_step (B : List UInt8) (i d f n : Nat) (h : i + n < B.length) (e : B[i + n]! = B[i + n - d]!) : same B i d (f + 1) n = same B i d f (n + 1) := by
  rw [same, if_pos ⟨h, e⟩]
theorem same_stop (B : List UInt8) (i d f n : Nat) (h : ¬ (i + n < B.length ∧ B[i + n]! = B[i + n - d]!)) : same B i d (f + 1) n = n := by
  rw [same, if_neg h]

theorem best_le (B : List UInt8) (i : Nat) : ∀ k, (best B i k).1 ≤ 258 ∧ (best B i k).2 ≤ k
  | 0 => by simp [best]
  | k + 1 => by
    unfold best
    have := best_le B i k
    split
    · exact ⟨len_le B i _, Nat.le_refl _⟩
    · omega

theorem best_in (B : List UInt8) (i : Nat) (h : i ≤ B.length) : ∀ k, i + (best B i k).1 ≤ B.length
  | 0 => by simpa [best] using h
  | k + 1 => by
    unfold best
    have := best_in B i h k
    split
    · exact len_in B i _ h
    · exact this

theorem best_is (B : List UInt8) (i : Nat) : ∀ k, 0 < (best B i k).1 → 1 ≤ (best B i k).2 ∧ (best B i k).1 = len B i (best B i k).2
  | 0, h => by simp [best] at h
  | k + 1, h => by
    unfold best at h ⊢
    split
    · exact ⟨by omega, rfl⟩
    · rename_i hc
      rw [if_neg hc] at h
      exact best_is B i k h

theorem pressF_more (B : List UInt8) : ∀ f i, B.length ≤ i + f → ∀ g, pressF B (f + g) i = pressF B f i
  | 0, i, h, 0 => rfl
  | 0, i, h, g + 1 => by
    have h0 : pressF B (g + 1) i = [] := by rw [pressF, if_neg (by omega)]
    rw [Nat.zero_add, h0]
    rfl
  | f + 1, i, h, g => by
    rw [show f + 1 + g = (f + g) + 1 by omega, pressF, pressF]
    split
    · split
      · rw [pressF_more B f (i + 1) (by omega) g]
      · rw [pressF_more B f _ (by omega) g]
    · rfl

/-- what is copied is what stands in B, where it is the same -/
theorem copy_take (B : List UInt8) (i d : Nat) (hd : 1 ≤ d) (hdi : d ≤ i) : ∀ (n k : Nat), i + k + n ≤ B.length → (∀ j, k ≤ j → j < k + n → B[i + j]! = B[i + j - d]!) →
    copy d n (B.take (i + k)) = B.take (i + k + n)
  | 0, k, h, he => rfl
  | n + 1, k, h, he => by
    have h1 : (B.take (i + k)).length = i + k := by rw [List.length_take]; omega
    have h2 : (B.take (i + k))[(B.take (i + k)).length - d]! = B[i + k]! := by
      rw [h1, he k (Nat.le_refl _) (by omega), getElem!_pos _ _ (by rw [h1]; omega), getElem!_pos _ _ (by omega), List.getElem_take]
    have h3 : B.take (i + k) ++ [B[i + k]!] = B.take (i + (k + 1)) := by
      rw [getElem!_pos _ _ (by omega), List.take_append_getElem, ← Nat.add_assoc]
    rw [copy, h2, h3, copy_take B i d hd hdi n (k + 1) (by omega) (fun j hj hj' => he j (by omega) (by omega))]
    congr 1
    omega

/-- what is pressed opens as it was -/
theorem open_pressF (B : List UInt8) (most : Int) (hm : (B.length : Int) ≤ most) : ∀ f i, B.length ≤ i + f → i ≤ B.length → openT most (B.take i) (pressF B f i) = .ok B
  | 0, i, h, hi => by
    obtain rfl : i = B.length := by omega
    simp [pressF, openT]
  | f + 1, i, h, hi => by
    rw [pressF]
    split
    · rename_i hlt
      have h1 : (B.take i).length = i := by rw [List.length_take]; omega
      split
      · have h3 : B.take i ++ [B[i]!] = B.take (i + 1) := by
          rw [getElem!_pos B i hlt, List.take_append_getElem]
        rw [openT, if_neg (by simp [rightT, lit]), if_neg (by have hw : wide (lit B[i]!) = 1 := rfl; rw [hw, h1]; omega)]
        have ha : addT (B.take i) (lit B[i]!) = B.take (i + 1) := by rw [addT, if_pos (show (lit B[i]!).l = 0 from rfl)]; exact h3
        rw [ha]
        exact open_pressF B most hm f (i + 1) (by omega) (by omega)
      · rename_i hc
        obtain ⟨p, hp⟩ : ∃ p, p = find B i := ⟨_, rfl⟩
        rw [← hp] at hc ⊢
        have e1 : 1 ≤ p.2 ∧ p.1 = len B i p.2 := by rw [hp]; exact best_is B i _ (by rw [hp] at hc; unfold find at hc; omega)
        have e2 : p.1 ≤ 258 ∧ p.2 ≤ min i 32768 := by rw [hp]; exact best_le B i _
        have e3 : i + p.1 ≤ B.length := by rw [hp]; exact best_in B i hi _
        have hl : (mat p.1 p.2).l ≠ 0 := by simp [mat]; omega
        have hr : rightT (mat p.1 p.2) ((B.take i).length : Nat) = true := by
          rw [h1, rightT, if_neg (by simp [mat]; omega)]
          simp [mat]
          omega
        have hw : wide (mat p.1 p.2) = p.1 := by rw [wide, if_neg hl]; simp [mat]
        have ha : addT (B.take i) (mat p.1 p.2) = B.take (i + p.1) := by
          rw [addT, if_neg hl]
          have := copy_take B i p.2 e1.1 (by omega) p.1 0 (by omega) (fun j _ hj => same_eq B i p.2 258 0 j (by omega) (by rw [e1.2] at hj; unfold len at hj; omega))
          simpa [mat] using this
        rw [openT, if_neg (by rw [hr]; simp), if_neg (by rw [hw, h1]; omega), ha]
        exact open_pressF B most hm f (i + p.1) (by omega) e3
    · obtain rfl : i = B.length := by omega
      simp [openT]

theorem open_press (B : List UInt8) (most : Int) (hm : (B.length : Int) ≤ most) : openT most [] (press B) = .ok B := by
  have := open_pressF B most hm B.length 0 (by omega) (by omega)
  simpa [press] using this

end Go.Proofs.YtahfmcdhcbfkaaaGreatDoor.LzM
namespace Go.Proofs.YtahfmcdhcbfkaaaGreatDoor.SyM
open LzM

def lens : List (Nat × Nat) := [(3, 0), (4, 0), (5, 0), (6, 0), (7, 0), (8, 0), (9, 0), (10, 0), (11, 1), (13, 1), (15, 1), (17, 1), (19, 2), (23, 2), (27, 2), (31, 2), (35, 3), (43, 3), (51, 3), (59, 3), (67, 4), (83, 4), (99, 4), (115, 4), (131, 5), (163, 5), (195, 5), (227, 5), (258, 0)]
def dists : List (Nat × Nat) := [(1, 0), (2, 0), (3, 0), (4, 0), (5, 1), (7, 1), (9, 2), (13, 2), (17, 3), (25, 3), (33, 4), (49, 4), (65, 5), (97, 5), (129, 6), (193, 6), (257, 7), (385, 7), (513, 8), (769, 8), (1025, 9), (1537, 9), (2049, 10), (3073, 10), (4097, 11), (6145, 11), (8193, 12), (12289, 12), (16385, 13), (24577, 13)]

/-- the last place, of the first k, whose least number isn't above n -/
def lastLe (n : Int) (R : List (Nat × Nat)) : Nat → Nat
  | 0 => 0
  | k + 1 => if (((R[k]!).1 : Nat) : Int) ≤ n then k else lastLe n R k
/-- the symbol of a number: its place -/
def sym (n : Int) (R : List (Nat × Nat)) : Nat := lastLe n R R.length
/-- the least number of a place, its bits -/
def least (R : List (Nat × Nat)) (i : Nat) : Nat := (R[i]!).1
def wid (R : List (Nat × Nat)) (i : Nat) : Nat := (R[i]!).2

theorem lastLe_lt (n : Int) (R : List (Nat × Nat)) : ∀ k, lastLe n R k ≤ k - 1
  | 0 => by simp [lastLe]
  | k + 1 => by
    have := lastLe_lt n R k
    unfold lastLe
    split <;> omega
theorem sym_lt (n : Int) (R : List (Nat × Nat)) (h : 0 < R.length) : sym n R < R.length := by
  have := lastLe_lt n R R.length
  unfold sym
  omega
/-- the rows rise -/
def Rise (R : List (Nat × Nat)) : Prop := ∀ i, i + 1 < R.length → least R i < least R (i + 1) ∧ least R (i + 1) ≤ least R i + 2 ^ wid R i
theorem rise_lens : Rise lens := by
  intro i hi
  have h : ∀ i : Fin 28, least lens i < least lens (i + 1) ∧ least lens (i + 1) ≤ least lens i + 2 ^ wid lens i := by decide +kernel
  exact h ⟨i, by simp [lens] at hi; omega⟩
theorem rise_dists : Rise dists := by
  intro i hi
  have h : ∀ i : Fin 29, least dists i < least dists (i + 1) ∧ least dists (i + 1) ≤ least dists i + 2 ^ wid dists i := by decide +kernel
  exact h ⟨i, by simp [dists] at hi; omega⟩
theorem rise_le {R : List (Nat × Nat)} (h : Rise R) : ∀ d i, i + d < R.length → least R i ≤ least R (i + d)
  | 0, i, hi => Nat.le_refl _
  | d + 1, i, hi => by
    have h1 := rise_le h d i (by omega)
    have h2 := (h (i + d) (by omega)).1
    rw [← Nat.add_assoc]
    omega
/-- the symbol tells no more than the number, and the next one more -/
theorem lastLe_is {R : List (Nat × Nat)} (n : Int) (h0 : (least R 0 : Int) ≤ n) : ∀ k, 0 < k → (least R (lastLe n R k) : Int) ≤ n ∧ ∀ j, lastLe n R k < j → j < k → n < (least R j : Int)
  | 0, hk => by omega
  | k + 1, _ => by
    unfold lastLe
    split
    · rename_i hc
      exact ⟨hc, fun j h1 h2 => by omega⟩
    · rename_i hc
      rcases Nat.eq_zero_or_pos k with h | h
      · subst h
        exact absurd h0 hc
      · obtain ⟨h1, h2⟩ := lastLe_is n h0 k h
        refine ⟨h1, fun j hj1 hj2 => ?_⟩
        by_cases e : j = k
        · rw [e]; exact Int.not_le.1 hc
        · exact h2 j hj1 (by omega)
theorem sym_is {R : List (Nat × Nat)} (n : Int) (hR : 0 < R.length) (h0 : (least R 0 : Int) ≤ n) : (least R (sym n R) : Int) ≤ n ∧ ∀ j, sym n R < j → j < R.length → n < (least R j : Int) := lastLe_is n h0 R.length hR
/-- what follows is within its bits -/
theorem sym_wid {R : List (Nat × Nat)} (n : Int) (hR : 0 < R.length) (hr : Rise R) (h0 : (least R 0 : Int) ≤ n) (hend : n < (least R (R.length - 1) + 2 ^ wid R (R.length - 1) : Nat)) : n < (least R (sym n R) + 2 ^ wid R (sym n R) : Nat) := by
  obtain ⟨h1, h2⟩ := sym_is n hR h0
  have hlt := sym_lt n R hR
  by_cases e : sym n R + 1 < R.length
  · have h3 := h2 (sym n R + 1) (by omega) e
    have h4 := (hr (sym n R) e).2
    omega
  · have e2 : sym n R = R.length - 1 := by omega
    rw [e2]
    exact hend
theorem sym_mono {R : List (Nat × Nat)} (x y : Int) (hR : 0 < R.length) (hx : (least R 0 : Int) ≤ x) (hxy : x ≤ y) : sym x R ≤ sym y R := by
  obtain ⟨h1, _⟩ := sym_is x hR hx
  obtain ⟨_, h2⟩ := sym_is y hR (by omega)
  rcases Nat.lt_or_ge (sym y R) (sym x R) with h | h
  · have := h2 (sym x R) h (sym_lt x R hR)
    omega
  · exact h

/-- a number that counts as one between two -/
def clampI (n lo hi : Int) : Int := min (max n lo) hi
def lenS (n : Int) : Nat := sym (clampI n 3 258) lens
def distS (n : Int) : Nat := sym (clampI n 1 32768) dists
def lenX (n : Int) : Nat := (clampI n 3 258 - least lens (lenS n)).toNat
def distX (n : Int) : Nat := (clampI n 1 32768 - least dists (distS n)).toNat

/-- one more at a place -/
def bump (L : List Nat) (i : Nat) : List Nat := L.set i (L[i]! + 1)
/-- how often symbols are met -/
def weigh : List Tok → List Nat × List Nat → List Nat × List Nat
  | [], p => p
  | t :: T, p => if t.l = 0 then weigh T (bump p.1 t.b.toNat, p.2) else weigh T (bump p.1 (257 + sym t.l lens), bump p.2 (sym t.d dists))
def start : List Nat × List Nat := ((List.replicate 286 0).set 256 1, List.replicate 30 0)
theorem bump_length (L : List Nat) (i : Nat) : (bump L i).length = L.length := by simp [bump]
theorem weigh_length : ∀ (T : List Tok) (p : List Nat × List Nat), (weigh T p).1.length = p.1.length ∧ (weigh T p).2.length = p.2.length
  | [], p => ⟨rfl, rfl⟩
  | t :: T, p => by
    unfold weigh
    split
    · have := weigh_length T (bump p.1 t.b.toNat, p.2)
      simp only [bump_length] at this
      exact this
    · have := weigh_length T (bump p.1 (257 + sym t.l lens), bump p.2 (sym t.d dists))
      simp only [bump_length] at this
      exact this
/-- what is agreed upon -/
def fixA : List Nat := List.replicate 144 8 ++ List.replicate 112 9 ++ List.replicate 24 7 ++ List.replicate 8 8
def fixB : List Nat := List.replicate 32 5
end Go.Proofs.YtahfmcdhcbfkaaaGreatDoor.SyM
namespace Go.Proofs.YtahfmcdhcbfkaaaGreatDoor.SyM

theorem clampI_in (n lo hi : Int) (h : lo ≤ hi) : lo ≤ clampI n lo hi ∧ clampI n lo hi ≤ hi := by unfold clampI; omega
theorem clampI_id (n lo hi : Int) (h1 : lo ≤ n) (h2 : n ≤ hi) : clampI n lo hi = n := by unfold clampI; omega
theorem clampI_mono (x y lo hi : Int) (h : x ≤ y) : clampI x lo hi ≤ clampI y lo hi := by unfold clampI; omega
theorem lens_len : lens.length = 29 := rfl
theorem dists_len : dists.length = 30 := rfl
theorem len_0 : least lens 0 = 3 := rfl
theorem dist_0 : least dists 0 = 1 := rfl

theorem lenS_lt (n : Int) : lenS n < 29 := sym_lt _ lens (by decide)
theorem distS_lt (n : Int) : distS n < 30 := sym_lt _ dists (by decide)
theorem lenX_is (n : Int) : (least lens (lenS n) : Int) + (lenX n : Int) = clampI n 3 258 ∧ lenX n < 2 ^ wid lens (lenS n) := by
  have hc := clampI_in n 3 258 (by omega)
  have h1 := (sym_is (R := lens) (clampI n 3 258) (by decide) (by rw [len_0]; omega)).1
  have h2 := sym_wid (R := lens) (clampI n 3 258) (by decide) rise_lens (by rw [len_0]; omega) (by
    have e : least lens (lens.length - 1) + 2 ^ wid lens (lens.length - 1) = 259 := by decide +kernel
    rw [e]; omega)
  have h1' : (least lens (lenS n) : Int) ≤ clampI n 3 258 := h1
  have h2' : clampI n 3 258 < (least lens (lenS n) + 2 ^ wid lens (lenS n) : Nat) := h2
  unfold lenX
  generalize 2 ^ wid lens (lenS n) = p at h2' ⊢
  omega
theorem distX_is (n : Int) : (least dists (distS n) : Int) + (distX n : Int) = clampI n 1 32768 ∧ distX n < 2 ^ wid dists (distS n) := by
  have hc := clampI_in n 1 32768 (by omega)
  have h1 := (sym_is (R := dists) (clampI n 1 32768) (by decide) (by rw [dist_0]; omega)).1
  have h2 := sym_wid (R := dists) (clampI n 1 32768) (by decide) rise_dists (by rw [dist_0]; omega) (by
    have e : least dists (dists.length - 1) + 2 ^ wid dists (dists.length - 1) = 32769 := by decide +kernel
    rw [e]; omega)
  have h1' : (least dists (distS n) : Int) ≤ clampI n 1 32768 := h1
  have h2' : clampI n 1 32768 < (least dists (distS n) + 2 ^ wid dists (distS n) : Nat) := h2
  unfold distX
  generalize 2 ^ wid dists (distS n) = p at h2' ⊢
  omega
theorem lenX_le (n : Int) : lenX n ≤ 258 ∧ least lens (lenS n) ≤ 258 := by
  have h := (lenX_is n).1
  have hc := clampI_in n 3 258 (by omega)
  omega
theorem distX_le (n : Int) : distX n ≤ 32768 ∧ least dists (distS n) ≤ 32768 := by
  have h := (distX_is n).1
  have hc := clampI_in n 1 32768 (by omega)
  omega
theorem lens_wid (i : Nat) : wid lens i ≤ 13 := by
  rcases Nat.lt_or_ge i 29 with h | h
  · have := (by decide +kernel : ∀ i : Fin 29, wid lens (i : Nat) ≤ 13) ⟨i, h⟩
    exact this
  · unfold wid; rw [getElem!_neg lens i (by simp [lens_len]; omega)]; exact Nat.zero_le _
theorem dists_wid (i : Nat) : wid dists i ≤ 13 := by
  rcases Nat.lt_or_ge i 30 with h | h
  · have := (by decide +kernel : ∀ i : Fin 30, wid dists (i : Nat) ≤ 13) ⟨i, h⟩
    exact this
  · unfold wid; rw [getElem!_neg dists i (by simp [dists_len]; omega)]; exact Nat.zero_le _
theorem lenS_mono (x y : Int) (h : x ≤ y) : lenS x ≤ lenS y ∧ (lenS x = lenS y → lenX x ≤ lenX y) := by
  have hc := clampI_in x 3 258 (by omega)
  have hm := clampI_mono x y 3 258 h
  refine ⟨sym_mono (R := lens) _ _ (by decide) (by rw [len_0]; omega) hm, fun e => ?_⟩
  have h1 := (lenX_is x).1
  have h2 := (lenX_is y).1
  rw [e] at h1
  omega
theorem distS_mono (x y : Int) (h : x ≤ y) : distS x ≤ distS y ∧ (distS x = distS y → distX x ≤ distX y) := by
  have hc := clampI_in x 1 32768 (by omega)
  have hm := clampI_mono x y 1 32768 h
  refine ⟨sym_mono (R := dists) _ _ (by decide) (by rw [dist_0]; omega) hm, fun e => ?_⟩
  have h1 := (distX_is x).1
  have h2 := (distX_is y).1
  rw [e] at h1
  omega
theorem fix_len : fixA.length = 288 ∧ fixB.length = 32 := by decide +kernel
theorem fix_at (k : Nat) (h : k < 288) : fixA[k]! = (if 143 < k ∧ k < 256 then 9 else if 255 < k ∧ k < 280 then 7 else 8) ∧ fixB[k % 32]! = 5 := by
  have := (by decide +kernel : ∀ k : Fin 288, fixA[(k : Nat)]! = (if 143 < (k : Nat) ∧ (k : Nat) < 256 then 9 else if 255 < (k : Nat) ∧ (k : Nat) < 280 then 7 else 8) ∧ fixB[(k : Nat) % 32]! = 5) ⟨k, h⟩
  exact this
end Go.Proofs.YtahfmcdhcbfkaaaGreatDoor.SyM
namespace Go.Proofs.YtahfmcdhcbfkaaaGreatDoor.DeM
open BitsM CoM

/-- the bits of a symbol's code -/
def codeBits (cs len : List Nat) (s : Nat) : List Bool := (low cs[s]! (min len[s]! 64)).reverse
/-- the bits of a token -/
def tokBits (xs a ys b : List Nat) (t : LzM.Tok) : List Bool :=
  if t.l = 0 then codeBits xs a t.b.toNat
  else codeBits xs a (257 + SyM.lenS t.l) ++ low (SyM.lenX t.l) (SyM.wid SyM.lens (SyM.lenS t.l)) ++ (codeBits ys b (SyM.distS t.d) ++ low (SyM.distX t.d) (SyM.wid SyM.dists (SyM.distS t.d)))
/-- the bits of tokens, and of the end, by the lengths of two codes -/
def toksBits (a b : List Nat) (T : List LzM.Tok) : List Bool :=
  T.flatMap (tokBits (HuffM.codesL (ints a)) a (HuffM.codesL (ints b)) b) ++ codeBits (HuffM.codesL (ints a)) a 256
def fixedBits (B : List UInt8) : List Bool := [true, true, false] ++ toksBits SyM.fixA SyM.fixB (LzM.press B)
/-- the lengths of a dynamic block's codes -/
def dynX (T : List LzM.Tok) : List Nat := HuffM.lens 15 (SyM.weigh T SyM.start).1
def dynY (T : List LzM.Tok) : List Nat := HuffM.lens 15 (SyM.weigh T SyM.start).2
def dynBits (B : List UInt8) : List Bool := [true, false, true] ++ putBits (trimL (dynX (LzM.press B)) 257) (trimL (dynY (LzM.press B)) 1) ++ toksBits (dynX (LzM.press B)) (dynY (LzM.press B)) (LzM.press B)
def head5 (last n : Nat) : List UInt8 := [UInt8.ofNat last, UInt8.ofNat (n % 256), UInt8.ofNat (n / 256), UInt8.ofNat (255 - n % 256), UInt8.ofNat (255 - n / 256)]
def storedF : Nat → List UInt8 → List UInt8
  | 0, B => head5 1 B.length ++ B
  | f + 1, B => if 65535 < B.length then head5 0 65535 ++ B.take 65535 ++ storedF f (B.drop 65535) else head5 1 B.length ++ B
def storedB (B : List UInt8) : List UInt8 := storedF B.length B
/-- the shortest: of several the first -/
def pressB (B : List UInt8) : List UInt8 :=
  let n := 8 * (storedB B).length
  if (fixedBits B).length < n then
    if (dynBits B).length < (fixedBits B).length then pack (dynBits B) else pack (fixedBits B)
  else if (dynBits B).length < n then pack (dynBits B) else storedB B
theorem storedF_more : ∀ f B, B.length ≤ f → ∀ g, storedF (f + g) B = storedF f B
  | 0, B, h, 0 => rfl
  | 0, B, h, g + 1 => by
    rw [Nat.zero_add]
    show (if 65535 < B.length then _ else _) = _
    rw [if_neg (by omega)]
    rfl
  | f + 1, B, h, g => by
    rw [show f + 1 + g = (f + g) + 1 by omega, storedF, storedF]
    split
    · rw [storedF_more f _ (by rw [List.length_drop]; omega) g]
    · rfl
theorem storedB_less (B : List UInt8) (h : B.length ≤ 65535) : storedB B = head5 1 B.length ++ B := by
  unfold storedB
  cases hn : B.length with
  | zero => rw [storedF, hn]
  | succ k => rw [storedF, if_neg (by omega), hn]
theorem storedB_more (B : List UInt8) (h : 65535 < B.length) : storedB B = head5 0 65535 ++ B.take 65535 ++ storedB (B.drop 65535) := by
  unfold storedB
  obtain ⟨k, hk⟩ : ∃ k, B.length = k + 1 := ⟨B.length - 1, by omega⟩
  rw [hk, storedF, if_pos (by omega)]
  congr 1
  obtain ⟨g, hg⟩ : ∃ g, k = (B.drop 65535).length + g := ⟨k - (B.drop 65535).length, by rw [List.length_drop]; omega⟩
  rw [hg]
  exact storedF_more _ _ (Nat.le_refl _) g
/-- the shortest is none longer than any, and one of them -/
theorem press_is (B : List UInt8) : (pressB B = storedB B ∨ pressB B = pack (fixedBits B) ∨ pressB B = pack (dynBits B)) ∧
    (pressB B).length ≤ (storedB B).length ∧ (pressB B).length ≤ (pack (fixedBits B)).length ∧ (pressB B).length ≤ (pack (dynBits B)).length := by
  unfold pressB
  simp only
  split
  · split
    · refine ⟨.inr (.inr rfl), ?_, ?_, ?_⟩ <;> (try simp only [pack_length]) <;> omega
    · refine ⟨.inr (.inl rfl), ?_, ?_, ?_⟩ <;> (try simp only [pack_length]) <;> omega
  · split
    · refine ⟨.inr (.inr rfl), ?_, ?_, ?_⟩ <;> (try simp only [pack_length]) <;> omega
    · refine ⟨.inl rfl, ?_, ?_, ?_⟩ <;> (try simp only [pack_length]) <;> omega
end Go.Proofs.YtahfmcdhcbfkaaaGreatDoor.DeM
