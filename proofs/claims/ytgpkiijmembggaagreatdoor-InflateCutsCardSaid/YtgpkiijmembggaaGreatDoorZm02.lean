/-
  Plain mathematics of layer 5's lengths: the loop of halving ends; symbols of no weight behind change nothing.
  Plain mathematics of layer 5's lengths: the depths of groups that are joined two by two, the least first: who weighs more is no deeper, the depths' parts make one whole, and a deep one wants much weight.
  Plain mathematics of layer 5's lengths: the reference's joins make depths (XHuffP), in the groups' own row.
  Plain mathematics of layer 5: the lengths by weights: a code there is (Kraft's sum is whole), 0 just of who has no weight, who weighs more has no longer one, and with little weight nothing is halved.
-/
import Derived.Test.YtgpkiijmembggaaGreatDoorZm01
namespace Go.Proofs.YtgpkiijmembggaaGreatDoor.HuffM

def cnt (W : List Nat) : Nat := W.countP fun x => decide (0 < x)
def fits (most : Nat) (o : List Nat) : Bool := o.all fun x => decide (x ≤ most)
theorem half_len (W : List Nat) : (half W).length = W.length := by simp [half]
theorem cnt_half (W : List Nat) : cnt (half W) = cnt W := by
  unfold cnt half
  rw [List.countP_map]
  congr 1
  funext x
  simp only [Function.comp_def]
  rw [Bool.eq_iff_iff]
  simp
  omega
theorem sum_half_le (W : List Nat) : (half W).sum ≤ W.sum := by
  induction W with
  | nil => simp [half]
  | cons x W ih => simp only [half, List.map_cons, List.sum_cons] at ih ⊢; omega
theorem sum_half_lt (W : List Nat) (h : ∃ x ∈ W, 1 < x) : (half W).sum < W.sum := by
  induction W with
  | nil => obtain ⟨x, hx, _⟩ := h; simp at hx
  | cons y W ih =>
    obtain ⟨x, hx, h1⟩ := h
    have := sum_half_le W
    rcases List.mem_cons.1 hx with rfl | hx
    · simp only [half, List.map_cons, List.sum_cons] at this ⊢; omega
    · have := ih ⟨x, hx, h1⟩
      simp only [half, List.map_cons, List.sum_cons] at this ⊢; omega
theorem gI_step (W : List Nat) (i : Nat) : gI W (i + 1) = if 0 < W.getD i 0 then gI W i ++ [⟨W.getD i 0, [i]⟩] else gI W i := rfl
theorem sy_snoc (l : List Grp) (g : Grp) : sy (l ++ [g]) = sy l ++ g.s := by simp [sy]
theorem gI_sy (W : List Nat) (i : Nat) : (∀ s ∈ sy (gI W i), s < i) ∧ (sy (gI W i)).Nodup := by
  induction i with
  | zero => simp [gI, sy]
  | succ i ih =>
    rw [gI_step]
    split
    · rw [sy_snoc]
      refine ⟨fun s hs => ?_, ?_⟩
      · rcases List.mem_append.1 hs with hs | hs
        · have := ih.1 s hs; omega
        · simp at hs; omega
      · rw [List.nodup_append]
        refine ⟨ih.2, by simp, fun a ha b hb => ?_⟩
        simp at hb
        have := ih.1 a ha
        omega
    · exact ⟨fun s hs => by have := ih.1 s hs; omega, ih.2⟩
theorem gI_w (W : List Nat) (i : Nat) : ∀ g ∈ gI W i, 0 < g.w ∧ ∃ j, j < i ∧ g.w = W.getD j 0 ∧ g.s = [j] := by
  induction i with
  | zero => intro g hg; simp [gI] at hg
  | succ i ih =>
    intro g hg
    rw [gI_step] at hg
    split at hg
    · rename_i h
      rcases List.mem_append.1 hg with hg | hg
      · obtain ⟨h1, j, h2, h3⟩ := ih g hg; exact ⟨h1, j, by omega, h3⟩
      · simp at hg; subst hg; exact ⟨h, i, by omega, rfl, rfl⟩
    · obtain ⟨h1, j, h2, h3⟩ := ih g hg; exact ⟨h1, j, by omega, h3⟩
theorem gI_sum (W : List Nat) (i : Nat) (hi : i ≤ W.length) : sumW (gI W i) = (W.take i).sum := by
  induction i with
  | zero => simp [gI, sumW]
  | succ i ih =>
    have ih := ih (by omega)
    have e : W[i]? = some (W.getD i 0) := by rw [List.getD_eq_getElem?_getD, List.getElem?_eq_getElem (by omega)]; rfl
    rw [gI_step, take_snoc e, List.sum_append]
    split
    · unfold sumW at ih ⊢
      rw [List.map_append, List.sum_append, ih]
      simp
    · rename_i h
      rw [List.getD_eq_getElem?_getD] at h
      rw [ih]
      simp
      omega
theorem zero_at (n s : Nat) : oat (List.replicate n 0) s = 0 := by
  unfold oat
  rw [List.getD_eq_getElem?_getD, List.getElem?_replicate]
  split <;> rfl
theorem good0 (W : List Nat) : Good (gI W W.length) (once0 W) := by
  obtain ⟨h1, h2⟩ := gI_sy W W.length
  exact ⟨h2, fun s hs => by unfold once0; rw [List.length_replicate]; exact h1 s hs, fun s _ => zero_at _ _⟩
theorem mem_getD {W : List Nat} {j : Nat} (h : 0 < W.getD j 0) : W.getD j 0 ∈ W := by
  rw [List.getD_eq_getElem?_getD] at h ⊢
  cases hj : W[j]? with
  | none => rw [hj] at h; simp at h
  | some x => simpa using List.mem_of_getElem? hj
theorem sum_ones {W : List Nat} (h : ∀ x ∈ W, x ≤ 1) : W.sum = cnt W := by
  induction W with
  | nil => rfl
  | cons x W ih =>
    have h1 := ih (fun y hy => h y (List.mem_cons_of_mem _ hy))
    have h2 := h x (List.mem_cons_self ..)
    unfold cnt at h1 ⊢
    rw [List.sum_cons, List.countP_cons, h1]
    rcases (show x = 0 ∨ x = 1 by omega) with rfl | rfl <;> simp; omega
theorem merge_one (f : Nat) (l : List Grp) (o : List Nat) (h : l.length ≤ 1) : mergeF f l o = o := by
  cases f with
  | zero => rfl
  | succ f => rw [mergeF, if_pos h]
theorem mergeF_len (f : Nat) (l : List Grp) (o : List Nat) : (mergeF f l o).length = o.length := by
  induction f generalizing l o with
  | zero => rfl
  | succ f ih =>
    rw [mergeF]
    split
    · rfl
    · rw [ih, incs_len]
theorem onceL_len (W : List Nat) : (onceL W).length = W.length := by
  unfold onceL
  simp only [mergeF_len]
  split <;> simp [once0]
theorem fits_ones {W : List Nat} {most : Nat} (h : ∀ x ∈ W, x ≤ 1) (hc : cnt W ≤ 2 ^ most) (hm : 1 ≤ most) : fits most (onceL W) = true := by
  have key : ∀ s, oat (onceL W) s ≤ most := by
    intro s
    unfold onceL
    by_cases h1 : (gI W W.length).length = 1
    · simp only [h1, if_true]
      rw [merge_one _ _ _ (by omega)]
      unfold oat
      rw [List.getD_eq_getElem?_getD, List.getElem?_set]
      split
      · split <;> simp <;> omega
      · rw [← List.getD_eq_getElem?_getD]
        have := zero_at W.length s
        unfold oat at this
        unfold once0
        omega
    · simp only [if_neg h1]
      refine merge_fits most _ 0 _ _ (Nat.le_refl _) ⟨fun g hg => ?_, ?_⟩ (good0 W) ?_ s
      · obtain ⟨h2, j, h3, h4, h5⟩ := gI_w W W.length g hg
        have h6 := h (W.getD j 0) (mem_getD (by omega))
        exact .inl ⟨by rw [Nat.pow_zero]; omega, fun s _ => by have := zero_at W.length s; unfold once0; omega⟩
      · have : (gI W W.length).countP (irr 0) = 0 := by
          rw [List.countP_eq_zero]
          intro g _
          simp [irr]
          omega
        omega
      · rw [gI_sum W W.length (Nat.le_refl _), List.take_length, sum_ones h]
        exact hc
  unfold fits
  rw [List.all_eq_true]
  intro x hx
  obtain ⟨i, hi, e⟩ := List.mem_iff_getElem.1 hx
  have := key i
  unfold oat at this
  rw [List.getD_eq_getElem?_getD, List.getElem?_eq_getElem hi] at this
  simp at this ⊢
  omega
/-- what does not fit has a weight above 1 -/
theorem not_fits {W : List Nat} {most : Nat} (hc : cnt W ≤ 2 ^ most) (hm : 1 ≤ most) (h : fits most (onceL W) = false) : ∃ x ∈ W, 1 < x := by
  apply Classical.byContradiction
  intro h1
  have : ∀ x ∈ W, x ≤ 1 := fun x hx => by
    rcases Nat.lt_or_ge 1 x with h2 | h2
    · exact absurd ⟨x, hx, h2⟩ h1
    · exact h2
  rw [fits_ones this hc hm] at h
  cases h
theorem lensF_succ (most f : Nat) (W : List Nat) : lensF most (f + 1) W = if fits most (onceL W) = true then onceL W else lensF most f (half W) := rfl
theorem lensF_same {most : Nat} (hm : 1 ≤ most) : ∀ (f f' : Nat) (W : List Nat), cnt W ≤ 2 ^ most → W.sum < f → W.sum < f' → lensF most f W = lensF most f' W := by
  intro f
  induction f with
  | zero => intro f' W _ h; omega
  | succ f ih =>
    intro f' W hc h h'
    obtain ⟨g, rfl⟩ : ∃ g, f' = g + 1 := ⟨f' - 1, by omega⟩
    rw [lensF_succ, lensF_succ]
    cases hf : fits most (onceL W) with
    | true => rfl
    | false =>
      have h1 := sum_half_lt W (not_fits hc hm hf)
      simp only [Bool.false_eq_true, if_false]
      exact ih g (half W) (by rw [cnt_half]; exact hc) (by omega) (by omega)
theorem lens_yes {most : Nat} {W : List Nat} (h : fits most (onceL W) = true) : lens most W = onceL W := by
  unfold lens
  rw [lensF_succ, if_pos h]
theorem lens_no {most : Nat} {W : List Nat} (hm : 1 ≤ most) (hc : cnt W ≤ 2 ^ most) (h : fits most (onceL W) = false) : lens most W = lens most (half W) ∧ (half W).sum < W.sum := by
  have h1 := sum_half_lt W (not_fits hc hm h)
  refine ⟨?_, h1⟩
  unfold lens
  rw [lensF_succ, if_neg (by rw [h]; simp)]
  exact lensF_same hm _ _ _ (by rw [cnt_half]; exact hc) (by omega) (by omega)
theorem lens_len (most : Nat) (W : List Nat) : (lens most W).length = W.length := by
  have key : ∀ (f : Nat) (W : List Nat), (lensF most f W).length = W.length := by
    intro f
    induction f with
    | zero => intro W; exact onceL_len W
    | succ f ih =>
      intro W
      rw [lensF_succ]
      split
      · exact onceL_len W
      · rw [ih, half_len]
  exact key _ W

/-! ### no weight behind -/
theorem getD_zeros (W : List Nat) (m i : Nat) : (W ++ List.replicate m 0).getD i 0 = W.getD i 0 := by
  rw [List.getD_eq_getElem?_getD, List.getD_eq_getElem?_getD]
  rcases Nat.lt_or_ge i W.length with h | h
  · rw [List.getElem?_append_left h]
  · rw [List.getElem?_append_right h, List.getElem?_eq_none h, List.getElem?_replicate]
    split <;> rfl
theorem gI_zeros (W : List Nat) (m i : Nat) : gI (W ++ List.replicate m 0) i = gI W i := by
  induction i with
  | zero => rfl
  | succ i ih => rw [gI_step, gI_step, getD_zeros, ih]
theorem gI_more (W : List Nat) (d : Nat) : gI W (W.length + d) = gI W W.length := by
  induction d with
  | zero => rfl
  | succ d ih =>
    rw [← Nat.add_assoc, gI_step, ih, if_neg]
    rw [List.getD_eq_getElem?_getD, List.getElem?_eq_none (by omega)]
    simp
theorem inc_zeros (o Z : List Nat) (s : Nat) (hs : s < o.length) : inc (o ++ Z) s = inc o s ++ Z := by
  unfold inc
  rw [List.set_append_left _ _ hs]
  congr 2
  rw [List.getD_eq_getElem?_getD, List.getD_eq_getElem?_getD, List.getElem?_append_left hs]
theorem incs_zeros (o Z S : List Nat) (hS : ∀ s ∈ S, s < o.length) : incs (o ++ Z) S = incs o S ++ Z := by
  induction S generalizing o with
  | nil => rfl
  | cons s S ih =>
    show incs (inc (o ++ Z) s) S = incs (inc o s) S ++ Z
    rw [inc_zeros _ _ _ (hS s (List.mem_cons_self ..))]
    exact ih (inc o s) (fun x hx => by rw [inc_len]; exact hS x (List.mem_cons_of_mem _ hx))
theorem merge_zeros (Z : List Nat) (f : Nat) : ∀ (l : List Grp) (o : List Nat), Good l o → mergeF f l (o ++ Z) = mergeF f l o ++ Z := by
  induction f with
  | zero => intro l o _; rfl
  | succ f ih =>
    intro l o hg
    rw [mergeF, mergeF]
    split
    · rfl
    · rename_i h
      obtain ⟨x, y, R, hp, hj, hgr, _⟩ := join_spec (l := l) (by omega)
      rw [incs_zeros o Z _ (fun s hs => hg.lt s (by
        rw [hgr] at hs
        rcases List.mem_append.1 hs with h1 | h1
        · exact mem_sy (hp.symm.subset (List.mem_cons_self ..)) h1
        · exact mem_sy (hp.symm.subset (List.mem_cons_of_mem _ (List.mem_cons_self ..))) h1))]
      exact ih _ _ (hg.join (by omega)).1
theorem once_zeros (W : List Nat) (m : Nat) : onceL (W ++ List.replicate m 0) = onceL W ++ List.replicate m 0 := by
  unfold onceL
  have e : gI (W ++ List.replicate m 0) (W ++ List.replicate m 0).length = gI W W.length := by
    rw [gI_zeros, List.length_append, gI_more]
  have e0 : once0 (W ++ List.replicate m 0) = once0 W ++ List.replicate m 0 := by
    unfold once0
    rw [List.length_append, List.length_replicate, List.replicate_append_replicate]
  simp only [e, e0]
  by_cases h : (gI W W.length).length = 1
  · simp only [h, if_true]
    rw [merge_one _ _ _ (by omega), merge_one _ _ _ (by omega), List.set_append_left]
    match hg : gI W W.length, h with
    | [g], _ =>
      obtain ⟨_, j, hj, _, hs⟩ := gI_w W W.length g (by rw [hg]; simp)
      have : (gat [g] 0).s = [j] := by rw [show gat [g] 0 = g from rfl, hs]
      rw [this]
      simpa [once0] using hj
  · simp only [if_neg h]
    exact merge_zeros _ _ _ _ (good0 W)
theorem half_zeros (W : List Nat) (m : Nat) : half (W ++ List.replicate m 0) = half W ++ List.replicate m 0 := by
  unfold half
  rw [List.map_append]
  simp
theorem fits_zeros (most : Nat) (o : List Nat) (m : Nat) : fits most (o ++ List.replicate m 0) = fits most o := by
  unfold fits
  rw [List.all_append]
  have : (List.replicate m 0).all (fun x => decide (x ≤ most)) = true := by
    rw [List.all_eq_true]
    intro x hx
    have := List.eq_of_mem_replicate hx
    simp
    omega
  rw [this, Bool.and_true]
theorem lens_zeros (most : Nat) (W : List Nat) (m : Nat) : lens most (W ++ List.replicate m 0) = lens most W ++ List.replicate m 0 := by
  have key : ∀ (f : Nat) (W : List Nat), lensF most f (W ++ List.replicate m 0) = lensF most f W ++ List.replicate m 0 := by
    intro f
    induction f with
    | zero => intro W; exact once_zeros W m
    | succ f ih =>
      intro W
      rw [lensF_succ, lensF_succ, once_zeros, fits_zeros, half_zeros, ih]
      split <;> rfl
  unfold lens
  have : (W ++ List.replicate m 0).sum = W.sum := by simp
  rw [this]
  exact key _ W
end Go.Proofs.YtgpkiijmembggaaGreatDoor.HuffM
namespace Go.Proofs.YtgpkiijmembggaaGreatDoor.HuffM

/-- groups in their row, each with its depth in the end -/
inductive Dep : List (Grp × Nat) → Prop
  | nil : Dep []
  | one (g : Grp) : Dep [(g, 0)]
  | step (A B C E : List (Grp × Nat)) (x y : Grp) (d : Nat) (l : List (Grp × Nat)) (hl : l = A ++ (x, d + 1) :: B) (he : A ++ B = C ++ (y, d + 1) :: E)
      (hA : ∀ z ∈ A, x.w < z.1.w) (hB : ∀ z ∈ B, x.w ≤ z.1.w) (hC : ∀ z ∈ C, y.w < z.1.w) (hE : ∀ z ∈ E, y.w ≤ z.1.w)
      (hn : Dep (C ++ E ++ [(⟨x.w + y.w, x.s ++ y.s⟩, d)])) : Dep l
def DRel (p q : Grp × Nat) : Prop := (p.1.w ≤ q.1.w → q.2 ≤ p.2) ∧ (q.1.w < p.1.w → p.2 ≤ q.2)
def Deep1 (l : List (Grp × Nat)) : Prop := ∀ c T, l.Perm (c :: T) → T.Pairwise (fun x y => c.1.w ≤ x.1.w + y.1.w) → ∀ z ∈ T, z.2 ≤ c.2 + 1
section
variable {A B C E : List (Grp × Nat)} {x y : Grp} {d : Nat} {l : List (Grp × Nat)}
theorem step_perm (hl : l = A ++ (x, d + 1) :: B) (he : A ++ B = C ++ (y, d + 1) :: E) : l.Perm ((x, d + 1) :: (y, d + 1) :: (C ++ E)) := by
  subst hl
  refine List.perm_middle.trans (List.Perm.cons _ ?_)
  rw [he]
  exact List.perm_middle
theorem step_le (he : A ++ B = C ++ (y, d + 1) :: E) (hA : ∀ z ∈ A, x.w < z.1.w) (hB : ∀ z ∈ B, x.w ≤ z.1.w) : x.w ≤ y.w := by
  have h : (y, d + 1) ∈ A ++ B := by rw [he]; simp
  rcases List.mem_append.1 h with h | h
  · exact Nat.le_of_lt (hA _ h)
  · exact hB _ h
theorem step_rest (hC : ∀ z ∈ C, y.w < z.1.w) (hE : ∀ z ∈ E, y.w ≤ z.1.w) : ∀ z ∈ C ++ E, y.w ≤ z.1.w := by
  intro z hz
  rcases List.mem_append.1 hz with h | h
  · exact Nat.le_of_lt (hC _ h)
  · exact hE _ h
end
theorem pair_of {c : Nat} {R : List (Grp × Nat)} (h : ∀ z ∈ R, ∀ z' ∈ R, c ≤ z.1.w + z'.1.w) : R.Pairwise (fun x y => c ≤ x.1.w + y.1.w) := by
  induction R with
  | nil => exact List.Pairwise.nil
  | cons a R ih =>
    refine List.Pairwise.cons (fun z hz => h a (by simp) z (by simp [hz])) (ih fun z hz z' hz' => h z (by simp [hz]) z' (by simp [hz']))
theorem pair_perm {c : Nat} {R R' : List (Grp × Nat)} (hp : R.Perm R') (h : R.Pairwise (fun x y => c ≤ x.1.w + y.1.w)) : R'.Pairwise (fun x y => c ≤ x.1.w + y.1.w) :=
  (hp.pairwise_iff (fun {a b} h => by omega)).1 h
theorem Dep.both {l : List (Grp × Nat)} (h : Dep l) : l.Pairwise DRel ∧ Deep1 l := by
  induction h with
  | nil => exact ⟨List.Pairwise.nil, fun c T h => by have := h.length_eq; simp at this⟩
  | one g =>
    refine ⟨List.pairwise_singleton .., fun c T h _ z hz => ?_⟩
    have := h.length_eq
    cases T with
    | nil => simp at hz
    | cons _ _ => simp at this
  | step A B C E x y d l hl he hA hB hC hE hn ih =>
    obtain ⟨hm, hd⟩ := ih
    have hxy := step_le he hA hB
    have hR := step_rest hC hE
    have hp := step_perm hl he
    have hab : ((C ++ E) ++ [((⟨x.w + y.w, x.s ++ y.s⟩ : Grp), d)]).Perm ((⟨x.w + y.w, x.s ++ y.s⟩, d) :: (C ++ E)) := List.perm_append_singleton _ _
    -- whoever is left is at most one deeper than the new one
    have hr : ∀ z ∈ C ++ E, z.2 ≤ d + 1 := by
      refine hd _ _ hab (pair_of fun z hz z' hz' => ?_)
      have h1 := hR z hz
      have h2 := hR z' hz'
      show x.w + y.w ≤ _
      omega
    rw [List.pairwise_append] at hm
    obtain ⟨hm1, _, hm2⟩ := hm
    rw [List.pairwise_append] at hm1
    obtain ⟨hmC, hmE, hmCE⟩ := hm1
    have hAB : (A ++ B).Pairwise DRel := by
      rw [he, List.pairwise_append]
      refine ⟨hmC, List.Pairwise.cons (fun q hq => ?_) hmE, fun p hp q hq => ?_⟩
      · have h1 := hE q hq
        have h2 := hr q (by simp [hq])
        exact ⟨fun _ => h2, fun h => by simp only at h; omega⟩
      · rcases List.mem_cons.1 hq with rfl | hq
        · have h1 := hC p hp
          have h2 := hr p (by simp [hp])
          exact ⟨fun h => by simp only at h; omega, fun _ => h2⟩
        · exact hmCE p hp q hq
    have hAB2 : ∀ z ∈ A ++ B, z.2 ≤ d + 1 := by
      intro z hz
      rw [he] at hz
      rcases List.mem_append.1 hz with h | h
      · exact hr z (by simp [h])
      · rcases List.mem_cons.1 h with rfl | h
        · exact Nat.le_refl _
        · exact hr z (by simp [h])
    constructor
    · rw [hl, List.pairwise_append]
      rw [List.pairwise_append] at hAB
      obtain ⟨h1, h2, h3⟩ := hAB
      refine ⟨h1, List.Pairwise.cons (fun q hq => ?_) h2, fun p hp q hq => ?_⟩
      · have h1 := hB q hq
        exact ⟨fun _ => hAB2 q (by simp [hq]), fun h => by simp only at h; omega⟩
      · rcases List.mem_cons.1 hq with rfl | hq
        · have h1 := hA p hp
          exact ⟨fun h => by simp only at h; omega, fun _ => hAB2 p (by simp [hp])⟩
        · exact h3 p hp q hq
    · intro c T hcT hpair z hz
      have hq := hcT.symm.trans hp
      have hc : c ∈ (x, d + 1) :: (y, d + 1) :: (C ++ E) := hq.subset (by simp)
      have hz' : z ∈ (x, d + 1) :: (y, d + 1) :: (C ++ E) := hq.subset (by simp [hz])
      rcases List.mem_cons.1 hc with rfl | hc
      · rcases List.mem_cons.1 hz' with rfl | hz'
        · omega
        · rcases List.mem_cons.1 hz' with rfl | hz'
          · omega
          · have := hr z hz'; show z.2 ≤ d + 1 + 1; omega
      · rcases List.mem_cons.1 hc with rfl | hc
        · rcases List.mem_cons.1 hz' with rfl | hz'
          · show d + 1 ≤ d + 1 + 1; omega
          · rcases List.mem_cons.1 hz' with rfl | hz'
            · omega
            · have := hr z hz'; show z.2 ≤ d + 1 + 1; omega
        · obtain ⟨R1, R2, hcr⟩ := List.append_of_mem hc
          have hpR : (C ++ E).Perm (c :: (R1 ++ R2)) := by rw [hcr]; exact List.perm_middle
          have hT : T.Perm ((x, d + 1) :: (y, d + 1) :: (R1 ++ R2)) := by
            have h1 : (c :: T).Perm (c :: (x, d + 1) :: (y, d + 1) :: (R1 ++ R2)) := by
              refine hq.trans ?_
              refine ((hpR.cons _).cons _).trans ?_
              refine ((List.Perm.swap c (y, d + 1) _).cons _).trans ?_
              exact List.Perm.swap c (x, d + 1) _
            exact h1.cons_inv
          have hpt := pair_perm hT hpair
          rw [List.pairwise_cons, List.pairwise_cons] at hpt
          have hcxy := hpt.1 (y, d + 1) (by simp)
          simp only at hcxy
          have hN : ((C ++ E) ++ [((⟨x.w + y.w, x.s ++ y.s⟩ : Grp), d)]).Perm (c :: (⟨x.w + y.w, x.s ++ y.s⟩, d) :: (R1 ++ R2)) :=
            hab.trans ((hpR.cons _).trans (List.Perm.swap ..))
          have hall := hd c _ hN (List.Pairwise.cons (fun z hz => by simp only; omega) hpt.2.2)
          have hdc : d ≤ c.2 := (hm2 c hc (⟨x.w + y.w, x.s ++ y.s⟩, d) (by simp)).1 hcxy
          rcases List.mem_cons.1 (hT.subset hz) with rfl | hz
          · show d + 1 ≤ c.2 + 1; omega
          · rcases List.mem_cons.1 hz with rfl | hz
            · show d + 1 ≤ c.2 + 1; omega
            · exact hall z (by simp only [List.mem_cons]; exact Or.inr hz)
/-- who weighs more is no deeper -/
theorem Dep.mono {l : List (Grp × Nat)} (h : Dep l) {p q : Grp × Nat} (hp : p ∈ l) (hq : q ∈ l) (hw : q.1.w < p.1.w) : p.2 ≤ q.2 := by
  have h1 := h.both.1
  clear h
  induction l with
  | nil => simp at hp
  | cons a l ih =>
    rw [List.pairwise_cons] at h1
    rcases List.mem_cons.1 hp with rfl | hp'
    · rcases List.mem_cons.1 hq with rfl | hq'
      · omega
      · exact (h1.1 q hq').2 hw
    · rcases List.mem_cons.1 hq with rfl | hq'
      · exact (h1.1 p hp').1 (by omega)
      · exact ih hp' hq' h1.2
def fib : Nat → Nat
  | 0 => 0
  | 1 => 1
  | n + 2 => fib n + fib (n + 1)
def wsum (l : List (Grp × Nat)) : Nat := (l.map (·.1.w)).sum
theorem wsum_perm {l l' : List (Grp × Nat)} (h : l.Perm l') : wsum l = wsum l' := (h.map _).sum_nat
theorem Dep.fibs {l : List (Grp × Nat)} (h : Dep l) : ∀ c T m, l.Perm (c :: T) → (∀ z ∈ T, m ≤ z.1.w) → fib c.2 * m + fib (c.2 + 1) * c.1.w ≤ wsum l := by
  induction h with
  | nil => intro c T m h; have := h.length_eq; simp at this
  | one g =>
    intro c T m h _
    have hc : c ∈ [(g, 0)] := h.symm.subset (by simp)
    simp at hc
    subst hc
    simp [fib, wsum]
  | step A B C E x y d l hl he hA hB hC hE hn ih =>
    intro c T m hcT hm
    have hxy := step_le he hA hB
    have hR := step_rest hC hE
    have hp := step_perm hl he
    have hab : ((C ++ E) ++ [((⟨x.w + y.w, x.s ++ y.s⟩ : Grp), d)]).Perm ((⟨x.w + y.w, x.s ++ y.s⟩, d) :: (C ++ E)) := List.perm_append_singleton _ _
    have hs : wsum (C ++ E ++ [((⟨x.w + y.w, x.s ++ y.s⟩ : Grp), d)]) = wsum l := by
      rw [wsum_perm hp, wsum_perm hab]
      simp [wsum]
      omega
    rw [hs] at ih
    have hq := hcT.symm.trans hp
    have hc : c ∈ (x, d + 1) :: (y, d + 1) :: (C ++ E) := hq.subset (by simp)
    have f2 : fib (d + 1 + 1) = fib d + fib (d + 1) := rfl
    rcases List.mem_cons.1 hc with rfl | hc
    · have hT := hq.cons_inv
      have hmy := hm (y, d + 1) (hT.symm.subset (by simp))
      have h1 := ih _ _ x.w hab (fun z hz => by have := hR z hz; omega)
      simp only at h1 hmy ⊢
      have h2 := Nat.mul_le_mul_left (fib (d + 1)) hmy
      rw [f2, Nat.add_mul]
      rw [Nat.mul_add] at h1
      omega
    · rcases List.mem_cons.1 hc with rfl | hc
      · have hT := (hq.trans (List.Perm.swap ..)).cons_inv
        have hmx := hm (x, d + 1) (hT.symm.subset (by simp))
        have h1 := ih _ _ y.w hab (fun z hz => hR z hz)
        simp only at h1 hmx ⊢
        have h2 := Nat.mul_le_mul_left (fib (d + 1)) hmx
        rw [f2, Nat.add_mul]
        rw [Nat.mul_add] at h1
        omega
      · obtain ⟨R1, R2, hcr⟩ := List.append_of_mem hc
        have hpR : (C ++ E).Perm (c :: (R1 ++ R2)) := by rw [hcr]; exact List.perm_middle
        have hT : T.Perm ((x, d + 1) :: (y, d + 1) :: (R1 ++ R2)) := by
          have h1 : (c :: T).Perm (c :: (x, d + 1) :: (y, d + 1) :: (R1 ++ R2)) := by
            refine hq.trans ?_
            refine ((hpR.cons _).cons _).trans ?_
            refine ((List.Perm.swap c (y, d + 1) _).cons _).trans ?_
            exact List.Perm.swap c (x, d + 1) _
          exact h1.cons_inv
        have hN : ((C ++ E) ++ [((⟨x.w + y.w, x.s ++ y.s⟩ : Grp), d)]).Perm (c :: (⟨x.w + y.w, x.s ++ y.s⟩, d) :: (R1 ++ R2)) :=
          hab.trans ((hpR.cons _).trans (List.Perm.swap ..))
        refine ih c _ m hN (fun z hz => ?_)
        rcases List.mem_cons.1 hz with rfl | hz
        · have := hm (x, d + 1) (hT.symm.subset (by simp))
          simp only at this ⊢
          omega
        · exact hm z (hT.symm.subset (by simp only [List.mem_cons]; exact Or.inr (Or.inr hz)))
theorem fib_mono (n k : Nat) : fib (n + 1) ≤ fib (n + 1 + k) := by
  induction k with
  | zero => exact Nat.le_refl _
  | succ k ih =>
    have e : fib (n + 1 + (k + 1)) = fib (n + k) + fib (n + 1 + k) := by
      rw [show n + 1 + (k + 1) = (n + k) + 2 by omega, fib, show n + k + 1 = n + 1 + k by omega]
    omega
/-- with little weight none is deeper than 15 -/
theorem Dep.small {l : List (Grp × Nat)} (h : Dep l) (hw : ∀ p ∈ l, 0 < p.1.w) (hs : wsum l < 2584) : ∀ p ∈ l, p.2 ≤ 15 := by
  intro p hp
  rcases Nat.lt_or_ge 15 p.2 with h1 | h1
  · exfalso
    obtain ⟨P, S, hl⟩ := List.append_of_mem hp
    have hpm : l.Perm (p :: (P ++ S)) := by rw [hl]; exact List.perm_middle
    have h2 := h.fibs p _ 1 hpm (fun z hz => hw z (hpm.symm.subset (List.mem_cons_of_mem _ hz)))
    have h3 := hw p hp
    obtain ⟨k, hk⟩ : ∃ k, p.2 = 15 + 1 + k := ⟨p.2 - 16, by omega⟩
    have h4 := fib_mono 15 k
    have h5 := fib_mono 16 k
    have e1 : fib (15 + 1) = 987 := by decide
    have e2 : fib (16 + 1) = 1597 := by decide
    rw [hk, show 15 + 1 + k + 1 = 16 + 1 + k by omega] at h2
    rw [e1] at h4
    rw [e2] at h5
    have h6 := Nat.mul_le_mul_left (fib (16 + 1 + k)) h3
    omega
  · exact h1
def ksum (N : Nat) (l : List (Grp × Nat)) : Nat := (l.map fun p => 2 ^ (N - p.2)).sum
theorem ksum_perm {N : Nat} {l l' : List (Grp × Nat)} (h : l.Perm l') : ksum N l = ksum N l' := (h.map _).sum_nat
theorem Dep.kraft {l : List (Grp × Nat)} (h : Dep l) (N : Nat) : l ≠ [] → (∀ p ∈ l, p.2 ≤ N) → ksum N l = 2 ^ N := by
  induction h with
  | nil => intro h; exact absurd rfl h
  | one g => intro _ _; simp [ksum]
  | step A B C E x y d l hl he hA hB hC hE hn ih =>
    intro _ hN
    have hp := step_perm hl he
    have hab : ((C ++ E) ++ [((⟨x.w + y.w, x.s ++ y.s⟩ : Grp), d)]).Perm ((⟨x.w + y.w, x.s ++ y.s⟩, d) :: (C ++ E)) := List.perm_append_singleton _ _
    have hd : d + 1 ≤ N := hN (x, d + 1) (hp.symm.subset (by simp))
    have h1 := ih (by simp) (fun p hpm => by
      rcases List.mem_append.1 hpm with h | h
      · exact hN p (hp.symm.subset (by simp only [List.mem_cons]; exact Or.inr (Or.inr h)))
      · simp at h; subst h; show d ≤ N; omega)
    rw [ksum_perm hab] at h1
    rw [ksum_perm hp]
    unfold ksum at h1 ⊢
    simp only [List.map_cons, List.sum_cons] at h1 ⊢
    have e : 2 ^ (N - d) = 2 ^ (N - (d + 1)) + 2 ^ (N - (d + 1)) := by
      rw [show N - d = N - (d + 1) + 1 by omega, Nat.pow_succ]; omega
    omega
theorem Dep.deep {l : List (Grp × Nat)} (h : Dep l) (hn : 2 ≤ l.length) : ∀ p ∈ l, 0 < p.2 := by
  induction h with
  | nil => simp at hn
  | one g => simp at hn
  | step A B C E x y d l hl he hA hB hC hE hn' ih =>
    have hp := step_perm hl he
    intro p hpm
    rcases List.mem_cons.1 (hp.subset hpm) with rfl | h
    · show 0 < d + 1; omega
    · rcases List.mem_cons.1 h with rfl | h
      · show 0 < d + 1; omega
      · refine ih ?_ p (by simp only [List.mem_append] at h ⊢; exact Or.inl h)
        have := List.length_pos_of_mem h
        rw [List.length_append]
        simp
        simp at this
        omega
end Go.Proofs.YtgpkiijmembggaaGreatDoor.HuffM
namespace Go.Proofs.YtgpkiijmembggaaGreatDoor.HuffM

theorem aI_first (l : List Grp) (i : Nat) : ∀ j, j < aI l i → wt l (aI l i) < wt l j := by
  induction i with
  | zero => intro j hj; simp [aI] at hj
  | succ i ih =>
    intro j hj
    rw [aI] at hj ⊢
    split
    · rename_i h
      rw [if_pos h] at hj
      have := aI_le l i j hj
      omega
    · rename_i h
      rw [if_neg h] at hj
      exact ih j hj
theorem bI_first {l : List Grp} {a i b : Nat} (h : bI l a i = some b) : ∀ j, j < b → j ≠ a → wt l b < wt l j := by
  induction i generalizing b with
  | zero => cases h
  | succ i ih =>
    rw [bI] at h
    cases hb : bI l a i with
    | none =>
      rw [hb] at h
      simp only at h
      split at h
      · injection h with h
        subst h
        intro j hj hja
        exact absurd (bI_none hb j hj) hja
      · cases h
    | some b' =>
      rw [hb] at h
      simp only at h
      split at h
      · rename_i hc
        injection h with h
        subst h
        intro j hj hja
        have := (bI_some hb).2.2 j hj hja
        omega
      · injection h with h
        subst h
        exact ih hb
theorem rI_run (l : List Grp) (a b : Nat) (i k : Nat) (hk : i + k ≤ l.length) (hn : ∀ j, i ≤ j → j < i + k → j ≠ a ∧ j ≠ b) : rI l a b (i + k) = rI l a b i ++ (l.drop i).take k := by
  induction k with
  | zero => simp
  | succ k ih =>
    rw [show i + (k + 1) = (i + k) + 1 by omega, rI, if_pos (hn (i + k) (by omega) (by omega)), ih (by omega) (fun j h1 h2 => hn j h1 (by omega)), List.append_assoc]
    congr 1
    have e : (l.drop i)[k]? = some (gat l (i + k)) := by
      rw [List.getElem?_drop, List.getElem?_eq_getElem (by omega)]
      unfold gat
      rw [List.getD_eq_getElem?_getD, List.getElem?_eq_getElem (by omega)]
      rfl
    exact (take_snoc e).symm
theorem rI_skip (l : List Grp) (a b i : Nat) (h : i = a ∨ i = b) : rI l a b (i + 1) = rI l a b i := by
  rw [rI, if_neg (fun h' => by rcases h with h | h; exact h'.1 h; exact h'.2 h)]
theorem cut3 (l : List Grp) (i j : Nat) (hij : i < j) (hj : j < l.length) : l = l.take i ++ gat l i :: ((l.drop (i + 1)).take (j - i - 1) ++ gat l j :: l.drop (j + 1)) := by
  have e1 : l.drop i = gat l i :: l.drop (i + 1) := by
    rw [List.drop_eq_getElem_cons (by omega)]
    unfold gat
    rw [List.getD_eq_getElem?_getD, List.getElem?_eq_getElem (by omega)]
    rfl
  have e2 : l.drop j = gat l j :: l.drop (j + 1) := by
    rw [List.drop_eq_getElem_cons (by omega)]
    unfold gat
    rw [List.getD_eq_getElem?_getD, List.getElem?_eq_getElem (by omega)]
    rfl
  have e3 : l.drop (i + 1) = (l.drop (i + 1)).take (j - i - 1) ++ l.drop j := by
    conv => lhs; rw [← List.take_append_drop (j - i - 1) (l.drop (i + 1))]
    rw [List.drop_drop, show i + 1 + (j - i - 1) = j by omega]
  conv => lhs; rw [← List.take_append_drop i l, e1, e3, e2]
theorem rI_cut (l : List Grp) (a b i j : Nat) (hij : i < j) (hj : j < l.length) (h : i = a ∧ j = b ∨ i = b ∧ j = a) :
    rI l a b l.length = l.take i ++ ((l.drop (i + 1)).take (j - i - 1) ++ l.drop (j + 1)) := by
  have h1 := rI_run l a b 0 i (by omega) (fun k _ h2 => by omega)
  have h2 := rI_skip l a b i (by omega)
  have h3 := rI_run l a b (i + 1) (j - i - 1) (by omega) (fun k _ h2 => by omega)
  have h4 := rI_skip l a b j (by omega)
  have h5 := rI_run l a b (j + 1) (l.length - (j + 1)) (by omega) (fun k _ h2 => by omega)
  rw [show j + 1 + (l.length - (j + 1)) = l.length by omega] at h5
  rw [show i + 1 + (j - i - 1) = j by omega] at h3
  rw [Nat.zero_add] at h1
  rw [h5, h4, h3, h2, h1]
  have e : (l.drop (j + 1)).take (l.length - (j + 1)) = l.drop (j + 1) := List.take_of_length_le (by rw [List.length_drop]; omega)
  rw [e]
  simp [rI]
theorem in_take {l : List Grp} {i : Nat} {z : Grp} (h : z ∈ l.take i) : ∃ j, j < i ∧ j < l.length ∧ z = gat l j := by
  obtain ⟨k, hk, rfl⟩ := List.getElem_of_mem h
  rw [List.length_take] at hk
  refine ⟨k, by omega, by omega, ?_⟩
  unfold gat
  rw [List.getElem_take, List.getD_eq_getElem?_getD, List.getElem?_eq_getElem (by omega)]
  rfl
theorem in_drop {l : List Grp} {i : Nat} {z : Grp} (h : z ∈ l.drop i) : ∃ j, i ≤ j ∧ j < l.length ∧ z = gat l j := by
  obtain ⟨k, hk, rfl⟩ := List.getElem_of_mem h
  rw [List.length_drop] at hk
  refine ⟨i + k, by omega, by omega, ?_⟩
  unfold gat
  rw [List.getElem_drop, List.getD_eq_getElem?_getD, List.getElem?_eq_getElem (by omega)]
  rfl
theorem in_mid {l : List Grp} {i k : Nat} {z : Grp} (h : z ∈ (l.drop i).take k) : ∃ j, i ≤ j ∧ j < i + k ∧ j < l.length ∧ z = gat l j := by
  obtain ⟨q, hq, rfl⟩ := List.getElem_of_mem h
  rw [List.length_take, List.length_drop] at hq
  refine ⟨i + q, by omega, by omega, by omega, ?_⟩
  unfold gat
  rw [List.getElem_take, List.getElem_drop, List.getD_eq_getElem?_getD, List.getElem?_eq_getElem (by omega)]
  rfl
/-- what a join takes, and what it leaves, in their row -/
theorem join_row {l : List Grp} (h : 2 ≤ l.length) : ∃ A B C E x y, l = A ++ x :: B ∧ A ++ B = C ++ y :: E ∧ joinG l = C ++ E ++ [⟨x.w + y.w, x.s ++ y.s⟩] ∧ grp l = ⟨x.w + y.w, x.s ++ y.s⟩ ∧
    (∀ z ∈ A, x.w < z.w) ∧ (∀ z ∈ B, x.w ≤ z.w) ∧ (∀ z ∈ C, y.w < z.w) ∧ (∀ z ∈ E, y.w ≤ z.w) := by
  obtain ⟨h1, h2, h3, h4, h5⟩ := pick h
  have ha : ∀ j, j < l.length → wt l (pa l) ≤ wt l j := aI_le l l.length
  have ha' : ∀ j, j < pa l → wt l (pa l) < wt l j := aI_first l l.length
  have hb' : ∀ j, j < pb l → j ≠ pa l → wt l (pb l) < wt l j := by
    cases hb : bI l (pa l) l.length with
    | none =>
      have h0 := bI_none hb 0 (by omega)
      have h1 := bI_none hb 1 (by omega)
      omega
    | some b =>
      have e : pb l = b := by unfold pb; rw [hb]; rfl
      rw [e]
      exact bI_first hb
  obtain ⟨a, hea⟩ : ∃ a, a = pa l := ⟨_, rfl⟩
  obtain ⟨b, heb⟩ : ∃ b, b = pb l := ⟨_, rfl⟩
  have hg : grp l = ⟨(gat l a).w + (gat l b).w, (gat l a).s ++ (gat l b).s⟩ := by rw [hea, heb]; rfl
  have hj : joinG l = rI l a b l.length ++ [grp l] := by rw [hea, heb]; rfl
  rw [← hea, ← heb] at h3
  rw [← hea] at h1 ha ha'
  rw [← heb] at h2
  rw [← hea, ← heb] at h5 hb'
  clear h4 hea heb
  rcases Nat.lt_or_ge a b with hab | hab
  · have hc := cut3 l a b hab h2
    have hr := rI_cut l a b a b hab h2 (Or.inl ⟨rfl, rfl⟩)
    refine ⟨l.take a, (l.drop (a + 1)).take (b - a - 1) ++ gat l b :: l.drop (b + 1), l.take a ++ (l.drop (a + 1)).take (b - a - 1), l.drop (b + 1), gat l a, gat l b, hc, by simp, ?_, hg, ?_, ?_, ?_, ?_⟩
    · rw [hj, hr, hg]; simp
    · intro z hz
      obtain ⟨j, hj1, _, rfl⟩ := in_take hz
      exact ha' j hj1
    · intro z hz
      have hz : z ∈ l := by rw [hc]; simp only [List.mem_append, List.mem_cons] at hz ⊢; exact Or.inr (Or.inr hz)
      obtain ⟨j, _, hj2, rfl⟩ := in_drop (i := 0) (by simpa using hz)
      exact ha j hj2
    · intro z hz
      rcases List.mem_append.1 hz with hz | hz
      · obtain ⟨j, hj1, _, rfl⟩ := in_take hz
        exact hb' j (by omega) (by omega)
      · obtain ⟨j, hj1, hj2, _, rfl⟩ := in_mid hz
        exact hb' j (by omega) (by omega)
    · intro z hz
      obtain ⟨j, hj1, hj2, rfl⟩ := in_drop hz
      exact h5 j hj2 (by omega)
  · have hba : b < a := by omega
    have hc := cut3 l b a hba h1
    have hr := rI_cut l a b b a hba h1 (Or.inr ⟨rfl, rfl⟩)
    refine ⟨l.take b ++ gat l b :: (l.drop (b + 1)).take (a - b - 1), l.drop (a + 1), l.take b, (l.drop (b + 1)).take (a - b - 1) ++ l.drop (a + 1), gat l a, gat l b, by rw [List.append_assoc]; exact hc, by simp, ?_, hg, ?_, ?_, ?_, ?_⟩
    · rw [hj, hr, hg]
    · intro z hz
      rcases List.mem_append.1 hz with hz | hz
      · obtain ⟨j, hj1, _, rfl⟩ := in_take hz
        exact ha' j (by omega)
      · rcases List.mem_cons.1 hz with rfl | hz
        · exact ha' b hba
        · obtain ⟨j, hj1, hj2, _, rfl⟩ := in_mid hz
          exact ha' j (by omega)
    · intro z hz
      obtain ⟨j, hj1, hj2, rfl⟩ := in_drop hz
      exact ha j hj2
    · intro z hz
      obtain ⟨j, hj1, _, rfl⟩ := in_take hz
      exact hb' j hj1 (by omega)
    · intro z hz
      rcases List.mem_append.1 hz with hz | hz
      · obtain ⟨j, hj1, hj2, hj3, rfl⟩ := in_mid hz
        exact h5 j hj3 (by omega)
      · obtain ⟨j, hj1, hj2, rfl⟩ := in_drop hz
        exact h5 j hj2 (by omega)
theorem map_split {L : List (Grp × Nat)} {P S : List Grp} (h : L.map (·.1) = P ++ S) : ∃ P' S', L = P' ++ S' ∧ P'.map (·.1) = P ∧ S'.map (·.1) = S := by
  obtain ⟨P', S', h1, h2, h3⟩ := List.map_eq_append_iff.1 h
  exact ⟨P', S', h1, h2, h3⟩
theorem all_map {L : List (Grp × Nat)} {P : Grp → Prop} (h : ∀ z ∈ L.map (·.1), P z) : ∀ z ∈ L, P z.1 := fun z hz => h z.1 (List.mem_map_of_mem hz)
/-- the depths of a row of groups: the lengths that their symbols still get -/
theorem merge_dep (f : Nat) : ∀ (l : List Grp) (o : List Nat), l.length ≤ f + 1 → Good l o →
    ∃ L : List (Grp × Nat), L.map (·.1) = l ∧ Dep L ∧ (∀ p ∈ L, ∀ s ∈ p.1.s, oat (mergeF f l o) s = oat o s + p.2) ∧ ∀ s, s ∉ sy l → oat (mergeF f l o) s = oat o s := by
  have base : ∀ (f : Nat) (l : List Grp) (o : List Nat), l.length ≤ 1 → ∃ L : List (Grp × Nat), L.map (·.1) = l ∧ Dep L ∧ (∀ p ∈ L, ∀ s ∈ p.1.s, oat (mergeF f l o) s = oat o s + p.2) ∧ ∀ s, s ∉ sy l → oat (mergeF f l o) s = oat o s := by
    intro f l o h
    rw [merge_one f l o h]
    cases l with
    | nil => exact ⟨[], rfl, .nil, fun p hp => by simp at hp, fun _ _ => rfl⟩
    | cons g l =>
      cases l with
      | nil => exact ⟨[(g, 0)], rfl, .one g, fun p hp s _ => by simp at hp; subst hp; rfl, fun _ _ => rfl⟩
      | cons _ _ => simp at h
  induction f with
  | zero => intro l o h _; exact base 0 l o (by omega)
  | succ f ih =>
    intro l o hl hg
    by_cases h1 : l.length ≤ 1
    · exact base _ l o h1
    · have h2 : 2 ≤ l.length := by omega
      obtain ⟨hgood, hin, hout⟩ := hg.join h2
      obtain ⟨L', hm, hdep, hat, hno⟩ := ih (joinG l) (incs o (grp l).s) (by rw [join_len h2]; omega) hgood
      obtain ⟨A, B, C, E, x, y, hlr, hAB, hj, hgr, hA, hB, hC, hE⟩ := join_row h2
      rw [hj] at hm
      obtain ⟨R', S', rfl, hR', hS'⟩ := map_split hm
      obtain ⟨C', E', rfl, hC', hE'⟩ := map_split hR'
      obtain ⟨p, rfl⟩ : ∃ p, S' = [p] := by
        cases S' with
        | nil => simp at hS'
        | cons p S' =>
          cases S' with
          | nil => exact ⟨p, rfl⟩
          | cons _ _ => simp at hS'
      obtain ⟨gp, d⟩ := p
      simp at hS'
      subst hS'
      have hmAB : (C' ++ (y, d + 1) :: E').map (·.1) = A ++ B := by rw [hAB, List.map_append, List.map_cons, hC', hE']
      obtain ⟨A', B', hsp, hA', hB'⟩ := map_split hmAB
      have hmf : mergeF (f + 1) l o = mergeF f (joinG l) (incs o (grp l).s) := by rw [mergeF, if_neg h1]
      have hstep : Dep (A' ++ (x, d + 1) :: B') :=
        .step A' B' C' E' x y d _ rfl hsp.symm (all_map (P := fun z => x.w < z.w) (by rw [hA']; exact hA)) (all_map (P := fun z => x.w ≤ z.w) (by rw [hB']; exact hB))
          (all_map (P := fun z => y.w < z.w) (by rw [hC']; exact hC)) (all_map (P := fun z => y.w ≤ z.w) (by rw [hE']; exact hE)) hdep
      have hmap : (A' ++ (x, d + 1) :: B').map (·.1) = l := by rw [List.map_append, List.map_cons, hA', hB']; exact hlr.symm
      have hpm := step_perm (l := A' ++ (x, d + 1) :: B') rfl hsp.symm
      refine ⟨_, hmap, hstep, fun p hp s hs => ?_, fun s hs => ?_⟩
      · rw [hmf]
        have hnd := hg.nd
        rw [← hmap] at hnd
        have hnd := (sy_perm (hpm.map (·.1))).nodup_iff.1 hnd
        rw [List.map_cons, List.map_cons] at hnd
        rcases List.mem_cons.1 (hpm.subset hp) with rfl | hp
        · have hs' : s ∈ (grp l).s := by rw [hgr]; exact List.mem_append_left _ hs
          have h3 := hat (⟨x.w + y.w, x.s ++ y.s⟩, d) (by simp) s (List.mem_append_left _ hs)
          rw [h3, hin s hs']
          show _ = oat o s + (d + 1)
          omega
        · rcases List.mem_cons.1 hp with rfl | hp
          · have hs' : s ∈ (grp l).s := by rw [hgr]; exact List.mem_append_right _ hs
            have h3 := hat (⟨x.w + y.w, x.s ++ y.s⟩, d) (by simp) s (List.mem_append_right _ hs)
            rw [h3, hin s hs']
            show _ = oat o s + (d + 1)
            omega
          · have hs' : s ∉ (grp l).s := by
              rw [hgr]
              exact disj hnd (List.mem_map_of_mem hp) hs
            have h3 := hat p (List.mem_append_left _ hp) s hs
            rw [h3, hout s hs']
      · rw [hmf]
        have hs1 : s ∉ sy (joinG l) := fun h => hs ((sy_join h2).subset h)
        have hs2 : s ∉ (grp l).s := fun h => hs1 (by rw [hj]; exact mem_sy (g := ⟨x.w + y.w, x.s ++ y.s⟩) (by simp) (by rw [hgr] at h; exact h))
        rw [hno s hs1, hout s hs2]
end Go.Proofs.YtgpkiijmembggaaGreatDoor.HuffM
namespace Go.Proofs.YtgpkiijmembggaaGreatDoor.HuffM

theorem gI_len (W : List Nat) (i : Nat) (hi : i ≤ W.length) : (gI W i).length = cnt (W.take i) := by
  induction i with
  | zero => simp [gI, cnt]
  | succ i ih =>
    have ih := ih (by omega)
    have e : W[i]? = some (W.getD i 0) := by rw [List.getD_eq_getElem?_getD, List.getElem?_eq_getElem (by omega)]; rfl
    rw [gI_step, take_snoc e]
    unfold cnt at ih ⊢
    rw [List.countP_append]
    split
    · rename_i h
      rw [List.length_append, ih, List.countP_singleton]
      simp only [decide_eq_true_eq, h, if_true]
      rfl
    · rename_i h
      rw [ih, List.countP_singleton]
      simp only [decide_eq_true_eq, h, if_false]
      omega
theorem gI_mem (W : List Nat) (i j : Nat) (hj : j < i) (h : 0 < W.getD j 0) : (⟨W.getD j 0, [j]⟩ : Grp) ∈ gI W i := by
  induction i with
  | zero => omega
  | succ i ih =>
    rw [gI_step]
    rcases Nat.lt_succ_iff_lt_or_eq.1 hj with h1 | rfl
    · split
      · exact List.mem_append_left _ (ih h1)
      · exact ih h1
    · rw [if_pos h]; simp
theorem gI_nosy (W : List Nat) (i s : Nat) (h : ¬ 0 < W.getD s 0) : s ∉ sy (gI W i) := by
  intro hs
  obtain ⟨g, hg, hs⟩ := List.mem_flatMap.1 hs
  obtain ⟨h1, j, _, h3, h4⟩ := gI_w W i g hg
  rw [h4] at hs
  simp at hs
  subst hs
  omega
/-- what once tells of each symbol, where two or more have weight -/
structure OnceD (W : List Nat) (L : List (Grp × Nat)) : Prop where
  map : L.map (·.1) = gI W W.length
  dep : Dep L
  at_ : ∀ p ∈ L, ∀ s ∈ p.1.s, oat (onceL W) s = p.2
theorem once_dep {W : List Nat} (h : (gI W W.length).length ≠ 1) : (∃ L, OnceD W L) ∧ ∀ s, ¬ 0 < W.getD s 0 → oat (onceL W) s = 0 := by
  have e : onceL W = mergeF (gI W W.length).length (gI W W.length) (once0 W) := by unfold onceL; simp only [if_neg h]
  obtain ⟨L, h1, h2, h3, h4⟩ := merge_dep (gI W W.length).length (gI W W.length) (once0 W) (by omega) (good0 W)
  refine ⟨⟨L, h1, h2, fun p hp s hs => ?_⟩, fun s hs => ?_⟩
  · rw [e, h3 p hp s hs]
    have := zero_at W.length s
    unfold once0
    omega
  · rw [e, h4 s (gI_nosy W _ s hs)]
    exact zero_at _ _
theorem once_one {W : List Nat} (h : (gI W W.length).length = 1) : ∃ j, j < W.length ∧ 0 < W.getD j 0 ∧ (∀ s, 0 < W.getD s 0 → s = j) ∧ ∀ s, oat (onceL W) s = if s = j then 1 else 0 := by
  obtain ⟨g, hg⟩ : ∃ g, gI W W.length = [g] := by
    cases hl : gI W W.length with
    | nil => rw [hl] at h; simp at h
    | cons g l =>
      cases l with
      | nil => exact ⟨g, rfl⟩
      | cons _ _ => rw [hl] at h; simp at h
  obtain ⟨h1, j, h2, h3, h4⟩ := gI_w W W.length g (by rw [hg]; simp)
  refine ⟨j, h2, by omega, fun s hs => ?_, fun s => ?_⟩
  · have hs1 : s < W.length := by
      rcases Nat.lt_or_ge s W.length with h | h
      · exact h
      · rw [List.getD_eq_getElem?_getD, List.getElem?_eq_none h] at hs; simp at hs
    have := gI_mem W W.length s hs1 hs
    rw [hg] at this
    simp at this
    rw [← this] at h4
    simpa using h4
  · unfold onceL
    simp only [h, if_true]
    rw [merge_one _ _ _ (by omega), hg]
    have e : ((gat [g] 0).s.getD 0 0) = j := by unfold gat; simp [h4]
    rw [e]
    unfold oat
    rw [List.getD_eq_getElem?_getD, List.getElem?_set]
    unfold once0
    by_cases hsj : j = s
    · subst hsj
      simp [h2]
    · rw [if_neg hsj, if_neg (fun h => hsj h.symm), ← List.getD_eq_getElem?_getD]
      exact zero_at _ _
theorem once_zero (W : List Nat) (s : Nat) : oat (onceL W) s = 0 ↔ ¬ 0 < W.getD s 0 := by
  by_cases h : (gI W W.length).length = 1
  · obtain ⟨j, h1, h2, h3, h4⟩ := once_one h
    rw [h4]
    constructor
    · intro h5 h6
      rw [if_pos (h3 s h6)] at h5
      omega
    · intro h5
      rw [if_neg]
      rintro rfl
      exact h5 h2
  · obtain ⟨⟨L, hL⟩, h0⟩ := once_dep h
    refine ⟨fun h5 h6 => ?_, h0 s⟩
    have hs1 : s < W.length := by
      rcases Nat.lt_or_ge s W.length with h | h
      · exact h
      · rw [List.getD_eq_getElem?_getD, List.getElem?_eq_none h] at h6; simp at h6
    have hm := gI_mem W W.length s hs1 h6
    rw [← hL.map] at hm
    obtain ⟨p, hp, hpe⟩ := List.mem_map.1 hm
    have hlen : 2 ≤ L.length := by
      have h7 := List.length_pos_of_mem hp
      have h8 : L.length = (gI W W.length).length := by rw [← hL.map, List.length_map]
      omega
    have h7 := hL.dep.deep hlen p hp
    have h8 := hL.at_ p hp s (by rw [hpe]; simp)
    omega
theorem once_mono {W : List Nat} {i k : Nat} (hk : 0 < W.getD k 0) (h : W.getD k 0 < W.getD i 0) : oat (onceL W) i ≤ oat (onceL W) k := by
  have lt : ∀ {s : Nat}, 0 < W.getD s 0 → s < W.length := fun {s} h6 => by
    rcases Nat.lt_or_ge s W.length with h | h
    · exact h
    · rw [List.getD_eq_getElem?_getD, List.getElem?_eq_none h] at h6; simp at h6
  by_cases h1 : (gI W W.length).length = 1
  · obtain ⟨j, _, _, h3, _⟩ := once_one h1
    have e1 := h3 i (by omega)
    have e2 := h3 k hk
    subst e1
    subst e2
    omega
  · obtain ⟨⟨L, hL⟩, _⟩ := once_dep h1
    have hmi := gI_mem W W.length i (lt (by omega)) (by omega)
    have hmk := gI_mem W W.length k (lt hk) hk
    rw [← hL.map] at hmi hmk
    obtain ⟨p, hp, hpe⟩ := List.mem_map.1 hmi
    obtain ⟨q, hq, hqe⟩ := List.mem_map.1 hmk
    have h2 := hL.dep.mono hp hq (by rw [hpe, hqe]; exact h)
    rw [hL.at_ p hp i (by rw [hpe]; simp), hL.at_ q hq k (by rw [hqe]; simp)]
    exact h2
theorem fits_of {most : Nat} {o : List Nat} (h : ∀ s, oat o s ≤ most) : fits most o = true := by
  unfold fits
  rw [List.all_eq_true]
  intro x hx
  obtain ⟨i, hi, rfl⟩ := List.getElem_of_mem hx
  have := h i
  unfold oat at this
  rw [List.getD_eq_getElem?_getD, List.getElem?_eq_getElem hi] at this
  simpa using this
theorem fits_at {most : Nat} {o : List Nat} (h : fits most o = true) (s : Nat) : oat o s ≤ most := by
  unfold fits at h
  rw [List.all_eq_true] at h
  unfold oat
  rw [List.getD_eq_getElem?_getD]
  cases hs : o[s]? with
  | none => simp
  | some x => simpa using h x (List.mem_of_getElem? hs)
/-- with little weight no length is above 15 -/
theorem once_small {W : List Nat} (h : W.sum < 2584) : fits 15 (onceL W) = true := by
  refine fits_of fun s => ?_
  by_cases h1 : (gI W W.length).length = 1
  · obtain ⟨j, _, _, _, h4⟩ := once_one h1
    rw [h4]
    split <;> omega
  · obtain ⟨⟨L, hL⟩, h0⟩ := once_dep h1
    by_cases h6 : 0 < W.getD s 0
    · have hs1 : s < W.length := by
        rcases Nat.lt_or_ge s W.length with h | h
        · exact h
        · rw [List.getD_eq_getElem?_getD, List.getElem?_eq_none h] at h6; simp at h6
      have hm := gI_mem W W.length s hs1 h6
      rw [← hL.map] at hm
      obtain ⟨p, hp, hpe⟩ := List.mem_map.1 hm
      rw [hL.at_ p hp s (by rw [hpe]; simp)]
      refine hL.dep.small (fun q hq => ?_) ?_ p hp
      · have := List.mem_map_of_mem (f := (·.1)) hq
        rw [hL.map] at this
        exact (gI_w W _ _ this).1
      · have e : wsum L = sumW (gI W W.length) := by
          rw [← hL.map]
          unfold wsum sumW
          rw [List.map_map]
          rfl
        rw [e, gI_sum W _ (Nat.le_refl _), List.take_length]
        exact h
    · rw [h0 s h6]; omega
/-- the parts, symbol by symbol -/
theorem part_sum (W : List Nat) (o : List Nat) (ho : o.length = W.length) (hz : ∀ s, oat o s = 0 ↔ ¬ 0 < W.getD s 0) (h15 : ∀ s, oat o s ≤ 15) (i : Nat) (hi : i ≤ W.length) :
    rsum ((o.take i).map fun x : Nat => (x : Int)) = ((gI W i).map fun g => 2 ^ (15 - oat o (g.s.getD 0 0))).sum := by
  induction i with
  | zero => simp [gI, rsum]
  | succ i ih =>
    have ih := ih (by omega)
    have e : o[i]? = some (oat o i) := by unfold oat; rw [List.getD_eq_getElem?_getD, List.getElem?_eq_getElem (by omega)]; rfl
    rw [gI_step, take_snoc e, List.map_append, List.map_singleton, rsum_snoc, ih]
    have hzi := hz i
    have h1 := h15 i
    split
    · rename_i h
      rw [List.map_append, List.sum_append]
      congr 1
      have hpos : 0 < oat o i := by omega
      unfold kr
      rw [if_pos (by omega)]
      simp only [List.map_cons, List.map_nil, List.sum_cons, List.sum_nil, List.getD_cons_zero, Int.toNat_natCast, Nat.add_zero]
      rw [show (32768 : Nat) = 2 ^ 15 from rfl, Nat.pow_div h1 (by omega)]
    · rename_i h
      have : oat o i = 0 := hzi.2 h
      rw [this]
      rfl
theorem many_once (W : List Nat) (o : List Nat) (ho : o.length = W.length) (hz : ∀ s, oat o s = 0 ↔ ¬ 0 < W.getD s 0) (i : Nat) (hi : i ≤ W.length) :
    many ((o.take i).map fun x : Nat => (x : Int)) = (gI W i).length := by
  induction i with
  | zero => simp [gI, many]
  | succ i ih =>
    have ih := ih (by omega)
    have e : o[i]? = some (oat o i) := by unfold oat; rw [List.getD_eq_getElem?_getD, List.getElem?_eq_getElem (by omega)]; rfl
    rw [gI_step, take_snoc e, List.map_append, List.map_singleton, many_snoc, ih]
    have hzi := hz i
    split
    · rename_i h
      rw [if_pos (by omega), List.length_append]; rfl
    · rename_i h
      rw [if_neg (by omega)]; rfl
theorem ones_one (o : List Nat) (j : Nat) (hj : j < o.length) (h : ∀ s, oat o s = if s = j then 1 else 0) (i : Nat) (hi : i ≤ o.length) :
    ones ((o.take i).map fun x : Nat => (x : Int)) = if j < i then 1 else 0 := by
  induction i with
  | zero => simp [ones]
  | succ i ih =>
    have ih := ih (by omega)
    have e : o[i]? = some (oat o i) := by unfold oat; rw [List.getD_eq_getElem?_getD, List.getElem?_eq_getElem (by omega)]; rfl
    rw [take_snoc e, List.map_append, List.map_singleton, ones_snoc, ih, h i]
    by_cases h1 : i = j
    · subst h1
      simp
    · by_cases h2 : j < i
      · have h3 : j < i + 1 := by omega
        simp [h1, h2, h3]
      · have h3 : ¬ j < i + 1 := by omega
        simp [h1, h2, h3]
/-- there is a code of the lengths -/
theorem once_right {W : List Nat} (h : fits 15 (onceL W) = true) (hs : ∃ s, 0 < W.getD s 0) : rightB ((onceL W).map fun x : Nat => (x : Int)) = true := by
  have h15 := fits_at h
  have hl := onceL_len W
  have hz := once_zero W
  unfold rightB
  rw [Bool.and_eq_true]
  constructor
  · rw [List.all_eq_true]
    intro x hx
    obtain ⟨n, hn, rfl⟩ := List.mem_map.1 hx
    unfold fits at h
    rw [List.all_eq_true] at h
    have := h n hn
    simp at this
    unfold inR
    simp
    omega
  · rw [Bool.or_eq_true]
    by_cases h1 : (gI W W.length).length = 1
    · right
      obtain ⟨j, h2, _, _, h4⟩ := once_one h1
      have e1 := many_once W (onceL W) hl hz W.length (Nat.le_refl _)
      have e2 := ones_one (onceL W) j (by omega) h4 W.length (by omega)
      rw [← hl, List.take_length] at e1
      rw [← hl, List.take_length] at e2
      rw [if_pos (by omega)] at e2
      rw [hl, h1] at e1
      rw [e1, e2]
      rfl
    · left
      obtain ⟨⟨L, hL⟩, _⟩ := once_dep h1
      have e := part_sum W (onceL W) hl hz h15 W.length (Nat.le_refl _)
      rw [← hl, List.take_length, hl] at e
      have hd : ∀ p ∈ L, oat (onceL W) (p.1.s.getD 0 0) = p.2 := by
        intro p hp
        have h5 := List.mem_map_of_mem (f := (·.1)) hp
        rw [hL.map] at h5
        obtain ⟨_, j, _, _, h6⟩ := gI_w W _ _ h5
        have h6 : p.1.s = [j] := h6
        have h7 := hL.at_ p hp j (by rw [h6]; simp)
        rw [h6]
        exact h7
      have hk := hL.dep.kraft 15 (by
        rintro rfl
        obtain ⟨s, hs⟩ := hs
        have hs1 : s < W.length := by
          rcases Nat.lt_or_ge s W.length with h | h
          · exact h
          · rw [List.getD_eq_getElem?_getD, List.getElem?_eq_none h] at hs; simp at hs
        have hm := gI_mem W W.length s hs1 hs
        rw [← hL.map] at hm
        simp at hm) (fun p hp => by rw [← hd p hp]; exact h15 _)
      have e3 : ((gI W W.length).map fun g => 2 ^ (15 - oat (onceL W) (g.s.getD 0 0))).sum = ksum 15 L := by
        rw [← hL.map, List.map_map]
        unfold ksum
        congr 1
        apply List.map_congr_left
        intro p hp
        simp only [Function.comp_def]
        rw [hd p hp]
      rw [e, e3, hk]
      rfl
theorem half_pos (W : List Nat) (s : Nat) : 0 < (half W).getD s 0 ↔ 0 < W.getD s 0 := by
  unfold half
  rw [List.getD_eq_getElem?_getD, List.getD_eq_getElem?_getD, List.getElem?_map]
  cases W[s]? with
  | none => simp
  | some x => simp; omega
/-- what the lengths by weights are: those of once, of weights that are 0 at the same places -/
theorem lens_is {most : Nat} (hm : 1 ≤ most) : ∀ (n : Nat) (W : List Nat), W.sum ≤ n → cnt W ≤ 2 ^ most → ∃ W', W'.length = W.length ∧ (∀ s, 0 < W'.getD s 0 ↔ 0 < W.getD s 0) ∧ lens most W = onceL W' ∧ fits most (onceL W') = true := by
  intro n
  induction n with
  | zero =>
    intro W hn hc
    cases h : fits most (onceL W) with
    | true => exact ⟨W, rfl, fun _ => Iff.rfl, lens_yes h, h⟩
    | false => have := (lens_no hm hc h).2; omega
  | succ n ih =>
    intro W hn hc
    cases h : fits most (onceL W) with
    | true => exact ⟨W, rfl, fun _ => Iff.rfl, lens_yes h, h⟩
    | false =>
      obtain ⟨h1, h2⟩ := lens_no hm hc h
      obtain ⟨W', h3, h4, h5, h6⟩ := ih (half W) (by omega) (by rw [cnt_half]; exact hc)
      exact ⟨W', by rw [h3, half_len], fun s => by rw [h4, half_pos], by rw [h1, h5], h6⟩
/-- 5.1, 5.4 in plain words -/
theorem lens_short {most : Nat} {W : List Nat} (hm : 1 ≤ most) (hm2 : most ≤ 15) (hc : cnt W ≤ 2 ^ most) :
    (lens most W).length = W.length ∧ (∀ s, oat (lens most W) s ≤ most) ∧ (∀ s, oat (lens most W) s = 0 ↔ ¬ 0 < W.getD s 0) ∧
    ((∃ s, 0 < W.getD s 0) → rightB ((lens most W).map fun x : Nat => (x : Int)) = true) := by
  obtain ⟨W', h1, h2, h3, h4⟩ := lens_is hm W.sum W (Nat.le_refl _) hc
  refine ⟨lens_len most W, fun s => ?_, fun s => ?_, fun ⟨s, hs⟩ => ?_⟩
  · rw [h3]; exact fits_at h4 s
  · rw [h3, once_zero, h2]
  · rw [h3]
    exact once_right (fits_of fun s => by have := fits_at h4 s; omega) ⟨s, (h2 s).2 hs⟩
/-- with little weight, and where 15 bits' longest is within the most: nothing is halved -/
theorem lens_free {most : Nat} {W : List Nat} (hs : W.sum < 2000) (hl : ∀ s, oat (lens 15 W) s ≤ most) :
    lens most W = lens 15 W ∧ ∀ i k, 0 < W.getD k 0 → W.getD k 0 < W.getD i 0 → oat (lens most W) i ≤ oat (lens most W) k := by
  have h1 : lens 15 W = onceL W := lens_yes (once_small (by omega))
  rw [h1] at hl
  have h2 : lens most W = onceL W := lens_yes (fits_of hl)
  rw [h1, h2]
  exact ⟨rfl, fun i k hk h => once_mono hk h⟩
end Go.Proofs.YtgpkiijmembggaaGreatDoor.HuffM
