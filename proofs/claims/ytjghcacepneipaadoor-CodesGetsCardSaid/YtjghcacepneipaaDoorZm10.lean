/-
  Plain mathematics of layer 5's lengths: where no weight is above 1 the lengths fit; so halving ends.
  Plain mathematics of layer 5's lengths: the loop of halving ends; symbols of no weight behind change nothing.
-/
import Derived.Test.YtjghcacepneipaaDoorZm07
namespace Go.Proofs.YtjghcacepneipaaDoor.HuffM

def oat (o : List Nat) (s : Nat) : Nat := o.getD s 0
def sy (l : List Grp) : List Nat := l.flatMap (·.s)
theorem inc_len (o : List Nat) (s : Nat) : (inc o s).length = o.length := by simp [inc]
theorem incs_len (o S : List Nat) : (incs o S).length = o.length := by
  unfold incs
  induction S generalizing o with
  | nil => rfl
  | cons s S ih => rw [List.foldl_cons, ih, inc_len]
theorem inc_at (o : List Nat) (s t : Nat) (hs : s < o.length) : oat (inc o s) t = if s = t then oat o t + 1 else oat o t := by
  unfold oat inc
  rw [List.getD_eq_getElem?_getD, List.getElem?_set]
  by_cases h : s = t
  · subst h; simp [hs]
  · rw [if_neg h, if_neg h, ← List.getD_eq_getElem?_getD]
theorem incs_at (o S : List Nat) (hS : ∀ s ∈ S, s < o.length) (hn : S.Nodup) (t : Nat) : oat (incs o S) t = if t ∈ S then oat o t + 1 else oat o t := by
  induction S generalizing o with
  | nil => simp [incs]
  | cons s S ih =>
    have hn' := List.nodup_cons.1 hn
    have h := ih (inc o s) (by intro x hx; rw [inc_len]; exact hS x (List.mem_cons_of_mem _ hx)) hn'.2
    have e : incs o (s :: S) = incs (inc o s) S := rfl
    rw [e, h, inc_at o s t (hS s (List.mem_cons_self ..))]
    by_cases h1 : s = t
    · subst h1
      rw [if_neg hn'.1]
      simp
    · by_cases h2 : t ∈ S
      · rw [if_pos h2, if_neg h1, if_pos (List.mem_cons_of_mem _ h2)]
      · rw [if_neg h2, if_neg h1, if_neg (by intro h; rcases List.mem_cons.1 h with h | h; exact h1 h.symm; exact h2 h)]
theorem sy_perm {l l' : List Grp} (h : l.Perm l') : (sy l).Perm (sy l') := h.flatMap_right _
theorem sy_join {l : List Grp} (h : 2 ≤ l.length) : (sy (joinG l)).Perm (sy l) := by
  obtain ⟨x, y, R, hp, hj, _⟩ := join_spec h
  rw [hj]
  refine List.Perm.trans ?_ (sy_perm hp).symm
  unfold sy
  rw [List.flatMap_append]
  simp only [List.flatMap_cons, List.flatMap_nil, List.append_nil]
  exact List.perm_append_comm.trans (List.Perm.of_eq (List.append_assoc ..))
def sumW (l : List Grp) : Nat := (l.map (·.w)).sum
theorem sum_join {l : List Grp} (h : 2 ≤ l.length) : sumW (joinG l) = sumW l := by
  obtain ⟨x, y, R, hp, hj, _⟩ := join_spec h
  rw [hj]
  unfold sumW
  rw [(hp.map (·.w)).sum_nat]
  simp
  omega
/-- symbols stand in one group, who stands in none has no length yet -/
structure Good (l : List Grp) (o : List Nat) : Prop where
  nd : (sy l).Nodup
  lt : ∀ s ∈ sy l, s < o.length
  out : ∀ s, s ∉ sy l → oat o s = 0
theorem mem_sy {l : List Grp} {g : Grp} {s : Nat} (hg : g ∈ l) (hs : s ∈ g.s) : s ∈ sy l := List.mem_flatMap.2 ⟨g, hg, hs⟩
theorem Good.join {l : List Grp} {o : List Nat} (hg : Good l o) (h : 2 ≤ l.length) :
    Good (joinG l) (incs o (grp l).s) ∧ (∀ s ∈ (grp l).s, oat (incs o (grp l).s) s = oat o s + 1) ∧ (∀ s, s ∉ (grp l).s → oat (incs o (grp l).s) s = oat o s) := by
  obtain ⟨x, y, R, hp, hj, hgr, _⟩ := join_spec h
  have hs : ∀ s ∈ (grp l).s, s ∈ sy l := by
    intro s hs
    rw [hgr] at hs
    rcases List.mem_append.1 hs with h1 | h1
    · exact mem_sy (hp.symm.subset (List.mem_cons_self ..)) h1
    · exact mem_sy (hp.symm.subset (List.mem_cons_of_mem _ (List.mem_cons_self ..))) h1
  have hn : (grp l).s.Nodup := by
    have h1 := (sy_perm hp).nodup_iff.1 hg.nd
    unfold sy at h1
    simp only [List.flatMap_cons] at h1
    rw [← List.append_assoc] at h1
    rw [hgr]
    exact (List.nodup_append.1 h1).1
  have hat := incs_at o (grp l).s (fun s h => hg.lt s (hs s h)) hn
  refine ⟨⟨(sy_join h).nodup_iff.2 hg.nd, fun s h1 => ?_, fun s h1 => ?_⟩, fun s h1 => by rw [hat, if_pos h1], fun s h1 => by rw [hat, if_neg h1]⟩
  · rw [incs_len]; exact hg.lt s ((sy_join h).subset h1)
  · have h2 : s ∉ sy l := fun h3 => h1 ((sy_join h).symm.subset h3)
    rw [hat, if_neg (fun h3 => h2 (hs s h3))]
    exact hg.out s h2
def irr (k : Nat) (g : Grp) : Bool := decide (2 ^ k < g.w) && decide (g.w < 2 ^ (k + 1))
/-- weights between 2^k and twice as much, at most one of them strictly between; lengths as high as weights say -/
structure Inv (k : Nat) (l : List Grp) (o : List Nat) : Prop where
  reg : ∀ g ∈ l, (g.w = 2 ^ k ∧ ∀ s ∈ g.s, oat o s ≤ k) ∨ (2 ^ k < g.w ∧ g.w ≤ 2 ^ (k + 1) ∧ ∀ s ∈ g.s, oat o s ≤ k + 1)
  one : l.countP (irr k) ≤ 1
theorem disj {x y : Grp} {R : List Grp} (h : (sy (x :: y :: R)).Nodup) {z : Grp} (hz : z ∈ R) {s : Nat} (hs : s ∈ z.s) : s ∉ x.s ++ y.s := by
  unfold sy at h
  simp only [List.flatMap_cons] at h
  rw [← List.append_assoc] at h
  intro h1
  exact (List.nodup_append.1 h).2.2 s h1 s (List.mem_flatMap.2 ⟨z, hz, hs⟩) rfl
theorem Inv.join {k : Nat} {l : List Grp} {o : List Nat} (hi : Inv k l o) (hg : Good l o) (h : 2 ≤ l.length) : ∃ k', Inv k' (joinG l) (incs o (grp l).s) := by
  obtain ⟨_, hin, hout⟩ := hg.join h
  obtain ⟨x, y, R, hp, hj, hgr, hxy, hR⟩ := join_spec h
  have hnd := (sy_perm hp).nodup_iff.1 hg.nd
  have hx := hi.reg x (hp.symm.subset (List.mem_cons_self ..))
  have hy := hi.reg y (hp.symm.subset (List.mem_cons_of_mem _ (List.mem_cons_self ..)))
  have hz : ∀ z ∈ R, (z.w = 2 ^ k ∧ ∀ s ∈ z.s, oat o s ≤ k) ∨ (2 ^ k < z.w ∧ z.w ≤ 2 ^ (k + 1) ∧ ∀ s ∈ z.s, oat o s ≤ k + 1) :=
    fun z hz => hi.reg z (hp.symm.subset (List.mem_cons_of_mem _ (List.mem_cons_of_mem _ hz)))
  have hzo : ∀ z ∈ R, ∀ s ∈ z.s, oat (incs o (grp l).s) s = oat o s := fun z hz s hs => hout s (by rw [hgr]; exact disj hnd hz hs)
  have hone := hi.one
  rw [hp.countP_eq, List.countP_cons, List.countP_cons] at hone
  have hsx : ∀ s ∈ x.s, oat (incs o (grp l).s) s = oat o s + 1 := fun s hs => hin s (by rw [hgr]; exact List.mem_append_left _ hs)
  have hsy : ∀ s ∈ y.s, oat (incs o (grp l).s) s = oat o s + 1 := fun s hs => hin s (by rw [hgr]; exact List.mem_append_right _ hs)
  obtain ⟨O, hO⟩ : ∃ O, O = incs o (grp l).s := ⟨_, rfl⟩
  rw [← hO] at hzo hsx hsy ⊢
  rw [hj]
  have e1 : (2 : Nat) ^ (k + 1) = 2 ^ k * 2 := Nat.pow_succ ..
  have e2 : (2 : Nat) ^ (k + 2) = 2 ^ k * 2 * 2 := by rw [Nat.pow_succ, e1]
  have hP : 0 < (2 : Nat) ^ k := Nat.two_pow_pos k
  by_cases hyk : y.w = 2 ^ k
  · have hxk : x.w = 2 ^ k := by rcases hx with hx | hx <;> omega
    refine ⟨k, ⟨fun g hg => ?_, ?_⟩⟩
    · rcases List.mem_append.1 hg with hg | hg
      · rcases hz g hg with ⟨h1, h2⟩ | ⟨h1, h2, h3⟩
        · exact .inl ⟨h1, fun s hs => by rw [hzo g hg s hs]; exact h2 s hs⟩
        · exact .inr ⟨h1, h2, fun s hs => by rw [hzo g hg s hs]; exact h3 s hs⟩
      · simp at hg
        subst hg
        refine .inr ⟨by show 2 ^ k < x.w + y.w; omega, by show x.w + y.w ≤ _; omega, fun s hs => ?_⟩
        have hx2 : ∀ s ∈ x.s, oat o s ≤ k := by rcases hx with hx | hx; exact hx.2; omega
        have hy2 : ∀ s ∈ y.s, oat o s ≤ k := by rcases hy with hy | hy; exact hy.2; omega
        rcases List.mem_append.1 hs with hs | hs
        · rw [hsx s hs]; have := hx2 s hs; omega
        · rw [hsy s hs]; have := hy2 s hs; omega
    · rw [List.countP_append]
      have : irr k ⟨x.w + y.w, x.s ++ y.s⟩ = false := by simp [irr]; omega
      simp [this]
      omega
  · have hyk2 : 2 ^ k < y.w := by rcases hy with hy | hy <;> omega
    have hz2 : ∀ z ∈ R, z.w = 2 ^ (k + 1) := by
      intro z hzR
      have h1 := hR z hzR
      rcases hz z hzR with h2 | ⟨h2, h3, _⟩
      · omega
      · rcases Nat.lt_or_ge z.w (2 ^ (k + 1)) with h4 | h4
        · exfalso
          have hy3 : irr k y = true := by simp [irr]; omega
          have hz3 : irr k z = true := by simp [irr]; omega
          have : 0 < R.countP (irr k) := List.countP_pos_iff.2 ⟨z, hzR, hz3⟩
          rw [hy3] at hone
          simp at hone
          omega
        · omega
    refine ⟨k + 1, ⟨fun g hg => ?_, ?_⟩⟩
    · rcases List.mem_append.1 hg with hg | hg
      · refine .inl ⟨hz2 g hg, fun s hs => ?_⟩
        rw [hzo g hg s hs]
        rcases hz g hg with ⟨h1, h2⟩ | ⟨h1, h2, h3⟩
        · have := h2 s hs; omega
        · exact h3 s hs
      · simp at hg
        subst hg
        have hx2 : ∀ s ∈ x.s, oat o s ≤ k + 1 := by
          intro s hs
          rcases hx with hx | hx
          · have := hx.2 s hs; omega
          · exact hx.2.2 s hs
        have hy2 : ∀ s ∈ y.s, oat o s ≤ k + 1 := by
          intro s hs
          rcases hy with hy | hy
          · have := hy.2 s hs; omega
          · exact hy.2.2 s hs
        refine .inr ⟨?_, ?_, fun s hs => ?_⟩
        · show 2 ^ (k + 1) < x.w + y.w; rcases hx with hx | hx <;> omega
        · show x.w + y.w ≤ 2 ^ (k + 2)
          rcases hx with hx | hx <;> rcases hy with hy | hy <;> omega
        · rcases List.mem_append.1 hs with hs | hs
          · rw [hsx s hs]; have := hx2 s hs; omega
          · rw [hsy s hs]; have := hy2 s hs; omega
    · rw [List.countP_append]
      have h0 : R.countP (irr (k + 1)) = 0 := by
        rw [List.countP_eq_zero]
        intro z hzR
        have := hz2 z hzR
        simp [irr]
        omega
      rw [h0]
      have := List.countP_le_length (p := irr (k + 1)) (l := [(⟨x.w + y.w, x.s ++ y.s⟩ : Grp)])
      simp only [List.length_singleton] at this
      omega
theorem merge_fits (most f : Nat) : ∀ (k : Nat) (l : List Grp) (o : List Nat), l.length ≤ f → Inv k l o → Good l o → sumW l ≤ 2 ^ most → ∀ s, oat (mergeF f l o) s ≤ most := by
  have one : ∀ (k : Nat) (l : List Grp) (o : List Nat), l.length ≤ 1 → Inv k l o → Good l o → sumW l ≤ 2 ^ most → ∀ s, oat o s ≤ most := by
    intro k l o hl hi hg hs s
    by_cases hm : s ∈ sy l
    · obtain ⟨g, hgl, hsg⟩ := List.mem_flatMap.1 hm
      match l, hl, hgl with
      | [g'], _, hgl =>
        simp at hgl
        subst hgl
        have hw : sumW [g] = g.w := by simp [sumW]
        rw [hw] at hs
        rcases hi.reg g (List.mem_singleton.2 rfl) with ⟨h1, h2⟩ | ⟨h1, _, h3⟩
        · have := h2 s hsg
          have h4 : k ≤ most := (Nat.pow_le_pow_iff_right (by omega)).1 (show 2 ^ k ≤ 2 ^ most by omega)
          omega
        · have := h3 s hsg
          have h4 : k < most := (Nat.pow_lt_pow_iff_right (by omega)).1 (show 2 ^ k < 2 ^ most by omega)
          omega
    · rw [hg.out s hm]; omega
  induction f with
  | zero => intro k l o hl hi hg hs s; exact one k l o (by omega) hi hg hs s
  | succ f ih =>
    intro k l o hl hi hg hs s
    rw [mergeF]
    split
    · rename_i h; exact one k l o h hi hg hs s
    · rename_i h
      obtain ⟨k', hi'⟩ := hi.join hg (by omega)
      exact ih k' (joinG l) (incs o (grp l).s) (by rw [join_len (by omega)]; omega) hi' (hg.join (by omega)).1 (by rw [sum_join (by omega)]; exact hs) s
end Go.Proofs.YtjghcacepneipaaDoor.HuffM
namespace Go.Proofs.YtjghcacepneipaaDoor.HuffM

def cnt (W : List Nat) : Nat := W.countP fun x => decide (0 < x)
def fits (most : Nat) (o : List Nat) : Bool := o.all fun x => decide (x ≤ most)
theorem half_len (W : List Nat) : (half W).length = W.length := by simp [half]
theorem cnt_half (W : List Nat) : cnt (half W) = cnt W := by
  unfold cnt half
  rw [List.countP_map]
  congr 1
  funext x
  simp only [Function.comp_def]
  rw [Bool.eq_iff_iff]
  simp
  omega
theorem sum_half_le (W : List Nat) : (half W).sum ≤ W.sum := by
  induction W with
  | nil => simp [half]
  | cons x W ih => simp only [half, List.map_cons, List.sum_cons] at ih ⊢; omega
theorem sum_half_lt (W : List Nat) (h : ∃ x ∈ W, 1 < x) : (half W).sum < W.sum := by
  induction W with
  | nil => obtain ⟨x, hx, _⟩ := h; simp at hx
  | cons y W ih =>
    obtain ⟨x, hx, h1⟩ := h
    have := sum_half_le W
    rcases List.mem_cons.1 hx with rfl | hx
    · simp only [half, List.map_cons, List.sum_cons] at this ⊢; omega
    · have := ih ⟨x, hx, h1⟩
      simp only [half, List.map_cons, List.sum_cons] at this ⊢; omega
theorem gI_step (W : List Nat) (i : Nat) : gI W (i + 1) = if 0 < W.getD i 0 then gI W i ++ [⟨W.getD i 0, [i]⟩] else gI W i := rfl
theorem sy_snoc (l : List Grp) (g : Grp) : sy (l ++ [g]) = sy l ++ g.s := by simp [sy]
theorem gI_sy (W : List Nat) (i : Nat) : (∀ s ∈ sy (gI W i), s < i) ∧ (sy (gI W i)).Nodup := by
  induction i with
  | zero => simp [gI, sy]
  | succ i ih =>
    rw [gI_step]
    split
    · rw [sy_snoc]
      refine ⟨fun s hs => ?_, ?_⟩
      · rcases List.mem_append.1 hs with hs | hs
        · have := ih.1 s hs; omega
        · simp at hs; omega
      · rw [List.nodup_append]
        refine ⟨ih.2, by simp, fun a ha b hb => ?_⟩
        simp at hb
        have := ih.1 a ha
        omega
    · exact ⟨fun s hs => by have := ih.1 s hs; omega, ih.2⟩
theorem gI_w (W : List Nat) (i : Nat) : ∀ g ∈ gI W i, 0 < g.w ∧ ∃ j, j < i ∧ g.w = W.getD j 0 ∧ g.s = [j] := by
  induction i with
  | zero => intro g hg; simp [gI] at hg
  | succ i ih =>
    intro g hg
    rw [gI_step] at hg
    split at hg
    · rename_i h
      rcases List.mem_append.1 hg with hg | hg
      · obtain ⟨h1, j, h2, h3⟩ := ih g hg; exact ⟨h1, j, by omega, h3⟩
      · simp at hg; subst hg; exact ⟨h, i, by omega, rfl, rfl⟩
    · obtain ⟨h1, j, h2, h3⟩ := ih g hg; exact ⟨h1, j, by omega, h3⟩
theorem gI_sum (W : List Nat) (i : Nat) (hi : i ≤ W.length) : sumW (gI W i) = (W.take i).sum := by
  induction i with
  | zero => simp [gI, sumW]
  | succ i ih =>
    have ih := ih (by omega)
    have e : W[i]? = some (W.getD i 0) := by rw [List.getD_eq_getElem?_getD, List.getElem?_eq_getElem (by omega)]; rfl
    rw [gI_step, take_snoc e, List.sum_append]
    split
    · unfold sumW at ih ⊢
      rw [List.map_append, List.sum_append, ih]
      simp
    · rename_i h
      rw [List.getD_eq_getElem?_getD] at h
      rw [ih]
      simp
      omega
theorem zero_at (n s : Nat) : oat (List.replicate n 0) s = 0 := by
  unfold oat
  rw [List.getD_eq_getElem?_getD, List.getElem?_replicate]
  split <;> rfl
theorem good0 (W : List Nat) : Good (gI W W.length) (once0 W) := by
  obtain ⟨h1, h2⟩ := gI_sy W W.length
  exact ⟨h2, fun s hs => by unfold once0; rw [List.length_replicate]; exact h1 s hs, fun s _ => zero_at _ _⟩
theorem mem_getD {W : List Nat} {j : Nat} (h : 0 < W.getD j 0) : W.getD j 0 ∈ W := by
  rw [List.getD_eq_getElem?_getD] at h ⊢
  cases hj : W[j]? with
  | none => rw [hj] at h; simp at h
  | some x => simpa using List.mem_of_getElem? hj
theorem sum_ones {W : List Nat} (h : ∀ x ∈ W, x ≤ 1) : W.sum = cnt W := by
  induction W with
  | nil => rfl
  | cons x W ih =>
    have h1 := ih (fun y hy => h y (List.mem_cons_of_mem _ hy))
    have h2 := h x (List.mem_cons_self ..)
    unfold cnt at h1 ⊢
    rw [List.sum_cons, List.countP_cons, h1]
    rcases (show x = 0 ∨ x = 1 by omega) with rfl | rfl <;> simp; omega
theorem merge_one (f : Nat) (l : List Grp) (o : List Nat) (h : l.length ≤ 1) : mergeF f l o = o := by
  cases f with
  | zero => rfl
  | succ f => rw [mergeF, if_pos h]
theorem mergeF_len (f : Nat) (l : List Grp) (o : List Nat) : (mergeF f l o).length = o.length := by
  induction f generalizing l o with
  | zero => rfl
  | succ f ih =>
    rw [mergeF]
    split
    · rfl
    · rw [ih, incs_len]
theorem onceL_len (W : List Nat) : (onceL W).length = W.length := by
  unfold onceL
  simp only [mergeF_len]
  split <;> simp [once0]
theorem fits_ones {W : List Nat} {most : Nat} (h : ∀ x ∈ W, x ≤ 1) (hc : cnt W ≤ 2 ^ most) (hm : 1 ≤ most) : fits most (onceL W) = true := by
  have key : ∀ s, oat (onceL W) s ≤ most := by
    intro s
    unfold onceL
    by_cases h1 : (gI W W.length).length = 1
    · simp only [h1, if_true]
      rw [merge_one _ _ _ (by omega)]
      unfold oat
      rw [List.getD_eq_getElem?_getD, List.getElem?_set]
      split
      · split <;> simp <;> omega
      · rw [← List.getD_eq_getElem?_getD]
        have := zero_at W.length s
        unfold oat at this
        unfold once0
        omega
    · simp only [if_neg h1]
      refine merge_fits most _ 0 _ _ (Nat.le_refl _) ⟨fun g hg => ?_, ?_⟩ (good0 W) ?_ s
      · obtain ⟨h2, j, h3, h4, h5⟩ := gI_w W W.length g hg
        have h6 := h (W.getD j 0) (mem_getD (by omega))
        exact .inl ⟨by rw [Nat.pow_zero]; omega, fun s _ => by have := zero_at W.length s; unfold once0; omega⟩
      · have : (gI W W.length).countP (irr 0) = 0 := by
          rw [List.countP_eq_zero]
          intro g _
          simp [irr]
          omega
        omega
      · rw [gI_sum W W.length (Nat.le_refl _), List.take_length, sum_ones h]
        exact hc
  unfold fits
  rw [List.all_eq_true]
  intro x hx
  obtain ⟨i, hi, e⟩ := List.mem_iff_getElem.1 hx
  have := key i
  unfold oat at this
  rw [List.getD_eq_getElem?_getD, List.getElem?_eq_getElem hi] at this
  simp at this ⊢
  omega
/-- what does not fit has a weight above 1 -/
theorem not_fits {W : List Nat} {most : Nat} (hc : cnt W ≤ 2 ^ most) (hm : 1 ≤ most) (h : fits most (onceL W) = false) : ∃ x ∈ W, 1 < x := by
  apply Classical.byContradiction
  intro h1
  have : ∀ x ∈ W, x ≤ 1 := fun x hx => by
    rcases Nat.lt_or_ge 1 x with h2 | h2
    · exact absurd ⟨x, hx, h2⟩ h1
    · exact h2
  rw [fits_ones this hc hm] at h
  cases h
theorem lensF_succ (most f : Nat) (W : List Nat) : lensF most (f + 1) W = if fits most (onceL W) = true then onceL W else lensF most f (half W) := rfl
theorem lensF_same {most : Nat} (hm : 1 ≤ most) : ∀ (f f' : Nat) (W : List Nat), cnt W ≤ 2 ^ most → W.sum < f → W.sum < f' → lensF most f W = lensF most f' W := by
  intro f
  induction f with
  | zero => intro f' W _ h; omega
  | succ f ih =>
    intro f' W hc h h'
    obtain ⟨g, rfl⟩ : ∃ g, f' = g + 1 := ⟨f' - 1, by omega⟩
    rw [lensF_succ, lensF_succ]
    cases hf : fits most (onceL W) with
    | true => rfl
    | false =>
      have h1 := sum_half_lt W (not_fits hc hm hf)
      simp only [Bool.false_eq_true, if_false]
      exact ih g (half W) (by rw [cnt_half]; exact hc) (by omega) (by omega)
theorem lens_yes {most : Nat} {W : List Nat} (h : fits most (onceL W) = true) : lens most W = onceL W := by
  unfold lens
  rw [lensF_succ, if_pos h]
theorem lens_no {most : Nat} {W : List Nat} (hm : 1 ≤ most) (hc : cnt W ≤ 2 ^ most) (h : fits most (onceL W) = false) : lens most W = lens most (half W) ∧ (half W).sum < W.sum := by
  have h1 := sum_half_lt W (not_fits hc hm h)
  refine ⟨?_, h1⟩
  unfold lens
  rw [lensF_succ, if_neg (by rw [h]; simp)]
  exact lensF_same hm _ _ _ (by rw [cnt_half]; exact hc) (by omega) (by omega)
theorem lens_len (most : Nat) (W : List Nat) : (lens most W).length = W.length := by
  have key : ∀ (f : Nat) (W : List Nat), (lensF most f W).length = W.length := by
    intro f
    induction f with
    | zero => intro W; exact onceL_len W
    | succ f ih =>
      intro W
      rw [lensF_succ]
      split
      · exact onceL_len W
      · rw [ih, half_len]
  exact key _ W

/-! ### no weight behind -/
theorem getD_zeros (W : List Nat) (m i : Nat) : (W ++ List.replicate m 0).getD i 0 = W.getD i 0 := by
  rw [List.getD_eq_getElem?_getD, List.getD_eq_getElem?_getD]
  rcases Nat.lt_or_ge i W.length with h | h
  · rw [List.getElem?_append_left h]
  · rw [List.getElem?_append_right h, List.getElem?_eq_none h, List.getElem?_replicate]
    split <;> rfl
theorem gI_zeros (W : List Nat) (m i : Nat) : gI (W ++ List.replicate m 0) i = gI W i := by
  induction i with
  | zero => rfl
  | succ i ih => rw [gI_step, gI_step, getD_zeros, ih]
theorem gI_more (W : List Nat) (d : Nat) : gI W (W.length + d) = gI W W.length := by
  induction d with
  | zero => rfl
  | succ d ih =>
    rw [← Nat.add_assoc, gI_step, ih, if_neg]
    rw [List.getD_eq_getElem?_getD, List.getElem?_eq_none (by omega)]
    simp
theorem inc_zeros (o Z : List Nat) (s : Nat) (hs : s < o.length) : inc (o ++ Z) s = inc o s ++ Z := by
  unfold inc
  rw [List.set_append_left _ _ hs]
  congr 2
  rw [List.getD_eq_getElem?_getD, List.getD_eq_getElem?_getD, List.getElem?_append_left hs]
theorem incs_zeros (o Z S : List Nat) (hS : ∀ s ∈ S, s < o.length) : incs (o ++ Z) S = incs o S ++ Z := by
  induction S generalizing o with
  | nil => rfl
  | cons s S ih =>
    show incs (inc (o ++ Z) s) S = incs (inc o s) S ++ Z
    rw [inc_zeros _ _ _ (hS s (List.mem_cons_self ..))]
    exact ih (inc o s) (fun x hx => by rw [inc_len]; exact hS x (List.mem_cons_of_mem _ hx))
theorem merge_zeros (Z : List Nat) (f : Nat) : ∀ (l : List Grp) (o : List Nat), Good l o → mergeF f l (o ++ Z) = mergeF f l o ++ Z := by
  induction f with
  | zero => intro l o _; rfl
  | succ f ih =>
    intro l o hg
    rw [mergeF, mergeF]
    split
    · rfl
    · rename_i h
      obtain ⟨x, y, R, hp, hj, hgr, _⟩ := join_spec (l := l) (by omega)
      rw [incs_zeros o Z _ (fun s hs => hg.lt s (by
        rw [hgr] at hs
        rcases List.mem_append.1 hs with h1 | h1
        · exact mem_sy (hp.symm.subset (List.mem_cons_self ..)) h1
        · exact mem_sy (hp.symm.subset (List.mem_cons_of_mem _ (List.mem_cons_self ..))) h1))]
      exact ih _ _ (hg.join (by omega)).1
theorem once_zeros (W : List Nat) (m : Nat) : onceL (W ++ List.replicate m 0) = onceL W ++ List.replicate m 0 := by
  unfold onceL
  have e : gI (W ++ List.replicate m 0) (W ++ List.replicate m 0).length = gI W W.length := by
    rw [gI_zeros, List.length_append, gI_more]
  have e0 : once0 (W ++ List.replicate m 0) = once0 W ++ List.replicate m 0 := by
    unfold once0
    rw [List.length_append, List.length_replicate, List.replicate_append_replicate]
  simp only [e, e0]
  by_cases h : (gI W W.length).length = 1
  · simp only [h, if_true]
    rw [merge_one _ _ _ (by omega), merge_one _ _ _ (by omega), List.set_append_left]
    match hg : gI W W.length, h with
    | [g], _ =>
      obtain ⟨_, j, hj, _, hs⟩ := gI_w W W.length g (by rw [hg]; simp)
      have : (gat [g] 0).s = [j] := by rw [show gat [g] 0 = g from rfl, hs]
      rw [this]
      simpa [once0] using hj
  · simp only [if_neg h]
    exact merge_zeros _ _ _ _ (good0 W)
theorem half_zeros (W : List Nat) (m : Nat) : half (W ++ List.replicate m 0) = half W ++ List.replicate m 0 := by
  unfold half
  rw [List.map_append]
  simp
theorem fits_zeros (most : Nat) (o : List Nat) (m : Nat) : fits most (o ++ List.replicate m 0) = fits most o := by
  unfold fits
  rw [List.all_append]
  have : (List.replicate m 0).all (fun x => decide (x ≤ most)) = true := by
    rw [List.all_eq_true]
    intro x hx
    have := List.eq_of_mem_replicate hx
    simp
    omega
  rw [this, Bool.and_true]
theorem lens_zeros (most : Nat) (W : List Nat) (m : Nat) : lens most (W ++ List.replicate m 0) = lens most W ++ List.replicate m 0 := by
  have key : ∀ (f : Nat) (W : List Nat), lensF most f (W ++ List.replicate m 0) = lensF most f W ++ List.replicate m 0 := by
    intro f
    induction f with
    | zero => intro W; exact once_zeros W m
    | succ f ih =>
      intro W
      rw [lensF_succ, lensF_succ, once_zeros, fits_zeros, half_zeros, ih]
      split <;> rfl
  unfold lens
  have : (W ++ List.replicate m 0).sum = W.sum := by simp
  rw [this]
  exact key _ W
end Go.Proofs.YtjghcacepneipaaDoor.HuffM
