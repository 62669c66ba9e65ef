/-
  Plain mathematics of layer 5's lengths: the depths of groups that are joined two by two, the least first: who weighs more is no deeper, the depths' parts make one whole, and a deep one wants much weight.
  Plain mathematics of layer 5's lengths: the reference's joins make depths (XHuffP), in the groups' own row.
-/
import Derived.Test.YtjghcacepneipaaDoorZm10
namespace Go.Proofs.YtjghcacepneipaaDoor.HuffM

/-- groups in their row, each with its depth in the end -/
inductive Dep : List (Grp × Nat) → Prop
  | nil : Dep []
  | one (g : Grp) : Dep [(g, 0)]
  | step (A B C E : List (Grp × Nat)) (x y : Grp) (d : Nat) (l : List (Grp × Nat)) (hl : l = A ++ (x, d + 1) :: B) (he : A ++ B = C ++ (y, d + 1) :: E)
      (hA : ∀ z ∈ A, x.w < z.1.w) (hB : ∀ z ∈ B, x.w ≤ z.1.w) (hC : ∀ z ∈ C, y.w < z.1.w) (hE : ∀ z ∈ E, y.w ≤ z.1.w)
      (hn : Dep (C ++ E ++ [(⟨x.w + y.w, x.s ++ y.s⟩, d)])) : Dep l
def DRel (p q : Grp × Nat) : Prop := (p.1.w ≤ q.1.w → q.2 ≤ p.2) ∧ (q.1.w < p.1.w → p.2 ≤ q.2)
def Deep1 (l : List (Grp × Nat)) : Prop := ∀ c T, l.Perm (c :: T) → T.Pairwise (fun x y => c.1.w ≤ x.1.w + y.1.w) → ∀ z ∈ T, z.2 ≤ c.2 + 1
section
variable {A B C E : List (Grp × Nat)} {x y : Grp} {d : Nat} {l : List (Grp × Nat)}
theorem step_perm (hl : l = A ++ (x, d + 1) :: B) (he : A ++ B = C ++ (y, d + 1) :: E) : l.Perm ((x, d + 1) :: (y, d + 1) :: (C ++ E)) := by
  subst hl
  refine List.perm_middle.trans (List.Perm.cons _ ?_)
  rw [he]
  exact List.perm_middle
theorem step_le (he : A ++ B = C ++ (y, d + 1) :: E) (hA : ∀ z ∈ A, x.w < z.1.w) (hB : ∀ z ∈ B, x.w ≤ z.1.w) : x.w ≤ y.w := by
  have h : (y, d + 1) ∈ A ++ B := by rw [he]; simp
  rcases List.mem_append.1 h with h | h
  · exact Nat.le_of_lt (hA _ h)
  · exact hB _ h
theorem step_rest (hC : ∀ z ∈ C, y.w < z.1.w) (hE : ∀ z ∈ E, y.w ≤ z.1.w) : ∀ z ∈ C ++ E, y.w ≤ z.1.w := by
  intro z hz
  rcases List.mem_append.1 hz with h | h
  · exact Nat.le_of_lt (hC _ h)
  · exact hE _ h
end
theorem pair_of {c : Nat} {R : List (Grp × Nat)} (h : ∀ z ∈ R, ∀ z' ∈ R, c ≤ z.1.w + z'.1.w) : R.Pairwise (fun x y => c ≤ x.1.w + y.1.w) := by
  induction R with
  | nil => exact List.Pairwise.nil
  | cons a R ih =>
    refine List.Pairwise.cons (fun z hz => h a (by simp) z (by simp [hz])) (ih fun z hz z' hz' => h z (by simp [hz]) z' (by simp [hz']))
theorem pair_perm {c : Nat} {R R' : List (Grp × Nat)} (hp : R.Perm R') (h : R.Pairwise (fun x y => c ≤ x.1.w + y.1.w)) : R'.Pairwise (fun x y => c ≤ x.1.w + y.1.w) :=
  (hp.pairwise_iff (fun {a b} h => by omega)).1 h
theorem Dep.both {l : List (Grp × Nat)} (h : Dep l) : l.Pairwise DRel ∧ Deep1 l := by
  induction h with
  | nil => exact ⟨List.Pairwise.nil, fun c T h => by have := h.length_eq; simp at this⟩
  | one g =>
    refine ⟨List.pairwise_singleton .., fun c T h _ z hz => ?_⟩
    have := h.length_eq
    cases T with
    | nil => simp at hz
    | cons _ _ => simp at this
  | step A B C E x y d l hl he hA hB hC hE hn ih =>
    obtain ⟨hm, hd⟩ := ih
    have hxy := step_le he hA hB
    have hR := step_rest hC hE
    have hp := step_perm hl he
    have hab : ((C ++ E) ++ [((⟨x.w + y.w, x.s ++ y.s⟩ : Grp), d)]).Perm ((⟨x.w + y.w, x.s ++ y.s⟩, d) :: (C ++ E)) := List.perm_append_singleton _ _
    -- whoever is left is at most one deeper than the new one
    have hr : ∀ z ∈ C ++ E, z.2 ≤ d + 1 := by
      refine hd _ _ hab (pair_of fun z hz z' hz' => ?_)
      have h1 := hR z hz
      have h2 := hR z' hz'
      show x.w + y.w ≤ _
      omega
    rw [List.pairwise_append] at hm
    obtain ⟨hm1, _, hm2⟩ := hm
    rw [List.pairwise_append] at hm1
    obtain ⟨hmC, hmE, hmCE⟩ := hm1
    have hAB : (A ++ B).Pairwise DRel := by
      rw [he, List.pairwise_append]
      refine ⟨hmC, List.Pairwise.cons (fun q hq => ?_) hmE, fun p hp q hq => ?_⟩
      · have h1 := hE q hq
        have h2 := hr q (by simp [hq])
        exact ⟨fun _ => h2, fun h => by simp only at h; omega⟩
      · rcases List.mem_cons.1 hq with rfl | hq
        · have h1 := hC p hp
          have h2 := hr p (by simp [hp])
          exact ⟨fun h => by simp only at h; omega, fun _ => h2⟩
        · exact hmCE p hp q hq
    have hAB2 : ∀ z ∈ A ++ B, z.2 ≤ d + 1 := by
      intro z hz
      rw [he] at hz
      rcases List.mem_append.1 hz with h | h
      · exact hr z (by simp [h])
      · rcases List.mem_cons.1 h with rfl | h
        · exact Nat.le_refl _
        · exact hr z (by simp [h])
    constructor
    · rw [hl, List.pairwise_append]
      rw [List.pairwise_append] at hAB
      obtain ⟨h1, h2, h3⟩ := hAB
      refine ⟨h1, List.Pairwise.cons (fun q hq => ?_) h2, fun p hp q hq => ?_⟩
      · have h1 := hB q hq
        exact ⟨fun _ => hAB2 q (by simp [hq]), fun h => by simp only at h; omega⟩
      · rcases List.mem_cons.1 hq with rfl | hq
        · have h1 := hA p hp
          exact ⟨fun h => by simp only at h; omega, fun _ => hAB2 p (by simp [hp])⟩
        · exact h3 p hp q hq
    · intro c T hcT hpair z hz
      have hq := hcT.symm.trans hp
      have hc : c ∈ (x, d + 1) :: (y, d + 1) :: (C ++ E) := hq.subset (by simp)
      have hz' : z ∈ (x, d + 1) :: (y, d + 1) :: (C ++ E) := hq.subset (by simp [hz])
      rcases List.mem_cons.1 hc with rfl | hc
      · rcases List.mem_cons.1 hz' with rfl | hz'
        · omega
        · rcases List.mem_cons.1 hz' with rfl | hz'
          · omega
          · have := hr z hz'; show z.2 ≤ d + 1 + 1; omega
      · rcases List.mem_cons.1 hc with rfl | hc
        · rcases List.mem_cons.1 hz' with rfl | hz'
          · show d + 1 ≤ d + 1 + 1; omega
          · rcases List.mem_cons.1 hz' with rfl | hz'
            · omega
            · have := hr z hz'; show z.2 ≤ d + 1 + 1; omega
        · obtain ⟨R1, R2, hcr⟩ := List.append_of_mem hc
          have hpR : (C ++ E).Perm (c :: (R1 ++ R2)) := by rw [hcr]; exact List.perm_middle
          have hT : T.Perm ((x, d + 1) :: (y, d + 1) :: (R1 ++ R2)) := by
            have h1 : (c :: T).Perm (c :: (x, d + 1) :: (y, d + 1) :: (R1 ++ R2)) := by
              refine hq.trans ?_
              refine ((hpR.cons _).cons _).trans ?_
              refine ((List.Perm.swap c (y, d + 1) _).cons _).trans ?_
              exact List.Perm.swap c (x, d + 1) _
            exact h1.cons_inv
          have hpt := pair_perm hT hpair
          rw [List.pairwise_cons, List.pairwise_cons] at hpt
          have hcxy := hpt.1 (y, d + 1) (by simp)
          simp only at hcxy
          have hN : ((C ++ E) ++ [((⟨x.w + y.w, x.s ++ y.s⟩ : Grp), d)]).Perm (c :: (⟨x.w + y.w, x.s ++ y.s⟩, d) :: (R1 ++ R2)) :=
            hab.trans ((hpR.cons _).trans (List.Perm.swap ..))
          have hall := hd c _ hN (List.Pairwise.cons (fun z hz => by simp only; omega) hpt.2.2)
          have hdc : d ≤ c.2 := (hm2 c hc (⟨x.w + y.w, x.s ++ y.s⟩, d) (by simp)).1 hcxy
          rcases List.mem_cons.1 (hT.subset hz) with rfl | hz
          · show d + 1 ≤ c.2 + 1; omega
          · rcases List.mem_cons.1 hz with rfl | hz
            · show d + 1 ≤ c.2 + 1; omega
            · exact hall z (by simp only [List.mem_cons]; exact Or.inr hz)
/-- who weighs more is no deeper -/
theorem Dep.mono {l : List (Grp × Nat)} (h : Dep l) {p q : Grp × Nat} (hp : p ∈ l) (hq : q ∈ l) (hw : q.1.w < p.1.w) : p.2 ≤ q.2 := by
  have h1 := h.both.1
  clear h
  induction l with
  | nil => simp at hp
  | cons a l ih =>
    rw [List.pairwise_cons] at h1
    rcases List.mem_cons.1 hp with rfl | hp'
    · rcases List.mem_cons.1 hq with rfl | hq'
      · omega
      · exact (h1.1 q hq').2 hw
    · rcases List.mem_cons.1 hq with rfl | hq'
      · exact (h1.1 p hp').1 (by omega)
      · exact ih hp' hq' h1.2
def fib : Nat → Nat
  | 0 => 0
  | 1 => 1
  | n + 2 => fib n + fib (n + 1)
def wsum (l : List (Grp × Nat)) : Nat := (l.map (·.1.w)).sum
theorem wsum_perm {l l' : List (Grp × Nat)} (h : l.Perm l') : wsum l = wsum l' := (h.map _).sum_nat
theorem Dep.fibs {l : List (Grp × Nat)} (h : Dep l) : ∀ c T m, l.Perm (c :: T) → (∀ z ∈ T, m ≤ z.1.w) → fib c.2 * m + fib (c.2 + 1) * c.1.w ≤ wsum l := by
  induction h with
  | nil => intro c T m h; have := h.length_eq; simp at this
  | one g =>
    intro c T m h _
    have hc : c ∈ [(g, 0)] := h.symm.subset (by simp)
    simp at hc
    subst hc
    simp [fib, wsum]
  | step A B C E x y d l hl he hA hB hC hE hn ih =>
    intro c T m hcT hm
    have hxy := step_le he hA hB
    have hR := step_rest hC hE
    have hp := step_perm hl he
    have hab : ((C ++ E) ++ [((⟨x.w + y.w, x.s ++ y.s⟩ : Grp), d)]).Perm ((⟨x.w + y.w, x.s ++ y.s⟩, d) :: (C ++ E)) := List.perm_append_singleton _ _
    have hs : wsum (C ++ E ++ [((⟨x.w + y.w, x.s ++ y.s⟩ : Grp), d)]) = wsum l := by
      rw [wsum_perm hp, wsum_perm hab]
      simp [wsum]
      omega
    rw [hs] at ih
    have hq := hcT.symm.trans hp
    have hc : c ∈ (x, d + 1) :: (y, d + 1) :: (C ++ E) := hq.subset (by simp)
    have f2 : fib (d + 1 + 1) = fib d + fib (d + 1) := rfl
    rcases List.mem_cons.1 hc with rfl | hc
    · have hT := hq.cons_inv
      have hmy := hm (y, d + 1) (hT.symm.subset (by simp))
      have h1 := ih _ _ x.w hab (fun z hz => by have := hR z hz; omega)
      simp only at h1 hmy ⊢
      have h2 := Nat.mul_le_mul_left (fib (d + 1)) hmy
      rw [f2, Nat.add_mul]
      rw [Nat.mul_add] at h1
      omega
    · rcases List.mem_cons.1 hc with rfl | hc
      · have hT := (hq.trans (List.Perm.swap ..)).cons_inv
        have hmx := hm (x, d + 1) (hT.symm.subset (by simp))
        have h1 := ih _ _ y.w hab (fun z hz => hR z hz)
        simp only at h1 hmx ⊢
        have h2 := Nat.mul_le_mul_left (fib (d + 1)) hmx
        rw [f2, Nat.add_mul]
        rw [Nat.mul_add] at h1
        omega
      · obtain ⟨R1, R2, hcr⟩ := List.append_of_mem hc
        have hpR : (C ++ E).Perm (c :: (R1 ++ R2)) := by rw [hcr]; exact List.perm_middle
        have hT : T.Perm ((x, d + 1) :: (y, d + 1) :: (R1 ++ R2)) := by
          have h1 : (c :: T).Perm (c :: (x, d + 1) :: (y, d + 1) :: (R1 ++ R2)) := by
            refine hq.trans ?_
            refine ((hpR.cons _).cons _).trans ?_
            refine ((List.Perm.swap c (y, d + 1) _).cons _).trans ?_
            exact List.Perm.swap c (x, d + 1) _
          exact h1.cons_inv
        have hN : ((C ++ E) ++ [((⟨x.w + y.w, x.s ++ y.s⟩ : Grp), d)]).Perm (c :: (⟨x.w + y.w, x.s ++ y.s⟩, d) :: (R1 ++ R2)) :=
          hab.trans ((hpR.cons _).trans (List.Perm.swap ..))
        refine ih c _ m hN (fun z hz => ?_)
        rcases List.mem_cons.1 hz with rfl | hz
        · have := hm (x, d + 1) (hT.symm.subset (by simp))
          simp only at this ⊢
          omega
        · exact hm z (hT.symm.subset (by simp only [List.mem_cons]; exact Or.inr (Or.inr hz)))
theorem fib_mono (n k : Nat) : fib (n + 1) ≤ fib (n + 1 + k) := by
  induction k with
  | zero => exact Nat.le_refl _
  | succ k ih =>
    have e : fib (n + 1 + (k + 1)) = fib (n + k) + fib (n + 1 + k) := by
      rw [show n + 1 + (k + 1) = (n + k) + 2 by omega, fib, show n + k + 1 = n + 1 + k by omega]
    omega
/-- with little weight none is deeper than 15 -/
theorem Dep.small {l : List (Grp × Nat)} (h : Dep l) (hw : ∀ p ∈ l, 0 < p.1.w) (hs : wsum l < 2584) : ∀ p ∈ l, p.2 ≤ 15 := by
  intro p hp
  rcases Nat.lt_or_ge 15 p.2 with h1 | h1
  · exfalso
    obtain ⟨P, S, hl⟩ := List.append_of_mem hp
    have hpm : l.Perm (p :: (P ++ S)) := by rw [hl]; exact List.perm_middle
    have h2 := h.fibs p _ 1 hpm (fun z hz => hw z (hpm.symm.subset (List.mem_cons_of_mem _ hz)))
    have h3 := hw p hp
    obtain ⟨k, hk⟩ : ∃ k, p.2 = 15 + 1 + k := ⟨p.2 - 16, by omega⟩
    have h4 := fib_mono 15 k
    have h5 := fib_mono 16 k
    have e1 : fib (15 + 1) = 987 := by decide
    have e2 : fib (16 + 1) = 1597 := by decide
    rw [hk, show 15 + 1 + k + 1 = 16 + 1 + k by omega] at h2
    rw [e1] at h4
    rw [e2] at h5
    have h6 := Nat.mul_le_mul_left (fib (16 + 1 + k)) h3
    omega
  · exact h1
def ksum (N : Nat) (l : List (Grp × Nat)) : Nat := (l.map fun p => 2 ^ (N - p.2)).sum
theorem ksum_perm {N : Nat} {l l' : List (Grp × Nat)} (h : l.Perm l') : ksum N l = ksum N l' := (h.map _).sum_nat
theorem Dep.kraft {l : List (Grp × Nat)} (h : Dep l) (N : Nat) : l ≠ [] → (∀ p ∈ l, p.2 ≤ N) → ksum N l = 2 ^ N := by
  induction h with
  | nil => intro h; exact absurd rfl h
  | one g => intro _ _; simp [ksum]
  | step A B C E x y d l hl he hA hB hC hE hn ih =>
    intro _ hN
    have hp := step_perm hl he
    have hab : ((C ++ E) ++ [((⟨x.w + y.w, x.s ++ y.s⟩ : Grp), d)]).Perm ((⟨x.w + y.w, x.s ++ y.s⟩, d) :: (C ++ E)) := List.perm_append_singleton _ _
    have hd : d + 1 ≤ N := hN (x, d + 1) (hp.symm.subset (by simp))
    have h1 := ih (by simp) (fun p hpm => by
      rcases List.mem_append.1 hpm with h | h
      · exact hN p (hp.symm.subset (by simp only [List.mem_cons]; exact Or.inr (Or.inr h)))
      · simp at h; subst h; show d ≤ N; omega)
    rw [ksum_perm hab] at h1
    rw [ksum_perm hp]
    unfold ksum at h1 ⊢
    simp only [List.map_cons, List.sum_cons] at h1 ⊢
    have e : 2 ^ (N - d) = 2 ^ (N - (d + 1)) + 2 ^ (N - (d + 1)) := by
      rw [show N - d = N - (d + 1) + 1 by omega, Nat.pow_succ]; omega
    omega
theorem Dep.deep {l : List (Grp × Nat)} (h : Dep l) (hn : 2 ≤ l.length) : ∀ p ∈ l, 0 < p.2 := by
  induction h with
  | nil => simp at hn
  | one g => simp at hn
  | step A B C E x y d l hl he hA hB hC hE hn' ih =>
    have hp := step_perm hl he
    intro p hpm
    rcases List.mem_cons.1 (hp.subset hpm) with rfl | h
    · show 0 < d + 1; omega
    · rcases List.mem_cons.1 h with rfl | h
      · show 0 < d + 1; omega
      · refine ih ?_ p (by simp only [List.mem_append] at h ⊢; exact Or.inl h)
        have := List.length_pos_of_mem h
        rw [List.length_append]
        simp
        simp at this
        omega
end Go.Proofs.YtjghcacepneipaaDoor.HuffM
namespace Go.Proofs.YtjghcacepneipaaDoor.HuffM

theorem aI_first (l : List Grp) (i : Nat) : ∀ j, j < aI l i → wt l (aI l i) < wt l j := by
  induction i with
  | zero => intro j hj; simp [aI] at hj
  | succ i ih =>
    intro j hj
    rw [aI] at hj ⊢
    split
    · rename_i h
      rw [if_pos h] at hj
      have := aI_le l i j hj
      omega
    · rename_i h
      rw [if_neg h] at hj
      exact ih j hj
theorem bI_first {l : List Grp} {a i b : Nat} (h : bI l a i = some b) : ∀ j, j < b → j ≠ a → wt l b < wt l j := by
  induction i generalizing b with
  | zero => cases h
  | succ i ih =>
    rw [bI] at h
    cases hb : bI l a i with
    | none =>
      rw [hb] at h
      simp only at h
      split at h
      · injection h with h
        subst h
        intro j hj hja
        exact absurd (bI_none hb j hj) hja
      · cases h
    | some b' =>
      rw [hb] at h
      simp only at h
      split at h
      · rename_i hc
        injection h with h
        subst h
        intro j hj hja
        have := (bI_some hb).2.2 j hj hja
        omega
      · injection h with h
        subst h
        exact ih hb
theorem rI_run (l : List Grp) (a b : Nat) (i k : Nat) (hk : i + k ≤ l.length) (hn : ∀ j, i ≤ j → j < i + k → j ≠ a ∧ j ≠ b) : rI l a b (i + k) = rI l a b i ++ (l.drop i).take k := by
  induction k with
  | zero => simp
  | succ k ih =>
    rw [show i + (k + 1) = (i + k) + 1 by omega, rI, if_pos (hn (i + k) (by omega) (by omega)), ih (by omega) (fun j h1 h2 => hn j h1 (by omega)), List.append_assoc]
    congr 1
    have e : (l.drop i)[k]? = some (gat l (i + k)) := by
      rw [List.getElem?_drop, List.getElem?_eq_getElem (by omega)]
      unfold gat
      rw [List.getD_eq_getElem?_getD, List.getElem?_eq_getElem (by omega)]
      rfl
    exact (take_snoc e).symm
theorem rI_skip (l : List Grp) (a b i : Nat) (h : i = a ∨ i = b) : rI l a b (i + 1) = rI l a b i := by
  rw [rI, if_neg (fun h' => by rcases h with h | h; exact h'.1 h; exact h'.2 h)]
theorem cut3 (l : List Grp) (i j : Nat) (hij : i < j) (hj : j < l.length) : l = l.take i ++ gat l i :: ((l.drop (i + 1)).take (j - i - 1) ++ gat l j :: l.drop (j + 1)) := by
  have e1 : l.drop i = gat l i :: l.drop (i + 1) := by
    rw [List.drop_eq_getElem_cons (by omega)]
    unfold gat
    rw [List.getD_eq_getElem?_getD, List.getElem?_eq_getElem (by omega)]
    rfl
  have e2 : l.drop j = gat l j :: l.drop (j + 1) := by
    rw [List.drop_eq_getElem_cons (by omega)]
    unfold gat
    rw [List.getD_eq_getElem?_getD, List.getElem?_eq_getElem (by omega)]
    rfl
  have e3 : l.drop (i + 1) = (l.drop (i + 1)).take (j - i - 1) ++ l.drop j := by
    conv => lhs; rw [← List.take_append_drop (j - i - 1) (l.drop (i + 1))]
    rw [List.drop_drop, show i + 1 + (j - i - 1) = j by omega]
  conv => lhs; rw [← List.take_append_drop i l, e1, e3, e2]
theorem rI_cut (l : List Grp) (a b i j : Nat) (hij : i < j) (hj : j < l.length) (h : i = a ∧ j = b ∨ i = b ∧ j = a) :
    rI l a b l.length = l.take i ++ ((l.drop (i + 1)).take (j - i - 1) ++ l.drop (j + 1)) := by
  have h1 := rI_run l a b 0 i (by omega) (fun k _ h2 => by omega)
  have h2 := rI_skip l a b i (by omega)
  have h3 := rI_run l a b (i + 1) (j - i - 1) (by omega) (fun k _ h2 => by omega)
  have h4 := rI_skip l a b j (by omega)
  have h5 := rI_run l a b (j + 1) (l.length - (j + 1)) (by omega) (fun k _ h2 => by omega)
  rw [show j + 1 + (l.length - (j + 1)) = l.length by omega] at h5
  rw [show i + 1 + (j - i - 1) = j by omega] at h3
  rw [Nat.zero_add] at h1
  rw [h5, h4, h3, h2, h1]
  have e : (l.drop (j + 1)).take (l.length - (j + 1)) = l.drop (j + 1) := List.take_of_length_le (by rw [List.length_drop]; omega)
  rw [e]
  simp [rI]
theorem in_take {l : List Grp} {i : Nat} {z : Grp} (h : z ∈ l.take i) : ∃ j, j < i ∧ j < l.length ∧ z = gat l j := by
  obtain ⟨k, hk, rfl⟩ := List.getElem_of_mem h
  rw [List.length_take] at hk
  refine ⟨k, by omega, by omega, ?_⟩
  unfold gat
  rw [List.getElem_take, List.getD_eq_getElem?_getD, List.getElem?_eq_getElem (by omega)]
  rfl
theorem in_drop {l : List Grp} {i : Nat} {z : Grp} (h : z ∈ l.drop i) : ∃ j, i ≤ j ∧ j < l.length ∧ z = gat l j := by
  obtain ⟨k, hk, rfl⟩ := List.getElem_of_mem h
  rw [List.length_drop] at hk
  refine ⟨i + k, by omega, by omega, ?_⟩
  unfold gat
  rw [List.getElem_drop, List.getD_eq_getElem?_getD, List.getElem?_eq_getElem (by omega)]
  rfl
theorem in_mid {l : List Grp} {i k : Nat} {z : Grp} (h : z ∈ (l.drop i).take k) : ∃ j, i ≤ j ∧ j < i + k ∧ j < l.length ∧ z = gat l j := by
  obtain ⟨q, hq, rfl⟩ := List.getElem_of_mem h
  rw [List.length_take, List.length_drop] at hq
  refine ⟨i + q, by omega, by omega, by omega, ?_⟩
  unfold gat
  rw [List.getElem_take, List.getElem_drop, List.getD_eq_getElem?_getD, List.getElem?_eq_getElem (by omega)]
  rfl
/-- what a join takes, and what it leaves, in their row -/
theorem join_row {l : List Grp} (h : 2 ≤ l.length) : ∃ A B C E x y, l = A ++ x :: B ∧ A ++ B = C ++ y :: E ∧ joinG l = C ++ E ++ [⟨x.w + y.w, x.s ++ y.s⟩] ∧ grp l = ⟨x.w + y.w, x.s ++ y.s⟩ ∧
    (∀ z ∈ A, x.w < z.w) ∧ (∀ z ∈ B, x.w ≤ z.w) ∧ (∀ z ∈ C, y.w < z.w) ∧ (∀ z ∈ E, y.w ≤ z.w) := by
  obtain ⟨h1, h2, h3, h4, h5⟩ := pick h
  have ha : ∀ j, j < l.length → wt l (pa l) ≤ wt l j := aI_le l l.length
  have ha' : ∀ j, j < pa l → wt l (pa l) < wt l j := aI_first l l.length
  have hb' : ∀ j, j < pb l → j ≠ pa l → wt l (pb l) < wt l j := by
    cases hb : bI l (pa l) l.length with
    | none =>
      have h0 := bI_none hb 0 (by omega)
      have h1 := bI_none hb 1 (by omega)
      omega
    | some b =>
      have e : pb l = b := by unfold pb; rw [hb]; rfl
      rw [e]
      exact bI_first hb
  obtain ⟨a, hea⟩ : ∃ a, a = pa l := ⟨_, rfl⟩
  obtain ⟨b, heb⟩ : ∃ b, b = pb l := ⟨_, rfl⟩
  have hg : grp l = ⟨(gat l a).w + (gat l b).w, (gat l a).s ++ (gat l b).s⟩ := by rw [hea, heb]; rfl
  have hj : joinG l = rI l a b l.length ++ [grp l] := by rw [hea, heb]; rfl
  rw [← hea, ← heb] at h3
  rw [← hea] at h1 ha ha'
  rw [← heb] at h2
  rw [← hea, ← heb] at h5 hb'
  clear h4 hea heb
  rcases Nat.lt_or_ge a b with hab | hab
  · have hc := cut3 l a b hab h2
    have hr := rI_cut l a b a b hab h2 (Or.inl ⟨rfl, rfl⟩)
    refine ⟨l.take a, (l.drop (a + 1)).take (b - a - 1) ++ gat l b :: l.drop (b + 1), l.take a ++ (l.drop (a + 1)).take (b - a - 1), l.drop (b + 1), gat l a, gat l b, hc, by simp, ?_, hg, ?_, ?_, ?_, ?_⟩
    · rw [hj, hr, hg]; simp
    · intro z hz
      obtain ⟨j, hj1, _, rfl⟩ := in_take hz
      exact ha' j hj1
    · intro z hz
      have hz : z ∈ l := by rw [hc]; simp only [List.mem_append, List.mem_cons] at hz ⊢; exact Or.inr (Or.inr hz)
      obtain ⟨j, _, hj2, rfl⟩ := in_drop (i := 0) (by simpa using hz)
      exact ha j hj2
    · intro z hz
      rcases List.mem_append.1 hz with hz | hz
      · obtain ⟨j, hj1, _, rfl⟩ := in_take hz
        exact hb' j (by omega) (by omega)
      · obtain ⟨j, hj1, hj2, _, rfl⟩ := in_mid hz
        exact hb' j (by omega) (by omega)
    · intro z hz
      obtain ⟨j, hj1, hj2, rfl⟩ := in_drop hz
      exact h5 j hj2 (by omega)
  · have hba : b < a := by omega
    have hc := cut3 l b a hba h1
    have hr := rI_cut l a b b a hba h1 (Or.inr ⟨rfl, rfl⟩)
    refine ⟨l.take b ++ gat l b :: (l.drop (b + 1)).take (a - b - 1), l.drop (a + 1), l.take b, (l.drop (b + 1)).take (a - b - 1) ++ l.drop (a + 1), gat l a, gat l b, by rw [List.append_assoc]; exact hc, by simp, ?_, hg, ?_, ?_, ?_, ?_⟩
    · rw [hj, hr, hg]
    · intro z hz
      rcases List.mem_append.1 hz with hz | hz
      · obtain ⟨j, hj1, _, rfl⟩ := in_take hz
        exact ha' j (by omega)
      · rcases List.mem_cons.1 hz with rfl | hz
        · exact ha' b hba
        · obtain ⟨j, hj1, hj2, _, rfl⟩ := in_mid hz
          exact ha' j (by omega)
    · intro z hz
      obtain ⟨j, hj1, hj2, rfl⟩ := in_drop hz
      exact ha j hj2
    · intro z hz
      obtain ⟨j, hj1, _, rfl⟩ := in_take hz
      exact hb' j hj1 (by omega)
    · intro z hz
      rcases List.mem_append.1 hz with hz | hz
      · obtain ⟨j, hj1, hj2, hj3, rfl⟩ := in_mid hz
        exact h5 j hj3 (by omega)
      · obtain ⟨j, hj1, hj2, rfl⟩ := in_drop hz
        exact h5 j hj2 (by omega)
theorem map_split {L : List (Grp × Nat)} {P S : List Grp} (h : L.map (·.1) = P ++ S) : ∃ P' S', L = P' ++ S' ∧ P'.map (·.1) = P ∧ S'.map (·.1) = S := by
  obtain ⟨P', S', h1, h2, h3⟩ := List.map_eq_append_iff.1 h
  exact ⟨P', S', h1, h2, h3⟩
theorem all_map {L : List (Grp × Nat)} {P : Grp → Prop} (h : ∀ z ∈ L.map (·.1), P z) : ∀ z ∈ L, P z.1 := fun z hz => h z.1 (List.mem_map_of_mem hz)
/-- the depths of a row of groups: the lengths that their symbols still get -/
theorem merge_dep (f : Nat) : ∀ (l : List Grp) (o : List Nat), l.length ≤ f + 1 → Good l o →
    ∃ L : List (Grp × Nat), L.map (·.1) = l ∧ Dep L ∧ (∀ p ∈ L, ∀ s ∈ p.1.s, oat (mergeF f l o) s = oat o s + p.2) ∧ ∀ s, s ∉ sy l → oat (mergeF f l o) s = oat o s := by
  have base : ∀ (f : Nat) (l : List Grp) (o : List Nat), l.length ≤ 1 → ∃ L : List (Grp × Nat), L.map (·.1) = l ∧ Dep L ∧ (∀ p ∈ L, ∀ s ∈ p.1.s, oat (mergeF f l o) s = oat o s + p.2) ∧ ∀ s, s ∉ sy l → oat (mergeF f l o) s = oat o s := by
    intro f l o h
    rw [merge_one f l o h]
    cases l with
    | nil => exact ⟨[], rfl, .nil, fun p hp => by simp at hp, fun _ _ => rfl⟩
    | cons g l =>
      cases l with
      | nil => exact ⟨[(g, 0)], rfl, .one g, fun p hp s _ => by simp at hp; subst hp; rfl, fun _ _ => rfl⟩
      | cons _ _ => simp at h
  induction f with
  | zero => intro l o h _; exact base 0 l o (by omega)
  | succ f ih =>
    intro l o hl hg
    by_cases h1 : l.length ≤ 1
    · exact base _ l o h1
    · have h2 : 2 ≤ l.length := by omega
      obtain ⟨hgood, hin, hout⟩ := hg.join h2
      obtain ⟨L', hm, hdep, hat, hno⟩ := ih (joinG l) (incs o (grp l).s) (by rw [join_len h2]; omega) hgood
      obtain ⟨A, B, C, E, x, y, hlr, hAB, hj, hgr, hA, hB, hC, hE⟩ := join_row h2
      rw [hj] at hm
      obtain ⟨R', S', rfl, hR', hS'⟩ := map_split hm
      obtain ⟨C', E', rfl, hC', hE'⟩ := map_split hR'
      obtain ⟨p, rfl⟩ : ∃ p, S' = [p] := by
        cases S' with
        | nil => simp at hS'
        | cons p S' =>
          cases S' with
          | nil => exact ⟨p, rfl⟩
          | cons _ _ => simp at hS'
      obtain ⟨gp, d⟩ := p
      simp at hS'
      subst hS'
      have hmAB : (C' ++ (y, d + 1) :: E').map (·.1) = A ++ B := by rw [hAB, List.map_append, List.map_cons, hC', hE']
      obtain ⟨A', B', hsp, hA', hB'⟩ := map_split hmAB
      have hmf : mergeF (f + 1) l o = mergeF f (joinG l) (incs o (grp l).s) := by rw [mergeF, if_neg h1]
      have hstep : Dep (A' ++ (x, d + 1) :: B') :=
        .step A' B' C' E' x y d _ rfl hsp.symm (all_map (P := fun z => x.w < z.w) (by rw [hA']; exact hA)) (all_map (P := fun z => x.w ≤ z.w) (by rw [hB']; exact hB))
          (all_map (P := fun z => y.w < z.w) (by rw [hC']; exact hC)) (all_map (P := fun z => y.w ≤ z.w) (by rw [hE']; exact hE)) hdep
      have hmap : (A' ++ (x, d + 1) :: B').map (·.1) = l := by rw [List.map_append, List.map_cons, hA', hB']; exact hlr.symm
      have hpm := step_perm (l := A' ++ (x, d + 1) :: B') rfl hsp.symm
      refine ⟨_, hmap, hstep, fun p hp s hs => ?_, fun s hs => ?_⟩
      · rw [hmf]
        have hnd := hg.nd
        rw [← hmap] at hnd
        have hnd := (sy_perm (hpm.map (·.1))).nodup_iff.1 hnd
        rw [List.map_cons, List.map_cons] at hnd
        rcases List.mem_cons.1 (hpm.subset hp) with rfl | hp
        · have hs' : s ∈ (grp l).s := by rw [hgr]; exact List.mem_append_left _ hs
          have h3 := hat (⟨x.w + y.w, x.s ++ y.s⟩, d) (by simp) s (List.mem_append_left _ hs)
          rw [h3, hin s hs']
          show _ = oat o s + (d + 1)
          omega
        · rcases List.mem_cons.1 hp with rfl | hp
          · have hs' : s ∈ (grp l).s := by rw [hgr]; exact List.mem_append_right _ hs
            have h3 := hat (⟨x.w + y.w, x.s ++ y.s⟩, d) (by simp) s (List.mem_append_right _ hs)
            rw [h3, hin s hs']
            show _ = oat o s + (d + 1)
            omega
          · have hs' : s ∉ (grp l).s := by
              rw [hgr]
              exact disj hnd (List.mem_map_of_mem hp) hs
            have h3 := hat p (List.mem_append_left _ hp) s hs
            rw [h3, hout s hs']
      · rw [hmf]
        have hs1 : s ∉ sy (joinG l) := fun h => hs ((sy_join h2).subset h)
        have hs2 : s ∉ (grp l).s := fun h => hs1 (by rw [hj]; exact mem_sy (g := ⟨x.w + y.w, x.s ++ y.s⟩) (by simp) (by rw [hgr] at h; exact h))
        rw [hno s hs1, hout s hs2]
end Go.Proofs.YtjghcacepneipaaDoor.HuffM
