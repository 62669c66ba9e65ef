/-
  Plain mathematics of a heap of nodes (weights, numbers): what sifting down, sifting up keep. Nothing of any program here.
  Plain mathematics of layer 5's lengths: the program's joins, told by numbers, are the reference's; depths, from the last join on, are how often a symbol was joined. Nothing of any program here.
  The loops of layer 5's reference once that pick the least groups (written by gen_once.py).
  The loop of layer 5's reference once that raises the lengths (written by gen_once.py).
-/
import Derived.Test.YtgpkiijmembggaaGreatDoorZm00
import Derived.Test.YtgpkiijmembggaaGreatDoorZm02
import Derived.Test.YtgpkiijmembggaaGreatDoorZm18
import Derived.Test.YtgpkiijmembggaaGreatDoorZm12
import Derived.Deep.DrawnRows
import Derived.Deep.RegionHeld3
namespace Go.Proofs.YtgpkiijmembggaaGreatDoor.HuffM

/-- a node: its weight, its number -/
abbrev Nd := Nat × Nat
def ltn (x y : Nd) : Prop := x.1 < y.1 ∨ (x.1 = y.1 ∧ x.2 < y.2)
def ltb (x y : Nd) : Bool := bif x.1 != y.1 then decide (x.1 < y.1) else decide (x.2 < y.2)
theorem ltb_iff (x y : Nd) : ltb x y = true ↔ ltn x y := by
  unfold ltb ltn
  by_cases h : x.1 = y.1
  · have : (x.1 != y.1) = false := by simpa using h
    rw [this]
    simp
    omega
  · have : (x.1 != y.1) = true := by simpa using h
    rw [this]
    simp
    omega
theorem ltb_no (x y : Nd) : ltb x y = false ↔ ¬ ltn x y := by
  rw [← ltb_iff]
  cases ltb x y <;> simp
theorem ltn_trans {x y z : Nd} (h : ltn x y) (k : ltn y z) : ltn x z := by unfold ltn at *; omega
theorem ltn_asymm {x y : Nd} (h : ltn x y) : ¬ ltn y x := by unfold ltn at *; omega
theorem nlt_trans {x y z : Nd} (h : ¬ ltn x y) (k : ¬ ltn y z) : ¬ ltn x z := by unfold ltn at *; omega
theorem nlt_lt {x y z : Nd} (h : ¬ ltn x y) (k : ltn z y) : ¬ ltn x z := by unfold ltn at *; omega

def gn (l : List Nd) (i : Nat) : Nd := l.getD i (0, 0)
def swn (l : List Nd) (i j : Nat) : List Nd := (l.set i (gn l j)).set j (gn l i)
theorem swn_len (l : List Nd) (i j : Nat) : (swn l i j).length = l.length := by simp [swn]
theorem gn_at {l : List Nd} {i : Nat} (h : i < l.length) : l[i]? = some (gn l i) := by unfold gn; rw [List.getD_eq_getElem?_getD, List.getElem?_eq_getElem h]; rfl
theorem swn_at (l : List Nd) {i j : Nat} (hi : i < l.length) (hj : j < l.length) (k : Nat) : gn (swn l i j) k = if k = j then gn l i else if k = i then gn l j else gn l k := by
  unfold swn
  unfold gn
  rw [List.getD_eq_getElem?_getD, List.getElem?_set]
  by_cases h1 : j = k
  · rw [if_pos h1, if_pos h1.symm, if_pos (by rw [List.length_set]; omega)]
    rfl
  · rw [if_neg h1, if_neg (fun h => h1 h.symm), List.getElem?_set]
    by_cases h2 : i = k
    · rw [if_pos h2, if_pos h2.symm, if_pos (by omega)]
      rfl
    · rw [if_neg h2, if_neg (fun h => h2 h.symm), List.getD_eq_getElem?_getD]
theorem swn_perm (l : List Nd) {i j : Nat} (hi : i < l.length) (hj : j < l.length) : (swn l i j).Perm l := by
  have h : ((l.set i l[j]).set j l[i]).Perm l := List.set_set_perm hi hj
  have e1 : gn l j = l[j] := by have := gn_at hj; rw [List.getElem?_eq_getElem hj] at this; injection this with this; exact this.symm
  have e2 : gn l i = l[i] := by have := gn_at hi; rw [List.getElem?_eq_getElem hi] at this; injection this with this; exact this.symm
  unfold swn
  rw [e1, e2]
  exact h

/-- whoever of the first n stands under lo or behind is no less than who stands above -/
def Hp (l : List Nd) (n lo : Nat) : Prop := ∀ k, k < n → 0 < k → lo ≤ (k - 1) / 2 → ¬ ltn (gn l k) (gn l ((k - 1) / 2))
theorem Hp.root {l : List Nd} {n : Nat} (h : Hp l n 0) : ∀ k, k < n → ¬ ltn (gn l k) (gn l 0) := by
  intro k
  induction k using Nat.strongRecOn with
  | ind k ih =>
    intro hk
    rcases Nat.eq_zero_or_pos k with rfl | h0
    · unfold ltn; omega
    · exact nlt_trans (h k hk h0 (Nat.zero_le _)) (ih ((k - 1) / 2) (by omega) (by omega))
/-- sifting down: it stands at i -/
structure Dn (l : List Nd) (n i0 i : Nat) : Prop where
  a : ∀ k, k < n → 0 < k → i0 ≤ (k - 1) / 2 → (k - 1) / 2 ≠ i → ¬ ltn (gn l k) (gn l ((k - 1) / 2))
  b : i0 < i → ∀ k, k < n → 0 < k → (k - 1) / 2 = i → ¬ ltn (gn l k) (gn l ((i - 1) / 2))
theorem Dn.start {l : List Nd} {n i0 : Nat} (h : Hp l n (i0 + 1)) : Dn l n i0 i0 := ⟨fun k h1 h2 h3 h4 => h k h1 h2 (by omega), fun h => by omega⟩
theorem Dn.leaf {l : List Nd} {n i0 i : Nat} (h : Dn l n i0 i) (hl : n ≤ 2 * i + 1) : Hp l n i0 := fun k h1 h2 h3 => h.a k h1 h2 h3 (by omega)
/-- j is the lesser child of i -/
def Lc (l : List Nd) (n i j : Nat) : Prop := (j = 2 * i + 1 ∨ j = 2 * i + 2) ∧ j < n ∧ ∀ k, k < n → 0 < k → (k - 1) / 2 = i → ¬ ltn (gn l k) (gn l j)
theorem Dn.stop {l : List Nd} {n i0 i j : Nat} (h : Dn l n i0 i) (hj : Lc l n i j) (hs : ¬ ltn (gn l j) (gn l i)) : Hp l n i0 := by
  intro k h1 h2 h3
  by_cases e : (k - 1) / 2 = i
  · rw [e]
    exact nlt_trans (hj.2.2 k h1 h2 e) hs
  · exact h.a k h1 h2 h3 e
theorem Dn.go {l : List Nd} {n i0 i j : Nat} (h : Dn l n i0 i) (hi0 : i0 ≤ i) (hj : Lc l n i j) (hs : ltn (gn l j) (gn l i)) (hn : n ≤ l.length) : Dn (swn l i j) n i0 j := by
  obtain ⟨hc, hjn, hmin⟩ := hj
  have hil : i < l.length := by omega
  have hjl : j < l.length := by omega
  have hji : (j - 1) / 2 = i := by omega
  constructor
  · intro k h1 h2 h3 h4
    rw [swn_at l hil hjl, swn_at l hil hjl]
    by_cases e1 : k = j
    · subst e1
      rw [if_pos rfl, hji, if_neg (by omega), if_pos rfl]
      exact ltn_asymm hs
    · rw [if_neg e1]
      by_cases e2 : k = i
      · subst e2
        rw [if_pos rfl, if_neg h4, if_neg (by omega)]
        exact h.b (by omega) j hjn (by omega) hji
      · rw [if_neg e2, if_neg h4]
        by_cases e3 : (k - 1) / 2 = i
        · rw [if_pos e3]
          exact hmin k h1 h2 e3
        · rw [if_neg e3]
          exact h.a k h1 h2 h3 e3
  · intro h1 k h2 h3 h4
    rw [swn_at l hil hjl, swn_at l hil hjl, hji, if_neg (by omega), if_neg (by omega), if_neg (by omega), if_pos rfl]
    have := h.a k h2 h3 (by omega) (by omega)
    rwa [h4] at this
/-- sifting up: it stands at j -/
structure Up (l : List Nd) (n j : Nat) : Prop where
  a : ∀ k, k < n → 0 < k → k ≠ j → ¬ ltn (gn l k) (gn l ((k - 1) / 2))
  b : 0 < j → ∀ k, k < n → 0 < k → (k - 1) / 2 = j → ¬ ltn (gn l k) (gn l ((j - 1) / 2))
theorem Up.top {l : List Nd} {n : Nat} (h : Up l n 0) : Hp l n 0 := fun k h1 h2 _ => h.a k h1 h2 (by omega)
theorem Up.stop {l : List Nd} {n j : Nat} (h : Up l n j) (hs : ¬ ltn (gn l j) (gn l ((j - 1) / 2))) : Hp l n 0 := by
  intro k h1 h2 _
  by_cases e : k = j
  · subst e; exact hs
  · exact h.a k h1 h2 e
theorem Up.go {l : List Nd} {n j : Nat} (h : Up l n j) (hj0 : 0 < j) (hjn : j < n) (hs : ltn (gn l j) (gn l ((j - 1) / 2))) (hn : n ≤ l.length) : Up (swn l ((j - 1) / 2) j) n ((j - 1) / 2) := by
  obtain ⟨i, hi⟩ : ∃ i, i = (j - 1) / 2 := ⟨_, rfl⟩
  rw [← hi] at hs ⊢
  have hil : i < l.length := by omega
  have hjl : j < l.length := by omega
  constructor
  · intro k h1 h2 h3
    rw [swn_at l hil hjl, swn_at l hil hjl]
    by_cases e1 : k = j
    · subst e1
      rw [if_pos rfl, ← hi, if_neg (by omega), if_pos rfl]
      exact ltn_asymm hs
    · rw [if_neg e1, if_neg h3]
      by_cases e2 : (k - 1) / 2 = j
      · rw [if_pos e2]
        have := h.b hj0 k h1 h2 e2
        rwa [← hi] at this
      · rw [if_neg e2]
        by_cases e3 : (k - 1) / 2 = i
        · rw [if_pos e3]
          have := h.a k h1 h2 e1
          rw [e3] at this
          exact nlt_lt this hs
        · rw [if_neg e3]
          exact h.a k h1 h2 e1
  · intro h1 k h2 h3 h4
    have hp := h.a i (by omega) h1 (by omega)
    rw [swn_at l hil hjl, swn_at l hil hjl, if_neg (show ¬ (i - 1) / 2 = j by omega), if_neg (show ¬ (i - 1) / 2 = i by omega)]
    by_cases e1 : k = j
    · rw [if_pos e1]
      exact hp
    · rw [if_neg e1, if_neg (by omega)]
      have := h.a k h2 h3 e1
      rw [h4] at this
      exact nlt_trans this hp
theorem Up.push {l : List Nd} {x : Nd} (h : Hp l l.length 0) : Up (l ++ [x]) (l.length + 1) l.length := by
  have hg : ∀ k, k < l.length → gn (l ++ [x]) k = gn l k := fun k hk => by unfold gn; rw [List.getD_eq_getElem?_getD, List.getElem?_append_left hk, ← List.getD_eq_getElem?_getD]
  constructor
  · intro k h1 h2 h3
    rw [hg k (by omega), hg _ (by omega)]
    exact h k (by omega) h2 (Nat.zero_le _)
  · intro h0 k h1 h2 h3
    omega
/-- behind the first exchange of Pop -/
theorem Hp.pop {l : List Nd} (h : Hp l l.length 0) (h0 : 0 < l.length) : Hp (swn l 0 (l.length - 1)) (l.length - 1) 1 := by
  intro k h1 h2 h3
  rw [swn_at l h0 (by omega), swn_at l h0 (by omega), if_neg (by omega), if_neg (by omega), if_neg (by omega), if_neg (by omega)]
  exact h k (by omega) h2 (Nat.zero_le _)
theorem Hp.all {l : List Nd} {n : Nat} (lo : Nat) (h : n / 2 ≤ lo) : Hp l n lo := fun k h1 h2 h3 => by omega
end Go.Proofs.YtgpkiijmembggaaGreatDoor.HuffM
namespace Go.Proofs.YtgpkiijmembggaaGreatDoor.HuffM

/-- groups with their numbers -/
abbrev Zs := List (Grp × Nat)
def ks (Z : Zs) : List Nd := Z.map fun z => (z.1.w, z.2)
def gz (Z : Zs) : List Grp := Z.map (·.1)
/-- numbers rise, all below N -/
structure Wz (Z : Zs) (N : Nat) : Prop where
  asc : Z.Pairwise fun a b => a.2 < b.2
  lt : ∀ z ∈ Z, z.2 < N
theorem gz_app (A B : Zs) : gz (A ++ B) = gz A ++ gz B := by simp [gz]
theorem ks_app (A B : Zs) : ks (A ++ B) = ks A ++ ks B := by simp [ks]
theorem split_gz {Z : Zs} {A B : List Grp} {x : Grp} (h : gz Z = A ++ x :: B) : ∃ ZA z ZB, Z = ZA ++ z :: ZB ∧ gz ZA = A ∧ z.1 = x ∧ gz ZB = B := by
  unfold gz at h
  obtain ⟨ZA, Z2, h1, h2, h3⟩ := List.map_eq_append_iff.1 h
  obtain ⟨z, ZB, h4, h5, h6⟩ := List.map_eq_cons_iff.1 h3
  exact ⟨ZA, z, ZB, by rw [h1, h4], h2, h5, h6⟩
/-- the least node of a heap is the first of the groups of least weight -/
theorem pick_min {Z ZA ZB : Zs} {z : Grp × Nat} {N : Nat} {h h' : List Nd} {x : Nd} (hZ : Z = ZA ++ z :: ZB) (hw : Wz Z N) (hA : ∀ a ∈ ZA, z.1.w < a.1.w) (hB : ∀ b ∈ ZB, z.1.w ≤ b.1.w)
    (hp : h.Perm (ks Z)) (hx : (x :: h').Perm h) (hm : ∀ y ∈ h', ¬ ltn y x) : x = (z.1.w, z.2) ∧ h'.Perm (ks (ZA ++ ZB)) := by
  have hall : (x :: h').Perm (ks Z) := hx.trans hp
  have hk : ks Z = ks ZA ++ (z.1.w, z.2) :: ks ZB := by rw [hZ, ks_app]; rfl
  have hless : ∀ q ∈ Z, q = z ∨ ltn (z.1.w, z.2) (q.1.w, q.2) := by
    intro q hq
    rw [hZ] at hq
    rcases List.mem_append.1 hq with hq | hq
    · exact .inr (.inl (hA q hq))
    · rcases List.mem_cons.1 hq with hq | hq
      · exact .inl hq
      · right
        have h1 := hB q hq
        have h2 := hw.asc
        rw [hZ] at h2
        have h3 := (List.pairwise_cons.1 (List.pairwise_append.1 h2).2.1).1 q hq
        unfold ltn
        simp only
        omega
  have e : x = (z.1.w, z.2) := by
    have h1 : x ∈ ks Z := hall.mem_iff.1 (List.mem_cons_self ..)
    have h2 : (z.1.w, z.2) ∈ x :: h' := hall.mem_iff.2 (by rw [hk]; simp)
    rcases List.mem_cons.1 h2 with h2' | h2'
    · exact h2'.symm
    · obtain ⟨q, hq, rfl⟩ := List.mem_map.1 h1
      rcases hless q hq with h3 | h3
      · rw [h3]
      · exact absurd h3 (hm _ h2')
  refine ⟨e, ?_⟩
  subst e
  rw [hk] at hall
  have h4 := hall.trans List.perm_middle
  rw [ks_app]
  exact h4.cons_inv

/-- the joins from here on, as pairs of numbers -/
inductive Run : Zs → Nat → List (Nat × Nat) → Prop
  | done (Z : Zs) (N : Nat) : Z.length ≤ 1 → Run Z N []
  | step (Z Z' : Zs) (N a b : Nat) (sa sb : List Nat) (ps : List (Nat × Nat)) : 2 ≤ Z.length → gz Z' = joinG (gz Z) → (grp (gz Z)).s = sa ++ sb →
      (∃ wa wb C E, Z.Perm ((⟨wa, sa⟩, a) :: (⟨wb, sb⟩, b) :: (C ++ E)) ∧ Z' = C ++ E ++ [(⟨wa + wb, sa ++ sb⟩, N)]) → Wz Z' (N + 1) → Run Z' (N + 1) ps → Run Z N ((a, b) :: ps)
def nsum (h : List Nd) : Nat := (h.map (·.1)).sum
theorem nsum_perm {h k : List Nd} (p : h.Perm k) : nsum h = nsum k := (p.map _).sum_nat
theorem step_run {Z : Zs} {N : Nat} {h h1 h2 : List Nd} {x y : Nd} (hw : Wz Z N) (hl : 2 ≤ Z.length) (hp : h.Perm (ks Z)) (hx : (x :: h1).Perm h) (hm : ∀ q ∈ h1, ¬ ltn q x) (hy : (y :: h2).Perm h1) (hn : ∀ q ∈ h2, ¬ ltn q y) :
    ∃ Z', Wz Z' (N + 1) ∧ (h2 ++ [(x.1 + y.1, N)]).Perm (ks Z') ∧ Z'.length + 1 = Z.length ∧ (∀ ps, Run Z' (N + 1) ps → Run Z N ((x.2, y.2) :: ps)) ∧ x.2 < N ∧ y.2 < N := by
  have hlg : 2 ≤ (gz Z).length := by unfold gz; rw [List.length_map]; exact hl
  obtain ⟨A, B, C, E, gx, gy, h1', h2', h3', h4', h5, h6, h7, h8⟩ := join_row hlg
  obtain ⟨ZA, zx, ZB, rfl, rfl, rfl, rfl⟩ := split_gz h1'
  rw [← gz_app] at h2'
  obtain ⟨ZC, zy, ZE, e2, rfl, rfl, rfl⟩ := split_gz h2'
  have mem : ∀ {L : Zs} {P : Grp → Prop}, (∀ g ∈ gz L, P g) → ∀ z ∈ L, P z.1 := fun h z hz => h z.1 (List.mem_map.2 ⟨z, hz, rfl⟩)
  obtain ⟨ex, hp1⟩ := pick_min rfl hw (mem h5) (mem h6) hp hx hm
  have hw1 : Wz (ZA ++ ZB) N := ⟨hw.asc.sublist (by simp), fun z hz => hw.lt z (by
    rcases List.mem_append.1 hz with h | h
    · simp [h]
    · simp [h])⟩
  obtain ⟨ey, hp2⟩ := pick_min e2 hw1 (mem h7) (mem h8) hp1 hy hn
  subst ex ey
  have hw2 : Wz (ZC ++ ZE) N := ⟨(e2 ▸ hw1.asc).sublist (by simp), fun z hz => hw1.lt z (by
    rw [e2]
    rcases List.mem_append.1 hz with h | h
    · simp [h]
    · simp [h])⟩
  have hxN := hw.lt zx (by simp)
  have hyN := hw1.lt zy (by rw [e2]; simp)
  have hwz : Wz (ZC ++ ZE ++ [(⟨zx.1.w + zy.1.w, zx.1.s ++ zy.1.s⟩, N)]) (N + 1) := by
    refine ⟨List.pairwise_append.2 ⟨hw2.asc, List.pairwise_singleton _ _, fun p hp q hq => ?_⟩, fun z hz => ?_⟩
    · simp at hq
      subst hq
      exact hw2.lt p hp
    · rcases List.mem_append.1 hz with h | h
      · have := hw2.lt z h; omega
      · simp at h
        subst h
        simp
  have hlen : (ZA ++ ZB).length = (ZC ++ ZE).length + 1 := by rw [e2]; simp; omega
  refine ⟨ZC ++ ZE ++ [(⟨zx.1.w + zy.1.w, zx.1.s ++ zy.1.s⟩, N)], hwz, ?_, ?_, ?_, hxN, hyN⟩
  · rw [ks_app (ZC ++ ZE)]
    exact hp2.append_right _
  · simp at hlen ⊢
    omega
  · intro ps hps
    refine Run.step _ _ N zx.2 zy.2 zx.1.s zy.1.s ps hl ?_ (by rw [h4']) ⟨zx.1.w, zy.1.w, ZC, ZE, ?_, rfl⟩ hwz hps
    · rw [h3', gz_app, gz_app]
      rfl
    · refine (List.perm_middle).trans (List.Perm.cons _ ?_)
      rw [e2]
      exact List.perm_middle
theorem step_sum {h h1 h2 : List Nd} {x y : Nd} (hx : (x :: h1).Perm h) (hy : (y :: h2).Perm h1) (N : Nat) : x.1 + y.1 ≤ nsum h ∧ nsum (h2 ++ [(x.1 + y.1, N)]) = nsum h := by
  have e1 := nsum_perm hx
  have e2 := nsum_perm hy
  have e3 : nsum (x :: h1) = x.1 + nsum h1 := rfl
  have e4 : nsum (y :: h2) = y.1 + nsum h2 := rfl
  have e5 : nsum (h2 ++ [(x.1 + y.1, N)]) = nsum h2 + (x.1 + y.1) := by simp [nsum]
  omega

/-- how often a node is joined from here on; N: the next number -/
def bk : Nat → List (Nat × Nat) → Nat → Nat
  | _, [], _ => 0
  | N, p :: ps, n => if n = p.1 ∨ n = p.2 then bk (N + 1) ps N + 1 else bk (N + 1) ps n
def syz (Z : Zs) : List Nat := Z.flatMap (·.1.s)
theorem syz_perm {Z Y : Zs} (h : Z.Perm Y) : (syz Z).Perm (syz Y) := h.flatMap_right _
theorem run_merge {Z : Zs} {N : Nat} {ps : List (Nat × Nat)} (hr : Run Z N ps) : Wz Z N → ∀ (f : Nat) (o : List Nat), Z.length ≤ f + 1 → (syz Z).Nodup → (∀ s ∈ syz Z, s < o.length) →
    (∀ z ∈ Z, ∀ s ∈ z.1.s, oat (mergeF f (gz Z) o) s = oat o s + bk N ps z.2) ∧ (∀ s, s ∉ syz Z → oat (mergeF f (gz Z) o) s = oat o s) ∧ ∀ n, n < N → (∀ z ∈ Z, z.2 ≠ n) → bk N ps n = 0 := by
  induction hr with
  | done Z N hl =>
    intro hw f o hf hn ho
    have hm : mergeF f (gz Z) o = o := merge_one f (gz Z) o (by unfold gz; rw [List.length_map]; exact hl)
    rw [hm]
    exact ⟨fun z hz s hs => rfl, fun s hs => rfl, fun n _ _ => rfl⟩
  | step Z Z' N a b sa sb ps hl hj hg hperm hw' hps ih =>
    intro hw f o hf hn ho
    obtain ⟨wa, wb, C, E, hp, rfl⟩ := hperm
    obtain ⟨f, rfl⟩ : ∃ f', f = f' + 1 := ⟨f - 1, by omega⟩
    have hlg : ¬ (gz Z).length ≤ 1 := by unfold gz; rw [List.length_map]; omega
    have hmf : mergeF (f + 1) (gz Z) o = mergeF f (joinG (gz Z)) (incs o (grp (gz Z)).s) := by rw [mergeF, if_neg hlg]
    rw [hmf, ← hj, hg]
    have hsp : (syz Z).Perm (sa ++ (sb ++ syz (C ++ E))) := syz_perm hp
    have hsp' : (syz (C ++ E ++ [(⟨wa + wb, sa ++ sb⟩, N)])).Perm (syz Z) := by
      refine List.Perm.trans ?_ hsp.symm
      unfold syz
      rw [List.flatMap_append]
      simp only [List.flatMap_cons, List.flatMap_nil, List.append_nil]
      rw [← List.append_assoc sa]
      exact List.perm_append_comm
    have hn2 : (sa ++ (sb ++ syz (C ++ E))).Nodup := hsp.nodup_iff.1 hn
    have hnab : (sa ++ sb).Nodup := by
      rw [← List.append_assoc] at hn2
      exact (List.nodup_append.1 hn2).1
    have hdis : ∀ s ∈ sa ++ sb, s ∉ syz (C ++ E) := by
      intro s hs hs'
      rw [← List.append_assoc] at hn2
      exact (List.nodup_append.1 hn2).2.2 s hs s hs' rfl
    have hlt : ∀ s ∈ sa ++ sb, s < o.length := fun s hs => ho s (hsp.mem_iff.2 (by
      rcases List.mem_append.1 hs with h | h
      · simp [h]
      · simp [h]))
    have hinc := incs_at o (sa ++ sb) hlt hnab
    have hzl : (C ++ E ++ [((⟨wa + wb, sa ++ sb⟩ : Grp), N)]).length + 1 = Z.length := by
      have := hp.length_eq
      simp at this ⊢
      omega
    obtain ⟨i1, i2, i3⟩ := ih hw' f (incs o (sa ++ sb)) (by omega) (hsp'.nodup_iff.2 hn) (fun s hs => by rw [incs_len]; exact ho s (hsp'.mem_iff.1 hs))
    have haN : a < N := hw.lt ((⟨wa, sa⟩ : Grp), a) (hp.mem_iff.2 (List.mem_cons_self ..))
    have hbN : b < N := hw.lt ((⟨wb, sb⟩ : Grp), b) (hp.mem_iff.2 (by simp))
    have hpw : ((⟨wa, sa⟩, a) :: (⟨wb, sb⟩, b) :: (C ++ E) : Zs).Pairwise fun p q => p.2 ≠ q.2 :=
      (hp.pairwise_iff (fun {p q} h => Ne.symm h)).1 (hw.asc.imp (fun {p q} h => Nat.ne_of_lt h))
    have hna : ∀ z ∈ C ++ E, z.2 ≠ a := fun z hz => ((List.pairwise_cons.1 hpw).1 z (List.mem_cons_of_mem _ hz)).symm
    have hnb : ∀ z ∈ C ++ E, z.2 ≠ b := fun z hz => ((List.pairwise_cons.1 (List.pairwise_cons.1 hpw).2).1 z hz).symm
    have hnew : ∀ s ∈ sa ++ sb, oat (mergeF f (gz (C ++ E ++ [((⟨wa + wb, sa ++ sb⟩ : Grp), N)])) (incs o (sa ++ sb))) s = oat o s + (bk (N + 1) ps N + 1) := by
      intro s hs
      have h := i1 _ (List.mem_append_right _ (List.mem_singleton.2 rfl)) s hs
      rw [h, hinc, if_pos hs]
      simp only
      omega
    refine ⟨fun z hz s hs => ?_, fun s hs => ?_, fun n hn1 hz => ?_⟩
    · rcases List.mem_cons.1 (hp.mem_iff.1 hz) with rfl | hz
      · rw [hnew s (List.mem_append_left _ hs), bk, if_pos (.inl rfl)]
      · rcases List.mem_cons.1 hz with rfl | hz
        · rw [hnew s (List.mem_append_right _ hs), bk, if_pos (.inr rfl)]
        · rw [i1 z (List.mem_append_left _ hz) s hs, hinc, if_neg (fun h => hdis s h (List.mem_flatMap.2 ⟨z, hz, hs⟩)), bk, if_neg]
          rintro (h | h)
          · exact hna z hz h
          · exact hnb z hz h
    · rw [i2 s (fun h => hs (hsp'.mem_iff.1 h)), hinc, if_neg]
      intro h
      refine hs (hsp.mem_iff.2 ?_)
      rcases List.mem_append.1 h with h | h
      · simp [h]
      · simp [h]
    · rw [bk, if_neg]
      · refine i3 n (by omega) fun z hz' => ?_
        rcases List.mem_append.1 hz' with h | h
        · exact hz z (hp.mem_iff.2 (by simp only [List.mem_cons]; exact .inr (.inr h)))
        · simp at h
          subst h
          simp only
          omega
      · rintro (h | h)
        · exact hz _ (hp.mem_iff.2 (List.mem_cons_self ..)) h.symm
        · exact hz _ (hp.mem_iff.2 (List.mem_cons_of_mem _ (List.mem_cons_self ..))) h.symm
end Go.Proofs.YtgpkiijmembggaaGreatDoor.HuffM
namespace Go.Proofs.YtgpkiijmembggaaGreatDoor
open Go.RowKit HuffM Mem Go.Lib
attribute [local go_sem ↓] Go.wp_at_zero Go.wp_at_succ
set_option linter.unusedVariables false

/-- groups, each with the slice of its symbols, as cells -/
def cells2 (E : List (Grp × Value)) : List Value := E.flatMap fun p => [natc p.1.w, p.2]
def gs (E : List (Grp × Value)) : List Grp := E.map (·.1)
/-- the groups' symbols lie in blocks behind lim -/
def SymOk (w : World) (lim : Nat) (E : List (Grp × Value)) : Prop := ∀ p ∈ E, ∃ Ai ci, p.2 = .slice Ai p.1.s.length ci ∧ p.1.s.length ≤ ci ∧ Rd w Ai p.1.s.length (p.1.s.map natc) ∧ ∀ ad, Ai = some ad → lim < ad.block ∧ ∃ cs m, w.heap[ad.block]? = some (.cells cs 3 m)
theorem SymOk.fr {w w' : World} {lim : Nat} {E : List (Grp × Value)} {S : Nat → Prop} (h : SymOk w lim E) (hf : Fr S w w') (hS : ∀ b, S b → b ≤ lim) : SymOk w' lim E := by
  intro p hp
  obtain ⟨Ai, ci, h1, h2, h3, h4⟩ := h p hp
  refine ⟨Ai, ci, h1, h2, h3.fr hf (fun ad h hs => by have := hS _ hs; have := (h4 ad h).1; omega), fun ad h => ?_⟩
  obtain ⟨h5, cs, m, h6⟩ := h4 ad h
  exact ⟨h5, cs, m, hf.blk h6 (fun hs => by have := hS _ hs; omega)⟩
theorem cells2_at {E : List (Grp × Value)} {i : Nat} {p : Grp × Value} (h : E[i]? = some p) : (cells2 E)[2 * i]? = some (natc p.1.w) ∧ (cells2 E)[2 * i + 1]? = some p.2 := by
  induction E generalizing i with
  | nil => simp at h
  | cons q E ih =>
    cases i with
    | zero => simp at h; subst h; exact ⟨rfl, rfl⟩
    | succ i =>
      have h1 := ih (i := i) (by simpa using h)
      have e : cells2 (q :: E) = natc q.1.w :: q.2 :: cells2 E := rfl
      rw [e]
      have e1 : 2 * (i + 1) = 2 * i + 1 + 1 := by omega
      rw [e1]
      exact h1
theorem cells2_len (E : List (Grp × Value)) : (cells2 E).length = E.length * 2 := by
  induction E with
  | nil => rfl
  | cons q E ih => rw [show cells2 (q :: E) = natc q.1.w :: q.2 :: cells2 E from rfl, List.length_cons, List.length_cons, ih, List.length_cons]; omega
theorem gat_of {E : List (Grp × Value)} {i : Nat} {p : Grp × Value} (hp : E[i]? = some p) : gat (gs E) i = p.1 := by
  unfold gat gs
  rw [List.getD_eq_getElem?_getD, List.getElem?_map, hp]
  rfl
theorem wt_of {E : List (Grp × Value)} {i : Nat} {p : Grp × Value} (hp : E[i]? = some p) : wt (gs E) i = p.1.w := by unfold wt; rw [gat_of hp]

/-- an index, -1: none -/
def bval : Option Nat → Int
  | none => -1
  | some b => (b : Int)

end Go.Proofs.YtgpkiijmembggaaGreatDoor
namespace Go.Proofs.YtgpkiijmembggaaGreatDoor
open Go.RowKit HuffM Mem Go.Lib
attribute [local go_sem ↓] Go.wp_at_zero Go.wp_at_succ
set_option linter.unusedVariables false

/-- the block holds these ints -/
def Ints (w : World) (g : Nat) (l : List Nat) : Prop := w.heap[g]? = some (.cells (l.map natc).toArray 3 (0, 0))
theorem Ints.set {w : World} {g : Nat} {l : List Nat} (h : Ints w g l) (i x : Nat) : Ints (w.setCell ⟨g, i, none⟩ (.int .i64 (x : Int))) g (l.set i x) := by
  unfold Ints at h ⊢
  rw [set_k h, List.setIfInBounds_toArray, show (Value.int .i64 (x : Int)) = natc x from rfl, ← List.map_set]
theorem Ints.cell {w : World} {g : Nat} {l : List Nat} (h : Ints w g l) {i : Nat} (hi : i < l.length) : w.cell? ⟨g, i, none⟩ = some (.int .i64 (oat l i : Int)) ∧ w.frozen? ⟨g, i, none⟩ = false := by
  unfold Ints at h
  refine ⟨?_, by simp [World.frozen?, h]⟩
  rw [cell_k h]
  unfold oat
  rw [List.getD_eq_getElem?_getD, List.getElem?_eq_getElem hi]
  simp [hi, natc]
theorem Ints.rd {w : World} {g : Nat} {l : List Nat} (h : Ints w g l) : Rd w (some ⟨g, 0, none⟩) l.length (l.map natc) := by
  have := rd_blk h
  rwa [List.length_map] at this
theorem inc_le (o : List Nat) (s t : Nat) : oat (inc o s) t ≤ oat o t + 1 := by
  by_cases hs : s < o.length
  · rw [inc_at o s t hs]; split <;> omega
  · unfold inc
    rw [List.set_eq_of_length_le (by omega)]
    omega
theorem incs_le (o S : List Nat) (t : Nat) : oat (incs o S) t ≤ oat o t + S.length := by
  induction S generalizing o with
  | nil => simp [incs]
  | cons s S ih =>
    have h1 := ih (inc o s)
    have h2 := inc_le o s t
    rw [show incs o (s :: S) = incs (inc o s) S from rfl, List.length_cons]
    omega
theorem incs_snoc (o S : List Nat) (s : Nat) : incs o (S ++ [s]) = inc (incs o S) s := by unfold incs; rw [List.foldl_append]; rfl

end Go.Proofs.YtgpkiijmembggaaGreatDoor
