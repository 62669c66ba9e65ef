/-
  Plain mathematics of a stable sort by swaps: what a swap does to a list in pieces; the order by keys, then by numbers. Nothing of any program here.
  Plain mathematics of layer 5's codes: the symbols that have codes, by their lengths, then by their numbers; codes are counted up in that order. Nothing of any program here.
  Plain mathematics of layer 5's codes: where each symbol's code lies, and what a coder reads by counting alone. Nothing of any program here.
  Plain: bits as the reference has them.
-/
import Derived.Test.YtgpkiijmembggaaGreatDoorZm00
import Derived.Test.YtgpkiijmembggaaGreatDoorZm01
namespace Go.Proofs.YtgpkiijmembggaaGreatDoor.HuffM

/-- two places change theirs -/
def swp (d : List Nat) (i j : Nat) : List Nat := (d.set i (d.getD j 0)).set j (d.getD i 0)
theorem swp_len (d : List Nat) (i j : Nat) : (swp d i j).length = d.length := by simp [swp]
theorem getD_at (P : List Nat) (x : Nat) (S : List Nat) (i : Nat) (hi : i = P.length) : (P ++ x :: S).getD i 0 = x := by
  subst hi
  simp [List.getD_eq_getElem?_getD]
theorem getE_at (P : List Nat) (x : Nat) (S : List Nat) (i : Nat) (hi : i = P.length) : (P ++ x :: S)[i]? = some x := by
  subst hi
  simp
theorem set_at (P : List Nat) (x y : Nat) (S : List Nat) (i : Nat) (hi : i = P.length) : (P ++ x :: S).set i y = P ++ y :: S := by
  subst hi
  rw [List.set_append_right _ _ (Nat.le_refl _), Nat.sub_self, List.set_cons_zero]
/-- the first place ahead of the second -/
theorem swp_at (P M S : List Nat) (x y i j : Nat) (hi : i = P.length) (hj : j = P.length + 1 + M.length) : swp (P ++ x :: (M ++ y :: S)) i j = P ++ y :: (M ++ x :: S) := by
  have e2 : (P ++ x :: (M ++ y :: S)).getD j 0 = y := by
    have := getD_at (P ++ x :: M) y S j (by simp; omega)
    simpa using this
  unfold swp
  rw [e2, getD_at P x _ i hi, set_at P x y _ i hi]
  have := set_at (P ++ y :: M) y x S j (by simp; omega)
  simpa using this
theorem swp_comm (d : List Nat) (i j : Nat) : swp d i j = swp d j i := by
  by_cases h : i = j
  · subst h; rfl
  · unfold swp
    rw [List.set_comm _ _ h]

/-- by keys, then by numbers -/
def lx (key : Nat → Nat) (x y : Nat) : Prop := key x < key y ∨ (key x = key y ∧ x < y)
def Srt (key : Nat → Nat) (l : List Nat) : Prop := l.Pairwise (lx key)
/-- of one key, who stands ahead is less -/
def Stb (key : Nat → Nat) (A B : List Nat) : Prop := ∀ x ∈ A, ∀ y ∈ B, key x = key y → x < y
section
variable {key : Nat → Nat}
theorem lx_trans {x y z : Nat} (h : lx key x y) (k : lx key y z) : lx key x z := by
  unfold lx at *
  omega
theorem lx_key {x y : Nat} (h : lx key x y) : key x ≤ key y := by
  unfold lx at h
  omega
theorem lx_asymm {x y : Nat} (h : lx key x y) (k : lx key y x) : False := by
  unfold lx at *
  omega
theorem lx_of_stb {x y : Nat} (h : key x = key y → x < y) (k : ¬ key y < key x) : lx key x y := by
  unfold lx
  omega
theorem srt_app {A B : List Nat} : Srt key (A ++ B) ↔ Srt key A ∧ Srt key B ∧ ∀ x ∈ A, ∀ y ∈ B, lx key x y := List.pairwise_append
theorem srt_perm_eq {A B : List Nat} (hA : Srt key A) (hB : Srt key B) (hp : A.Perm B) : A = B := by
  induction A generalizing B with
  | nil => exact hp.nil_eq
  | cons x A ih =>
    cases B with
    | nil => exact absurd hp.length_eq (by simp)
    | cons y B =>
      have hA' := List.pairwise_cons.1 hA
      have hB' := List.pairwise_cons.1 hB
      have hx : x ∈ y :: B := hp.mem_iff.1 (List.mem_cons_self ..)
      have hy : y ∈ x :: A := hp.mem_iff.2 (List.mem_cons_self ..)
      have e : x = y := by
        rcases List.mem_cons.1 hx with h | h
        · exact h
        · rcases List.mem_cons.1 hy with h' | h'
          · exact h'.symm
          · exact (lx_asymm (hB'.1 x h) (hA'.1 y h')).elim
      subst e
      rw [ih hA'.2 hB'.2 hp.cons_inv]
/-- all of a sorted list lie ahead of y, if its last one does -/
theorem ahead_of {A : List Nat} {z y : Nat} (h : Srt key (A ++ [z])) (k : lx key z y) : ∀ x ∈ A ++ [z], lx key x y := by
  intro x hx
  rcases List.mem_append.1 hx with hx | hx
  · exact lx_trans ((srt_app.1 h).2.2 x hx z (by simp)) k
  · simp at hx; subst hx; exact k
/-- all of a sorted list lie behind y, if its first one does -/
theorem behind_of {A : List Nat} {z y : Nat} (h : Srt key (z :: A)) (k : lx key y z) : ∀ x ∈ z :: A, lx key y x := by
  intro x hx
  rcases List.mem_cons.1 hx with hx | hx
  · subst hx; exact k
  · exact lx_trans k ((List.pairwise_cons.1 h).1 x hx)
theorem ins_end {C1 C2 : List Nat} {y : Nat} (h : Srt key (C1 ++ C2)) (h1 : ∀ x ∈ C1, lx key x y) (h2 : ∀ z ∈ C2, lx key y z) : Srt key (C1 ++ y :: C2) := by
  obtain ⟨a, b, c⟩ := srt_app.1 h
  refine srt_app.2 ⟨a, List.pairwise_cons.2 ⟨h2, b⟩, fun x hx z hz => ?_⟩
  rcases List.mem_cons.1 hz with rfl | hz
  · exact h1 x hx
  · exact c x hx z hz
theorem getD_seg (P L : List Nat) (i k : Nat) (h : i = P.length + k) : (P ++ L).getD i 0 = L.getD k 0 := by
  subst h
  rw [List.getD_eq_getElem?_getD, List.getElem?_append_right (by omega), Nat.add_sub_cancel_left, ← List.getD_eq_getElem?_getD]
theorem getD_fst (L M : List Nat) (k : Nat) (h : k < L.length) : (L ++ M).getD k 0 = L.getD k 0 := by
  rw [List.getD_eq_getElem?_getD, List.getElem?_append_left h, ← List.getD_eq_getElem?_getD]
theorem take_last {B : List Nat} {k : Nat} (h0 : 0 < k) (h : k ≤ B.length) : B.take k = B.take (k - 1) ++ [B.getD (k - 1) 0] := by
  have e : B[k - 1]? = some (B.getD (k - 1) 0) := by rw [List.getD_eq_getElem?_getD, List.getElem?_eq_getElem (by omega)]; rfl
  conv => lhs; rw [show k = (k - 1) + 1 by omega, List.take_add_one, e]
  rfl
theorem drop_first {B : List Nat} {k : Nat} (h : k < B.length) : B.drop k = B.getD k 0 :: B.drop (k + 1) := by
  rw [List.drop_eq_getElem_cons h, List.getD_eq_getElem?_getD, List.getElem?_eq_getElem h]
  rfl
theorem getD_mem {B : List Nat} {k : Nat} (h : k < B.length) : B.getD k 0 ∈ B := by
  rw [List.getD_eq_getElem?_getD, List.getElem?_eq_getElem h]
  exact List.getElem_mem h
theorem srt_take {B : List Nat} (h : Srt key B) (k : Nat) : Srt key (B.take k) := List.Pairwise.sublist (List.take_sublist k B) h
theorem srt_drop {B : List Nat} (h : Srt key B) (k : Nat) : Srt key (B.drop k) := List.Pairwise.sublist (List.drop_sublist k B) h
theorem stb_take {A B : List Nat} (h : Stb key A B) (k l : Nat) : Stb key (A.take k) (B.take l) := fun x hx y hy => h x (List.mem_of_mem_take hx) y (List.mem_of_mem_take hy)
theorem stb_drop {A B : List Nat} (h : Stb key A B) (k l : Nat) : Stb key (A.drop k) (B.drop l) := fun x hx y hy => h x (List.mem_of_mem_drop hx) y (List.mem_of_mem_drop hy)
/-- all of the first k lie ahead of y, if the last of them does -/
theorem take_ahead {B : List Nat} {k y : Nat} (hB : Srt key B) (hk : k ≤ B.length) (h : k = 0 ∨ lx key (B.getD (k - 1) 0) y) : ∀ x ∈ B.take k, lx key x y := by
  rcases Nat.eq_zero_or_pos k with rfl | h0
  · intro x hx; simp at hx
  · rcases h with h | h
    · omega
    · have e := take_last h0 hk
      have s := srt_take hB k
      rw [e] at s ⊢
      exact ahead_of s h
/-- all behind the first k lie behind y, if the first of them does -/
theorem drop_behind {B : List Nat} {k y : Nat} (hB : Srt key B) (h : k = B.length ∨ lx key y (B.getD k 0)) : ∀ x ∈ B.drop k, lx key y x := by
  by_cases hk : k < B.length
  · rcases h with h | h
    · omega
    · have e := drop_first hk
      have s := srt_drop hB k
      rw [e] at s ⊢
      exact behind_of s h
  · intro x hx
    rw [List.drop_eq_nil_of_le (by omega)] at hx
    simp at hx
/-- one symbol goes into a sorted list behind it -/
theorem merge1 {B : List Nat} {x k : Nat} (hB : Srt key B) (hs : Stb key [x] B) (hk : k ≤ B.length) (h1 : k = 0 ∨ key (B.getD (k - 1) 0) < key x) (h2 : k = B.length ∨ ¬ key (B.getD k 0) < key x) : Srt key (B.take k ++ x :: B.drop k) := by
  refine ins_end (by rw [List.take_append_drop]; exact hB) (take_ahead hB hk (h1.imp id .inl)) (drop_behind hB ?_)
  by_cases hkl : k = B.length
  · exact .inl hkl
  · exact .inr (lx_of_stb (hs x (by simp) _ (getD_mem (by omega))) (h2.resolve_left hkl))
/-- one symbol goes into a sorted list ahead of it -/
theorem merge2 {A : List Nat} {y k : Nat} (hA : Srt key A) (hs : Stb key A [y]) (hk : k ≤ A.length) (h1 : k = 0 ∨ ¬ key y < key (A.getD (k - 1) 0)) (h2 : k = A.length ∨ key y < key (A.getD k 0)) : Srt key (A.take k ++ y :: A.drop k) := by
  refine ins_end (by rw [List.take_append_drop]; exact hA) (take_ahead hA hk ?_) (drop_behind hA (h2.imp id .inl))
  by_cases hk0 : k = 0
  · exact .inl hk0
  · exact .inr (lx_of_stb (hs _ (getD_mem (by omega)) y (by simp)) (h1.resolve_left hk0))
/-- two sorted lists, cut so that the first parts lie ahead of the second ones -/
theorem merge3 {A B : List Nat} {k l : Nat} (hA : Srt key A) (hB : Srt key B) (hs : Stb key A B) (hk : k ≤ A.length) (hl : l ≤ B.length)
    (h1 : k = 0 ∨ l = B.length ∨ ¬ key (B.getD l 0) < key (A.getD (k - 1) 0)) (h2 : k = A.length ∨ l = 0 ∨ key (B.getD (l - 1) 0) < key (A.getD k 0)) :
    ∀ x ∈ A.take k ++ B.take l, ∀ y ∈ A.drop k ++ B.drop l, lx key x y := by
  have hAA : Srt key (A.take k ++ A.drop k) := by rw [List.take_append_drop]; exact hA
  have hBB : Srt key (B.take l ++ B.drop l) := by rw [List.take_append_drop]; exact hB
  have ab : ∀ x ∈ A.take k, ∀ y ∈ B.drop l, lx key x y := by
    intro x hx y hy
    have hk0 : k ≠ 0 := by rintro rfl; simp at hx
    have hll : l < B.length := by
      rcases Nat.lt_or_ge l B.length with h | h
      · exact h
      · rw [List.drop_eq_nil_of_le h] at hy; simp at hy
    have h := (h1.resolve_left hk0).resolve_left (by omega)
    have h3 : lx key (A.getD (k - 1) 0) (B.getD l 0) := lx_of_stb (hs _ (getD_mem (by omega)) _ (getD_mem hll)) h
    have h4 := take_ahead hA hk (.inr h3) x hx
    exact drop_behind hB (k := l) (.inr h4) y hy
  have ba : ∀ x ∈ B.take l, ∀ y ∈ A.drop k, lx key x y := by
    intro x hx y hy
    have hl0 : l ≠ 0 := by rintro rfl; simp at hx
    have hkk : k < A.length := by
      rcases Nat.lt_or_ge k A.length with h | h
      · exact h
      · rw [List.drop_eq_nil_of_le h] at hy; simp at hy
    have h := (h2.resolve_left (by omega)).resolve_left hl0
    have h4 := take_ahead hB hl (.inr (.inl h)) x hx
    exact drop_behind hA (k := k) (.inr h4) y hy
  intro x hx y hy
  rcases List.mem_append.1 hx with hx | hx <;> rcases List.mem_append.1 hy with hy | hy
  · exact (srt_app.1 hAA).2.2 x hx y hy
  · exact ab x hx y hy
  · exact ba x hx y hy
  · exact (srt_app.1 hBB).2.2 x hx y hy
/-- of one key, who stands ahead is less, in all of a list -/
def Sta (key : Nat → Nat) (l : List Nat) : Prop := l.Pairwise fun x y => key x = key y → x < y
theorem sta_stb {A B : List Nat} (h : Sta key (A ++ B)) : Sta key A ∧ Sta key B ∧ Stb key A B := List.pairwise_append.1 h
theorem srt_sta {A : List Nat} (h : Srt key A) : Sta key A := List.Pairwise.imp (fun {x y} h e => by unfold lx at h; omega) h
/-- a piece is put into order -/
theorem sta_in {P X C S : List Nat} (h : Sta key (P ++ (X ++ S))) (hp : C.Perm X) (hC : Srt key C) : Sta key (P ++ (C ++ S)) := by
  obtain ⟨a, b, c⟩ := sta_stb h
  obtain ⟨d, e, f⟩ := sta_stb b
  refine List.pairwise_append.2 ⟨a, List.pairwise_append.2 ⟨srt_sta hC, e, fun x hx y hy => f x (hp.mem_iff.1 hx) y hy⟩, fun x hx y hy => ?_⟩
  rcases List.mem_append.1 hy with hy | hy
  · exact c x hx y (List.mem_append_left _ (hp.mem_iff.1 hy))
  · exact c x hx y (List.mem_append_right _ hy)
theorem perm_in {P X C S D : List Nat} (h : (P ++ (X ++ S)).Perm D) (hp : C.Perm X) : (P ++ (C ++ S)).Perm D := ((List.Perm.append_left P (hp.append_right S))).trans h
/-- blocks of so many, each in order -/
def Bks (key : Nat → Nat) (bs : Nat) (L : List (List Nat)) : Prop := ∀ C ∈ L, C.length = bs ∧ Srt key C
theorem Bks.snoc {bs : Nat} {L : List (List Nat)} {C : List Nat} (h : Bks key bs L) (h1 : C.length = bs) (h2 : Srt key C) : Bks key bs (L ++ [C]) := by
  intro X hX
  rcases List.mem_append.1 hX with hX | hX
  · exact h X hX
  · simp at hX; subst hX; exact ⟨h1, h2⟩
theorem flat_snoc (L : List (List Nat)) (C : List Nat) : (L ++ [C]).flatten = L.flatten ++ C := by simp
end
end Go.Proofs.YtgpkiijmembggaaGreatDoor.HuffM
namespace Go.Proofs.YtgpkiijmembggaaGreatDoor.HuffM

/-- the length of a symbol's code -/
def kl (L : List Int) (x : Nat) : Nat := (L.getD x 0).toNat
/-- of the first k symbols those that have codes -/
def syms (L : List Int) (k : Nat) : List Nat := (List.range k).filter fun s => decide (0 < L.getD s 0)
theorem syms_succ (L : List Int) (k : Nat) : syms L (k + 1) = if 0 < L.getD k 0 then syms L k ++ [k] else syms L k := by
  unfold syms
  rw [List.range_succ, List.filter_append]
  by_cases h : 0 < L.getD k 0
  · rw [if_pos h]; simp only [List.filter_cons, List.filter_nil]; rw [if_pos (by simpa using h)]
  · rw [if_neg h]; simp only [List.filter_cons, List.filter_nil]; rw [if_neg (by simpa using h), List.append_nil]
theorem syms_mem {L : List Int} {k s : Nat} : s ∈ syms L k ↔ s < k ∧ 0 < L.getD s 0 := by simp [syms]
theorem syms_le (L : List Int) (k : Nat) : (syms L k).length ≤ k := by
  have := List.length_filter_le (fun s => decide (0 < L.getD s 0)) (List.range k)
  rwa [List.length_range] at this
theorem syms_sta (key : Nat → Nat) (L : List Int) (k : Nat) : Sta key (syms L k) := by
  unfold syms Sta
  exact ((List.pairwise_lt_range (n := k)).filter _).imp (R := fun x y => x < y) (S := fun x y => key x = key y → x < y) (fun h _ => h)
/-- the symbols whose codes have k bits -/
def blk (L : List Int) (k n : Nat) : List Nat := (List.range n).filter fun s => decide (L.getD s 0 = (k : Int))
def cod (L : List Int) : Nat → List Nat
  | 0 => []
  | k + 1 => cod L k ++ blk L (k + 1) L.length
/-- all of them, by rising codes -/
def codedL (L : List Int) : List Nat := cod L 15
theorem blk_mem {L : List Int} {k n s : Nat} : s ∈ blk L k n ↔ s < n ∧ L.getD s 0 = (k : Int) := by simp [blk]
theorem cod_mem {L : List Int} {k s : Nat} : s ∈ cod L k ↔ s < L.length ∧ 0 < L.getD s 0 ∧ L.getD s 0 ≤ (k : Int) := by
  induction k with
  | zero =>
    constructor
    · intro h; simp [cod] at h
    · rintro ⟨_, h1, h2⟩; omega
  | succ k ih =>
    rw [cod, List.mem_append, ih, blk_mem]
    constructor
    · rintro (⟨h1, h2, h3⟩ | ⟨h1, h2⟩)
      · exact ⟨h1, h2, by omega⟩
      · exact ⟨h1, by omega, by omega⟩
    · rintro ⟨h1, h2, h3⟩
      by_cases h : L.getD s 0 = ((k + 1 : Nat) : Int)
      · exact .inr ⟨h1, h⟩
      · exact .inl ⟨h1, h2, by omega⟩
theorem cod_srt (L : List Int) (k : Nat) : Srt (kl L) (cod L k) := by
  induction k with
  | zero => exact List.Pairwise.nil
  | succ k ih =>
    refine srt_app.2 ⟨ih, ?_, ?_⟩
    · unfold blk Srt
      refine List.Pairwise.imp_of_mem ?_ ((List.pairwise_lt_range (n := L.length)).filter _)
      intro x y hx hy h
      have h1 := (blk_mem (k := k + 1)).1 hx
      have h2 := (blk_mem (k := k + 1)).1 hy
      right
      unfold kl
      rw [h1.2, h2.2]
      exact ⟨rfl, h⟩
    · intro x hx y hy
      have h1 := cod_mem.1 hx
      have h2 := blk_mem.1 hy
      left
      unfold kl
      rw [h2.2]
      omega
theorem srt_mem_eq {key : Nat → Nat} {A B : List Nat} (hA : Srt key A) (hB : Srt key B) (hm : ∀ x, x ∈ A ↔ x ∈ B) : A = B := by
  induction A generalizing B with
  | nil =>
    cases B with
    | nil => rfl
    | cons y B => have := (hm y).2 (List.mem_cons_self ..); simp at this
  | cons x A ih =>
    cases B with
    | nil => have := (hm x).1 (List.mem_cons_self ..); simp at this
    | cons y B =>
      have hA' := List.pairwise_cons.1 hA
      have hB' := List.pairwise_cons.1 hB
      have e : x = y := by
        rcases List.mem_cons.1 ((hm x).1 (List.mem_cons_self ..)) with h | h
        · exact h
        · rcases List.mem_cons.1 ((hm y).2 (List.mem_cons_self ..)) with h' | h'
          · exact h'.symm
          · exact (lx_asymm (hB'.1 x h) (hA'.1 y h')).elim
      subst e
      have irr : ∀ z, ¬ lx key z z := fun z h => lx_asymm h h
      rw [ih hA'.2 hB'.2 fun z => ?_]
      constructor
      · intro h
        rcases List.mem_cons.1 ((hm z).1 (List.mem_cons_of_mem _ h)) with h' | h'
        · subst h'; exact (irr _ (hA'.1 z h)).elim
        · exact h'
      · intro h
        rcases List.mem_cons.1 ((hm z).2 (List.mem_cons_of_mem _ h)) with h' | h'
        · subst h'; exact (irr _ (hB'.1 z h)).elim
        · exact h'
/-- what a sort by lengths makes of the symbols that have codes -/
theorem coded_eq {L : List Int} (hL : ∀ x ∈ L, inR x = true) {C : List Nat} (hp : C.Perm (syms L L.length)) (hs : Srt (kl L) C) : C = codedL L := by
  refine srt_mem_eq hs (cod_srt L 15) fun x => ?_
  rw [hp.mem_iff, syms_mem, show codedL L = cod L 15 from rfl, cod_mem]
  constructor
  · rintro ⟨h1, h2⟩
    have h := hL _ (List.getElem_mem h1)
    have h0 : 0 ≤ L[x] ∧ L[x] ≤ 15 := by simpa [inR] using h
    have e : L.getD x 0 = L[x] := by rw [List.getD_eq_getElem?_getD, List.getElem?_eq_getElem h1]; rfl
    exact ⟨h1, h2, by rw [e]; exact h0.2⟩
  · rintro ⟨h1, h2, _⟩
    exact ⟨h1, h2⟩
theorem right_in {L : List Int} (h : rightB L = true) : ∀ x ∈ L, inR x = true := by
  unfold rightB at h
  rw [Bool.and_eq_true] at h
  exact List.all_eq_true.1 h.1
theorem right_some {L : List Int} (h : rightB L = true) : 0 < (syms L L.length).length := by
  rcases Nat.eq_zero_or_pos (syms L L.length).length with h0 | h0
  · exfalso
    have hno : ∀ x ∈ L, ¬ 0 < x := by
      intro x hx hp
      obtain ⟨i, hi, rfl⟩ := List.getElem_of_mem hx
      have : i ∈ syms L L.length := syms_mem.2 ⟨hi, by rw [List.getD_eq_getElem?_getD, List.getElem?_eq_getElem hi]; exact hp⟩
      rw [List.eq_nil_of_length_eq_zero h0] at this
      simp at this
    have hm : many L = 0 := by
      unfold many
      rw [List.countP_eq_zero]
      intro x hx
      simpa using hno x hx
    have hs : rsum L = 0 := by
      clear h h0 hm
      induction L with
      | nil => rfl
      | cons x L ih =>
        show kr x + rsum L = 0
        rw [ih (fun y hy => hno y (List.mem_cons_of_mem _ hy)), kr, if_neg (hno x (List.mem_cons_self ..))]
    unfold rightB at h
    rw [hs, hm] at h
    simp at h
  · exact h0
/-- one more code -/
def cst (L : List Int) (c : CS) (s : Nat) : CS := ⟨nextCode (kl L s) c, kl L s, c.out.set s (nextCode (kl L s) c)⟩
theorem crow_blk (L : List Int) (k n : Nat) (c : CS) : crow L k c n = (blk L k n).foldl (cst L) c := by
  induction n with
  | zero => rfl
  | succ n ih =>
    rw [crow, ih, cstep]
    unfold blk
    rw [List.range_succ, List.filter_append, List.foldl_append]
    by_cases h : L.getD n 0 = (k : Int)
    · rw [if_pos h]
      simp only [List.filter_cons, List.filter_nil]
      rw [if_pos (by simpa using h)]
      have e : kl L n = k := by unfold kl; rw [h]; rfl
      show _ = cst L _ n
      unfold cst
      rw [e]
    · rw [if_neg h]
      simp only [List.filter_cons, List.filter_nil]
      rw [if_neg (by simpa using h)]
      rfl
theorem call_cod (L : List Int) (k : Nat) : call L k = (cod L k).foldl (cst L) ⟨0, 0, List.replicate L.length 0⟩ := by
  induction k with
  | zero => rfl
  | succ k ih => rw [call, crow_blk, ih, cod, List.foldl_append]
/-- the state behind the first k of them -/
def cs (L : List Int) (k : Nat) : CS := ((codedL L).take k).foldl (cst L) ⟨0, 0, List.replicate L.length 0⟩
theorem cs_succ {L : List Int} {k s : Nat} (h : (codedL L)[k]? = some s) : cs L (k + 1) = cst L (cs L k) s := by
  unfold cs
  rw [take_snoc h, List.foldl_append]
  rfl
theorem cs_end (L : List Int) : (cs L (codedL L).length).out = codesL L := by
  unfold cs codesL
  rw [List.take_length, call_cod]
  rfl
end Go.Proofs.YtgpkiijmembggaaGreatDoor.HuffM
namespace Go.Proofs.YtgpkiijmembggaaGreatDoor.HuffM

/-- the first number of k bits behind all codes of k bits -/
def fe (L : List Int) : Nat → Nat
  | 0 => 0
  | k + 1 => 2 * fe L k + (blk L (k + 1) L.length).length
theorem cod_len_succ (L : List Int) (k : Nat) : (cod L (k + 1)).length = (cod L k).length + (blk L (k + 1) L.length).length := by rw [cod, List.length_append]
theorem fe_le (L : List Int) (k : Nat) : fe L k ≤ (cod L k).length * 2 ^ k := by
  induction k with
  | zero => simp [fe]
  | succ k ih =>
    rw [fe, cod_len_succ, Nat.pow_succ, Nat.add_mul]
    have h1 : (cod L k).length * (2 ^ k * 2) = 2 * ((cod L k).length * 2 ^ k) := by rw [← Nat.mul_assoc, Nat.mul_comm]
    have h2 : (blk L (k + 1) L.length).length * 1 ≤ (blk L (k + 1) L.length).length * (2 ^ k * 2) := Nat.mul_le_mul_left _ (by have := Nat.one_le_two_pow (n := k); omega)
    omega
theorem cod_pre (L : List Int) (k d : Nat) : ∃ R, cod L (k + d) = cod L k ++ R := by
  induction d with
  | zero => exact ⟨[], by simp⟩
  | succ d ih =>
    obtain ⟨R, h⟩ := ih
    exact ⟨R ++ blk L (k + d + 1) L.length, by rw [← Nat.add_assoc, cod, h, List.append_assoc]⟩
theorem cod_len_le (L : List Int) {k : Nat} (hk : k ≤ 15) : (cod L k).length ≤ (codedL L).length := by
  obtain ⟨R, h⟩ := cod_pre L k (15 - k)
  rw [show k + (15 - k) = 15 by omega] at h
  unfold codedL
  rw [h, List.length_append]
  omega
theorem coded_at {L : List Int} {k a x : Nat} (hk : k < 15) (h : (blk L (k + 1) L.length)[a]? = some x) : (codedL L)[(cod L k).length + a]? = some x := by
  obtain ⟨R, e⟩ := cod_pre L (k + 1) (15 - (k + 1))
  rw [show k + 1 + (15 - (k + 1)) = 15 by omega] at e
  unfold codedL
  rw [e, cod, List.append_assoc, List.getElem?_append_right (by omega), Nat.add_sub_cancel_left, List.getElem?_append_left (List.getElem?_eq_some_iff.1 h).1]
  exact h
theorem blk_cnt (L : List Int) (j k n : Nat) : (blk L k n).countP (fun s => decide (kl L s = j)) = if j = k then (blk L k n).length else 0 := by
  have hk : ∀ s ∈ blk L k n, kl L s = k := by
    intro s hs
    unfold kl
    rw [(blk_mem.1 hs).2]
    rfl
  by_cases e : j = k
  · rw [if_pos e, List.countP_eq_length]
    intro s hs
    simp [hk s hs, e]
  · rw [if_neg e, List.countP_eq_zero]
    intro s hs
    simp [hk s hs]
    omega
theorem cod_cnt (L : List Int) (j k : Nat) (hj : 0 < j) : (cod L k).countP (fun s => decide (kl L s = j)) = if j ≤ k then (blk L j L.length).length else 0 := by
  induction k with
  | zero => rw [if_neg (by omega)]; rfl
  | succ k ih =>
    rw [cod, List.countP_append, ih, blk_cnt]
    by_cases h1 : j ≤ k
    · rw [if_pos h1, if_neg (by omega), if_pos (by omega), Nat.add_zero]
    · rw [if_neg h1]
      by_cases h2 : j = k + 1
      · subst h2; rw [if_pos rfl, if_pos (Nat.le_refl _), Nat.zero_add]
      · rw [if_neg h2, if_neg (by omega)]

structure Ok (L : List Int) (k : Nat) (c : CS) : Prop where
  zero : c.last = 0 → fe L k = 0 ∧ c.code = 0
  pos : 0 < c.last → c.last ≤ k ∧ (c.code + 1) * 2 ^ (k - c.last) = fe L k
  len : c.out.length = L.length
  outs : ∀ j, j < k → ∀ a x, (blk L (j + 1) L.length)[a]? = some x → c.out[x]? = some (2 * fe L j + a)
structure Mid (L : List Int) (k i : Nat) (c0 c : CS) : Prop where
  zero : i = 0 → c = c0
  pos : 0 < i → c.last = k + 1 ∧ c.code + 1 = 2 * fe L k + i
  len : c.out.length = L.length
  outs : ∀ j, j < k → ∀ a x, (blk L (j + 1) L.length)[a]? = some x → c.out[x]? = some (2 * fe L j + a)
  news : ∀ a x, a < i → (blk L (k + 1) L.length)[a]? = some x → c.out[x]? = some (2 * fe L k + a)
theorem blk_inj {L : List Int} {k n a b x : Nat} (h1 : (blk L k n)[a]? = some x) (h2 : (blk L k n)[b]? = some x) : a = b := by
  have hp : (blk L k n).Pairwise (· < ·) := (List.pairwise_lt_range (n := n)).filter _
  obtain ⟨ha, ea⟩ := List.getElem?_eq_some_iff.1 h1
  obtain ⟨hb, eb⟩ := List.getElem?_eq_some_iff.1 h2
  have hp' := List.pairwise_iff_getElem.1 hp
  rcases Nat.lt_trichotomy a b with h | h | h
  · have := hp' a b ha hb h; omega
  · exact h
  · have := hp' b a hb ha h; omega
theorem mid_all {L : List Int} {k : Nat} {c0 : CS} (h0 : Ok L k c0) (hb : fe L (k + 1) < 9223372036854775808) (i : Nat) (hi : i ≤ (blk L (k + 1) L.length).length) : Mid L k i c0 (((blk L (k + 1) L.length).take i).foldl (cst L) c0) := by
  induction i with
  | zero => exact ⟨fun _ => rfl, fun h => by omega, h0.len, h0.outs, fun a x h => by omega⟩
  | succ i ih =>
    have M := ih (by omega)
    obtain ⟨s, hs⟩ : ∃ s, (blk L (k + 1) L.length)[i]? = some s := ⟨_, List.getElem?_eq_getElem (by omega)⟩
    have hm := blk_mem.1 (List.mem_of_getElem? hs)
    have hkl : kl L s = k + 1 := by unfold kl; rw [hm.2]; rfl
    rw [take_snoc hs, List.foldl_append]
    obtain ⟨c, hc⟩ : ∃ c, c = ((blk L (k + 1) L.length).take i).foldl (cst L) c0 := ⟨_, rfl⟩
    rw [← hc] at M ⊢
    have hfe : fe L (k + 1) = 2 * fe L k + (blk L (k + 1) L.length).length := rfl
    have hnext : nextCode (k + 1) c = 2 * fe L k + i := by
      unfold nextCode
      rcases Nat.eq_zero_or_pos i with e | e
      · have hc0 := M.zero e
        rw [hc0]
        by_cases hl : 0 < c0.last
        · rw [if_pos hl]
          obtain ⟨h1, h2⟩ := h0.pos hl
          have hx : c0.code + 1 ≤ fe L k := by
            rw [← h2]
            exact Nat.le_mul_of_pos_right _ (Nat.two_pow_pos _)
          have m1 : (c0.code + 1) % 18446744073709551616 = c0.code + 1 := Nat.mod_eq_of_lt (by omega)
          rw [m1, show k + 1 - c0.last = (k - c0.last) + 1 by omega, Nat.pow_succ, ← Nat.mul_assoc, h2, Nat.mod_eq_of_lt (by omega)]
          omega
        · rw [if_neg hl]
          obtain ⟨h1, h2⟩ := h0.zero (by omega)
          omega
      · obtain ⟨h1, h2⟩ := M.pos e
        rw [h1, if_pos (by omega), h2, Nat.sub_self, Nat.pow_zero, Nat.mul_one, Nat.mod_eq_of_lt (by omega), Nat.mod_eq_of_lt (by omega)]
    show Mid L k (i + 1) c0 (cst L c s)
    unfold cst
    rw [hkl, hnext]
    refine ⟨fun h => by omega, fun _ => ⟨rfl, by show 2 * fe L k + i + 1 = _; omega⟩, by show (List.set _ _ _).length = _; rw [List.length_set]; exact M.len, ?_, ?_⟩
    · intro j hj a x hx
      have hne : s ≠ x := by
        rintro rfl
        have := (blk_mem.1 (List.mem_of_getElem? hx)).2
        omega
      show (List.set _ _ _)[x]? = _
      rw [List.getElem?_set_ne hne]
      exact M.outs j hj a x hx
    · intro a x ha hx
      show (List.set _ _ _)[x]? = _
      by_cases hax : a = i
      · subst hax
        rw [hs] at hx
        injection hx with hx
        subst hx
        rw [List.getElem?_set_self (by rw [M.len]; exact hm.1)]
      · have hne : s ≠ x := by
          rintro rfl
          exact hax (blk_inj hx hs)
        rw [List.getElem?_set_ne hne]
        exact M.news a x (by omega) hx
theorem ok_call {L : List Int} (hl : (codedL L).length ≤ 1000) (k : Nat) (hk : k ≤ 15) : Ok L k (call L k) := by
  induction k with
  | zero => exact ⟨fun _ => ⟨rfl, rfl⟩, fun h => by have : (0 : Nat) < 0 := h; omega, by show (List.replicate _ _).length = _; simp, fun j hj => by omega⟩
  | succ k ih =>
    have h0 := ih (by omega)
    have hb : fe L (k + 1) < 9223372036854775808 := by
      have h1 := fe_le L (k + 1)
      have h2 := cod_len_le L hk
      have h3 := Nat.pow_le_pow_right (show 0 < 2 by omega) hk
      have h4 : (cod L (k + 1)).length * 2 ^ (k + 1) ≤ 1000 * 2 ^ 15 := Nat.mul_le_mul (by omega) h3
      omega
    have M := mid_all h0 hb (blk L (k + 1) L.length).length (Nat.le_refl _)
    rw [List.take_length, ← crow_blk] at M
    show Ok L (k + 1) (crow L (k + 1) (call L k) L.length)
    have hfe : fe L (k + 1) = 2 * fe L k + (blk L (k + 1) L.length).length := rfl
    rcases Nat.eq_zero_or_pos (blk L (k + 1) L.length).length with e | e
    · have hc := M.zero e
      rw [hc] at M ⊢
      refine ⟨fun h => ?_, fun h => ?_, h0.len, fun j hj a x hx => ?_⟩
      · have := h0.zero h
        exact ⟨by omega, this.2⟩
      · obtain ⟨h1, h2⟩ := h0.pos h
        refine ⟨by omega, ?_⟩
        rw [show k + 1 - (call L k).last = (k - (call L k).last) + 1 by omega, Nat.pow_succ, ← Nat.mul_assoc, h2]
        omega
      · by_cases hjk : j < k
        · exact h0.outs j hjk a x hx
        · obtain rfl : j = k := by omega
          rw [List.eq_nil_of_length_eq_zero e] at hx
          simp at hx
    · obtain ⟨h1, h2⟩ := M.pos e
      refine ⟨fun h => by omega, fun _ => ⟨by omega, ?_⟩, M.len, fun j hj a x hx => ?_⟩
      · rw [h1, Nat.sub_self, Nat.pow_zero, Nat.mul_one]
        omega
      · by_cases hjk : j < k
        · exact M.outs j hjk a x hx
        · obtain rfl : j = k := by omega
          exact M.news a x (List.getElem?_eq_some_iff.1 hx).1 hx
theorem code_at {L : List Int} (hl : (codedL L).length ≤ 1000) {j a x : Nat} (hj : j < 15) (h : (blk L (j + 1) L.length)[a]? = some x) : (codesL L).getD x 0 = 2 * fe L j + a := by
  have := (ok_call hl 15 (Nat.le_refl _)).outs j hj a x h
  unfold codesL
  rw [List.getD_eq_getElem?_getD, this]
  rfl
theorem hit_at {L : List Int} {B : List UInt8} {s : Nat} (hl : (codedL L).length ≤ 1000) (hL : ∀ x ∈ L, inR x = true) (hs : s < L.length) (h : hits L B s = true) :
    ∃ j a, j < 15 ∧ (blk L (j + 1) L.length)[a]? = some s ∧ j + 1 ≤ B.length ∧ bcode B (j + 1) = 2 * fe L j + a ∧ L.getD s 0 = ((j + 1 : Nat) : Int) := by
  have hin := hL _ (List.getElem_mem hs)
  have h0 : 0 ≤ L[s] ∧ L[s] ≤ 15 := by simpa [inR] using hin
  have e : L.getD s 0 = L[s] := by rw [List.getD_eq_getElem?_getD, List.getElem?_eq_getElem hs]; rfl
  unfold hits at h
  simp only [Bool.and_eq_true, bne_iff_ne, decide_eq_true_eq, beq_iff_eq] at h
  obtain ⟨⟨h1, h2⟩, h3⟩ := h
  obtain ⟨j, hj⟩ : ∃ j : Nat, L.getD s 0 = ((j + 1 : Nat) : Int) := ⟨(L.getD s 0).toNat - 1, by rw [e] at h1 ⊢; omega⟩
  have hb : s ∈ blk L (j + 1) L.length := blk_mem.2 ⟨hs, hj⟩
  obtain ⟨a, ha, ea⟩ := List.getElem_of_mem hb
  have hx : (blk L (j + 1) L.length)[a]? = some s := by rw [List.getElem?_eq_getElem ha, ea]
  have hj15 : j < 15 := by rw [e] at hj; omega
  refine ⟨j, a, hj15, hx, by rw [hj] at h2; omega, ?_, hj⟩
  rw [hj, code_at hl hj15 hx] at h3
  exact h3
theorem hit_of {L : List Int} {B : List UInt8} {s j a : Nat} (hl : (codedL L).length ≤ 1000) (hj : j < 15) (hx : (blk L (j + 1) L.length)[a]? = some s) (hb : j + 1 ≤ B.length) (hv : bcode B (j + 1) = 2 * fe L j + a) : hits L B s = true := by
  have hm := blk_mem.1 (List.mem_of_getElem? hx)
  unfold hits
  simp only [Bool.and_eq_true, bne_iff_ne, decide_eq_true_eq, beq_iff_eq]
  rw [hm.2, code_at hl hj hx]
  exact ⟨⟨by omega, by omega⟩, hv⟩
/-- codes of at most k bits are behind -/
theorem hit_far {L : List Int} {B : List UInt8} {j a k : Nat} (hk : ∀ i, i ≤ k → fe L i ≤ bcode B i) (ha : a < (blk L (j + 1) L.length).length) (hv : bcode B (j + 1) = 2 * fe L j + a) : k < j + 1 := by
  rcases Nat.lt_or_ge k (j + 1) with h | h
  · exact h
  · have h1 := hk (j + 1) h
    have h2 : fe L (j + 1) = 2 * fe L j + (blk L (j + 1) L.length).length := rfl
    omega
theorem below {L : List Int} {B : List UInt8} (hB : ∀ b ∈ B, b.toNat ≤ 1) {k : Nat} (h : bcode B k < fe L k) (d : Nat) (hd : k + d ≤ B.length) : bcode B (k + d) < fe L (k + d) := by
  induction d with
  | zero => exact h
  | succ d ih =>
    have h1 := ih (by omega)
    have hb : B[k + d]? = some B[k + d] := List.getElem?_eq_getElem (by omega)
    have h2 := hB _ (List.mem_of_getElem? hb)
    have h3 : fe L (k + d + 1) = 2 * fe L (k + d) + (blk L (k + d + 1) L.length).length := rfl
    rw [← Nat.add_assoc, bcode_succ hb, h3]
    omega
theorem found {L : List Int} {B : List UInt8} {K a s : Nat} (hl : (codedL L).length ≤ 1000) (hL : ∀ x ∈ L, inR x = true) (hB : ∀ b ∈ B, b.toNat ≤ 1) (hk : ∀ i, i ≤ K → fe L i ≤ bcode B i) (hK : K < 15) (hKB : K + 1 ≤ B.length)
    (hv : bcode B (K + 1) = 2 * fe L K + a) (hx : (blk L (K + 1) L.length)[a]? = some s) : nextS L B = ((s : Int), ((K + 1 : Nat) : Int)) := by
  have hit := hit_of hl hK hx hKB hv
  have hm := blk_mem.1 (List.mem_of_getElem? hx)
  have ha := (List.getElem?_eq_some_iff.1 hx).1
  have hlt : bcode B (K + 1) < fe L (K + 1) := by
    have : fe L (K + 1) = 2 * fe L K + (blk L (K + 1) L.length).length := rfl
    omega
  have huniq : ∀ s', s' < L.length → hits L B s' = true → s' = s := by
    intro s' hs' h'
    obtain ⟨j, a', hj, hx', hjb, hv', _⟩ := hit_at hl hL hs' h'
    have ha' := (List.getElem?_eq_some_iff.1 hx').1
    have h1 := hit_far hk ha' hv'
    by_cases e : j = K
    · subst e
      obtain rfl : a' = a := by omega
      rw [hx] at hx'
      injection hx' with hx'
      exact hx'.symm
    · exfalso
      have hb := below hB hlt (j - (K + 1)) (by omega)
      rw [show K + 1 + (j - (K + 1)) = j by omega] at hb
      have hbb : B[j]? = some B[j] := List.getElem?_eq_getElem (by omega)
      have h2 := hB _ (List.mem_of_getElem? hbb)
      rw [bcode_succ hbb] at hv'
      omega
  have hf : firstHit L B L.length = some s := by
    unfold firstHit
    cases hc : (List.range L.length).find? (hits L B) with
    | none =>
      have := List.find?_eq_none.1 hc s (List.mem_range.2 hm.1)
      exact absurd hit this
    | some s' =>
      rw [huniq s' (List.mem_range.1 (List.mem_of_find?_eq_some hc)) (List.find?_some hc)]
  unfold nextS
  rw [hf]
  simp only [hm.2]
theorem lost {L : List Int} {B : List UInt8} {K : Nat} (hl : (codedL L).length ≤ 1000) (hL : ∀ x ∈ L, inR x = true) (hk : ∀ i, i ≤ K → fe L i ≤ bcode B i) (hK : K = 15 ∨ B.length ≤ K) : nextS L B = (-1, 0) := by
  have hf : firstHit L B L.length = none := by
    unfold firstHit
    rw [List.find?_eq_none]
    intro s hs h
    obtain ⟨j, a, hj, hx, hjb, hv, _⟩ := hit_at hl hL (List.mem_range.1 hs) h
    have := hit_far hk (List.getElem?_eq_some_iff.1 hx).1 hv
    omega
  unfold nextS
  rw [hf]
end Go.Proofs.YtgpkiijmembggaaGreatDoor.HuffM
namespace Go.Proofs.YtgpkiijmembggaaGreatDoor
open HuffM BitsM

/-- bits as the reference has them -/
def bb (bs : List Bool) : List UInt8 := bs.map fun b => UInt8.ofNat b.toNat
theorem bb_len (bs : List Bool) : (bb bs).length = bs.length := by simp [bb]
theorem bb_at {bs : List Bool} {k : Nat} {b : Bool} (h : bs[k]? = some b) : (bb bs)[k]? = some (UInt8.ofNat b.toNat) := by
  unfold bb
  rw [List.getElem?_map, h]
  rfl
theorem bb_one (bs : List Bool) : ∀ b ∈ bb bs, b.toNat ≤ 1 := by
  intro b hb
  obtain ⟨x, _, rfl⟩ := List.mem_map.1 hb
  cases x <;> decide
theorem bcode_bit {bs : List Bool} {k : Nat} {b : Bool} (h : bs[k]? = some b) : bcode (bb bs) (k + 1) = 2 * bcode (bb bs) k + b.toNat := by
  rw [bcode_succ (bb_at h)]
  congr 1
  cases b <;> decide
theorem num_one (b : Bool) : num [b] = b.toNat := by cases b <;> rfl

end Go.Proofs.YtgpkiijmembggaaGreatDoor
