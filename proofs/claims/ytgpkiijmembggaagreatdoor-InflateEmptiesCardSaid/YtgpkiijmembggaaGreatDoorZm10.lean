/-
  Layer 10, plain: symbols and what follows them are read as they were put; codes of lengths without 0s at the end are the same.
  Layer 10, plain: codes of lengths without 0s at the end are the same.
  Layer 9, plain: the lengths by weights are right ones, of distances where there is a match; what is agreed upon is.
  Layer 9, plain: a stored block's bits are its bytes; the first bits of a block.
-/
import Derived.Test.YtgpkiijmembggaaGreatDoorZm09
import Derived.Test.YtgpkiijmembggaaGreatDoorZm03
import Derived.Test.YtgpkiijmembggaaGreatDoorZm04
import Derived.Test.YtgpkiijmembggaaGreatDoorZm02
namespace Go.Proofs.YtgpkiijmembggaaGreatDoor.InM
set_option linter.unusedVariables false
open BitsM CoM HuffM LzM DeM

/-- a symbol is read -/
theorem sym_back {a : List Nat} (hr : rightB (ints a) = true) (hl : a.length ≤ 1000) {s : Nat} (hs : s < a.length) (h0 : 0 < a[s]!) (h15 : a[s]! ≤ 15) (R : List Bool) :
    symR (ints a) (codeBits (codesL (ints a)) a s ++ R) = .ok (s, R) := by
  have h := read_code (L := ints a) (by
    have := cod_le (ints a) 15
    rw [ints_len] at this
    show (cod _ 15).length ≤ 1000
    omega) hr (s := s) (k := a[s]!) (by rw [ints_len]; exact hs) (by rw [ints_getD, getD_bang]) h0 R
  unfold symR codeBits
  rw [Nat.min_eq_left (by omega), getD_bang (codesL (ints a))]
  simp only [h]
  rw [if_neg (by omega), List.drop_left' (by rw [List.length_reverse, low_length]; rfl)]
  rfl
theorem num_back (x n : Nat) (R : List Bool) (hx : x < 2 ^ n) : numR n (low x n ++ R) = .ok (x, R) := by
  obtain ⟨h1, h2, h3⟩ := take_low x n R hx
  unfold numR
  rw [if_neg (by omega), h1, h2]
/-- lengths that tokens may be put by -/
structure Puts (a b : List Nat) (T : List Tok) : Prop where
  ra : rightB (ints a) = true
  rb : rightB (ints b) = true ∨ ∀ t ∈ T, t.l = 0
  la : 257 ≤ a.length ∧ a.length ≤ 1000
  lb : b.length ≤ 1000
  a15 : ∀ x ∈ a, x ≤ 15
  b15 : ∀ x ∈ b, x ≤ 15
  e : 0 < a[256]!
  l : ∀ t ∈ T, t.l = 0 → 0 < a[t.b.toNat]!
  m : ∀ t ∈ T, t.l ≠ 0 → 257 + SyM.lenS t.l < a.length ∧ 0 < a[257 + SyM.lenS t.l]! ∧ SyM.distS t.d < b.length ∧ 0 < b[SyM.distS t.d]!
theorem at_le {a : List Nat} (h : ∀ x ∈ a, x ≤ 15) (s : Nat) : a[s]! ≤ 15 := by
  by_cases hs : s < a.length
  · rw [getElem!_pos a s hs]; exact h _ (List.getElem_mem _)
  · rw [getElem!_neg a s hs]; exact Nat.zero_le _
/-- a token is read -/
theorem tok_back {a b : List Nat} {T : List Tok} (P : Puts a b T) {t : Tok} (ht : t ∈ T) (hf : rightT t 32768 = true) (R : List Bool) :
    tokR a b (tokBits (codesL (ints a)) a (codesL (ints b)) b t ++ R) = .ok (some t, R) := by
  rcases right_cases (n := 32768) hf with ⟨bt, rfl⟩ | ⟨L, D, rfl, hL1, hL2, hD1, hD2, _⟩
  · have hb := bt.toNat_lt
    have h := sym_back P.ra P.la.2 (s := bt.toNat) (by have := P.la.1; omega) (P.l _ ht rfl) (at_le P.a15 _) R
    unfold tokR tokBits
    rw [if_pos rfl]
    simp only [h]
    rw [if_neg (by omega), if_pos (by omega)]
    unfold lit
    rw [UInt8.ofNat_toNat]
  · have hl0 : ¬ (L : Int) = 0 := by omega
    obtain ⟨m1, m2, m3, m4⟩ := P.m _ ht hl0
    simp only at m1 m2 m3 m4
    have hs29 := SyM.lenS_lt (L : Int)
    have hd30 := SyM.distS_lt (D : Int)
    obtain ⟨x1, x2⟩ := SyM.lenX_is (L : Int)
    obtain ⟨y1, y2⟩ := SyM.distX_is (D : Int)
    rw [SyM.clampI_id _ _ _ (by omega) (by omega)] at x1 y1
    have hrb : rightB (ints b) = true := by
      rcases P.rb with h | h
      · exact h
      · exact absurd (h _ ht) hl0
    have hnb : noneB b = false := by
      unfold noneB
      rw [List.all_eq_false]
      refine ⟨b[SyM.distS (D : Int)]!, ?_, fun h => by have := eq_of_beq h; omega⟩
      rw [getElem!_pos b _ m3]
      exact List.getElem_mem _
    have k1 := sym_back P.ra P.la.2 m1 m2 (at_le P.a15 _) (low (SyM.lenX L) (SyM.wid SyM.lens (SyM.lenS L)) ++ (codeBits (codesL (ints b)) b (SyM.distS D) ++ (low (SyM.distX D) (SyM.wid SyM.dists (SyM.distS D)) ++ R)))
    have k2 := num_back (SyM.lenX L) (SyM.wid SyM.lens (SyM.lenS L)) (codeBits (codesL (ints b)) b (SyM.distS D) ++ (low (SyM.distX D) (SyM.wid SyM.dists (SyM.distS D)) ++ R)) x2
    have k3 := sym_back hrb P.lb m3 m4 (at_le P.b15 _) (low (SyM.distX D) (SyM.wid SyM.dists (SyM.distS D)) ++ R)
    have k4 := num_back (SyM.distX D) (SyM.wid SyM.dists (SyM.distS D)) R y2
    unfold tokR tokBits
    simp only
    rw [if_neg hl0]
    simp only [List.append_assoc, k1]
    rw [if_neg (by omega), if_neg (by omega), if_neg (by omega)]
    unfold matchR
    rw [show 257 + SyM.lenS (L : Int) - 257 = SyM.lenS (L : Int) by omega]
    simp only [k2]
    rw [if_neg (by rw [hnb]; decide)]
    simp only [k3]
    unfold distR
    rw [if_neg (by omega)]
    simp only [k4]
    unfold mat
    congr 4
    all_goals omega
/-- tokens are read, and what they tell is added -/
theorem toks_back {a b : List Nat} {S : List Tok} (P : Puts a b S) (most : Int) (R : List Bool) : ∀ (T : List Tok) (f : Nat) (out : List UInt8), T.length < f → (∀ t ∈ T, t ∈ S ∧ rightT t 32768 = true) →
    toksR a b most f out (T.flatMap (tokBits (codesL (ints a)) a (codesL (ints b)) b) ++ codeBits (codesL (ints a)) a 256 ++ R) = match openT most out T with
      | .error e => .error e
      | .ok B => .ok (B, R)
  | [], f + 1, out, _, _ => by
    have h := sym_back P.ra P.la.2 (s := 256) (by have := P.la.1; omega) P.e (at_le P.a15 _) R
    unfold toksR tokR
    rw [List.flatMap_nil, List.nil_append]
    simp only [h, ↓reduceIte]
    rfl
  | t :: T, f + 1, out, hf, hm => by
    have ht := hm t (List.mem_cons_self ..)
    have h := tok_back P ht.1 ht.2 (T.flatMap (tokBits (codesL (ints a)) a (codesL (ints b)) b) ++ codeBits (codesL (ints a)) a 256 ++ R)
    have ih := toks_back P most R T f
    rw [List.flatMap_cons, List.append_assoc, List.append_assoc, ← List.append_assoc (T.flatMap _)]
    unfold toksR
    simp only [h]
    unfold addR openT
    by_cases h1 : rightT t out.length = false
    · rw [if_pos h1, if_pos h1]
    · rw [if_neg h1, if_neg h1]
      by_cases h2 : ((out.length + wide t : Nat) : Int) > most
      · rw [if_pos h2, if_pos h2]
      · rw [if_neg h2, if_neg h2]
        simp only
        exact ih _ (by simpa using hf) (fun u hu => hm u (List.mem_cons_of_mem _ hu))
end Go.Proofs.YtgpkiijmembggaaGreatDoor.InM
namespace Go.Proofs.YtgpkiijmembggaaGreatDoor.InM
set_option linter.unusedVariables false
open BitsM CoM HuffM LzM DeM

theorem getD_zeros (L : List Int) (z s : Nat) : (L ++ List.replicate z 0).getD s 0 = L.getD s 0 := by
  simp only [List.getD_eq_getElem?_getD]
  by_cases h : s < L.length
  · rw [List.getElem?_append_left h]
  · rw [List.getElem?_append_right (by omega), List.getElem?_eq_none (l := L) (by omega), List.getElem?_replicate]
    split <;> rfl
theorem rsum_zeros (L : List Int) : ∀ z, rsum (L ++ List.replicate z 0) = rsum L
  | 0 => by simp
  | z + 1 => by rw [List.replicate_succ', ← List.append_assoc, rsum_snoc, rsum_zeros L z, kr_zero]; rfl
theorem many_zeros (L : List Int) : ∀ z, many (L ++ List.replicate z 0) = many L
  | 0 => by simp
  | z + 1 => by rw [List.replicate_succ', ← List.append_assoc, many_snoc, many_zeros L z]; rfl
theorem ones_zeros (L : List Int) : ∀ z, ones (L ++ List.replicate z 0) = ones L
  | 0 => by simp
  | z + 1 => by rw [List.replicate_succ', ← List.append_assoc, ones_snoc, ones_zeros L z]; rfl
theorem right_zeros (L : List Int) (z : Nat) : rightB (L ++ List.replicate z 0) = rightB L := by
  unfold rightB
  rw [rsum_zeros, many_zeros, ones_zeros, List.all_append]
  have : (List.replicate z (0 : Int)).all inR = true := by
    rw [List.all_eq_true]
    intro x hx
    rw [List.eq_of_mem_replicate hx]
    rfl
  rw [this, Bool.and_true]
/-- the same state, with 0s behind what is told -/
def Like (z : Nat) (c d : CS) : Prop := d.code = c.code ∧ d.last = c.last ∧ d.out = c.out ++ List.replicate z 0
theorem nextCode_like {z k : Nat} {c d : CS} (h : Like z c d) : nextCode k d = nextCode k c := by
  unfold nextCode
  rw [h.1, h.2.1]
theorem cstep_like {L : List Int} {z k s : Nat} {c d : CS} (h : Like z c d) (hs : s < L.length) (hc : c.out.length = L.length) : Like z (cstep L k s c) (cstep (L ++ List.replicate z 0) k s d) := by
  unfold cstep
  rw [getD_zeros, nextCode_like h]
  split
  · refine ⟨rfl, rfl, ?_⟩
    show d.out.set s _ = c.out.set s _ ++ _
    rw [h.2.2, List.set_append_left _ _ (by omega)]
  · exact h
theorem crow_like {L : List Int} {z k : Nat} (hk : 0 < k) {c d : CS} (h : Like z c d) (hc : c.ok L.length k) : ∀ s, s ≤ L.length + z → Like z (crow L k c (min s L.length)) (crow (L ++ List.replicate z 0) k d s)
  | 0, _ => by simpa [crow] using h
  | s + 1, hs => by
    have ih := crow_like hk h hc s (by omega)
    by_cases h1 : s < L.length
    · rw [show min (s + 1) L.length = s + 1 by omega]
      rw [show min s L.length = s by omega] at ih
      exact cstep_like ih h1 (crow_ok hc s).2.2.1
    · rw [show min (s + 1) L.length = min s L.length by omega]
      show Like z _ (cstep _ k s _)
      unfold cstep
      rw [getD_zeros, if_neg]
      · exact ih
      · rw [List.getD_eq_getElem?_getD, List.getElem?_eq_none (by omega)]
        show ¬ (0 : Int) = _
        omega
theorem call_like (L : List Int) (z : Nat) : ∀ k, Like z (call L k) (call (L ++ List.replicate z 0) k)
  | 0 => by
    refine ⟨rfl, rfl, ?_⟩
    show List.replicate _ 0 = List.replicate _ 0 ++ List.replicate _ 0
    rw [List.length_append, List.length_replicate, List.replicate_append_replicate]
  | k + 1 => by
    have h := crow_like (L := L) (k := k + 1) (by omega) (call_like L z k) ((call_ok L k).mono (by omega)) (L.length + z) (Nat.le_refl _)
    rw [show min (L.length + z) L.length = L.length by omega] at h
    show Like z (crow L (k + 1) _ L.length) (crow _ (k + 1) _ _)
    rw [show (L ++ List.replicate z (0 : Int)).length = L.length + z by simp]
    exact h
theorem codes_zeros (L : List Int) (z : Nat) : codesL (L ++ List.replicate z 0) = codesL L ++ List.replicate z 0 := (call_like L z 15).2.2
/-- what is cut off are 0s -/
theorem trim_zeros (L : List Nat) (m : Nat) (h : m ≤ L.length) : ∃ z, L = trimL L m ++ List.replicate z 0 := by
  have hl := trim_len h
  refine ⟨L.length - (trimL L m).length, ?_⟩
  apply List.ext_getElem
  · rw [List.length_append, List.length_replicate]; omega
  · intro i h1 h2
    have hg := trim_getD L m h i
    rw [List.getD_eq_getElem?_getD, List.getElem?_eq_getElem h1] at hg
    rw [List.getElem_append]
    split
    · rename_i hi
      rw [List.getD_eq_getElem?_getD, List.getElem?_eq_getElem hi] at hg
      exact hg
    · rename_i hi
      rw [List.getD_eq_getElem?_getD, List.getElem?_eq_none (by omega)] at hg
      rw [List.getElem_replicate]
      exact hg
theorem ints_zeros (L : List Nat) (z : Nat) : ints (L ++ List.replicate z 0) = ints L ++ List.replicate z 0 := by
  unfold ints
  rw [List.map_append, List.map_replicate]
  rfl
theorem bang_zeros (L : List Nat) (z s : Nat) : (L ++ List.replicate z 0)[s]! = L[s]! := by
  rw [getD_bang, getD_bang]
  simp only [List.getD_eq_getElem?_getD]
  by_cases h : s < L.length
  · rw [List.getElem?_append_left h]
  · rw [List.getElem?_append_right (by omega), List.getElem?_eq_none (l := L) (by omega), List.getElem?_replicate]
    split <;> rfl
/-- a symbol's code is the same -/
theorem code_trim (L : List Nat) (m : Nat) (h : m ≤ L.length) (s : Nat) : codeBits (codesL (ints L)) L s = codeBits (codesL (ints (trimL L m))) (trimL L m) s := by
  obtain ⟨z, hz⟩ := trim_zeros L m h
  generalize trimL L m = M at hz
  subst hz
  unfold codeBits
  rw [ints_zeros, codes_zeros, bang_zeros, bang_zeros]
theorem right_trim (L : List Nat) (m : Nat) (h : m ≤ L.length) : rightB (ints (trimL L m)) = rightB (ints L) := by
  obtain ⟨z, hz⟩ := trim_zeros L m h
  generalize trimL L m = M at hz
  subst hz
  rw [ints_zeros, right_zeros]
theorem bang_trim (L : List Nat) (m : Nat) (h : m ≤ L.length) (s : Nat) : (trimL L m)[s]! = L[s]! := by
  obtain ⟨z, hz⟩ := trim_zeros L m h
  generalize trimL L m = M at hz
  subst hz
  rw [bang_zeros]
theorem none_trim (L : List Nat) (m : Nat) (h : m ≤ L.length) : noneB (trimL L m) = noneB L := by
  obtain ⟨z, hz⟩ := trim_zeros L m h
  generalize trimL L m = M at hz
  subst hz
  unfold noneB
  rw [List.all_append]
  have : (List.replicate z 0).all (· == 0) = true := by
    rw [List.all_eq_true]
    intro x hx
    rw [List.eq_of_mem_replicate hx]
    rfl
  rw [this, Bool.and_true]
theorem tok_trim (a b : List Nat) (h1 : 257 ≤ a.length) (h2 : 1 ≤ b.length) (t : Tok) :
    tokBits (codesL (ints a)) a (codesL (ints b)) b t = tokBits (codesL (ints (trimL a 257))) (trimL a 257) (codesL (ints (trimL b 1))) (trimL b 1) t := by
  unfold tokBits
  rw [code_trim a 257 h1, code_trim a 257 h1, code_trim b 1 h2]
theorem toks_trim (a b : List Nat) (h1 : 257 ≤ a.length) (h2 : 1 ≤ b.length) (T : List Tok) : toksBits a b T = toksBits (trimL a 257) (trimL b 1) T := by
  have e : T.map (tokBits (codesL (ints a)) a (codesL (ints b)) b) = T.map (tokBits (codesL (ints (trimL a 257))) (trimL a 257) (codesL (ints (trimL b 1))) (trimL b 1)) := List.map_congr_left (fun t _ => tok_trim a b h1 h2 t)
  unfold toksBits
  rw [List.flatMap_def, List.flatMap_def, e, code_trim a 257 h1]
end Go.Proofs.YtgpkiijmembggaaGreatDoor.InM
namespace Go.Proofs.YtgpkiijmembggaaGreatDoor.DeM
open BitsM CoM

theorem bump_up (L : List Nat) (i s : Nat) : L.getD s 0 ≤ (SyM.bump L i).getD s 0 := by
  unfold SyM.bump
  simp only [List.getD_eq_getElem?_getD]
  by_cases h : i = s
  · subst h
    by_cases hl : i < L.length
    · simp [hl]
    · rw [List.set_eq_of_length_le (by omega)]
      exact Nat.le_refl _
  · rw [List.getElem?_set_ne h]
    exact Nat.le_refl _
theorem bump_at (L : List Nat) (i : Nat) (h : i < L.length) : 0 < (SyM.bump L i).getD i 0 := by
  unfold SyM.bump
  simp [List.getD_eq_getElem?_getD, h]
theorem weigh_up : ∀ (T : List LzM.Tok) (p : List Nat × List Nat) (s : Nat), p.1.getD s 0 ≤ (SyM.weigh T p).1.getD s 0 ∧ p.2.getD s 0 ≤ (SyM.weigh T p).2.getD s 0
  | [], p, s => ⟨Nat.le_refl _, Nat.le_refl _⟩
  | t :: T, p, s => by
    unfold SyM.weigh
    split
    · have h := weigh_up T (SyM.bump p.1 t.b.toNat, p.2) s
      exact ⟨Nat.le_trans (bump_up _ _ _) h.1, h.2⟩
    · have h := weigh_up T (SyM.bump p.1 (257 + SyM.sym t.l SyM.lens), SyM.bump p.2 (SyM.sym t.d SyM.dists)) s
      exact ⟨Nat.le_trans (bump_up _ _ _) h.1, Nat.le_trans (bump_up _ _ _) h.2⟩
theorem weigh_dist : ∀ (T : List LzM.Tok) (p : List Nat × List Nat), p.2.length = 30 → (∃ t ∈ T, t.l ≠ 0) → ∃ s, 0 < (SyM.weigh T p).2.getD s 0
  | [], p, _, h => by obtain ⟨t, h, _⟩ := h; cases h
  | t :: T, p, hp, h => by
    unfold SyM.weigh
    by_cases h0 : t.l = 0
    · rw [if_pos h0]
      refine weigh_dist T _ hp ?_
      obtain ⟨u, hu, hl⟩ := h
      rcases List.mem_cons.1 hu with e | e
      · rw [e] at hl; exact absurd h0 hl
      · exact ⟨u, e, hl⟩
    · rw [if_neg h0]
      refine ⟨SyM.sym t.d SyM.dists, ?_⟩
      have h1 := bump_at p.2 (SyM.sym t.d SyM.dists) (by rw [hp]; exact SyM.sym_lt _ SyM.dists (by decide))
      exact Nat.lt_of_lt_of_le h1 (weigh_up T (SyM.bump p.1 (257 + SyM.sym t.l SyM.lens), SyM.bump p.2 (SyM.sym t.d SyM.dists)) _).2
theorem fix_right : HuffM.rightB (ints SyM.fixA) = true ∧ HuffM.rightB (ints SyM.fixB) = true := by decide +kernel
theorem dynX_right (T : List LzM.Tok) (h : HuffM.cnt (SyM.weigh T SyM.start).1 ≤ 2 ^ 15) : HuffM.rightB (ints (dynX T)) = true := by
  refine (HuffM.lens_short (by omega) (by omega) h).2.2.2 ⟨256, ?_⟩
  have h1 : SyM.start.1.getD 256 0 = 1 := by decide +kernel
  have h2 := (weigh_up T SyM.start 256).1
  omega
theorem dynY_right (T : List LzM.Tok) (h : HuffM.cnt (SyM.weigh T SyM.start).2 ≤ 2 ^ 15) : HuffM.rightB (ints (dynY T)) = true ∨ ∀ t ∈ T, t.l = 0 := by
  by_cases hm : ∃ t ∈ T, t.l ≠ 0
  · exact .inl ((HuffM.lens_short (by omega) (by omega) h).2.2.2 (weigh_dist T SyM.start (by decide +kernel) hm))
  · refine .inr fun t ht => ?_
    by_cases h0 : t.l = 0
    · exact h0
    · exact absurd ⟨t, ht, h0⟩ hm
/-- of codes that are put by, where there is one of distances or there is no distance -/
theorem toks_as {T : List LzM.Tok} {a xs b ys : List Nat} (hx : HuffM.rightB (ints a) = true → xs = HuffM.codesL (ints a)) (hy : HuffM.rightB (ints b) = true → ys = HuffM.codesL (ints b)) (hra : HuffM.rightB (ints a) = true) (hrb : HuffM.rightB (ints b) = true ∨ ∀ t ∈ T, t.l = 0) :
    T.flatMap (tokBits xs a ys b) ++ codeBits xs a 256 = toksBits a b T := by
  unfold toksBits
  rw [hx hra]
  congr 1
  rcases hrb with h | h
  · rw [hy h]
  · rw [List.flatMap_def, List.flatMap_def]
    congr 1
    apply List.map_congr_left
    intro t ht
    unfold tokBits
    rw [if_pos (h t ht), if_pos (h t ht)]
end Go.Proofs.YtgpkiijmembggaaGreatDoor.DeM
namespace Go.Proofs.YtgpkiijmembggaaGreatDoor.DeM
open BitsM

theorem low_split (a b : Nat) : ∀ x, low x (a + b) = low x a ++ low (x / 2 ^ a) b := by
  induction a with
  | zero => intro x; rw [Nat.zero_add, low_zero, Nat.pow_zero, Nat.div_one]; rfl
  | succ a ih =>
    intro x
    rw [show a + 1 + b = (a + b) + 1 by omega, low_cons, low_cons, ih, Nat.div_div_eq_div_mul, Nat.pow_succ, Nat.mul_comm (2 ^ a) 2]
    rfl
theorem low_mod (x n : Nat) : low (x % 2 ^ n) n = low x n := by
  have h := low_num (low x n)
  rw [num_low, low_length] at h
  exact h
theorem pack_low (x : Nat) : pack (low x 8) = [UInt8.ofNat x] := by
  have e : low x 8 = low (UInt8.ofNat x).toNat 8 := by
    rw [← low_mod x 8]
    congr 1
  rw [e, pack_low8]
theorem pack_low16 (x : Nat) : pack (low x 16) = [UInt8.ofNat x, UInt8.ofNat (x / 256)] := by
  have h := low_split 8 8 x
  rw [show 8 + 8 = 16 from rfl] at h
  rw [h, pack_append (by rw [low_length]), pack_low, show x / 2 ^ 8 = x / 256 from rfl, pack_low]
  rfl
theorem byte_mod (x : Nat) : UInt8.ofNat (x % 256) = UInt8.ofNat x := by
  apply UInt8.toNat_inj.1
  simp
theorem pack_first (last : Nat) (h : last ≤ 1) : pack (low last 1 ++ low 0 2) = [UInt8.ofNat last] := by
  rcases (show last = 0 ∨ last = 1 by omega) with rfl | rfl
  · decide +kernel
  · decide +kernel
/-- a stored block behind whole bytes -/
theorem stored_block {bs : List Bool} {last n m : Nat} {part : List UInt8} (h : bs.length % 8 = 0) (hn : n ≤ 65535) (hm : m % 65536 = 65535 - n) (hl : last ≤ 1) :
    pack (full (bs ++ low last 1 ++ low 0 2) ++ low n 16 ++ low m 16 ++ bitsOf part) = pack bs ++ head5 last n ++ part ∧ (full (bs ++ low last 1 ++ low 0 2) ++ low n 16 ++ low m 16 ++ bitsOf part).length % 8 = 0 := by
  have h1 := full_mod (bs ++ low last 1 ++ low 0 2)
  have h2 : (full (bs ++ low last 1 ++ low 0 2) ++ low n 16).length % 8 = 0 := by rw [List.length_append, low_length]; omega
  have h3 : (full (bs ++ low last 1 ++ low 0 2) ++ low n 16 ++ low m 16).length % 8 = 0 := by rw [List.length_append, low_length]; omega
  refine ⟨?_, by rw [List.length_append, bitsOf_length]; omega⟩
  rw [pack_append h3, pack_append h2, pack_append h1, pack_full, List.append_assoc bs, pack_append h, pack_first last hl, pack_bitsOf, pack_low16, ← low_mod m 16, show m % 2 ^ 16 = 65535 - n from hm, pack_low16]
  have e1 : UInt8.ofNat (65535 - n) = UInt8.ofNat (255 - n % 256) := by
    apply UInt8.toNat_inj.1
    simp
    omega
  have e2 : UInt8.ofNat ((65535 - n) / 256) = UInt8.ofNat (255 - n / 256) := by
    apply UInt8.toNat_inj.1
    simp
    omega
  rw [e1, e2, ← byte_mod n]
  unfold head5
  simp
/-- the bits ahead of the tokens -/
theorem first_fixed : low 1 1 ++ low 1 2 = [true, true, false] := by decide +kernel
theorem first_dyn : low 1 1 ++ low 2 2 = [true, false, true] := by decide +kernel
end Go.Proofs.YtgpkiijmembggaaGreatDoor.DeM
