/-
  Plain mathematics of layer 5's codes: the bits of a symbol's code, whatever stands behind, are read as that symbol.
  Layer 8, plain: what bits tell as the lengths of two codes; what is put is read as it was.
  Layer 8, plain: what is put is read as it was.
  Layer 10, plain: what bits tell as blocks: the bytes, the bits that are left, or the first error.
-/
import Derived.Test.YtgpkiijmembggaaGreatDoorZm08
import Derived.Test.YtgpkiijmembggaaGreatDoorZm01
import Derived.Test.YtgpkiijmembggaaGreatDoorZm03
import Derived.Test.YtgpkiijmembggaaGreatDoorZm04
namespace Go.Proofs.YtgpkiijmembggaaGreatDoor.HuffM
open BitsM

theorem blk_count (L : List Int) (k : Nat) : (blk L k L.length).length = L.countP fun x => decide (x = (k : Int)) := by
  have h : L = (List.range L.length).map fun s => L.getD s 0 := by
    apply List.ext_getElem
    · simp
    · intro i h1 h2
      simp [h1]
  unfold blk
  rw [← List.countP_eq_length_filter]
  conv => rhs; rw [h, List.countP_map]
  rfl
/-- what the symbols take whose codes have at most k bits -/
def psum (L : List Int) (k : Nat) : Nat := (L.map fun x => if x ≤ (k : Int) then kr x else 0).sum
theorem psum_succ (L : List Int) (k : Nat) (hk : k < 15) : psum L (k + 1) = psum L k + (L.countP fun x => decide (x = ((k + 1 : Nat) : Int))) * 2 ^ (14 - k) := by
  induction L with
  | nil => simp [psum]
  | cons x L ih =>
    unfold psum at ih ⊢
    rw [List.map_cons, List.sum_cons, List.map_cons, List.sum_cons, ih, List.countP_cons]
    by_cases h1 : x = ((k + 1 : Nat) : Int)
    · rw [if_pos (by omega), if_neg (by omega), if_pos (by simpa using h1), Nat.add_mul]
      have : kr x = 2 ^ (14 - k) := by
        unfold kr
        rw [if_pos (by omega), h1]
        have e : (32768 : Nat) = 2 ^ (14 - k) * 2 ^ (k + 1) := by rw [← Nat.pow_add, show 14 - k + (k + 1) = 15 by omega]
        rw [e, Int.toNat_natCast, Nat.mul_div_cancel _ (Nat.two_pow_pos _)]
      omega
    · rw [if_neg (show ¬ decide (x = ((k + 1 : Nat) : Int)) = true by simpa using h1)]
      by_cases h2 : x ≤ (k : Int)
      · rw [if_pos (by omega), if_pos h2]; simp only [Nat.add_zero]; omega
      · rw [if_neg (by omega), if_neg h2]; simp only [Nat.add_zero]; omega
theorem psum_le (L : List Int) (k : Nat) : psum L k ≤ rsum L := by
  induction L with
  | nil => simp [psum, rsum]
  | cons x L ih =>
    unfold psum rsum at ih ⊢
    rw [List.map_cons, List.sum_cons, List.map_cons, List.sum_cons]
    split <;> omega
theorem fe_psum (L : List Int) (k : Nat) (hk : k ≤ 15) : fe L k * 2 ^ (15 - k) = psum L k := by
  induction k with
  | zero =>
    have : psum L 0 = 0 := by
      unfold psum
      rw [List.sum_eq_zero_iff_forall_eq_nat]
      intro y hy
      obtain ⟨x, _, rfl⟩ := List.mem_map.1 hy
      split
      · unfold kr; rw [if_neg (by omega)]
      · rfl
    rw [this]
    simp [fe]
  | succ k ih =>
    rw [psum_succ L k (by omega), ← ih (by omega), ← blk_count, fe, show 15 - (k + 1) = 14 - k by omega, show 15 - k = (14 - k) + 1 by omega, Nat.pow_succ, Nat.add_mul, Nat.mul_comm 2, Nat.mul_assoc, Nat.mul_comm 2]
theorem rsum_many (L : List Int) : rsum L ≤ 16384 * many L := by
  induction L with
  | nil => simp [rsum, many]
  | cons x L ih =>
    unfold rsum many at ih ⊢
    rw [List.map_cons, List.sum_cons, List.countP_cons]
    have : kr x ≤ if decide (0 < x) = true then 16384 else 0 := by
      unfold kr
      by_cases h : 0 < x
      · rw [if_pos h, if_pos (by simpa using h)]
        obtain ⟨n, hn⟩ : ∃ n : Nat, x.toNat = n + 1 := ⟨x.toNat - 1, by omega⟩
        rw [hn, Nat.pow_succ, Nat.mul_comm, ← Nat.div_div_eq_div_mul]
        exact Nat.div_le_self _ _
      · rw [if_neg h, if_neg (by simpa using h)]
        exact Nat.le_refl _
    by_cases h : decide (0 < x) = true
    · rw [if_pos h] at this ⊢; omega
    · rw [if_neg h] at this ⊢; omega
theorem right_whole {L : List Int} (h : rightB L = true) : rsum L ≤ 32768 := by
  unfold rightB at h
  simp only [Bool.and_eq_true, Bool.or_eq_true, beq_iff_eq] at h
  rcases h.2 with h | ⟨h, _⟩
  · omega
  · have := rsum_many L
    rw [h] at this
    omega
theorem fe_whole {L : List Int} (h : rightB L = true) {k : Nat} (hk : k ≤ 15) : fe L k ≤ 2 ^ k := by
  have h1 := fe_psum L k hk
  have h2 := psum_le L k
  have h3 := right_whole h
  have h4 : fe L k * 2 ^ (15 - k) ≤ 2 ^ k * 2 ^ (15 - k) := by
    rw [← Nat.pow_add, show k + (15 - k) = 15 by omega]
    omega
  exact Nat.le_of_mul_le_mul_right h4 (Nat.two_pow_pos _)
theorem fe_mono (L : List Int) (i d : Nat) : fe L i * 2 ^ d ≤ fe L (i + d) := by
  induction d with
  | zero => simp
  | succ d ih =>
    rw [← Nat.add_assoc, fe, Nat.pow_succ, ← Nat.mul_assoc]
    omega
/-- the bits of a number, the highest first, tell it -/
theorem bcode_high (c n : Nat) (R : List Bool) (hc : c < 2 ^ n) : ∀ i, i ≤ n → bcode (bb ((low c n).reverse ++ R)) i = c / 2 ^ (n - i)
  | 0, _ => by
    rw [Nat.sub_zero, Nat.div_eq_of_lt hc]
    rfl
  | i + 1, hi => by
    have hb : ((low c n).reverse ++ R)[i]? = some (c.testBit (n - 1 - i)) := by
      have hl : (low c n).length = n := by simp [low]
      rw [List.getElem?_append_left (by simp [hl]; omega), List.getElem?_reverse (by omega), hl]
      unfold low
      rw [List.getElem?_map, List.getElem?_range (by omega)]
      rfl
    rw [bcode_bit hb, bcode_high c n R hc i (by omega), show n - i = (n - (i + 1)) + 1 by omega, Nat.pow_succ, ← Nat.div_div_eq_div_mul, show n - 1 - i = n - (i + 1) by omega, Nat.testBit_eq_decide_div_mod_eq]
    have := Nat.div_add_mod (c / 2 ^ (n - (i + 1))) 2
    rcases Nat.mod_two_eq_zero_or_one (c / 2 ^ (n - (i + 1))) with h | h <;> simp [h] <;> omega
/-- whatever stands behind the bits of a code, they are read as its symbol -/
theorem read_code {L : List Int} (hl : (codedL L).length ≤ 1000) (hR : rightB L = true) {s k : Nat} (hs : s < L.length) (hk : L.getD s 0 = (k : Int)) (hk0 : 0 < k) (R : List Bool) :
    nextS L (bb ((low ((codesL L).getD s 0) k).reverse ++ R)) = ((s : Int), (k : Int)) := by
  obtain ⟨j, rfl⟩ : ∃ j, k = j + 1 := ⟨k - 1, by omega⟩
  have hin := right_in hR
  have hx := hin _ (List.getElem_mem hs)
  have hgd : L.getD s 0 = L[s] := by rw [List.getD_eq_getElem?_getD, List.getElem?_eq_getElem hs]; rfl
  have h15 : 0 ≤ L[s] ∧ L[s] ≤ 15 := by simpa [inR] using hx
  have hj : j < 15 := by rw [hgd] at hk; omega
  obtain ⟨a, ha, ea⟩ := List.getElem_of_mem ((blk_mem (L := L) (k := j + 1) (n := L.length) (s := s)).2 ⟨hs, hk⟩)
  have hxa : (blk L (j + 1) L.length)[a]? = some s := by rw [List.getElem?_eq_getElem ha, ea]
  have hcode := code_at hl hj hxa
  have hfe := fe_whole hR (k := j + 1) (by omega)
  rw [fe] at hfe
  have hlt : (codesL L).getD s 0 < 2 ^ (j + 1) := by omega
  have hb := bcode_high ((codesL L).getD s 0) (j + 1) R hlt
  have hlen : (bb ((low ((codesL L).getD s 0) (j + 1)).reverse ++ R)).length = j + 1 + R.length := by rw [bb_len]; simp [low]
  refine found (K := j) (a := a) hl hin (bb_one _) (fun i hi => ?_) hj (by omega) ?_ hxa
  · rw [hb i (by omega), hcode]
    have hm := fe_mono L i (j - i)
    rw [show i + (j - i) = j by omega] at hm
    rw [Nat.le_div_iff_mul_le (Nat.two_pow_pos _), show j + 1 - i = (j - i) + 1 by omega, Nat.pow_succ, ← Nat.mul_assoc]
    omega
  · rw [hb (j + 1) (Nat.le_refl _), Nat.sub_self, Nat.pow_zero, Nat.div_one, hcode]
end Go.Proofs.YtgpkiijmembggaaGreatDoor.HuffM
namespace Go.Proofs.YtgpkiijmembggaaGreatDoor.CoM
open HuffM BitsM

def sizeOf8 (s : Nat) : Nat := if s = 17 then 3 else if s = 18 then 7 else 2
def leastOf8 (s : Nat) : Nat := if s = 18 then 11 else 3
/-- one symbol of the items' code is read: lengths so far, bits that are left -/
def step8 (len : List Nat) (N : Nat) (l : List Nat) (bs : List Bool) : Option (List Nat × List Bool) :=
  let r := nextS (ints len) (bb bs)
  if r.1 < 0 then none
  else
    let s := r.1.toNat
    let rest := bs.drop r.2.toNat
    if s < 16 then some (l ++ [s], rest)
    else if s = 16 ∧ l = [] then none
    else if rest.length < sizeOf8 s then none
    else
      let many := leastOf8 s + num (rest.take (sizeOf8 s))
      if N < l.length + many then none
      else some (l ++ List.replicate many (if s = 16 then l.getLastD 0 else 0), rest.drop (sizeOf8 s))
def tells (len : List Nat) (N : Nat) : Nat → List Nat → List Bool → Option (List Nat × List Bool)
  | 0, l, bs => if N ≤ l.length then some (l, bs) else none
  | f + 1, l, bs => if N ≤ l.length then some (l, bs) else match step8 len N l bs with
    | none => none
    | some (l', bs') => tells len N f l' bs'
/-- the lengths of the items' code: the first m in the order -/
def lens19 (bs : List Bool) : Nat → List Nat
  | 0 => zeros19
  | i + 1 => (lens19 bs i).set ord[i]! (num ((bs.drop (3 * i)).take 3))
def getB (bs : List Bool) : Option (List Nat × List Nat × List Bool) :=
  if bs.length < 14 then none
  else
    let n := num (bs.take 5) + 257
    let d := num ((bs.drop 5).take 5) + 1
    let m := num ((bs.drop 10).take 4) + 4
    let b1 := bs.drop 14
    if 286 < n ∨ 30 < d ∨ b1.length < 3 * m then none
    else if rightB (ints (lens19 b1 m)) = false then none
    else match tells (lens19 b1 m) (n + d) (n + d) [] (b1.drop (3 * m)) with
      | none => none
      | some (l, rest) => if l[256]! = 0 then none else some (l.take n, l.drop n, rest)

theorem lens19_len (bs : List Bool) : ∀ i, (lens19 bs i).length = 19
  | 0 => rfl
  | i + 1 => by rw [lens19, List.length_set]; exact lens19_len bs i
theorem ord_le18 : ∀ i, i < 19 → ord[i]! < 19 := by
  intro i hi
  have h : ∀ i : Fin 19, ord[(i : Nat)]! < 19 := by decide +kernel
  exact h ⟨i, hi⟩
theorem ord_inj : ∀ i j, i < 19 → j < 19 → ord[i]! = ord[j]! → i = j := by
  intro i j hi hj h
  have h2 : ∀ i j : Fin 19, ord[(i : Nat)]! = ord[(j : Nat)]! → (i : Nat) = j := by decide +kernel
  exact h2 ⟨i, hi⟩ ⟨j, hj⟩ h
theorem ord_all : ∀ s, s < 19 → ∃ i, i < 19 ∧ ord[i]! = s := by
  intro s hs
  have h : ∀ s : Fin 19, ∃ i : Fin 19, ord[(i : Nat)]! = (s : Nat) := by decide +kernel
  obtain ⟨i, hi⟩ := h ⟨s, hs⟩
  exact ⟨i, i.2, hi⟩
theorem lens19_le (bs : List Bool) : ∀ i, ∀ x ∈ lens19 bs i, x ≤ 7
  | 0, x, hx => by
    have := List.eq_of_mem_replicate hx
    omega
  | i + 1, x, hx => by
    rw [lens19] at hx
    rcases List.mem_or_eq_of_mem_set hx with h | h
    · exact lens19_le bs i x h
    · have := num_lt ((bs.drop (3 * i)).take 3)
      have h2 : 2 ^ ((bs.drop (3 * i)).take 3).length ≤ 2 ^ 3 := Nat.pow_le_pow_right (by omega) (by rw [List.length_take]; omega)
      omega
/-- the lengths that are put are those that are read -/
theorem lens19_is (bs : List Bool) (len : List Nat) (m : Nat) (hm : m ≤ 19) (h : ∀ p, p < m → num ((bs.drop (3 * p)).take 3) = len[ord[p]!]!) :
    ∀ i, i ≤ m → ∀ p, p < 19 → (lens19 bs i)[ord[p]!]! = if p < i then len[ord[p]!]! else 0
  | 0, _, p, hp => by
    rw [if_neg (by omega), lens19]
    have h0 : ∀ j : Fin 19, zeros19[(j : Nat)]! = 0 := by decide +kernel
    exact h0 ⟨_, ord_le18 p hp⟩
  | i + 1, hi, p, hp => by
    have ih := lens19_is bs len m hm h i (by omega) p hp
    have h1 := ord_le18 p hp
    have h2 := ord_le18 i (by omega)
    rw [lens19, getElem!_pos _ _ (by rw [List.length_set, lens19_len]; exact h1), List.getElem_set]
    by_cases e : p = i
    · subst e
      rw [if_pos rfl, if_pos (by omega)]
      exact h p (by omega)
    · rw [if_neg (fun h => e (ord_inj i p (by omega) hp h).symm)]
      rw [getElem!_pos _ _ (by rw [lens19_len]; exact h1)] at ih
      rw [ih]
      by_cases hpi : p < i
      · rw [if_pos hpi, if_pos (by omega)]
      · rw [if_neg hpi, if_neg (by omega)]
theorem manyN_zero (len : List Nat) : ∀ k p, manyN len k ≤ p → p < 4 + k → len[ord[p]!]! = 0
  | 0, p, h1, h2 => by rw [manyN] at h1; omega
  | k + 1, p, h1, h2 => by
    rw [manyN] at h1
    split at h1
    · omega
    · rename_i h0
      rcases Nat.lt_or_ge p (4 + k) with h | h
      · exact manyN_zero len k p h1 h
      · rw [show p = 4 + k by omega]; omega
theorem flat3_at (len : List Nat) : ∀ (O : List Nat) (p : Nat) (R : List Bool), p < O.length → (((O.flatMap fun o => low len[o]! 3) ++ R).drop (3 * p)).take 3 = low len[O[p]!]! 3
  | [], p, R, h => by simp at h
  | o :: O, 0, R, h => by
    have : (low len[o]! 3).length = 3 := low_length _ _
    show (((low len[o]! 3 ++ (O.flatMap fun o => low len[o]! 3)) ++ R).drop 0).take 3 = _
    rw [List.drop_zero, List.append_assoc, List.take_left' this]
    rfl
  | o :: O, p + 1, R, h => by
    have h3 : (low len[o]! 3).length = 3 := low_length _ _
    show (((low len[o]! 3 ++ (O.flatMap fun o => low len[o]! 3)) ++ R).drop (3 * (p + 1))).take 3 = _
    rw [List.append_assoc, show 3 * (p + 1) = 3 + 3 * p by omega, ← List.drop_drop, List.drop_left' h3]
    exact flat3_at len O p R (by simpa using h)
theorem lens19_whole {len : List Nat} (hl : len.length = 19) (h7 : ∀ x ∈ len, x ≤ 7) (R : List Bool) : lens19 (((ord.take (manyN len 15)).flatMap fun o => low len[o]! 3) ++ R) (manyN len 15) = len := by
  have hm := manyN_le len 15
  have hol : (ord.take (manyN len 15)).length = manyN len 15 := by rw [List.length_take]; show min _ 19 = _; omega
  have hat : ∀ p, p < manyN len 15 → num (((((ord.take (manyN len 15)).flatMap fun o => low len[o]! 3) ++ R).drop (3 * p)).take 3) = len[ord[p]!]! := by
    intro p hp
    have ho := ord_le18 p (by omega)
    have e : (ord.take (manyN len 15))[p]! = ord[p]! := by
      rw [getElem!_pos _ p (by rw [hol]; exact hp), getElem!_pos ord p (show p < 19 by omega)]
      exact List.getElem_take
    rw [flat3_at len _ p R (by rw [hol]; exact hp), e, num_low]
    have : len[ord[p]!]! ≤ 7 := by
      rw [getElem!_pos len _ (by omega)]
      exact h7 _ (List.getElem_mem _)
    exact Nat.mod_eq_of_lt (by omega)
  have hall := lens19_is _ len (manyN len 15) (by omega) hat (manyN len 15) (Nat.le_refl _)
  apply List.ext_getElem
  · rw [lens19_len, hl]
  · intro j h1 h2
    obtain ⟨p, hp, hj⟩ := ord_all j (by omega)
    have h3 := hall p hp
    rw [hj] at h3
    have e1 := getElem!_pos (lens19 (((ord.take (manyN len 15)).flatMap fun o => low len[o]! 3) ++ R) (manyN len 15)) j h1
    have e2 := getElem!_pos len j h2
    rw [← e1, h3]
    by_cases hpm : p < manyN len 15
    · rw [if_pos hpm, e2]
    · rw [if_neg hpm]
      have h4 := manyN_zero len 15 p (by omega) (by omega)
      rw [hj, e2] at h4
      exact h4.symm
end Go.Proofs.YtgpkiijmembggaaGreatDoor.CoM
namespace Go.Proofs.YtgpkiijmembggaaGreatDoor.CoM
open HuffM BitsM

theorem cod_le : ∀ (L : List Int) (k : Nat), (cod L k).length ≤ L.length
  | L, k => by
    have hn : (cod L k).Nodup := (cod_srt L k).imp (fun {x y} h e => by
      subst e
      rcases h with h | h <;> omega)
    have hs : ∀ x ∈ cod L k, x ∈ List.range L.length := fun x hx => List.mem_range.2 (cod_mem.1 hx).1
    have := List.Nodup.length_le_of_subset hn hs
    rwa [List.length_range] at this
/-- a symbol of the items' code is read -/
theorem next8 {T : List It} {len : List Nat} (C : Code8 T len) {s : Nat} (hs : s ≤ 18) (h0 : 0 < len[s]!) (R : List Bool) :
    nextS (ints len) (bb ((low (codesL (ints len))[s]! (min len[s]! 64)).reverse ++ R)) = ((s : Int), (len[s]! : Int)) := by
  have h7 : len[s]! ≤ 7 := by
    rw [getElem!_pos len s (by rw [C.len19]; omega)]
    exact C.le7 _ (List.getElem_mem _)
  rw [Nat.min_eq_left (by omega), getD_bang (codesL (ints len))]
  refine read_code ?_ C.right (by rw [ints_len, C.len19]; omega) (by rw [ints_getD, getD_bang]) h0 R
  have := cod_le (ints len) 15
  rw [ints_len, C.len19] at this
  show (cod _ 15).length ≤ 1000
  omega
theorem drop_code (x k : Nat) (R : List Bool) (hk : k ≤ 7) : ((low x (min k 64)).reverse ++ R).drop k = R := by
  rw [Nat.min_eq_left (by omega), List.drop_left' (by rw [List.length_reverse, low_length])]
theorem take_low (x n : Nat) (R : List Bool) (hx : x < 2 ^ n) : num ((low x n ++ R).take n) = x ∧ (low x n ++ R).drop n = R ∧ n ≤ (low x n ++ R).length := by
  refine ⟨?_, List.drop_left' (low_length x n), by rw [List.length_append, low_length]; omega⟩
  rw [List.take_left' (low_length x n), num_low, Nat.mod_eq_of_lt hx]
/-- an item is read -/
theorem step_item {T : List It} {len : List Nat} (C : Code8 T len) {t : It} (ht : t ∈ T) {l : List Nat} {N n v : Nat} (hn : l.length + n ≤ N) (hv : v ≤ 15) (R : List Bool)
    (h : (∃ x, t = ⟨18, 7, x⟩ ∧ n = 11 + x ∧ x < 128 ∧ v = 0) ∨ (∃ x, t = ⟨17, 3, x⟩ ∧ n = 3 + x ∧ x < 8 ∧ v = 0) ∨ (∃ x, t = ⟨16, 2, x⟩ ∧ n = 3 + x ∧ x < 4 ∧ l ≠ [] ∧ l.getLastD 0 = v) ∨ (t = ⟨v, 0, 0⟩ ∧ n = 1)) :
    step8 len N l (itBits (codesL (ints len)) len t ++ R) = some (l ++ List.replicate n v, R) := by
  have hs : t.s ≤ 18 := by
    rcases h with ⟨x, rfl, _⟩ | ⟨x, rfl, _⟩ | ⟨x, rfl, _⟩ | ⟨rfl, _⟩ <;> simp only <;> omega
  obtain ⟨h0, h7⟩ := C.met t ht hs
  have hnx := next8 C hs h0 (low t.x (min t.b 64) ++ R)
  have hdr := drop_code (codesL (ints len))[t.s]! len[t.s]! (low t.x (min t.b 64) ++ R) h7
  unfold step8 itBits
  rw [List.append_assoc]
  simp only [hnx, Int.toNat_natCast, hdr]
  rw [if_neg (by omega)]
  clear hnx hdr
  rcases h with ⟨x, rfl, rfl, hx, rfl⟩ | ⟨x, rfl, rfl, hx, rfl⟩ | ⟨x, rfl, rfl, hx, hl, hlv⟩ | ⟨rfl, rfl⟩
  · obtain ⟨a1, a2, a3⟩ := take_low x 7 R hx
    simp only [show min 7 64 = 7 from rfl]
    rw [if_neg (by omega), if_neg (by omega), show sizeOf8 18 = 7 from rfl, show leastOf8 18 = 11 from rfl, if_neg (by omega), a1, a2, if_neg (by omega), if_neg (by omega)]
  · obtain ⟨a1, a2, a3⟩ := take_low x 3 R hx
    simp only [show min 3 64 = 3 from rfl]
    rw [if_neg (by omega), if_neg (by omega), show sizeOf8 17 = 3 from rfl, show leastOf8 17 = 3 from rfl, if_neg (by omega), a1, a2, if_neg (by omega), if_neg (by omega)]
  · obtain ⟨a1, a2, a3⟩ := take_low x 2 R hx
    simp only [show min 2 64 = 2 from rfl]
    rw [if_neg (by omega), if_neg (fun h => hl h.2), show sizeOf8 16 = 2 from rfl, show leastOf8 16 = 3 from rfl, if_neg (by omega), a1, a2, if_neg (by omega), if_pos trivial, hlv]
  · simp only [show min 0 64 = 0 from rfl, low_zero, List.nil_append]
    rw [if_pos (by omega)]
    rfl
theorem take_last (L : List Nat) (i : Nat) (h0 : 0 < i) (h : i ≤ L.length) : L.take i ≠ [] ∧ (L.take i).getLastD 0 = L[i - 1]! := by
  have hl : (L.take i).length = i := by rw [List.length_take]; omega
  refine ⟨fun e => by rw [e] at hl; simp at hl; omega, ?_⟩
  rw [List.getLastD_eq_getLast?, List.getLast?_eq_getElem?, hl, List.getElem?_take, if_pos (by omega), List.getElem?_eq_getElem (by omega), getElem!_pos L (i - 1) (by omega)]
  rfl
/-- all items are read -/
theorem tells_items {T : List It} {len : List Nat} (C : Code8 T len) (L : List Nat) (hL : ∀ x ∈ L, x ≤ 15) (R : List Bool) : ∀ g i f, i ≤ L.length → L.length ≤ i + g → L.length ≤ i + f → (∀ t ∈ pressI L g i, t ∈ T) →
    tells len L.length f (L.take i) ((pressI L g i).flatMap (itBits (codesL (ints len)) len) ++ R) = some (L, R) := by
  have hend : ∀ f, tells len L.length f (L.take L.length) R = some (L, R) := by
    intro f
    rw [List.take_length]
    cases f <;> simp [tells]
  intro g
  induction g with
  | zero =>
    intro i f h1 h2 h3 h4
    obtain rfl : i = L.length := by omega
    exact hend f
  | succ g ih =>
    intro i f h1 h2 h3 h4
    by_cases hi : i < L.length
    · rw [pressI, if_pos hi] at h4 ⊢
      obtain ⟨n, v, hn, hn1, hin, _, hv, htk, hc⟩ := item_cases L i hi hL
      obtain ⟨f, rfl⟩ : ∃ f', f = f' + 1 := ⟨f - 1, by omega⟩
      have hlen : (L.take i).length = i := by rw [List.length_take]; omega
      rw [hn] at h4 ⊢
      have hst := step_item C (h4 _ (List.mem_cons_self ..)) (l := L.take i) (N := L.length) (n := n) (v := v) (by omega) hv ((pressI L g (i + n)).flatMap (itBits (codesL (ints len)) len) ++ R) (by
        rcases hc with h | h | ⟨x, e, e2, e3, e4, e5⟩ | h
        · exact .inl h
        · exact .inr (.inl h)
        · have := take_last L i e4 h1
          exact .inr (.inr (.inl ⟨x, e, e2, e3, this.1, by rw [this.2, e5]⟩))
        · exact .inr (.inr (.inr h)))
      rw [List.flatMap_cons, List.append_assoc, tells, if_neg (by omega), hst, ← htk]
      exact ih (i + n) f (by omega) (by omega) (by omega) (fun t ht => h4 t (List.mem_cons_of_mem _ ht))
    · obtain rfl : i = L.length := by omega
      rw [pressI, if_neg hi]
      exact hend f
/-- what is put is read as it was, whatever stands behind -/
theorem get_put {A B : List Nat} (hA1 : 257 ≤ A.length) (hA2 : A.length ≤ 286) (hB1 : 1 ≤ B.length) (hB2 : B.length ≤ 30) (hA : ∀ x ∈ A, x ≤ 15) (hB : ∀ x ∈ B, x ≤ 15) (R : List Bool) :
    getB (putBits A B ++ R) = if A[256]! = 0 then none else some (A, B, R) := by
  have hL : ∀ x ∈ A ++ B, x ≤ 15 := fun x hx => by
    rcases List.mem_append.1 hx with h | h
    · exact hA x h
    · exact hB x h
  obtain ⟨T, hT⟩ : ∃ T, T = items (A ++ B) := ⟨_, rfl⟩
  have hT0 : ∃ t ∈ T, t.s ≤ 18 := by
    cases hh : T with
    | nil =>
      exfalso
      rw [hT] at hh
      unfold items at hh
      obtain ⟨k, hk⟩ : ∃ k, (A ++ B).length = k + 1 := ⟨(A ++ B).length - 1, by rw [List.length_append]; omega⟩
      rw [hk, pressI, if_pos (by omega)] at hh
      cases hh
    | cons t T' => exact ⟨t, List.mem_cons_self .., (items_mem hL t (by rw [← hT, hh]; exact List.mem_cons_self ..)).1⟩
  have C := code8 T hT0
  obtain ⟨len, hlen⟩ : ∃ len, len = lens 7 (weigh8 T zeros19) := ⟨_, rfl⟩
  rw [← hlen] at C
  have hm := manyN_le len 15
  obtain ⟨m, hmm⟩ : ∃ m, m = manyN len 15 := ⟨_, rfl⟩
  obtain ⟨X, hX⟩ : ∃ X, X = (ord.take m).flatMap fun o => low len[o]! 3 := ⟨_, rfl⟩
  have hXl : X.length = 3 * m := by
    rw [hX, flat3_len, List.length_take]
    show 3 * min m 19 = _
    omega
  obtain ⟨Y, hY⟩ : ∃ Y, Y = T.flatMap (itBits (codesL (ints len)) len) := ⟨_, rfl⟩
  have e : putBits A B ++ R = low (A.length - 257) 5 ++ (low (B.length - 1) 5 ++ (low (m - 4) 4 ++ (X ++ (Y ++ R)))) := by
    unfold putBits
    simp only [← hT, ← hlen, ← hmm, ← hX]
    rw [show codesL (len.map fun x : Nat => (x : Int)) = codesL (ints len) from rfl, ← hY]
    simp only [List.append_assoc]
  obtain ⟨n1, n2, n3⟩ := take_low (A.length - 257) 5 (low (B.length - 1) 5 ++ (low (m - 4) 4 ++ (X ++ (Y ++ R)))) (by omega)
  obtain ⟨d1, d2, d3⟩ := take_low (B.length - 1) 5 (low (m - 4) 4 ++ (X ++ (Y ++ R))) (by omega)
  obtain ⟨m1, m2, m3⟩ := take_low (m - 4) 4 (X ++ (Y ++ R)) (by omega)
  have hlens : lens19 (X ++ (Y ++ R)) m = len := by
    rw [hX, hmm]
    exact lens19_whole C.len19 C.le7 _
  have htl := tells_items C (A ++ B) hL R (A ++ B).length 0 (A ++ B).length (Nat.zero_le _) (by omega) (by omega) (fun t ht => by rw [hT]; exact ht)
  rw [show pressI (A ++ B) (A ++ B).length 0 = T from hT.symm, ← hY, List.take_zero, List.length_append] at htl
  unfold getB
  simp only
  have e10 : (putBits A B ++ R).drop 10 = low (m - 4) 4 ++ (X ++ (Y ++ R)) := by
    rw [e, show 10 = 5 + 5 from rfl, ← List.drop_drop, n2, d2]
  have e14 : (putBits A B ++ R).drop 14 = X ++ (Y ++ R) := by
    rw [show 14 = 10 + 4 from rfl, ← List.drop_drop, e10, m2]
  have e5 : (putBits A B ++ R).drop 5 = low (B.length - 1) 5 ++ (low (m - 4) 4 ++ (X ++ (Y ++ R))) := by rw [e, n2]
  have e0 : num ((putBits A B ++ R).take 5) = A.length - 257 := by rw [e, n1]
  have el : 14 ≤ (putBits A B ++ R).length := by
    rw [e]
    simp only [List.length_append, low_length]
    omega
  rw [if_neg (by omega), e0, e5, d1, e10, m1, e14, Nat.sub_add_cancel hA1, Nat.sub_add_cancel hB1, Nat.sub_add_cancel (by omega), hlens, if_neg (by rw [List.length_append, hXl]; omega), C.right, if_neg (by simp), List.drop_left' hXl, htl]
  simp only
  have h256 : (A ++ B)[256]! = A[256]! := by
    rw [getElem!_pos (A ++ B) 256 (by rw [List.length_append]; omega), getElem!_pos A 256 (by omega), List.getElem_append_left (by omega)]
  rw [h256, List.take_left' rfl, List.drop_left' rfl]
end Go.Proofs.YtgpkiijmembggaaGreatDoor.CoM
namespace Go.Proofs.YtgpkiijmembggaaGreatDoor.InM
set_option linter.unusedVariables false
open BitsM CoM HuffM LzM

/-- a symbol that is read -/
def symR (L : List Int) (bs : List Bool) : Except Nat (Nat × List Bool) :=
  if (nextS L (bb bs)).1 < 0 then .error (if bs.length < 15 then 2 else 3) else .ok ((nextS L (bb bs)).1.toNat, bs.drop (nextS L (bb bs)).2.toNat)
/-- so many bits as a number -/
def numR (n : Nat) (bs : List Bool) : Except Nat (Nat × List Bool) := if bs.length < n then .error 2 else .ok (num (bs.take n), bs.drop n)
/-- is there no code of distances? -/
def noneB (b : List Nat) : Bool := b.all (· == 0)
/-- what follows a distance's symbol -/
def distR (d : Nat) (bs : List Bool) : Except Nat (Nat × List Bool) :=
  if 29 < d then .error 3 else match numR (SyM.wid SyM.dists d) bs with
    | .error e => .error e
    | .ok (y, r) => .ok (SyM.least SyM.dists d + y, r)
/-- what follows a length's symbol: a match -/
def matchR (b : List Nat) (s : Nat) (bs : List Bool) : Except Nat (Tok × List Bool) :=
  match numR (SyM.wid SyM.lens (s - 257)) bs with
  | .error e => .error e
  | .ok (x, r) =>
    if noneB b = true then .error 3 else match symR (ints b) r with
    | .error e => .error e
    | .ok (d, r) => match distR d r with
      | .error e => .error e
      | .ok (y, r) => .ok (mat (SyM.least SyM.lens (s - 257) + x) y, r)
/-- a token, or the end -/
def tokR (a b : List Nat) (bs : List Bool) : Except Nat (Option Tok × List Bool) :=
  match symR (ints a) bs with
  | .error e => .error e
  | .ok (s, r) =>
    if s = 256 then .ok (none, r) else if s < 256 then .ok (some (lit (UInt8.ofNat s)), r) else if 285 < s then .error 3
    else match matchR b s r with
      | .error e => .error e
      | .ok (t, r) => .ok (some t, r)
/-- a token behind what is opened, at most so many bytes in all -/
def addR (most : Int) (out : List UInt8) (t : Tok) : Except Nat (List UInt8) :=
  if rightT t out.length = false then .error 3 else if ((out.length + wide t : Nat) : Int) > most then .error 4 else .ok (addT out t)
/-- tokens up to the end -/
def toksR (a b : List Nat) (most : Int) : Nat → List UInt8 → List Bool → Except Nat (List UInt8 × List Bool)
  | 0, _, _ => .error 0
  | f + 1, out, bs => match tokR a b bs with
    | .error e => .error e
    | .ok (none, r) => .ok (out, r)
    | .ok (some t, r) => match addR most out t with
      | .error e => .error e
      | .ok out => toksR a b most f out r
/-- a block in codes of such lengths -/
def codedR (a b : List Nat) (most : Int) (out : List UInt8) (bs : List Bool) : Except Nat (List UInt8 × List Bool) :=
  if rightB (ints a) = false ∨ noneB b = false ∧ rightB (ints b) = false then .error 3 else toksR a b most (bs.length + 1) out bs
/-- a stored block; what stands ahead of it are whole bytes with its first three bits -/
def storedR (most : Int) (out : List UInt8) (bs : List Bool) : Except Nat (List UInt8 × List Bool) :=
  let r := bs.drop (bs.length % 8)
  if r.length < 32 then .error 2
  else
    let n := num (r.take 16)
    if n + num ((r.drop 16).take 16) ≠ 65535 then .error 3
    else if ((out.length + n : Nat) : Int) > most then .error 4
    else if (r.drop 32).length < 8 * n then .error 2
    else .ok (out ++ pack ((r.drop 32).take (8 * n)), (r.drop 32).drop (8 * n))
/-- a block of a kind -/
def kindR (kind : Nat) (most : Int) (out : List UInt8) (r : List Bool) : Except Nat (List UInt8 × List Bool) :=
  if kind = 0 then storedR most out r else if kind = 1 then codedR SyM.fixA SyM.fixB most out r else if kind = 2 then (match getB r with
    | none => .error 3
    | some (a, b, r) => codedR a b most out r) else .error 3
def thenB (l : Bool) : Except Nat (List UInt8 × List Bool) → Except Nat (Bool × List UInt8 × List Bool)
  | .error e => .error e
  | .ok (out, r) => .ok (l, out, r)
/-- one block: whether it is the last one -/
def blockR (most : Int) (out : List UInt8) (bs : List Bool) : Except Nat (Bool × List UInt8 × List Bool) :=
  if bs.length < 3 then .error 2 else thenB (bs.headD false) (kindR (num ((bs.drop 1).take 2)) most out (bs.drop 3))
theorem block_cons (most : Int) (out : List UInt8) (x y z : Bool) (S : List Bool) : blockR most out (x :: y :: z :: S) = thenB x (kindR (num [y, z]) most out S) := by
  unfold blockR
  rw [if_neg (by simp only [List.length_cons]; omega)]
  rfl
def blocksR (most : Int) : Nat → List UInt8 → List Bool → Except Nat (List UInt8 × List Bool)
  | 0, _, _ => .error 0
  | f + 1, out, bs => match blockR most out bs with
    | .error e => .error e
    | .ok (true, out, r) => .ok (out, r)
    | .ok (false, out, r) => blocksR most f out r
/-- what bytes tell, and how many of them -/
def openP (B : List UInt8) (most : Int) : Except Nat (List UInt8 × Nat) :=
  match blocksR most (8 * B.length + 1) [] (bitsOf B) with
  | .error e => .error e
  | .ok (out, r) => .ok (out, (8 * B.length - r.length + 7) / 8)
end Go.Proofs.YtgpkiijmembggaaGreatDoor.InM
