/-
  Layer 6, plain: how the program presses: where three bytes stood last, a ring of the places ahead, the match that counts by going back along them.
-/
import Derived.Test.YtgieckdfbkonpaaLzM
namespace Go.Proofs.Ytgieckdfbkonpaa.LzN
open LzM

abbrev Key := UInt8 × UInt8 × UInt8
def key (B : List UInt8) (a : Nat) : Key := (B[a]!, B[a + 1]!, B[a + 2]!)
/-- the last place ahead of a at which these three bytes stand -/
def lastF (B : List UInt8) : Nat → Key → Option Nat
  | 0, _ => none
  | a + 1, k => if a + 3 ≤ B.length ∧ key B a = k then some a else lastF B a k
def num : Option Nat → Int
  | some q => (q : Int)
  | none => -1
def prevI (B : List UInt8) (a : Nat) : Int := num (lastF B a (key B a))
/-- no match that is too short -/
def clip (p : Nat × Nat) : Nat × Nat := if p.1 < 3 then (2, 0) else p
/-- what the program's match answers -/
def matchR (B : List UInt8) (a : Nat) : Nat × Nat := if a + 3 ≤ B.length then clip (find B a) else (0, 0)

theorem last_is (B : List UInt8) (k : Key) : ∀ a q, lastF B a k = some q → q < a ∧ q + 3 ≤ B.length ∧ key B q = k
  | 0, q, h => by cases h
  | a + 1, q, h => by
    unfold lastF at h
    split at h
    · rename_i hc
      injection h with h
      subst h
      exact ⟨by omega, hc.1, hc.2⟩
    · have := last_is B k a q h
      exact ⟨by omega, this.2⟩
theorem last_max (B : List UInt8) (k : Key) : ∀ a q, q < a → q + 3 ≤ B.length → key B q = k → ∃ r, lastF B a k = some r ∧ q ≤ r
  | 0, q, h, _, _ => by omega
  | a + 1, q, h, h1, h2 => by
    unfold lastF
    by_cases hc : a + 3 ≤ B.length ∧ key B a = k
    · rw [if_pos hc]
      exact ⟨a, rfl, by omega⟩
    · rw [if_neg hc]
      have hq : q ≠ a := fun e => hc ⟨e ▸ h1, e ▸ h2⟩
      exact last_max B k a q (by omega) h1 h2
/-- where three bytes stood ahead of a: nowhere, or at a place; nowhere between -/
theorem prev_is (B : List UInt8) (a : Nat) : (prevI B a = -1 ∨ ∃ q : Nat, prevI B a = (q : Int) ∧ q < a ∧ q + 3 ≤ B.length ∧ key B q = key B a) ∧ ∀ q : Nat, prevI B a < (q : Int) → q < a → q + 3 ≤ B.length → key B q ≠ key B a := by
  unfold prevI
  cases h : lastF B a (key B a) with
  | none =>
    refine ⟨.inl rfl, fun q _ h1 h2 h3 => ?_⟩
    obtain ⟨r, hr, _⟩ := last_max B _ a q h1 h2 h3
    rw [h] at hr
    cases hr
  | some r =>
    have := last_is B _ a r h
    refine ⟨.inr ⟨r, rfl, this⟩, fun q hq h1 h2 h3 => ?_⟩
    obtain ⟨r', hr, hle⟩ := last_max B _ a q h1 h2 h3
    rw [h] at hr
    injection hr with hr
    subst hr
    simp only [num] at hq
    omega

theorem same_lower (B : List UInt8) (i d : Nat) : ∀ f n m, n ≤ m → m ≤ n + f → (∀ j, n ≤ j → j < m → i + j < B.length ∧ B[i + j]! = B[i + j - d]!) → m ≤ same B i d f n
  | 0, n, m, h1, h2, _ => by unfold same; omega
  | f + 1, n, m, h1, h2, h3 => by
    unfold same
    by_cases e : n = m
    · subst e
      split
      · exact Nat.le_trans (Nat.le_succ _) (same_ge B i d f (n + 1))
      · exact Nat.le_refl _
    · rw [if_pos (h3 n (Nat.le_refl _) (by omega))]
      exact same_lower B i d f (n + 1) m (by omega) (by omega) (fun j a b => h3 j (by omega) b)
theorem same_upper (B : List UInt8) (i d m : Nat) (hm : ¬ (i + m < B.length ∧ B[i + m]! = B[i + m - d]!)) : ∀ f n, n ≤ m → same B i d f n ≤ m
  | 0, n, h => by unfold same; exact h
  | f + 1, n, h => by
    unfold same
    split
    · rename_i hc
      have : n ≠ m := fun e => hm (e ▸ hc)
      exact same_upper B i d m hm f (n + 1) (by omega)
    · exact h
/-- as many are the same: m -/
theorem len_of (B : List UInt8) (i d m : Nat) (h1 : m ≤ 258) (h2 : ∀ j, j < m → i + j < B.length ∧ B[i + j]! = B[i + j - d]!) (h3 : m = 258 ∨ ¬ (i + m < B.length ∧ B[i + m]! = B[i + m - d]!)) : len B i d = m := by
  have a := same_lower B i d 258 0 m (Nat.zero_le _) (by omega) (fun j _ h => h2 j h)
  have b : same B i d 258 0 ≤ m := by
    rcases h3 with h | h
    · have := same_le B i d 258 0; omega
    · exact same_upper B i d m h 258 0 (Nat.zero_le _)
  unfold len
  omega
theorem key_eq (B : List UInt8) (a b : Nat) : key B a = key B b ↔ B[a]! = B[b]! ∧ B[a + 1]! = B[b + 1]! ∧ B[a + 2]! = B[b + 2]! := by
  unfold key
  simp only [Prod.mk.injEq]
/-- more than l are the same: so are the three that end behind l -/
theorem key_of_len (B : List UInt8) (a d l : Nat) (hd : d ≤ a) (hl : 2 ≤ l) (h : l < len B a d) : key B (a - d + l - 2) = key B (a + l - 2) := by
  rw [key_eq]
  have e := fun j (hj : j < len B a d) => same_eq B a d 258 0 j (Nat.zero_le _) hj
  have e0 := e (l - 2) (by omega)
  have e1 := e (l - 1) (by omega)
  have e2 := e l h
  refine ⟨?_, ?_, ?_⟩
  · rw [show a - d + l - 2 = a + (l - 2) - d by omega, show a + l - 2 = a + (l - 2) by omega]; exact e0.symm
  · rw [show a - d + l - 2 + 1 = a + (l - 1) - d by omega, show a + l - 2 + 1 = a + (l - 1) by omega]; exact e1.symm
  · rw [show a - d + l - 2 + 2 = a + l - d by omega, show a + l - 2 + 2 = a + l by omega]; exact e2.symm
theorem len_nokey (B : List UInt8) (a d : Nat) (hd : d ≤ a) (h : key B (a - d) ≠ key B a) : len B a d < 3 := by
  rcases Nat.lt_or_ge (len B a d) 3 with h' | h'
  · exact h'
  · exact absurd (key_of_len B a d 2 hd (Nat.le_refl _) h') h
theorem clip_skip (B : List UInt8) (a k : Nat) : ∀ m, (∀ d, k < d → d ≤ k + m → len B a d < 3) → clip (best B a (k + m)) = clip (best B a k)
  | 0, _ => rfl
  | m + 1, h => by
    have ih := clip_skip B a k m (fun d h1 h2 => h d h1 (by omega))
    have hl := h (k + m + 1) (by omega) (by omega)
    rw [show k + (m + 1) = k + m + 1 by omega, best]
    split
    · rename_i hc
      rw [← ih]
      unfold clip
      rw [if_pos hl, if_pos (by omega)]
    · exact ih
theorem clip_two (p : Nat × Nat) : 2 ≤ (clip p).1 := by
  unfold clip
  split
  · exact Nat.le_refl _
  · omega
theorem clip_step (B : List UInt8) (a k L D : Nat) (h : (L, D) = clip (best B a k)) : clip (best B a (k + 1)) = if L < len B a (k + 1) then (len B a (k + 1), k + 1) else (L, D) := by
  rw [best]
  unfold clip at h ⊢
  split at h
  · rename_i h3
    simp only [Prod.mk.injEq] at h
    obtain ⟨rfl, rfl⟩ := h
    split
    · by_cases hl : len B a (k + 1) < 3
      · rw [if_pos hl, if_neg (by omega)]
      · rw [if_neg hl, if_pos (by omega)]
    · rw [if_neg (by omega)]
  · rename_i h3
    rw [← h] at h3 ⊢
    simp only at h3 ⊢
    split
    · rw [if_neg (by simp only; omega)]
    · rfl
theorem best_full (B : List UInt8) (a k : Nat) (ha : a ≤ B.length) (h : min 258 (B.length - a) ≤ (best B a k).1) : ∀ m, best B a (k + m) = best B a k
  | 0 => rfl
  | m + 1 => by
    rw [show k + (m + 1) = k + m + 1 by omega, best, best_full B a k ha h m, if_neg]
    have h1 := len_le B a (k + m + 1)
    have h2 := len_in B a (k + m + 1) ha
    omega
/-- as far as has been looked: no match can be longer -/
theorem clip_full (B : List UInt8) (a k L D : Nat) (ha : a + 3 ≤ B.length) (h : (L, D) = clip (best B a k)) (hL : min 258 (B.length - a) ≤ L) (m : Nat) : clip (best B a (k + m)) = (L, D) := by
  have hb : (best B a k).1 = L := by
    unfold clip at h
    split at h
    · simp only [Prod.mk.injEq] at h
      omega
    · rw [← h]
  rw [best_full B a k (by omega) (by omega) m, h]
/-- the state of the going back: L, D are what counts of the distances below the place z (-1: all) -/
def Back (B : List UInt8) (a : Nat) (z : Int) (L D : Nat) : Prop :=
  (z = -1 ∨ ∃ q : Nat, z = (q : Int) ∧ q < a ∧ q + 3 ≤ B.length ∧ key B q = key B a) ∧ (L, D) = clip (best B a (min ((a : Int) - z - 1).toNat 32768))
theorem back_start (B : List UInt8) (a : Nat) (ha : a + 3 ≤ B.length) : Back B a (prevI B a) 2 0 := by
  obtain ⟨h1, h2⟩ := prev_is B a
  refine ⟨h1, ?_⟩
  have e := clip_skip B a 0 (min ((a : Int) - prevI B a - 1).toNat 32768) (fun d hd1 hd2 => ?_)
  · rw [Nat.zero_add] at e
    rw [e]
    rfl
  · have hz : (-1 : Int) ≤ prevI B a := by rcases h1 with h | ⟨q, h, _⟩ <;> omega
    have hda : d ≤ a := by omega
    exact len_nokey B a d hda (h2 (a - d) (by omega) (by omega) (by omega))
theorem back_step (B : List UInt8) (a q L D : Nat) (ha : a + 3 ≤ B.length) (h : Back B a (q : Int) L D) (hq : a ≤ q + 32768) :
    Back B a (prevI B q) (if L < len B a (a - q) then len B a (a - q) else L) (if L < len B a (a - q) then a - q else D) := by
  obtain ⟨h0, h⟩ := h
  obtain ⟨q', hqq, hqa, hq3, hk⟩ : ∃ q' : Nat, (q : Int) = (q' : Int) ∧ q' < a ∧ q' + 3 ≤ B.length ∧ key B q' = key B a := by
    rcases h0 with h0 | h0
    · omega
    · exact h0
  obtain rfl : q = q' := by omega
  obtain ⟨h1, h2⟩ := prev_is B q
  have hz : (-1 : Int) ≤ prevI B q := by rcases h1 with h | ⟨q, h, _⟩ <;> omega
  have hz2 : prevI B q < (q : Int) := by rcases h1 with h | ⟨q, h, _⟩ <;> omega
  refine ⟨?_, ?_⟩
  · rcases h1 with h | ⟨r, hr1, hr2, hr3, hr4⟩
    · exact .inl h
    · exact .inr ⟨r, hr1, by omega, hr3, hr4.trans hk⟩
  · have e1 : min ((a : Int) - (q : Int) - 1).toNat 32768 = a - q - 1 := by omega
    rw [e1] at h
    have hs := clip_step B a (a - q - 1) L D h
    rw [show a - q - 1 + 1 = a - q by omega] at hs
    obtain ⟨m, hm⟩ : ∃ m, min ((a : Int) - prevI B q - 1).toNat 32768 = (a - q) + m := ⟨min ((a : Int) - prevI B q - 1).toNat 32768 - (a - q), by omega⟩
    rw [hm, clip_skip B a (a - q) m, hs]
    · split <;> rfl
    · intro d hd1 hd2
      have hda : d ≤ a := by omega
      exact len_nokey B a d hda (fun e => h2 (a - d) (by omega) (by omega) (by omega) (e.trans hk.symm))
theorem back_far (B : List UInt8) (a : Nat) (z : Int) (L D : Nat) (h : Back B a z L D) (hz : z < max 0 ((a : Int) - 32768)) : (L, D) = clip (find B a) := by
  obtain ⟨h0, h⟩ := h
  have : min ((a : Int) - z - 1).toNat 32768 = min a 32768 := by
    rcases h0 with h0 | ⟨q, h0, h1, _⟩ <;> omega
  rw [this] at h
  exact h
theorem back_full (B : List UInt8) (a : Nat) (z : Int) (L D : Nat) (ha : a + 3 ≤ B.length) (h : Back B a z L D) (hL : min 258 (B.length - a) ≤ L) : (L, D) = clip (find B a) := by
  obtain ⟨h0, h⟩ := h
  obtain ⟨k, hk⟩ : ∃ k, k = min ((a : Int) - z - 1).toNat 32768 := ⟨_, rfl⟩
  rw [← hk] at h
  have hle : k ≤ min a 32768 := by rcases h0 with h0 | ⟨q, h0, h1, _⟩ <;> omega
  have := clip_full B a k L D ha h hL (min a 32768 - k)
  rw [show k + (min a 32768 - k) = min a 32768 by omega] at this
  exact this.symm
theorem back_le (B : List UInt8) (a : Nat) (z : Int) (L D : Nat) (ha : a + 3 ≤ B.length) (h : Back B a z L D) : 2 ≤ L ∧ L ≤ 258 ∧ a + L ≤ B.length ∧ D ≤ 32768 := by
  obtain ⟨_, h⟩ := h
  have h2 := clip_two (best B a (min ((a : Int) - z - 1).toNat 32768))
  have h3 := best_le B a (min ((a : Int) - z - 1).toNat 32768)
  have h4 := best_in B a (by omega) (min ((a : Int) - z - 1).toNat 32768)
  rw [← h] at h2
  unfold clip at h
  split at h
  · simp only [Prod.mk.injEq] at h
    simp only at h2
    omega
  · rw [← h] at h3 h4
    simp only at h2 h3 h4
    omega
/-- the three that end behind L are others: no more than L are the same -/
theorem len_short (B : List UInt8) (a q L : Nat) (hq : q < a) (hL : 2 ≤ L) (h : key B (q + L - 2) ≠ key B (a + L - 2)) : ¬ L < len B a (a - q) := by
  intro hl
  have := key_of_len B a (a - q) L (by omega) hL hl
  rw [show a - (a - q) = q by omega] at this
  exact h this

theorem find_short (B : List UInt8) (a : Nat) (ha : a ≤ B.length) (h : ¬ a + 3 ≤ B.length) : (find B a).1 < 3 := by
  have := best_in B a ha (min a 32768)
  unfold find
  omega
theorem match_no (B : List UInt8) (a : Nat) (h : (find B a).1 < 3) : (matchR B a).2 = 0 := by
  unfold matchR clip
  split
  · rfl
  · rfl
theorem match_yes (B : List UInt8) (a : Nat) (ha : a ≤ B.length) (h : ¬ (find B a).1 < 3) : matchR B a = find B a ∧ 1 ≤ (find B a).2 := by
  have h3 : a + 3 ≤ B.length := by
    rcases Nat.lt_or_ge B.length (a + 3) with h' | h'
    · exact absurd (find_short B a ha (by omega)) h
    · exact h'
  unfold matchR clip
  rw [if_pos h3, if_neg h]
  exact ⟨rfl, (best_is B a _ (by unfold find at h; omega)).1⟩

/-- the ring: of each of the last 32768 places that were passed, where its three bytes stood ahead of it -/
def Ring (B : List UInt8) (a : Nat) (V : List Int) : Prop := V.length = min B.length 32768 ∧ ∀ q, q < a → a ≤ q + 32768 → q + 3 ≤ B.length → V[q % 32768]? = some (prevI B q)
theorem ring_zero (B : List UInt8) (V : List Int) (h : V.length = min B.length 32768) : Ring B 0 V := ⟨h, fun q hq => by omega⟩
theorem ring_step (B : List UInt8) (a : Nat) (V : List Int) (h : Ring B a V) (ha : a + 3 ≤ B.length) : Ring B (a + 1) (V.set (a % 32768) (prevI B a)) := by
  refine ⟨by rw [List.length_set]; exact h.1, fun q h1 h2 h3 => ?_⟩
  by_cases e : q = a
  · subst e
    rw [List.getElem?_set_self (by have := h.1; omega)]
  · rw [List.getElem?_set_ne (by omega)]
    exact h.2 q (by omega) (by omega) h3
theorem ring_stay (B : List UInt8) (a : Nat) (V : List Int) (h : Ring B a V) (ha : ¬ a + 3 ≤ B.length) : Ring B (a + 1) V :=
  ⟨h.1, fun q h1 h2 h3 => h.2 q (by omega) (by omega) h3⟩
theorem last_step (B : List UInt8) (a : Nat) (ha : a + 3 ≤ B.length) (k : Key) : lastF B (a + 1) k = if key B a = k then some a else lastF B a k := by
  rw [lastF]
  by_cases h : key B a = k
  · rw [if_pos ⟨ha, h⟩, if_pos h]
  · rw [if_neg (fun h' => h h'.2), if_neg h]
theorem last_stay (B : List UInt8) (a : Nat) (ha : ¬ a + 3 ≤ B.length) (k : Key) : lastF B (a + 1) k = lastF B a k := by
  rw [lastF, if_neg (fun h => ha h.1)]
theorem prev_bd (B : List UInt8) (a : Nat) : -1 ≤ prevI B a ∧ prevI B a < (a : Int) := by
  rcases (prev_is B a).1 with h | ⟨q, h, h1, _⟩ <;> omega
end Go.Proofs.Ytgieckdfbkonpaa.LzN
