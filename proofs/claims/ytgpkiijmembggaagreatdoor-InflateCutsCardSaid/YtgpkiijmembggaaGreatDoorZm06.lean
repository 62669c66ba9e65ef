/-
  A region that draws its order, walked by the lone laws: the condition that is kept may be made more on the way. Nothing of any program here.
  Contract of layer 7's reference: Weights.
  Layer 6, plain: how the program presses: where three bytes stood last, a ring of the places ahead, the match that counts by going back along them.
  Layer 6, plain: how many tokens there are; of bytes of one kind; what a match is, where it ends.
  Layer 9: what is pressed may be told; how many bits tell tokens, and codes.
  Layer 9, plain: how long each way is.
-/
import Derived.Deep.RegionHeld3
import Derived.Deep.DrawnRows
import Derived.Test.YtgpkiijmembggaaGreatDoorZm05
import Derived.Deep.DeepCutAuto
import Derived.Laws.MakeOwn
import Derived.Test.YtgpkiijmembggaaGreatDoorZm03
import Derived.Test.YtgpkiijmembggaaGreatDoorZm04
namespace Go.Proofs.YtgpkiijmembggaaGreatDoor
open Go

theorem wpAnyH_imp {P : Program} {md : Region.Mode} {ops : Array Oper} {Q : Exit → Act → World → Prop} {S S' : World → Prop} (hS : ∀ w, S' w → S w) :
    ∀ (fuel : Nat) (listed : Array Bool) (a : Act) (w : World), wpAnyH P md ops Q S' fuel listed a w → wpAnyH P md ops Q S fuel listed a w
  | 0, _, _, _, h => h
  | fuel + 1, _, _, _, h => ⟨h.1, fun i hi => wpOp_mono (fun a' w' h' => ⟨hS _ h'.1, wpAnyH_imp hS fuel _ a' w' h'.2⟩) (h.2 i hi)⟩
theorem wpAnyH_more {P : Program} {md : Region.Mode} {ops : Array Oper} {Q : Exit → Act → World → Prop} {S : World → Prop} (S' : World → Prop) {fuel : Nat} {listed : Array Bool} {a : Act} {w : World}
    (hS : ∀ w, S' w → S w) (h : S' w) (hk : S' w → wpAnyH P md ops Q S' fuel listed a w) : wpAnyH P md ops Q S fuel listed a w :=
  wpAnyH_imp hS fuel listed a w (hk h)
end Go.Proofs.YtgpkiijmembggaaGreatDoor
namespace Go.Proofs.YtgpkiijmembggaaGreatDoor
open Go.RowKit SyM LzM Mem Go.Lib
attribute [local go_sem ↓] Go.wp_at_zero Go.wp_at_succ
set_option linter.unusedVariables false

theorem mk_int7 (m : Nat) (hm : m ≤ 1000000) (w : World) : (Instr.makeSlice 60 (.int .i64 (m : Int)) (.int .i64 (m : Int))).run Tryz.prog w = .ok (.slice (some ⟨w.heap.size, 0, none⟩) m m) (w.alloc (.cells (Array.replicate m (.int .i64 0)) 3)) := mk_int m hm w
/-- block g holds these numbers -/
def NRow (w : World) (g : Nat) (L : List Nat) : Prop := Row w g 3 (L.map natc)
theorem NRow.zeros (w : World) (m : Nat) : NRow (w.alloc (.cells (Array.replicate m (.int .i64 0)) 3)) w.heap.size (List.replicate m 0) := by
  have h := Row.new w 3 (List.replicate m (Value.int .i64 0))
  rw [List.toArray_replicate] at h
  unfold NRow
  rw [List.map_replicate]
  exact h
theorem NRow.at_ {w : World} {g : Nat} {L : List Nat} (h : NRow w g L) {i : Nat} (hi : i < L.length) : w.cell? ⟨g, i, none⟩ = some (.int .i64 ((L[i]! : Nat) : Int)) := by
  refine Row.cell h ?_
  rw [List.getElem?_map, List.getElem?_eq_getElem hi, getElem!_pos L i hi]
  rfl
theorem NRow.bump {w : World} {g : Nat} {L : List Nat} (h : NRow w g L) (i : Nat) : NRow (w.setCell ⟨g, i, none⟩ (.int .i64 ((L[i]! : Nat) + 1 : Int))) g (SyM.bump L i) := by
  have := Row.set h i (natc (L[i]! + 1))
  rw [← List.map_set] at this
  exact this
theorem bump_le {L : List Nat} {N i : Nat} (h : ∀ x ∈ L, x ≤ N) : (∀ x ∈ SyM.bump L i, x ≤ N + 1) ∧ L[i]! ≤ N := by
  have h1 : L[i]! ≤ N := by
    rcases Nat.lt_or_ge i L.length with hi | hi
    · rw [getElem!_pos L i hi]; exact h _ (List.getElem_mem hi)
    · rw [getElem!_neg L i (by omega)]; exact Nat.zero_le _
  refine ⟨fun x hx => ?_, h1⟩
  unfold SyM.bump at hx
  rcases List.mem_or_eq_of_mem_set hx with h2 | h2
  · have := h x h2; omega
  · omega

/-- a token that may stand somewhere -/
def Fits (t : Tok) : Prop := rightT t 32768 = true
theorem fits_cases {t : Tok} (h : Fits t) : (∃ b, t = ⟨b, 0, 0⟩) ∨ ∃ L D : Nat, t = ⟨0, (L : Int), (D : Int)⟩ ∧ 3 ≤ L ∧ L ≤ 258 ∧ 1 ≤ D ∧ D ≤ 32768 := by
  rcases right_cases (n := 32768) h with h | ⟨L, D, h1, h2, h3, h4, h5, _⟩
  · exact .inl h
  · exact .inr ⟨L, D, h1, h2, h3, h4, h5⟩

theorem lens_le : ∀ k, k < 29 → least lens k ≤ 100000 := by
  intro k hk
  have h : ∀ k : Fin 29, least lens (k : Nat) ≤ 100000 := by decide +kernel
  exact h ⟨k, hk⟩
theorem dists_le : ∀ k, k < 30 → least dists k ≤ 100000 := by
  intro k hk
  have h : ∀ k : Fin 30, least dists (k : Nat) ≤ 100000 := by decide +kernel
  exact h ⟨k, hk⟩

end Go.Proofs.YtgpkiijmembggaaGreatDoor
namespace Go.Proofs.YtgpkiijmembggaaGreatDoor.LzN
open LzM

abbrev Key := UInt8 × UInt8 × UInt8
def key (B : List UInt8) (a : Nat) : Key := (B[a]!, B[a + 1]!, B[a + 2]!)
/-- the last place ahead of a at which these three bytes stand -/
def lastF (B : List UInt8) : Nat → Key → Option Nat
  | 0, _ => none
  | a + 1, k => if a + 3 ≤ B.length ∧ key B a = k then some a else lastF B a k
def num : Option Nat → Int
  | some q => (q : Int)
  | none => -1
def prevI (B : List UInt8) (a : Nat) : Int := num (lastF B a (key B a))
/-- no match that is too short -/
def clip (p : Nat × Nat) : Nat × Nat := if p.1 < 3 then (2, 0) else p
/-- what the program's match answers -/
def matchR (B : List UInt8) (a : Nat) : Nat × Nat := if a + 3 ≤ B.length then clip (find B a) else (0, 0)

theorem last_is (B : List UInt8) (k : Key) : ∀ a q, lastF B a k = some q → q < a ∧ q + 3 ≤ B.length ∧ key B q = k
  | 0, q, h => by cases h
  | a + 1, q, h => by
    unfold lastF at h
    split at h
    · rename_i hc
      injection h with h
      subst h
      exact ⟨by omega, hc.1, hc.2⟩
    · have := last_is B k a q h
      exact ⟨by omega, this.2⟩
theorem last_max (B : List UInt8) (k : Key) : ∀ a q, q < a → q + 3 ≤ B.length → key B q = k → ∃ r, lastF B a k = some r ∧ q ≤ r
  | 0, q, h, _, _ => by omega
  | a + 1, q, h, h1, h2 => by
    unfold lastF
    by_cases hc : a + 3 ≤ B.length ∧ key B a = k
    · rw [if_pos hc]
      exact ⟨a, rfl, by omega⟩
    · rw [if_neg hc]
      have hq : q ≠ a := fun e => hc ⟨e ▸ h1, e ▸ h2⟩
      exact last_max B k a q (by omega) h1 h2
/-- where three bytes stood ahead of a: nowhere, or at a place; nowhere between -/
theorem prev_is (B : List UInt8) (a : Nat) : (prevI B a = -1 ∨ ∃ q : Nat, prevI B a = (q : Int) ∧ q < a ∧ q + 3 ≤ B.length ∧ key B q = key B a) ∧ ∀ q : Nat, prevI B a < (q : Int) → q < a → q + 3 ≤ B.length → key B q ≠ key B a := by
  unfold prevI
  cases h : lastF B a (key B a) with
  | none =>
    refine ⟨.inl rfl, fun q _ h1 h2 h3 => ?_⟩
    obtain ⟨r, hr, _⟩ := last_max B _ a q h1 h2 h3
    rw [h] at hr
    cases hr
  | some r =>
    have := last_is B _ a r h
    refine ⟨.inr ⟨r, rfl, this⟩, fun q hq h1 h2 h3 => ?_⟩
    obtain ⟨r', hr, hle⟩ := last_max B _ a q h1 h2 h3
    rw [h] at hr
    injection hr with hr
    subst hr
    simp only [num] at hq
    omega

theorem same_lower (B : List UInt8) (i d : Nat) : ∀ f n m, n ≤ m → m ≤ n + f → (∀ j, n ≤ j → j < m → i + j < B.length ∧ B[i + j]! = B[i + j - d]!) → m ≤ same B i d f n
  | 0, n, m, h1, h2, _ => by unfold same; omega
  | f + 1, n, m, h1, h2, h3 => by
    unfold same
    by_cases e : n = m
    · subst e
      split
      · exact Nat.le_trans (Nat.le_succ _) (same_ge B i d f (n + 1))
      · exact Nat.le_refl _
    · rw [if_pos (h3 n (Nat.le_refl _) (by omega))]
      exact same_lower B i d f (n + 1) m (by omega) (by omega) (fun j a b => h3 j (by omega) b)
theorem same_upper (B : List UInt8) (i d m : Nat) (hm : ¬ (i + m < B.length ∧ B[i + m]! = B[i + m - d]!)) : ∀ f n, n ≤ m → same B i d f n ≤ m
  | 0, n, h => by unfold same; exact h
  | f + 1, n, h => by
    unfold same
    split
    · rename_i hc
      have : n ≠ m := fun e => hm (e ▸ hc)
      exact same_upper B i d m hm f (n + 1) (by omega)
    · exact h
/-- as many are the same: m -/
theorem len_of (B : List UInt8) (i d m : Nat) (h1 : m ≤ 258) (h2 : ∀ j, j < m → i + j < B.length ∧ B[i + j]! = B[i + j - d]!) (h3 : m = 258 ∨ ¬ (i + m < B.length ∧ B[i + m]! = B[i + m - d]!)) : len B i d = m := by
  have a := same_lower B i d 258 0 m (Nat.zero_le _) (by omega) (fun j _ h => h2 j h)
  have b : same B i d 258 0 ≤ m := by
    rcases h3 with h | h
    · have := same_le B i d 258 0; omega
    · exact same_upper B i d m h 258 0 (Nat.zero_le _)
  unfold len
  omega
theorem key_eq (B : List UInt8) (a b : Nat) : key B a = key B b ↔ B[a]! = B[b]! ∧ B[a + 1]! = B[b + 1]! ∧ B[a + 2]! = B[b + 2]! := by
  unfold key
  simp only [Prod.mk.injEq]
/-- more than l are the same: so are the three that end behind l -/
theorem key_of_len (B : List UInt8) (a d l : Nat) (hd : d ≤ a) (hl : 2 ≤ l) (h : l < len B a d) : key B (a - d + l - 2) = key B (a + l - 2) := by
  rw [key_eq]
  have e := fun j (hj : j < len B a d) => same_eq B a d 258 0 j (Nat.zero_le _) hj
  have e0 := e (l - 2) (by omega)
  have e1 := e (l - 1) (by omega)
  have e2 := e l h
  refine ⟨?_, ?_, ?_⟩
  · rw [show a - d + l - 2 = a + (l - 2) - d by omega, show a + l - 2 = a + (l - 2) by omega]; exact e0.symm
  · rw [show a - d + l - 2 + 1 = a + (l - 1) - d by omega, show a + l - 2 + 1 = a + (l - 1) by omega]; exact e1.symm
  · rw [show a - d + l - 2 + 2 = a + l - d by omega, show a + l - 2 + 2 = a + l by omega]; exact e2.symm
theorem len_nokey (B : List UInt8) (a d : Nat) (hd : d ≤ a) (h : key B (a - d) ≠ key B a) : len B a d < 3 := by
  rcases Nat.lt_or_ge (len B a d) 3 with h' | h'
  · exact h'
  · exact absurd (key_of_len B a d 2 hd (Nat.le_refl _) h') h
theorem clip_skip (B : List UInt8) (a k : Nat) : ∀ m, (∀ d, k < d → d ≤ k + m → len B a d < 3) → clip (best B a (k + m)) = clip (best B a k)
  | 0, _ => rfl
  | m + 1, h => by
    have ih := clip_skip B a k m (fun d h1 h2 => h d h1 (by omega))
    have hl := h (k + m + 1) (by omega) (by omega)
    rw [show k + (m + 1) = k + m + 1 by omega, best]
    split
    · rename_i hc
      rw [← ih]
      unfold clip
      rw [if_pos hl, if_pos (by omega)]
    · exact ih
theorem clip_two (p : Nat × Nat) : 2 ≤ (clip p).1 := by
  unfold clip
  split
  · exact Nat.le_refl _
  · omega
theorem clip_step (B : List UInt8) (a k L D : Nat) (h : (L, D) = clip (best B a k)) : clip (best B a (k + 1)) = if L < len B a (k + 1) then (len B a (k + 1), k + 1) else (L, D) := by
  rw [best]
  unfold clip at h ⊢
  split at h
  · rename_i h3
    simp only [Prod.mk.injEq] at h
    obtain ⟨rfl, rfl⟩ := h
    split
    · by_cases hl : len B a (k + 1) < 3
      · rw [if_pos hl, if_neg (by omega)]
      · rw [if_neg hl, if_pos (by omega)]
    · rw [if_neg (by omega)]
  · rename_i h3
    rw [← h] at h3 ⊢
    simp only at h3 ⊢
    split
    · rw [if_neg (by simp only; omega)]
    · rfl
theorem best_full (B : List UInt8) (a k : Nat) (ha : a ≤ B.length) (h : min 258 (B.length - a) ≤ (best B a k).1) : ∀ m, best B a (k + m) = best B a k
  | 0 => rfl
  | m + 1 => by
    rw [show k + (m + 1) = k + m + 1 by omega, best, best_full B a k ha h m, if_neg]
    have h1 := len_le B a (k + m + 1)
    have h2 := len_in B a (k + m + 1) ha
    omega
/-- as far as has been looked: no match can be longer -/
theorem clip_full (B : List UInt8) (a k L D : Nat) (ha : a + 3 ≤ B.length) (h : (L, D) = clip (best B a k)) (hL : min 258 (B.length - a) ≤ L) (m : Nat) : clip (best B a (k + m)) = (L, D) := by
  have hb : (best B a k).1 = L := by
    unfold clip at h
    split at h
    · simp only [Prod.mk.injEq] at h
      omega
    · rw [← h]
  rw [best_full B a k (by omega) (by omega) m, h]
/-- the state of the going back: L, D are what counts of the distances below the place z (-1: all) -/
def Back (B : List UInt8) (a : Nat) (z : Int) (L D : Nat) : Prop :=
  (z = -1 ∨ ∃ q : Nat, z = (q : Int) ∧ q < a ∧ q + 3 ≤ B.length ∧ key B q = key B a) ∧ (L, D) = clip (best B a (min ((a : Int) - z - 1).toNat 32768))
theorem back_start (B : List UInt8) (a : Nat) (ha : a + 3 ≤ B.length) : Back B a (prevI B a) 2 0 := by
  obtain ⟨h1, h2⟩ := prev_is B a
  refine ⟨h1, ?_⟩
  have e := clip_skip B a 0 (min ((a : Int) - prevI B a - 1).toNat 32768) (fun d hd1 hd2 => ?_)
  · rw [Nat.zero_add] at e
    rw [e]
    rfl
  · have hz : (-1 : Int) ≤ prevI B a := by rcases h1 with h | ⟨q, h, _⟩ <;> omega
    have hda : d ≤ a := by omega
    exact len_nokey B a d hda (h2 (a - d) (by omega) (by omega) (by omega))
theorem back_step (B : List UInt8) (a q L D : Nat) (ha : a + 3 ≤ B.length) (h : Back B a (q : Int) L D) (hq : a ≤ q + 32768) :
    Back B a (prevI B q) (if L < len B a (a - q) then len B a (a - q) else L) (if L < len B a (a - q) then a - q else D) := by
  obtain ⟨h0, h⟩ := h
  obtain ⟨q', hqq, hqa, hq3, hk⟩ : ∃ q' : Nat, (q : Int) = (q' : Int) ∧ q' < a ∧ q' + 3 ≤ B.length ∧ key B q' = key B a := by
    rcases h0 with h0 | h0
    · omega
    · exact h0
  obtain rfl : q = q' := by omega
  obtain ⟨h1, h2⟩ := prev_is B q
  have hz : (-1 : Int) ≤ prevI B q := by rcases h1 with h | ⟨q, h, _⟩ <;> omega
  have hz2 : prevI B q < (q : Int) := by rcases h1 with h | ⟨q, h, _⟩ <;> omega
  refine ⟨?_, ?_⟩
  · rcases h1 with h | ⟨r, hr1, hr2, hr3, hr4⟩
    · exact .inl h
    · exact .inr ⟨r, hr1, by omega, hr3, hr4.trans hk⟩
  · have e1 : min ((a : Int) - (q : Int) - 1).toNat 32768 = a - q - 1 := by omega
    rw [e1] at h
    have hs := clip_step B a (a - q - 1) L D h
    rw [show a - q - 1 + 1 = a - q by omega] at hs
    obtain ⟨m, hm⟩ : ∃ m, min ((a : Int) - prevI B q - 1).toNat 32768 = (a - q) + m := ⟨min ((a : Int) - prevI B q - 1).toNat 32768 - (a - q), by omega⟩
    rw [hm, clip_skip B a (a - q) m, hs]
    · split <;> rfl
    · intro d hd1 hd2
      have hda : d ≤ a := by omega
      exact len_nokey B a d hda (fun e => h2 (a - d) (by omega) (by omega) (by omega) (e.trans hk.symm))
theorem back_far (B : List UInt8) (a : Nat) (z : Int) (L D : Nat) (h : Back B a z L D) (hz : z < max 0 ((a : Int) - 32768)) : (L, D) = clip (find B a) := by
  obtain ⟨h0, h⟩ := h
  have : min ((a : Int) - z - 1).toNat 32768 = min a 32768 := by
    rcases h0 with h0 | ⟨q, h0, h1, _⟩ <;> omega
  rw [this] at h
  exact h
theorem back_full (B : List UInt8) (a : Nat) (z : Int) (L D : Nat) (ha : a + 3 ≤ B.length) (h : Back B a z L D) (hL : min 258 (B.length - a) ≤ L) : (L, D) = clip (find B a) := by
  obtain ⟨h0, h⟩ := h
  obtain ⟨k, hk⟩ : ∃ k, k = min ((a : Int) - z - 1).toNat 32768 := ⟨_, rfl⟩
  rw [← hk] at h
  have hle : k ≤ min a 32768 := by rcases h0 with h0 | ⟨q, h0, h1, _⟩ <;> omega
  have := clip_full B a k L D ha h hL (min a 32768 - k)
  rw [show k + (min a 32768 - k) = min a 32768 by omega] at this
  exact this.symm
theorem back_le (B : List UInt8) (a : Nat) (z : Int) (L D : Nat) (ha : a + 3 ≤ B.length) (h : Back B a z L D) : 2 ≤ L ∧ L ≤ 258 ∧ a + L ≤ B.length ∧ D ≤ 32768 := by
  obtain ⟨_, h⟩ := h
  have h2 := clip_two (best B a (min ((a : Int) - z - 1).toNat 32768))
  have h3 := best_le B a (min ((a : Int) - z - 1).toNat 32768)
  have h4 := best_in B a (by omega) (min ((a : Int) - z - 1).toNat 32768)
  rw [← h] at h2
  unfold clip at h
  split at h
  · simp only [Prod.mk.injEq] at h
    simp only at h2
    omega
  · rw [← h] at h3 h4
    simp only at h2 h3 h4
    omega
/-- the three that end behind L are others: no more than L are the same -/
theorem len_short (B : List UInt8) (a q L : Nat) (hq : q < a) (hL : 2 ≤ L) (h : key B (q + L - 2) ≠ key B (a + L - 2)) : ¬ L < len B a (a - q) := by
  intro hl
  have := key_of_len B a (a - q) L (by omega) hL hl
  rw [show a - (a - q) = q by omega] at this
  exact h this

theorem find_short (B : List UInt8) (a : Nat) (ha : a ≤ B.length) (h : ¬ a + 3 ≤ B.length) : (find B a).1 < 3 := by
  have := best_in B a ha (min a 32768)
  unfold find
  omega
theorem match_no (B : List UInt8) (a : Nat) (h : (find B a).1 < 3) : (matchR B a).2 = 0 := by
  unfold matchR clip
  split
  · rfl
  · rfl
theorem match_yes (B : List UInt8) (a : Nat) (ha : a ≤ B.length) (h : ¬ (find B a).1 < 3) : matchR B a = find B a ∧ 1 ≤ (find B a).2 := by
  have h3 : a + 3 ≤ B.length := by
    rcases Nat.lt_or_ge B.length (a + 3) with h' | h'
    · exact absurd (find_short B a ha (by omega)) h
    · exact h'
  unfold matchR clip
  rw [if_pos h3, if_neg h]
  exact ⟨rfl, (best_is B a _ (by unfold find at h; omega)).1⟩

/-- the ring: of each of the last 32768 places that were passed, where its three bytes stood ahead of it -/
def Ring (B : List UInt8) (a : Nat) (V : List Int) : Prop := V.length = min B.length 32768 ∧ ∀ q, q < a → a ≤ q + 32768 → q + 3 ≤ B.length → V[q % 32768]? = some (prevI B q)
theorem ring_zero (B : List UInt8) (V : List Int) (h : V.length = min B.length 32768) : Ring B 0 V := ⟨h, fun q hq => by omega⟩
theorem ring_step (B : List UInt8) (a : Nat) (V : List Int) (h : Ring B a V) (ha : a + 3 ≤ B.length) : Ring B (a + 1) (V.set (a % 32768) (prevI B a)) := by
  refine ⟨by rw [List.length_set]; exact h.1, fun q h1 h2 h3 => ?_⟩
  by_cases e : q = a
  · subst e
    rw [List.getElem?_set_self (by have := h.1; omega)]
  · rw [List.getElem?_set_ne (by omega)]
    exact h.2 q (by omega) (by omega) h3
theorem ring_stay (B : List UInt8) (a : Nat) (V : List Int) (h : Ring B a V) (ha : ¬ a + 3 ≤ B.length) : Ring B (a + 1) V :=
  ⟨h.1, fun q h1 h2 h3 => h.2 q (by omega) (by omega) h3⟩
theorem last_step (B : List UInt8) (a : Nat) (ha : a + 3 ≤ B.length) (k : Key) : lastF B (a + 1) k = if key B a = k then some a else lastF B a k := by
  rw [lastF]
  by_cases h : key B a = k
  · rw [if_pos ⟨ha, h⟩, if_pos h]
  · rw [if_neg (fun h' => h h'.2), if_neg h]
theorem last_stay (B : List UInt8) (a : Nat) (ha : ¬ a + 3 ≤ B.length) (k : Key) : lastF B (a + 1) k = lastF B a k := by
  rw [lastF, if_neg (fun h => ha h.1)]
theorem prev_bd (B : List UInt8) (a : Nat) : -1 ≤ prevI B a ∧ prevI B a < (a : Int) := by
  rcases (prev_is B a).1 with h | ⟨q, h, h1, _⟩ <;> omega
end Go.Proofs.YtgpkiijmembggaaGreatDoor.LzN
namespace Go.Proofs.YtgpkiijmembggaaGreatDoor.LzV
open LzM LzN

theorem pressF_len (B : List UInt8) : ∀ f i, i ≤ B.length → (pressF B f i).length ≤ B.length - i
  | 0, i, h => by simp [pressF]
  | f + 1, i, h => by
    rw [pressF]
    split
    · rename_i hlt
      split
      · have := pressF_len B f (i + 1) (by omega)
        rw [List.length_cons]
        omega
      · rename_i h3
        have hin := best_in B i h (min i 32768)
        have e : best B i (min i 32768) = find B i := rfl
        rw [e] at hin
        have := pressF_len B f (i + (find B i).1) hin
        rw [List.length_cons]
        omega
    · simp
theorem press_len (B : List UInt8) : (press B).length ≤ B.length := by
  have := pressF_len B B.length 0 (Nat.zero_le _)
  unfold press
  omega
/-- nothing less opens: the error is 4 -/
theorem open_short (B : List UInt8) (most : Int) (hm : most < (B.length : Int)) : ∀ f i, B.length ≤ i + f → i < B.length → openT most (B.take i) (pressF B f i) = .error 4
  | 0, i, h, hi => by omega
  | f + 1, i, h, hi => by
    rw [pressF, if_pos hi]
    have h1 : (B.take i).length = i := by rw [List.length_take]; omega
    split
    · rw [openT, if_neg (by simp [rightT, lit])]
      have hw : wide (lit B[i]!) = 1 := rfl
      rw [hw, h1]
      by_cases hc : ((i + 1 : Nat) : Int) > most
      · rw [if_pos hc]
      · rw [if_neg hc]
        have h3 : B.take i ++ [B[i]!] = B.take (i + 1) := by
          rw [getElem!_pos B i hi, List.take_append_getElem]
        have ha : addT (B.take i) (lit B[i]!) = B.take (i + 1) := by rw [addT, if_pos (show (lit B[i]!).l = 0 from rfl)]; exact h3
        rw [ha]
        by_cases hj : i + 1 < B.length
        · exact open_short B most hm f (i + 1) (by omega) hj
        · omega
    · rename_i hc
      obtain ⟨p, hp⟩ : ∃ p, p = find B i := ⟨_, rfl⟩
      rw [← hp] at hc ⊢
      have e1 : 1 ≤ p.2 ∧ p.1 = len B i p.2 := by rw [hp]; exact best_is B i _ (by rw [hp] at hc; unfold find at hc; omega)
      have e2 : p.1 ≤ 258 ∧ p.2 ≤ min i 32768 := by rw [hp]; exact best_le B i _
      have e3 : i + p.1 ≤ B.length := by rw [hp]; exact best_in B i (by omega) _
      have hl : (mat p.1 p.2).l ≠ 0 := by simp [mat]; omega
      have hr : rightT (mat p.1 p.2) ((B.take i).length : Nat) = true := by
        rw [h1, rightT, if_neg (by simp [mat]; omega)]
        simp [mat]
        omega
      have hw : wide (mat p.1 p.2) = p.1 := by rw [wide, if_neg hl]; simp [mat]
      have ha : addT (B.take i) (mat p.1 p.2) = B.take (i + p.1) := by
        rw [addT, if_neg hl]
        have := copy_take B i p.2 e1.1 (by omega) p.1 0 (by omega) (fun j _ hj => same_eq B i p.2 258 0 j (by omega) (by rw [e1.2] at hj; unfold len at hj; omega))
        simpa [mat] using this
      rw [openT, if_neg (by rw [hr]; simp), hw, h1]
      by_cases hcc : ((i + p.1 : Nat) : Int) > most
      · rw [if_pos hcc]
      · rw [if_neg hcc, ha]
        exact open_short B most hm f (i + p.1) (by omega) (by omega)
theorem open_press_short (B : List UInt8) (hB : 0 < B.length) : openT ((B.length : Int) - 1) [] (press B) = .error 4 := by
  have := open_short B ((B.length : Int) - 1) (by omega) B.length 0 (by omega) hB
  simpa [press] using this
/-- behind as many as are the same, within B and short of 258, they part -/
theorem same_end (B : List UInt8) (i d : Nat) : ∀ f n m, same B i d f n = m → m < n + f → ¬ (i + m < B.length ∧ B[i + m]! = B[i + m - d]!)
  | 0, n, m, h, hm => by unfold same at h; omega
  | f + 1, n, m, h, hm => by
    unfold same at h
    split at h
    · exact same_end B i d f (n + 1) m h (by omega)
    · rename_i hc
      rw [← h]
      exact hc
theorem len_end (B : List UInt8) (i d : Nat) (h : len B i d < 258) (hi : i + len B i d < B.length) : B[i + len B i d]! ≠ B[i + len B i d - d]! :=
  fun e => same_end B i d 258 0 (len B i d) rfl (by omega) ⟨hi, e⟩
/-- a token that bytes are pressed to, and what follows it -/
theorem pressF_cases (B : List UInt8) (f i : Nat) (t : Tok) (T : List Tok) (h : pressF B f i = t :: T) : ∃ f', f = f' + 1 ∧ i < B.length ∧
    ((t = lit B[i]! ∧ (find B i).1 < 3 ∧ T = pressF B f' (i + 1)) ∨ ∃ L D : Nat, t = mat L D ∧ 3 ≤ L ∧ L ≤ 258 ∧ 1 ≤ D ∧ D ≤ i ∧ D ≤ 32768 ∧ i + L ≤ B.length ∧ L = len B i D ∧ find B i = (L, D) ∧ T = pressF B f' (i + L)) := by
  match f, h with
  | 0, h => cases h
  | f + 1, h =>
    rw [pressF] at h
    split at h
    · rename_i hi
      refine ⟨f, rfl, hi, ?_⟩
      split at h
      · rename_i h3
        injection h with h1 h2
        exact .inl ⟨h1.symm, h3, h2.symm⟩
      · rename_i h3
        injection h with h1 h2
        have e1 : 1 ≤ (find B i).2 ∧ (find B i).1 = len B i (find B i).2 := best_is B i _ (by unfold find at h3; omega)
        have e2 : (find B i).1 ≤ 258 ∧ (find B i).2 ≤ min i 32768 := best_le B i _
        have e3 : i + (find B i).1 ≤ B.length := best_in B i (by omega) _
        exact .inr ⟨_, _, h1.symm, by omega, e2.1, e1.1, by omega, by omega, e3, e1.2, rfl, h2.symm⟩
    · cases h
theorem pressF_nil (B : List UInt8) (f i : Nat) (h : pressF B f i = []) (hi : B.length ≤ i + f) (hib : i ≤ B.length) : i = B.length := by
  match f, h with
  | 0, h => omega
  | f + 1, h =>
    rw [pressF] at h
    split at h
    · split at h <;> cases h
    · omega
/-- bytes of one kind: all of them are the same from any distance -/
theorem rep_len (n : Nat) (c : UInt8) (a d : Nat) (ha : a ≤ n) : len (List.replicate n c) a d = min 258 (n - a) := by
  have hat : ∀ j, j < n → (List.replicate n c)[j]! = c := fun j hj => by rw [getElem!_pos _ j (by simpa using hj)]; simp
  refine len_of _ a d _ (by omega) (fun j hj => ⟨by rw [List.length_replicate]; omega, by rw [hat _ (by omega), hat _ (by omega)]⟩) ?_
  rw [List.length_replicate]
  omega
theorem rep_find (n : Nat) (c : UInt8) (a : Nat) (h0 : 0 < a) (ha : a < n) : find (List.replicate n c) a = (min 258 (n - a), 1) := by
  have h1 : best (List.replicate n c) a 1 = (min 258 (n - a), 1) := by
    have e : best (List.replicate n c) a 1 = if (best (List.replicate n c) a 0).1 < len (List.replicate n c) a 1 then (len (List.replicate n c) a 1, 1) else best (List.replicate n c) a 0 := rfl
    rw [e, rep_len n c a 1 (by omega), if_pos (by show 0 < _; omega)]
  obtain ⟨m, hm⟩ : ∃ m, min a 32768 = 1 + m := ⟨min a 32768 - 1, by omega⟩
  unfold find
  rw [hm, best_full _ a 1 (by simp; omega) (by rw [h1]; simp) m, h1]
theorem rep_find0 (n : Nat) (c : UInt8) : find (List.replicate n c) 0 = (0, 0) := rfl
end Go.Proofs.YtgpkiijmembggaaGreatDoor.LzV
namespace Go.Proofs.YtgpkiijmembggaaGreatDoor
open Go.RowKit BitsM Mem Go.Lib
set_option linter.unusedVariables false
set_option maxRecDepth 100000

theorem pressF_fits (B : List UInt8) : ∀ f i, ∀ t ∈ LzM.pressF B f i, Fits t := by
  intro f
  induction f with
  | zero => intro i t h; simp [LzM.pressF] at h
  | succ f ih =>
    intro i t h
    cases hp : LzM.pressF B (f + 1) i with
    | nil => rw [hp] at h; cases h
    | cons s T =>
      obtain ⟨f', hf, hi, hc⟩ := LzV.pressF_cases B (f + 1) i s T hp
      obtain rfl : f = f' := by omega
      rw [hp] at h
      rcases List.mem_cons.1 h with h | h
      · subst h
        rcases hc with ⟨e, _, _⟩ | ⟨L, D, e, h1, h2, h3, h4, h5, _⟩
        · subst e
          rfl
        · subst e
          unfold Fits LzM.rightT LzM.mat
          rw [if_neg (by simp; omega)]
          simp
          omega
      · rcases hc with ⟨_, _, e⟩ | ⟨L, D, _, _, _, _, _, _, _, _, _, e⟩
        · rw [e] at h; exact ih _ t h
        · rw [e] at h; exact ih _ t h
theorem press_fits (B : List UInt8) : ∀ t ∈ LzM.press B, Fits t := pressF_fits B _ _
theorem tokBits_len (xs a ys b : List Nat) (t : LzM.Tok) : (DeM.tokBits xs a ys b t).length ≤ 160 := by
  have h1 := SyM.lens_wid (SyM.lenS t.l)
  have h2 := SyM.dists_wid (SyM.distS t.d)
  unfold DeM.tokBits DeM.codeBits
  split <;> simp only [List.length_append, List.length_reverse, low_length] <;> omega
theorem toksBits_len (a b : List Nat) (T : List LzM.Tok) : (DeM.toksBits a b T).length ≤ 160 * T.length + 64 := by
  have h := CoM.flat_len_le (DeM.tokBits (HuffM.codesL (CoM.ints a)) a (HuffM.codesL (CoM.ints b)) b) 160 T (fun t _ => tokBits_len _ _ _ _ t)
  unfold DeM.toksBits
  rw [List.length_append]
  unfold DeM.codeBits
  rw [List.length_reverse, low_length]
  omega
theorem weigh_le : ∀ (T : List LzM.Tok) (p : List Nat × List Nat) (N : Nat), (∀ x ∈ p.1, x ≤ N) → (∀ x ∈ p.2, x ≤ N) → (∀ x ∈ (SyM.weigh T p).1, x ≤ N + T.length) ∧ ∀ x ∈ (SyM.weigh T p).2, x ≤ N + T.length
  | [], p, N, h1, h2 => ⟨h1, h2⟩
  | t :: T, p, N, h1, h2 => by
    rw [List.length_cons, show N + (T.length + 1) = (N + 1) + T.length by omega]
    have hm : ∀ x ∈ p.2, x ≤ N + 1 := fun x hx => Nat.le_succ_of_le (h2 x hx)
    unfold SyM.weigh
    split
    · exact weigh_le T _ (N + 1) (bump_le h1).1 hm
    · exact weigh_le T _ (N + 1) (bump_le h1).1 (bump_le h2).1
theorem start_le : (∀ x ∈ SyM.start.1, x ≤ 1) ∧ ∀ x ∈ SyM.start.2, x ≤ 1 := by decide +kernel
theorem start_len : SyM.start.1.length = 286 ∧ SyM.start.2.length = 30 := by decide +kernel
/-- the lengths of a dynamic block's codes -/
theorem dyn_is (T : List LzM.Tok) : (DeM.dynX T).length = 286 ∧ (DeM.dynY T).length = 30 ∧ (∀ x ∈ DeM.dynX T, x ≤ 15) ∧ (∀ x ∈ DeM.dynY T, x ≤ 15) ∧ HuffM.cnt (SyM.weigh T SyM.start).1 ≤ 2 ^ 15 ∧ HuffM.cnt (SyM.weigh T SyM.start).2 ≤ 2 ^ 15 := by
  have hl := SyM.weigh_length T SyM.start
  rw [start_len.1, start_len.2] at hl
  have h1 : HuffM.cnt (SyM.weigh T SyM.start).1 ≤ 2 ^ 15 := by
    have h : HuffM.cnt (SyM.weigh T SyM.start).1 ≤ (SyM.weigh T SyM.start).1.length := List.countP_le_length
    omega
  have h2 : HuffM.cnt (SyM.weigh T SyM.start).2 ≤ 2 ^ 15 := by
    have h : HuffM.cnt (SyM.weigh T SyM.start).2 ≤ (SyM.weigh T SyM.start).2.length := List.countP_le_length
    omega
  exact ⟨by unfold DeM.dynX; rw [HuffM.lens_len]; exact hl.1, by unfold DeM.dynY; rw [HuffM.lens_len]; exact hl.2,
    CoM.lens_most (by omega) _ _ (Nat.le_refl _) h1, CoM.lens_most (by omega) _ _ (Nat.le_refl _) h2, h1, h2⟩
/-- how many bits tell a dynamic block's codes at most -/
theorem dyn_put (T : List LzM.Tok) : (CoM.putBits (CoM.trimL (DeM.dynX T) 257) (CoM.trimL (DeM.dynY T) 1)).length ≤ 5000 := by
  obtain ⟨h1, h2, h3, h4, _⟩ := dyn_is T
  have t1 := CoM.trim_len (L := DeM.dynX T) (m := 257) (by omega)
  have t2 := CoM.trim_len (L := DeM.dynY T) (m := 1) (by omega)
  exact CoM.putBits_len (by omega) (by omega) (by omega) (CoM.trim_mem h3) (CoM.trim_mem h4)
end Go.Proofs.YtgpkiijmembggaaGreatDoor
namespace Go.Proofs.YtgpkiijmembggaaGreatDoor
open Go.RowKit BitsM Mem Go.Lib
attribute [local go_sem ↓] Go.wp_at_zero Go.wp_at_succ
set_option linter.unusedVariables false
set_option maxRecDepth 100000

theorem storedB_len (B : List UInt8) (h : B.length ≤ 65535) : (DeM.storedB B).length = B.length + 5 := by
  rw [DeM.storedB_less B h, List.length_append]
  show 5 + B.length = _
  omega
theorem fixed_len (B : List UInt8) : (DeM.fixedBits B).length ≤ 160 * B.length + 67 := by
  have h1 := toksBits_len SyM.fixA SyM.fixB (LzM.press B)
  have h2 := LzV.press_len B
  unfold DeM.fixedBits
  rw [List.length_append]
  show 3 + _ ≤ _
  omega
theorem dyn_len (B : List UInt8) : (DeM.dynBits B).length ≤ 160 * B.length + 5067 := by
  have h1 := toksBits_len (DeM.dynX (LzM.press B)) (DeM.dynY (LzM.press B)) (LzM.press B)
  have h2 := LzV.press_len B
  have h3 := dyn_put (LzM.press B)
  unfold DeM.dynBits
  rw [List.length_append, List.length_append]
  show 3 + _ + _ ≤ _
  omega
end Go.Proofs.YtgpkiijmembggaaGreatDoor
