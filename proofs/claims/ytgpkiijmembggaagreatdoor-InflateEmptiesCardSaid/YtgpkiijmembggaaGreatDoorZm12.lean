/-
  Layer 10, plain: the front of what is pressed isn't opened.
  Layer 10, plain: blocks are read by their own bits alone; the front of what is opened isn't; no answer is for want of fuel.
  Slices of slices: what a slice expression answers, in letters (written by gen_cut.py).
  Taking a loop's body out of a function's code, by a region that it holds; what the program is does not matter here.
-/
import Derived.Test.YtgpkiijmembggaaGreatDoorZm11
import Derived.Test.YtgpkiijmembggaaGreatDoorZm04
import Derived.WalkKit
namespace Go.Proofs.YtgpkiijmembggaaGreatDoor.InM
set_option linter.unusedVariables false
open BitsM CoM HuffM LzM DeM

theorem lens19_ext (X R R' : List Bool) : ∀ m, 3 * m ≤ X.length → lens19 (X ++ R) m = lens19 (X ++ R') m
  | 0, _ => rfl
  | i + 1, h => by
    rw [lens19, lens19, lens19_ext X R R' i (by omega)]
    have e : ∀ S : List Bool, ((X ++ S).drop (3 * i)).take 3 = ((X.drop (3 * i))).take 3 := fun S => by
      rw [List.drop_append_of_le_length (by omega), List.take_append_of_le_length (by rw [List.length_drop]; omega)]
    rw [e R, e R']
theorem step8_ext {len : List Nat} (hr : rightB (ints len) = true) (hl : len.length ≤ 1000) (h15 : ∀ x ∈ len, x ≤ 15) {N : Nat} {l : List Nat} {bs : List Bool} {l' : List Nat} {r : List Bool} (h : step8 len N l bs = some (l', r)) :
    ∃ u, bs = u ++ r ∧ 1 ≤ u.length ∧ ∀ R, step8 len N l (u ++ R) = some (l', R) := by
  unfold step8 at h
  simp only at h
  split at h
  · cases h
  · rename_i hn
    obtain ⟨s, hs, h0, hnx, hbs, hle⟩ := sym_hit hn
    have hd : bs.drop (nextS (ints len) (bb bs)).2.toNat = bs.drop len[s]! := by rw [hnx]; rfl
    have hs1 : (nextS (ints len) (bb bs)).1.toNat = s := by rw [hnx]; rfl
    rw [hd, hs1] at h
    obtain ⟨c, hc⟩ : ∃ c, c = (low (codesL (ints len))[s]! len[s]!).reverse := ⟨_, rfl⟩
    have hcl : c.length = len[s]! := by rw [hc, List.length_reverse, low_length]
    rw [← hc] at hbs
    obtain ⟨r1, hr1⟩ : ∃ r1, r1 = bs.drop len[s]! := ⟨_, rfl⟩
    rw [← hr1] at hbs h
    have hread : ∀ R, nextS (ints len) (bb (c ++ R)) = ((s : Int), (len[s]! : Int)) := fun R => by
      have h1 := read_code (L := ints len) (by
        have := cod_le (ints len) 15
        rw [ints_len] at this
        show (cod _ 15).length ≤ 1000
        omega) hr (s := s) (k := len[s]!) (by rw [ints_len]; exact hs) (by rw [ints_getD, getD_bang]) h0 R
      rw [hc, getD_bang (codesL (ints len))]
      exact h1
    have go : ∀ R, step8 len N l (c ++ R) = (if s < 16 then some (l ++ [s], R) else if s = 16 ∧ l = [] then none else if R.length < sizeOf8 s then none else
        if N < l.length + (leastOf8 s + num (R.take (sizeOf8 s))) then none else some (l ++ List.replicate (leastOf8 s + num (R.take (sizeOf8 s))) (if s = 16 then l.getLastD 0 else 0), R.drop (sizeOf8 s))) := fun R => by
      unfold step8
      simp only [hread R, Int.toNat_natCast]
      rw [if_neg (by omega), List.drop_left' hcl]
    split at h
    · rename_i h16
      injection h with h
      injection h with h2 h3
      subst h3
      exact ⟨c, hbs, by omega, fun R => by rw [go R, if_pos h16, h2]⟩
    · rename_i h16
      split at h
      · cases h
      · rename_i hl0
        split at h
        · cases h
        · rename_i hsz
          split at h
          · cases h
          · rename_i hN
            injection h with h
            injection h with h2 h3
            have htl : (r1.take (sizeOf8 s)).length = sizeOf8 s := by rw [List.length_take]; omega
            refine ⟨c ++ r1.take (sizeOf8 s), by rw [List.append_assoc, ← h3, List.take_append_drop]; exact hbs, by rw [List.length_append]; omega, fun R => ?_⟩
            rw [List.append_assoc, go, if_neg h16, if_neg hl0, if_neg (by rw [List.length_append]; omega), List.take_left' htl, List.drop_left' htl, if_neg hN, h2]
theorem tells_ext {len : List Nat} (hr : rightB (ints len) = true) (hl : len.length ≤ 1000) (h15 : ∀ x ∈ len, x ≤ 15) (N : Nat) : ∀ (f : Nat) (l : List Nat) (bs : List Bool) (l' : List Nat) (r : List Bool), tells len N f l bs = some (l', r) →
    ∃ u, bs = u ++ r ∧ ∀ R, tells len N f l (u ++ R) = some (l', R)
  | 0, l, bs, l', r, h => by
    unfold tells at h
    split at h
    · rename_i hN
      injection h with h
      injection h with h1 h2
      exact ⟨[], h2, fun R => by unfold tells; rw [if_pos hN, h1]; rfl⟩
    · cases h
  | f + 1, l, bs, l', r, h => by
    unfold tells at h
    split at h
    · rename_i hN
      injection h with h
      injection h with h1 h2
      exact ⟨[], h2, fun R => by unfold tells; rw [if_pos hN, h1]; rfl⟩
    · rename_i hN
      split at h
      · cases h
      · rename_i l1 r1 h1
        obtain ⟨u1, e1, _, k1⟩ := step8_ext hr hl h15 h1
        obtain ⟨u2, e2, k2⟩ := tells_ext hr hl h15 N f l1 r1 l' r h
        refine ⟨u1 ++ u2, by rw [e1, e2, List.append_assoc], fun R => ?_⟩
        unfold tells
        rw [if_neg hN, List.append_assoc, k1]
        exact k2 R
theorem get_ext {bs : List Bool} {a b : List Nat} {r : List Bool} (h : getB bs = some (a, b, r)) : ∃ u, bs = u ++ r ∧ ∀ R, getB (u ++ R) = some (a, b, R) := by
  unfold getB at h
  split at h
  · cases h
  · rename_i h14
    simp only at h
    split at h
    · cases h
    · rename_i hc
      split at h
      · cases h
      · rename_i hr
        have hr' : rightB (ints (lens19 (bs.drop 14) (num ((bs.drop 10).take 4) + 4))) = true := by
          cases hh : rightB (ints (lens19 (bs.drop 14) (num ((bs.drop 10).take 4) + 4))) with
          | true => rfl
          | false => exact absurd hh hr
        split at h
        · cases h
        · rename_i l rest ht
          split at h
          · cases h
          · rename_i h256
            injection h with h
            injection h with h1 h
            injection h with h2 h3
            subst h3
            obtain ⟨m, hm⟩ : ∃ m, m = num ((bs.drop 10).take 4) + 4 := ⟨_, rfl⟩
            rw [← hm] at hc hr' ht
            obtain ⟨b1, hb1⟩ : ∃ b1, b1 = bs.drop 14 := ⟨_, rfl⟩
            rw [← hb1] at hc hr' ht
            obtain ⟨u, e, k⟩ := tells_ext hr' (by rw [lens19_len]; omega) (fun x hx => by have := lens19_le _ _ x hx; omega) _ _ _ _ _ _ ht
            have hx14 : (bs.take 14).length = 14 := by rw [List.length_take]; omega
            have hx3 : (b1.take (3 * m)).length = 3 * m := by rw [List.length_take]; omega
            refine ⟨bs.take 14 ++ (b1.take (3 * m) ++ u), by rw [List.append_assoc, List.append_assoc, ← e, List.take_append_drop, hb1, List.take_append_drop], fun R => ?_⟩
            obtain ⟨Y, hY⟩ : ∃ Y, Y = b1.take (3 * m) ++ u ++ R := ⟨_, rfl⟩
            have hYl : 3 * m ≤ Y.length := by rw [hY, List.append_assoc, List.length_append]; omega
            have hl19 : lens19 Y m = lens19 b1 m := by
              have h1 := lens19_ext (b1.take (3 * m)) (u ++ R) (b1.drop (3 * m)) m (by omega)
              rw [List.take_append_drop] at h1
              rw [hY, List.append_assoc]
              exact h1
            have hdY : Y.drop (3 * m) = u ++ R := by rw [hY, List.append_assoc]; exact List.drop_left' hx3
            have t14 : ∀ i n, i + n ≤ 14 → ((bs.take 14 ++ Y).drop i).take n = (bs.drop i).take n := fun i n hin => by
              rw [List.drop_append_of_le_length (by omega), List.take_append_of_le_length (by rw [List.length_drop]; omega), List.drop_take, List.take_take]
              congr 1
              omega
            have t0 := t14 0 5 (by omega)
            rw [List.drop_zero, List.drop_zero] at t0
            rw [List.append_assoc, ← hY]
            unfold getB
            rw [if_neg (by rw [List.length_append]; omega)]
            simp only
            rw [t0, t14 5 5 (by omega), t14 10 4 (by omega), List.drop_left' hx14, ← hm, if_neg (by
              rintro (h | h | h)
              · exact hc (.inl h)
              · exact hc (.inr (.inl h))
              · omega), hl19, if_neg (by rw [hr']; decide), hdY, k R]
            simp only
            rw [if_neg h256, h1, h2]
/-- what is told has as many lengths as it says -/
theorem tells_le {len : List Nat} (h18 : len.length ≤ 19) (N : Nat) : ∀ (f : Nat) (l : List Nat) (bs : List Bool) (l' : List Nat) (r : List Bool), (∀ x ∈ l, x ≤ 15) → l.length ≤ N → tells len N f l bs = some (l', r) → (∀ x ∈ l', x ≤ 15) ∧ l'.length = N ∧ r.length ≤ bs.length
  | 0, l, bs, l', r, hx, hN, h => by
    unfold tells at h
    split at h
    · injection h with h
      injection h with h1 h2
      subst h1 h2
      exact ⟨hx, by omega, Nat.le_refl _⟩
    · cases h
  | f + 1, l, bs, l', r, hx, hN, h => by
    unfold tells at h
    split at h
    · injection h with h
      injection h with h1 h2
      subst h1 h2
      exact ⟨hx, by omega, Nat.le_refl _⟩
    · rename_i hlt
      split at h
      · cases h
      · rename_i l1 r1 h1
        have key : (∀ x ∈ l1, x ≤ 15) ∧ l1.length ≤ N ∧ r1.length ≤ bs.length := by
          unfold step8 at h1
          simp only at h1
          split at h1
          · cases h1
          · split at h1
            · rename_i h16
              injection h1 with h1
              injection h1 with h1 h2
              subst h1 h2
              refine ⟨fun x hx2 => ?_, by rw [List.length_append]; show _ + 1 ≤ _; omega, by rw [List.length_drop]; omega⟩
              rcases List.mem_append.1 hx2 with h | h
              · exact hx x h
              · simp only [List.mem_singleton] at h
                omega
            · split at h1
              · cases h1
              · split at h1
                · cases h1
                · split at h1
                  · cases h1
                  · rename_i hn2
                    injection h1 with h1
                    injection h1 with h1 h2
                    subst h1 h2
                    refine ⟨fun x hx2 => ?_, by rw [List.length_append, List.length_replicate]; omega, by rw [List.length_drop, List.length_drop]; omega⟩
                    rcases List.mem_append.1 hx2 with h | h
                    · exact hx x h
                    · rw [List.eq_of_mem_replicate h]
                      split
                      · rw [List.getLastD_eq_getLast?]
                        cases hg : l.getLast? with
                        | none => exact Nat.zero_le _
                        | some v => exact hx v (List.mem_of_getLast? hg)
                      · exact Nat.zero_le _
        obtain ⟨a1, a2, a3⟩ := tells_le h18 N f l1 r1 l' r key.1 key.2.1 h
        exact ⟨a1, a2, by omega⟩
theorem get_le {bs : List Bool} {a b : List Nat} {r : List Bool} (h : getB bs = some (a, b, r)) : a.length ≤ 286 ∧ b.length ≤ 30 ∧ (∀ x ∈ a, x ≤ 15) ∧ (∀ x ∈ b, x ≤ 15) ∧ r.length ≤ bs.length := by
  unfold getB at h
  split at h
  · cases h
  · simp only at h
    split at h
    · cases h
    · rename_i hc
      split at h
      · cases h
      · split at h
        · cases h
        · rename_i l rest ht
          split at h
          · cases h
          · injection h with h
            injection h with h1 h
            injection h with h2 h3
            obtain ⟨k1, k2, k3⟩ := tells_le (by rw [lens19_len]; omega) _ _ _ _ _ _ (fun x hx => by cases hx) (Nat.zero_le _) ht
            rw [List.length_drop, List.length_drop] at k3
            subst h1 h2 h3
            refine ⟨by rw [List.length_take]; omega, by rw [List.length_drop]; omega, fun x hx => k1 x (List.mem_of_mem_take hx), fun x hx => k1 x (List.mem_of_mem_drop hx), by omega⟩
end Go.Proofs.YtgpkiijmembggaaGreatDoor.InM
namespace Go.Proofs.YtgpkiijmembggaaGreatDoor.InM
set_option linter.unusedVariables false
open BitsM CoM HuffM LzM DeM

theorem coded_ext {a b : List Nat} (la : a.length ≤ 1000) (lb : b.length ≤ 1000) (a15 : ∀ x ∈ a, x ≤ 15) (b15 : ∀ x ∈ b, x ≤ 15) (most : Int) (out : List UInt8) : Ext 0 (codedR a b most out) := by
  intro bs B r h
  unfold codedR at h
  split at h
  · cases h
  · rename_i hc
    have K : Okay a b := {
      ra := by cases hh : rightB (ints a) with
        | true => rfl
        | false => exact absurd (.inl hh) hc
      rb := fun hn => by cases hh : rightB (ints b) with
        | true => rfl
        | false => exact absurd (.inr ⟨hn, hh⟩) hc
      la := la
      lb := lb
      a15 := a15
      b15 := b15 }
    obtain ⟨u, e, k⟩ := toks_ext K most _ _ _ _ _ h
    refine ⟨u, e, Nat.zero_le _, fun R hR => ?_⟩
    unfold codedR
    rw [if_neg hc]
    exact k R hR _ (by rw [List.length_append]; omega)
theorem stored_ext (most : Int) (out : List UInt8) : Ext 0 (storedR most out) := by
  intro bs B r h
  unfold storedR at h
  simp only at h
  split at h
  · cases h
  · rename_i h1
    split at h
    · cases h
    · rename_i h2
      split at h
      · cases h
      · rename_i h3
        split at h
        · cases h
        · rename_i h4
          injection h with h
          injection h with h5 h6
          obtain ⟨p, hp⟩ : ∃ p, p = bs.length % 8 := ⟨_, rfl⟩
          rw [← hp] at h1 h2 h3 h4 h5 h6
          obtain ⟨n, hn⟩ : ∃ n, n = num ((bs.drop p).take 16) := ⟨_, rfl⟩
          rw [← hn] at h2 h3 h4 h5 h6
          have hpl : (bs.take p).length = p := by rw [List.length_take]; omega
          have hl : bs.length = p + 32 + 8 * n + r.length := by
            rw [← h6, List.length_drop, List.length_drop, List.length_drop]
            rw [List.length_drop, List.length_drop] at h4
            rw [List.length_drop] at h1
            omega
          refine ⟨bs.take (p + 32 + 8 * n), by
            rw [← h6, List.drop_drop, List.drop_drop]
            conv => lhs; rw [← List.take_append_drop (p + 32 + 8 * n) bs]
            congr 1
            congr 1
            omega, Nat.zero_le _, fun R hR => ?_⟩
          obtain ⟨U, hU⟩ : ∃ U, U = bs.take (p + 32 + 8 * n) := ⟨_, rfl⟩
          have hUl : U.length = p + 32 + 8 * n := by rw [hU, List.length_take]; omega
          have hd : ∀ i k, i + k ≤ p + 32 + 8 * n → ((U ++ R).drop i).take k = (bs.drop i).take k := fun i k hik => by
            rw [hU, List.drop_append_of_le_length (by rw [List.length_take]; omega), List.take_append_of_le_length (by rw [List.length_drop, List.length_take]; omega), List.drop_take, List.take_take]
            congr 1
            omega
          have hm : (U ++ R).length % 8 = p := by rw [List.length_append, hUl]; omega
          have hdR : (U ++ R).drop (p + 32 + 8 * n) = R := List.drop_left' hUl
          rw [← hU]
          unfold storedR
          simp only [hm]
          rw [if_neg (by rw [List.length_drop, List.length_append]; omega), hd p 16 (by omega), ← hn, List.drop_drop, hd (p + 16) 16 (by omega)]
          rw [List.drop_drop] at h2
          rw [if_neg h2, if_neg h3, List.drop_drop, if_neg (by rw [List.length_drop, List.length_append]; omega), hd (p + 32) (8 * n) (by omega), List.drop_drop, hdR]
          rw [List.drop_drop] at h5
          rw [h5]
theorem fix_15 : (∀ x ∈ SyM.fixA, x ≤ 15) ∧ ∀ x ∈ SyM.fixB, x ≤ 15 := by decide +kernel
theorem kind_ext (k : Nat) (most : Int) (out : List UInt8) : Ext 0 (kindR k most out) := by
  intro bs B r h
  unfold kindR at h
  by_cases k0 : k = 0
  · rw [if_pos k0] at h
    obtain ⟨u, e, l, g⟩ := stored_ext most out _ _ _ h
    exact ⟨u, e, l, fun R hR => by unfold kindR; rw [if_pos k0]; exact g R hR⟩
  · rw [if_neg k0] at h
    by_cases k1 : k = 1
    · rw [if_pos k1] at h
      obtain ⟨u, e, l, g⟩ := coded_ext (by decide +kernel) (by decide +kernel) fix_15.1 fix_15.2 most out _ _ _ h
      exact ⟨u, e, l, fun R hR => by unfold kindR; rw [if_neg k0, if_pos k1]; exact g R hR⟩
    · rw [if_neg k1] at h
      by_cases k2 : k = 2
      · rw [if_pos k2] at h
        cases hg : getB bs with
        | none => rw [hg] at h; cases h
        | some p =>
          obtain ⟨a, b, r0⟩ := p
          rw [hg] at h
          simp only at h
          obtain ⟨g1, g2, g3, g4, _⟩ := get_le hg
          obtain ⟨u1, e1, k1'⟩ := get_ext hg
          obtain ⟨u, e, _, g⟩ := coded_ext (by omega) (by omega) g3 g4 most out _ _ _ h
          refine ⟨u1 ++ u, by rw [e1, e, List.append_assoc], Nat.zero_le _, fun R hR => ?_⟩
          unfold kindR
          rw [if_neg k0, if_neg k1, if_pos k2, List.append_assoc, k1']
          exact g R hR
      · rw [if_neg k2] at h
        cases h
theorem block_ext (most : Int) (out : List UInt8) {bs : List Bool} {l : Bool} {B : List UInt8} {r : List Bool} (h : blockR most out bs = .ok (l, B, r)) :
    ∃ u, bs = u ++ r ∧ 3 ≤ u.length ∧ ∀ R, R.length % 8 = r.length % 8 → blockR most out (u ++ R) = .ok (l, B, R) := by
  have h3 : ¬ bs.length < 3 := by
    intro h3
    unfold blockR at h
    rw [if_pos h3] at h
    cases h
  obtain ⟨x, y, z, S, rfl⟩ : ∃ x y z S, bs = x :: y :: z :: S := by
    match bs, h3 with
    | x :: y :: z :: S, _ => exact ⟨x, y, z, S, rfl⟩
    | [], h3 => simp at h3
    | [_], h3 => simp at h3
    | [_, _], h3 => simp at h3
  rw [block_cons] at h
  cases hk : kindR (num [y, z]) most out S with
  | error e => rw [hk] at h; cases h
  | ok p =>
    obtain ⟨o, r1⟩ := p
    rw [hk] at h
    have h : Except.ok (x, o, r1) = Except.ok (l, B, r) := h
    injection h with h
    injection h with h4 h
    injection h with h5 h6
    subst h4 h5 h6
    obtain ⟨u, e, _, g⟩ := kind_ext _ most out _ _ _ hk
    refine ⟨x :: y :: z :: u, by rw [e]; rfl, by simp only [List.length_cons]; omega, fun R hR => ?_⟩
    rw [List.cons_append, List.cons_append, List.cons_append, block_cons, g R hR]
    rfl
theorem blocks_ext (most : Int) : ∀ (f : Nat) (out : List UInt8) (bs : List Bool) (B : List UInt8) (r : List Bool), blocksR most f out bs = .ok (B, r) →
    ∃ u, bs = u ++ r ∧ ∀ R, R.length % 8 = r.length % 8 → ∀ f', u.length ≤ f' → blocksR most f' out (u ++ R) = .ok (B, R)
  | 0, out, bs, B, r, h => by unfold blocksR at h; cases h
  | f + 1, out, bs, B, r, h => by
    unfold blocksR at h
    split at h
    · cases h
    · rename_i o r1 h1
      injection h with h
      injection h with h2 h3
      subst h2 h3
      obtain ⟨u, e, l, k⟩ := block_ext most out h1
      refine ⟨u, e, fun R hR f' hf => ?_⟩
      obtain ⟨g, rfl⟩ : ∃ g, f' = g + 1 := ⟨f' - 1, by omega⟩
      unfold blocksR
      rw [k R hR]
    · rename_i o r1 h1
      obtain ⟨u, e, l, k⟩ := block_ext most out h1
      obtain ⟨u2, e2, k2⟩ := blocks_ext most f o r1 B r h
      refine ⟨u ++ u2, by rw [e, e2, List.append_assoc], fun R hR f' hf => ?_⟩
      rw [List.length_append] at hf
      obtain ⟨g, rfl⟩ : ∃ g, f' = g + 1 := ⟨f' - 1, by omega⟩
      unfold blocksR
      rw [List.append_assoc, k _ (by rw [e2]; simp only [List.length_append]; omega)]
      exact k2 R hR g (by omega)
/-- the front of what one block tells isn't opened -/
theorem open_cut (W B : List UInt8) (hB : B.length ≤ 65535) (hW : W = storedB B ∨ W = pack (fixedBits B) ∨ W = pack (dynBits B)) (c : Nat) (hc : c < W.length) : ∀ x, openP (W.take c) (B.length : Int) ≠ .ok x := by
  intro x h
  unfold openP at h
  split at h
  · cases h
  · rename_i o r hb
    obtain ⟨u, e, k⟩ := blocks_ext _ _ _ _ _ _ hb
    obtain ⟨pad, hp, hf⟩ := way_block W B hB hW (B.length : Int) [] (by simp) [] rfl
    have hs : bitsOf W = u ++ (r ++ bitsOf (W.drop c)) := by
      conv => lhs; rw [← List.take_append_drop c W]
      rw [bitsOf_append, e, List.append_assoc]
    have h1 := k (r ++ bitsOf (W.drop c)) (by rw [List.length_append, bitsOf_length]; omega) (u.length + 1) (by omega)
    rw [← hs] at h1
    rw [List.append_nil, List.append_nil] at hf
    unfold blocksR at h1
    rw [hf] at h1
    injection h1 with h1
    injection h1 with _ h1
    have h2 := congrArg List.length h1
    rw [List.length_append, bitsOf_length, List.length_drop] at h2
    omega
theorem open_long (W B : List UInt8) (h0 : 0 < B.length) (hB : B.length ≤ 65535) (hW : W = storedB B ∨ W = pack (fixedBits B) ∨ W = pack (dynBits B)) : openP W ((B.length : Int) - 1) = .error 4 := by
  unfold openP
  rw [blocksR, way_long W B h0 hB hW]
theorem block_fuel0 {most : Int} {out : List UInt8} {bs : List Bool} (h : blockR most out bs = .error 0) : False := by
  have coded0 : ∀ {a b : List Nat} {bs : List Bool}, codedR a b most out bs = .error 0 → False := fun {a b bs} h => by
    unfold codedR at h
    split at h
    · cases h
    · exact toks_fuel0 a b most _ out bs (by omega) h
  have kind0 : ∀ {k : Nat} {bs : List Bool}, kindR k most out bs = .error 0 → False := fun {k bs} h => by
    unfold kindR at h
    split at h
    · unfold storedR at h
      simp only at h
      split at h
      · cases h
      · split at h
        · cases h
        · split at h
          · cases h
          · split at h <;> cases h
    · split at h
      · exact coded0 h
      · split at h
        · split at h
          · cases h
          · exact coded0 h
        · cases h
  unfold blockR at h
  split at h
  · cases h
  · cases hk : kindR (num ((bs.drop 1).take 2)) most out (bs.drop 3) with
    | error e =>
      rw [hk] at h
      have h : Except.error e = Except.error 0 := h
      injection h with h
      subst h
      exact kind0 hk
    | ok p =>
      obtain ⟨o, r1⟩ := p
      rw [hk] at h
      cases h
theorem blocks_fuel0 (most : Int) : ∀ (f : Nat) (out : List UInt8) (bs : List Bool), bs.length < f → blocksR most f out bs ≠ .error 0
  | 0, _, _, h => by omega
  | f + 1, out, bs, h => by
    intro he
    unfold blocksR at he
    split at he
    · rename_i e h1
      injection he with he
      subst he
      exact block_fuel0 h1
    · cases he
    · rename_i o r h1
      obtain ⟨u, e, l, _⟩ := block_ext most out h1
      have := congrArg List.length e
      rw [List.length_append] at this
      exact blocks_fuel0 most f o r (by omega) he
theorem open_not0 (B : List UInt8) (most : Int) : openP B most ≠ .error 0 := by
  intro h
  unfold openP at h
  split at h
  · rename_i e h1
    injection h with h
    subst h
    exact blocks_fuel0 most _ [] _ (by rw [bitsOf_length]; omega) h1
  · cases h
end Go.Proofs.YtgpkiijmembggaaGreatDoor.InM
namespace Go.Proofs.YtgpkiijmembggaaGreatDoor
open Go.RowKit Mem Go.Lib

/-- what is cut out of a slice -/
def cutAt (A : Option Addr) (c f : Nat) : Option Addr := if c = f then A else A.map (·.add f)
theorem cutAt_zero (A : Option Addr) (c : Nat) : cutAt A c 0 = A := by
  unfold cutAt
  split
  · rfl
  · cases A with
    | none => rfl
    | some ad => obtain ⟨b, o, s⟩ := ad; cases s <;> simp [Addr.add]
theorem rd_cut {w : World} {A : Option Addr} {n c : Nat} {xs : List Value} (h : Rd w A n xs) {f y : Nat} (hf : f ≤ y) (hy : y ≤ n) (hn : n ≤ c) : Rd w (cutAt A c f) (y - f) ((xs.take y).drop f) := h.cut hf hy hn
theorem rd_to {w : World} {A : Option Addr} {n : Nat} {xs : List Value} (h : Rd w A n xs) {y : Nat} (hy : y ≤ n) : Rd w A y (xs.take y) := by
  have h2 := h.cut (k := 0) (m := y) (cap := n + 1) (by omega) hy (by omega)
  rw [show (if n + 1 = 0 then A else A.map (·.add 0)) = A from cutAt_zero A (n + 1)] at h2
  exact h2
theorem rd_from {w : World} {A : Option Addr} {n c : Nat} {xs : List Value} (h : Rd w A n xs) {f : Nat} (hf : f ≤ n) (hn : n ≤ c) : Rd w (cutAt A c f) (n - f) (xs.drop f) := by
  have h2 := rd_cut h hf (Nat.le_refl n) hn
  rwa [List.take_of_length_le (by rw [h.1]; exact Nat.le_refl _)] at h2
theorem cutAt_blk {A : Option Addr} {c f : Nat} {ad : Addr} (h : cutAt A c f = some ad) : ∃ a, A = some a ∧ a.block = ad.block := by
  unfold cutAt at h
  split at h
  · exact ⟨ad, h, rfl⟩
  · cases A with
    | none => cases h
    | some a =>
      injection h with h
      exact ⟨a, rfl, by rw [← h, add_block]⟩
theorem run_cutB (A : Option Addr) (n c f y : Nat) (hf : f ≤ y) (hy : y ≤ n) (hn : n ≤ c) (fi yi : Int) (ef : fi = (f : Int)) (ey : yi = (y : Int)) (w' : World) :
    (Instr.sliceAt 22 (.slice A n c) (some (.int .i64 fi)) (some (.int .i64 yi)) none).run Tryz.prog w' = .ok (.slice (cutAt A c f) (y - f) (c - f)) w' := by
  subst ef ey
  unfold cutAt
  cases A with
  | none =>
    go_simp
    intro h
    omega
  | some ad =>
    go_simp
    intro h
    omega
theorem run_toB (A : Option Addr) (n c y : Nat) (hy : y ≤ n) (hn : n ≤ c) (yi : Int) (ey : yi = (y : Int)) (w' : World) :
    (Instr.sliceAt 22 (.slice A n c) none (some (.int .i64 yi)) none).run Tryz.prog w' = .ok (.slice A y c) w' := by
  subst ey
  have h0 := cutAt_zero A c
  unfold cutAt at h0
  cases A with
  | none =>
    go_simp
    intro h
    omega
  | some ad =>
    simp only [Option.map_some] at h0
    go_simp
    try (rw [h0])
    try (intro h; omega)
    try (refine ⟨fun h => ?_, fun h => ?_⟩ <;> omega)
theorem run_fromB (A : Option Addr) (n c f : Nat) (hf : f ≤ n) (fi : Int) (ef : fi = (f : Int)) (w' : World) :
    (Instr.sliceAt 22 (.slice A n c) (some (.int .i64 fi)) none none).run Tryz.prog w' = .ok (.slice (cutAt A c f) (n - f) (c - f)) w' := by
  subst ef
  unfold cutAt
  cases A with
  | none =>
    go_simp
    try (intro h; omega)
  | some ad =>
    go_simp
    try (intro h; omega)
theorem run_cutI (A : Option Addr) (n c f y : Nat) (hf : f ≤ y) (hy : y ≤ n) (hn : n ≤ c) (fi yi : Int) (ef : fi = (f : Int)) (ey : yi = (y : Int)) (w' : World) :
    (Instr.sliceAt 60 (.slice A n c) (some (.int .i64 fi)) (some (.int .i64 yi)) none).run Tryz.prog w' = .ok (.slice (cutAt A c f) (y - f) (c - f)) w' := by
  subst ef ey
  unfold cutAt
  cases A with
  | none =>
    go_simp
    intro h
    omega
  | some ad =>
    go_simp
    intro h
    omega
theorem run_toI (A : Option Addr) (n c y : Nat) (hy : y ≤ n) (hn : n ≤ c) (yi : Int) (ey : yi = (y : Int)) (w' : World) :
    (Instr.sliceAt 60 (.slice A n c) none (some (.int .i64 yi)) none).run Tryz.prog w' = .ok (.slice A y c) w' := by
  subst ey
  have h0 := cutAt_zero A c
  unfold cutAt at h0
  cases A with
  | none =>
    go_simp
    intro h
    omega
  | some ad =>
    simp only [Option.map_some] at h0
    go_simp
    try (rw [h0])
    try (intro h; omega)
    try (refine ⟨fun h => ?_, fun h => ?_⟩ <;> omega)
theorem run_fromI (A : Option Addr) (n c f : Nat) (hf : f ≤ n) (fi : Int) (ef : fi = (f : Int)) (w' : World) :
    (Instr.sliceAt 60 (.slice A n c) (some (.int .i64 fi)) none none).run Tryz.prog w' = .ok (.slice (cutAt A c f) (n - f) (c - f)) w' := by
  subst ef
  unfold cutAt
  cases A with
  | none =>
    go_simp
    try (intro h; omega)
  | some ad =>
    go_simp
    try (intro h; omega)
end Go.Proofs.YtgpkiijmembggaaGreatDoor
namespace Go.Proofs.YtgpkiijmembggaaGreatDoor
open Go

def hasRegion (r : Nat) : Code → Bool
  | .region id _ _ => id == r
  | .seq a b => hasRegion r a || hasRegion r b
  | .cond _ a b => hasRegion r a || hasRegion r b
  | .block _ c => hasRegion r c
  | .loop c => hasRegion r c
  | .scope c => hasRegion r c
  | _ => false
/-- the body of the innermost loop that holds region r -/
def loopAt (r : Nat) : Code → Option Code
  | .seq a b => match loopAt r a with
    | some c => some c
    | none => loopAt r b
  | .cond _ a b => match loopAt r a with
    | some c => some c
    | none => loopAt r b
  | .block _ c => loopAt r c
  | .scope c => loopAt r c
  | .loop c => match loopAt r c with
    | some d => some d
    | none => bif hasRegion r c then some c else none
  | _ => none
/-- region r -/
def regionAt (r : Nat) : Code → Option Code
  | .region id ops d => bif id == r then some (.region id ops d) else none
  | .seq a b => match regionAt r a with
    | some c => some c
    | none => regionAt r b
  | .cond _ a b => match regionAt r a with
    | some c => some c
    | none => regionAt r b
  | .block _ c => regionAt r c
  | .loop c => regionAt r c
  | .scope c => regionAt r c
  | _ => none
/-- a post that is asked of one exit alone: blind at a panic (go_region's short way wants that) -/
def onExit (n : Nat) (Q1 : Act → World → Prop) : Exit → Act → World → Prop
  | .exit m, a, w => m = n ∧ Q1 a w
  | _, _, _ => False
theorem onExit_imp {n : Nat} {Q0 : Exit → Act → World → Prop} : ∀ e a w, onExit n (Q0 (.exit n)) e a w → Q0 e a w := by
  intro e a w h
  cases e with
  | exit m => obtain ⟨rfl, h⟩ := h; exact h
  | _ => exact h.elim
end Go.Proofs.YtgpkiijmembggaaGreatDoor
