/-
  Plain: the bits of packed bits.
  Layer 10, plain: each of the three ways is opened as it was, behind what is opened; with less room it is not.
  Layer 10, plain: blocks, as each way puts them, are opened; several; how many bytes tell them.
  Layer 10, plain: what is read hangs on the bits that are read alone; fuel is enough.
-/
import Derived.Test.YtgpkiijmembggaaGreatDoorZm01
import Derived.Test.YtgpkiijmembggaaGreatDoorZm10
import Derived.Test.YtgpkiijmembggaaGreatDoorZm06
namespace Go.Proofs.YtgpkiijmembggaaGreatDoor
open BitsM

theorem bits_pack8 : ∀ (m : Nat) (F : List Bool), F.length = 8 * m → bitsOf (pack F) = F
  | 0, F, h => by
    rw [List.eq_nil_of_length_eq_zero (by omega : F.length = 0)]
    rfl
  | m + 1, F, h => by
    have h8 : (F.take 8).length = 8 := by rw [List.length_take]; omega
    have e : pack F = pack (F.take 8) ++ pack (F.drop 8) := by
      conv => lhs; rw [← List.take_append_drop 8 F]
      exact pack_append (by rw [h8]) _
    have e1 : pack (F.take 8) = [UInt8.ofNat (num (F.take 8))] := by
      apply List.ext_getElem?
      intro i
      have hl : (pack (F.take 8)).length = 1 := by rw [pack_length, h8]
      cases i with
      | zero =>
        rw [pack_get _ 0 (by rw [h8]; omega)]
        simp only [Nat.mul_zero, List.drop_zero, List.getElem?_cons_zero]
        rw [List.take_of_length_le (Nat.le_of_eq h8)]
      | succ i => rw [List.getElem?_eq_none (by rw [hl]; omega), List.getElem?_eq_none (by simp)]
    have hn : (UInt8.ofNat (num (F.take 8))).toNat = num (F.take 8) := by
      have := num_take8_lt F
      rw [UInt8.toNat_ofNat']
      exact Nat.mod_eq_of_lt this
    rw [e, bitsOf_append, bits_pack8 m (F.drop 8) (by rw [List.length_drop]; omega), e1, bitsOf_cons, bitsOf_nil, List.append_nil, hn]
    have hw := low_num (F.take 8)
    rw [h8] at hw
    rw [hw, List.take_append_drop]
theorem bits_pack (L : List Bool) : bitsOf (pack L) = full L := by
  rw [← pack_full]
  have h := full_mod L
  exact bits_pack8 ((full L).length / 8) (full L) (by omega)
end Go.Proofs.YtgpkiijmembggaaGreatDoor
namespace Go.Proofs.YtgpkiijmembggaaGreatDoor.InM
set_option linter.unusedVariables false
open BitsM CoM HuffM LzM DeM

/-- what may be opened alone may be opened behind -/
theorem copy_behind (P : List UInt8) (d : Nat) : ∀ (n : Nat) (B : List UInt8), 1 ≤ d → d ≤ B.length → copy d n (P ++ B) = P ++ copy d n B
  | 0, B, _, _ => rfl
  | n + 1, B, h0, h => by
    rw [copy, copy]
    have e : (P ++ B)[(P ++ B).length - d]! = B[B.length - d]! := by
      rw [getElem!_pos (P ++ B) _ (by rw [List.length_append]; omega), getElem!_pos B _ (by omega), List.getElem_append_right (by rw [List.length_append]; omega)]
      congr 1
      rw [List.length_append]
      omega
    rw [e, List.append_assoc]
    exact copy_behind P d n (B ++ [B[B.length - d]!]) h0 (by rw [List.length_append]; omega)
theorem open_behind (P : List UInt8) (most : Int) {C : List UInt8} : ∀ (T : List Tok) (B : List UInt8), openT most B T = .ok C → openT (most + P.length) (P ++ B) T = .ok (P ++ C)
  | [], B, h => by
    unfold openT at h ⊢
    injection h with h
    rw [h]
  | t :: T, B, h => by
    unfold openT at h ⊢
    split at h
    · cases h
    · rename_i h1
      split at h
      · cases h
      · rename_i h2
        have hr : rightT t (B.length : Nat) = true := by simpa using h1
        have hr2 : rightT t ((P ++ B).length : Nat) = true := by
          rcases right_cases hr with ⟨b, rfl⟩ | ⟨L, D, rfl, k1, k2, k3, k4, k5⟩
          · rfl
          · unfold rightT
            rw [if_neg (by simp; omega)]
            simp
            omega
        have ha : addT (P ++ B) t = P ++ addT B t := by
          unfold addT
          split
          · rw [List.append_assoc]
          · rename_i h0
            rcases right_cases hr with ⟨b, rfl⟩ | ⟨L, D, rfl, k1, k2, k3, k4, k5⟩
            · exact absurd rfl h0
            · exact copy_behind P _ _ B (by simp; omega) (by simp; omega)
        rw [if_neg (by rw [hr2]; decide), if_neg (by rw [List.length_append]; omega), ha]
        exact open_behind P most T _ h
/-- lengths that tokens are put by have a bit for each symbol -/
theorem tok_pos {a b : List Nat} {S : List Tok} (P : Puts a b S) {t : Tok} (ht : t ∈ S) : 1 ≤ (tokBits (codesL (ints a)) a (codesL (ints b)) b t).length := by
  unfold tokBits codeBits
  split
  · rename_i h
    have := P.l t ht h
    rw [List.length_reverse, low_length]
    omega
  · rename_i h
    have := (P.m t ht h).2.1
    simp only [List.length_append, List.length_reverse, low_length]
    omega
theorem toks_fuel {a b : List Nat} {S : List Tok} (P : Puts a b S) : ∀ (T : List Tok), (∀ t ∈ T, t ∈ S) → T.length ≤ (T.flatMap (tokBits (codesL (ints a)) a (codesL (ints b)) b)).length
  | [], _ => Nat.zero_le _
  | t :: T, h => by
    rw [List.flatMap_cons, List.length_append, List.length_cons]
    have h1 := tok_pos P (h t (List.mem_cons_self ..))
    have h2 := toks_fuel P T (fun u hu => h u (List.mem_cons_of_mem _ hu))
    omega
/-- a block's tokens are opened -/
theorem coded_back {a b : List Nat} {T : List Tok} (P : Puts a b T) (hb : noneB b = false → rightB (ints b) = true) (hf : ∀ t ∈ T, rightT t 32768 = true) (most : Int) (out : List UInt8) (R : List Bool) :
    codedR a b most out (toksBits a b T ++ R) = match openT most out T with
      | .error e => .error e
      | .ok B => .ok (B, R) := by
  unfold codedR
  rw [if_neg (by
    rintro (h | ⟨h1, h2⟩)
    · rw [P.ra] at h; cases h
    · rw [hb h1] at h2; cases h2)]
  unfold toksBits
  refine toks_back P most R T _ out ?_ (fun t ht => ⟨ht, hf t ht⟩)
  have := toks_fuel P T (fun _ h => h)
  rw [List.length_append, List.length_append]
  omega
theorem fixed_puts (T : List Tok) : Puts SyM.fixA SyM.fixB T where
  ra := fix_right.1
  rb := .inl fix_right.2
  la := by decide +kernel
  lb := by decide +kernel
  a15 := by decide +kernel
  b15 := by decide +kernel
  e := by decide +kernel
  l := fun t _ _ => by
    have h := t.b.toNat_lt
    have := (SyM.fix_at t.b.toNat (by omega)).1
    rw [this]
    split
    · omega
    · split <;> omega
  m := fun t _ _ => by
    have h1 := SyM.lenS_lt t.l
    have h2 := SyM.distS_lt t.d
    have e1 := (SyM.fix_at (257 + SyM.lenS t.l) (by omega)).1
    have e2 := (SyM.fix_at (SyM.distS t.d) (by omega)).2
    rw [Nat.mod_eq_of_lt (by omega)] at e2
    rw [SyM.fix_len.1, SyM.fix_len.2, e1, e2]
    refine ⟨by omega, ?_, by omega, by omega⟩
    split
    · omega
    · split <;> omega
/-- what symbols weigh that are met -/
theorem weigh_met : ∀ (T : List Tok) (p : List Nat × List Nat), p.1.length = 286 → p.2.length = 30 → ∀ t ∈ T, rightT t 32768 = true →
    (t.l = 0 → 0 < (SyM.weigh T p).1.getD t.b.toNat 0) ∧ (t.l ≠ 0 → 0 < (SyM.weigh T p).1.getD (257 + SyM.lenS t.l) 0 ∧ 0 < (SyM.weigh T p).2.getD (SyM.distS t.d) 0)
  | [], _, _, _, _, h, _ => by cases h
  | u :: T, p, h1, h2, t, ht, hr => by
    unfold SyM.weigh
    have hbl : ∀ (L : List Nat) i, (SyM.bump L i).length = L.length := SyM.bump_length
    rcases List.mem_cons.1 ht with rfl | ht
    · split
      · rename_i h0
        refine ⟨fun _ => ?_, fun h => absurd h0 h⟩
        have hb := t.b.toNat_lt
        exact Nat.lt_of_lt_of_le (bump_at p.1 t.b.toNat (by omega)) (weigh_up T (SyM.bump p.1 t.b.toNat, p.2) _).1
      · rename_i h0
        refine ⟨fun h => absurd h h0, fun _ => ?_⟩
        rcases right_cases (n := 32768) hr with ⟨b, rfl⟩ | ⟨L, D, rfl, k1, k2, k3, k4, _⟩
        · exact absurd rfl h0
        · have e1 : SyM.lenS (L : Int) = SyM.sym (L : Int) SyM.lens := by unfold SyM.lenS; rw [SyM.clampI_id _ _ _ (by omega) (by omega)]
          have e2 : SyM.distS (D : Int) = SyM.sym (D : Int) SyM.dists := by unfold SyM.distS; rw [SyM.clampI_id _ _ _ (by omega) (by omega)]
          have l1 := SyM.lenS_lt (L : Int)
          have l2 := SyM.distS_lt (D : Int)
          simp only
          rw [e1, e2]
          rw [e1] at l1
          rw [e2] at l2
          exact ⟨Nat.lt_of_lt_of_le (bump_at p.1 (257 + SyM.sym (L : Int) SyM.lens) (by omega)) (weigh_up T (SyM.bump p.1 (257 + SyM.sym (L : Int) SyM.lens), SyM.bump p.2 (SyM.sym (D : Int) SyM.dists)) _).1,
            Nat.lt_of_lt_of_le (bump_at p.2 (SyM.sym (D : Int) SyM.dists) (by omega)) (weigh_up T (SyM.bump p.1 (257 + SyM.sym (L : Int) SyM.lens), SyM.bump p.2 (SyM.sym (D : Int) SyM.dists)) _).2⟩
    · split
      · exact weigh_met T (SyM.bump p.1 u.b.toNat, p.2) (by simp only [hbl]; exact h1) h2 t ht hr
      · exact weigh_met T (SyM.bump p.1 (257 + SyM.sym u.l SyM.lens), SyM.bump p.2 (SyM.sym u.d SyM.dists)) (by simp only [hbl]; exact h1) (by simp only [hbl]; exact h2) t ht hr
theorem start_len0 : SyM.start.1.length = 286 ∧ SyM.start.2.length = 30 := by decide +kernel
theorem cnt_most (W : List Nat) (h : W.length ≤ 300) : cnt W ≤ 2 ^ 15 := by
  have : cnt W ≤ W.length := List.countP_le_length
  omega
/-- a dynamic block's lengths, cut -/
theorem dyn_puts {T : List Tok} (hf : ∀ t ∈ T, rightT t 32768 = true) :
    Puts (trimL (dynX T) 257) (trimL (dynY T) 1) T ∧ (noneB (trimL (dynY T) 1) = false → rightB (ints (trimL (dynY T) 1)) = true) ∧ (dynX T).length = 286 ∧ (dynY T).length = 30 ∧ (∀ x ∈ dynX T, x ≤ 15) ∧ (∀ x ∈ dynY T, x ≤ 15) := by
  have hl := SyM.weigh_length T SyM.start
  rw [start_len0.1, start_len0.2] at hl
  have c1 := cnt_most (SyM.weigh T SyM.start).1 (by omega)
  have c2 := cnt_most (SyM.weigh T SyM.start).2 (by omega)
  obtain ⟨x1, x2, x3, x4⟩ := lens_short (most := 15) (by omega) (by omega) c1
  obtain ⟨y1, y2, y3, y4⟩ := lens_short (most := 15) (by omega) (by omega) c2
  have X15 : ∀ x ∈ dynX T, x ≤ 15 := lens_most (by omega) _ _ (Nat.le_refl _) c1
  have Y15 : ∀ x ∈ dynY T, x ≤ 15 := lens_most (by omega) _ _ (Nat.le_refl _) c2
  have lX : (dynX T).length = 286 := by show (lens 15 _).length = _; rw [x1]; exact hl.1
  have lY : (dynY T).length = 30 := by show (lens 15 _).length = _; rw [y1]; exact hl.2
  have pX : ∀ s, 0 < (SyM.weigh T SyM.start).1.getD s 0 → 0 < (dynX T)[s]! := fun s h => by
    rcases Nat.eq_zero_or_pos ((dynX T)[s]!) with e | e
    · exact absurd h ((x3 s).1 (by rw [getD_bang] at e; exact e))
    · exact e
  have pY : ∀ s, 0 < (SyM.weigh T SyM.start).2.getD s 0 → 0 < (dynY T)[s]! := fun s h => by
    rcases Nat.eq_zero_or_pos ((dynY T)[s]!) with e | e
    · exact absurd h ((y3 s).1 (by rw [getD_bang] at e; exact e))
    · exact e
  have tX := trim_len (L := dynX T) (m := 257) (by omega)
  have tY := trim_len (L := dynY T) (m := 1) (by omega)
  have bX := bang_trim (dynX T) 257 (by omega)
  have bY := bang_trim (dynY T) 1 (by omega)
  have inl : ∀ {L : List Nat} {s : Nat}, 0 < L[s]! → s < L.length := fun {L s} h => by
    by_cases hs : s < L.length
    · exact hs
    · rw [getElem!_neg L s hs] at h; exact absurd h (by decide)
  refine ⟨{
    ra := by rw [right_trim _ _ (by omega)]; exact dynX_right T c1
    rb := by rw [right_trim _ _ (by omega)]; exact dynY_right T c2
    la := by omega
    lb := by omega
    a15 := trim_mem X15
    b15 := trim_mem Y15
    e := by
      rw [bX]
      refine pX 256 ?_
      have h1 : SyM.start.1.getD 256 0 = 1 := by decide +kernel
      have h2 := (weigh_up T SyM.start 256).1
      omega
    l := fun t ht h => by
      rw [bX]
      exact pX _ ((weigh_met T SyM.start start_len0.1 start_len0.2 t ht (hf t ht)).1 h)
    m := fun t ht h => by
      obtain ⟨m1, m2⟩ := (weigh_met T SyM.start start_len0.1 start_len0.2 t ht (hf t ht)).2 h
      have n1 := pX _ m1
      have n2 := pY _ m2
      rw [← bX] at n1
      rw [← bY] at n2
      exact ⟨inl n1, n1, inl n2, n2⟩ }, ?_, lX, lY, X15, Y15⟩
  intro hn
  rw [none_trim _ _ (by omega)] at hn
  rw [right_trim _ _ (by omega)]
  refine y4 ?_
  unfold noneB at hn
  rw [List.all_eq_false] at hn
  obtain ⟨x, hx, h0⟩ := hn
  obtain ⟨s, hs, rfl⟩ := List.mem_iff_getElem.1 hx
  refine ⟨s, ?_⟩
  rcases Nat.eq_zero_or_pos ((SyM.weigh T SyM.start).2.getD s 0) with e | e
  · exfalso
    apply h0
    have h3 := (y3 s).2 (by omega)
    have : (dynY T)[s] = 0 := by
      have e2 := getElem!_pos (dynY T) s hs
      rw [← e2, getD_bang]
      exact h3
    rw [this]
    rfl
  · exact e
end Go.Proofs.YtgpkiijmembggaaGreatDoor.InM
namespace Go.Proofs.YtgpkiijmembggaaGreatDoor.InM
set_option linter.unusedVariables false
open BitsM CoM HuffM LzM DeM

theorem pressF_right (B : List UInt8) : ∀ f i, ∀ t ∈ pressF B f i, rightT t 32768 = true := by
  intro f
  induction f with
  | zero => intro i t h; simp [pressF] at h
  | succ f ih =>
    intro i t h
    cases hp : pressF B (f + 1) i with
    | nil => rw [hp] at h; cases h
    | cons s T =>
      obtain ⟨f', hf, hi, hc⟩ := LzV.pressF_cases B (f + 1) i s T hp
      obtain rfl : f = f' := by omega
      rw [hp] at h
      rcases List.mem_cons.1 h with h | h
      · subst h
        rcases hc with ⟨e, _, _⟩ | ⟨L, D, e, h1, h2, h3, h4, h5, _⟩
        · subst e
          rfl
        · subst e
          unfold rightT mat
          rw [if_neg (by simp; omega)]
          simp
          omega
      · rcases hc with ⟨_, _, e⟩ | ⟨L, D, _, _, _, _, _, _, _, _, _, e⟩
        · rw [e] at h; exact ih _ t h
        · rw [e] at h; exact ih _ t h
theorem press_right (B : List UInt8) : ∀ t ∈ press B, rightT t 32768 = true := pressF_right B _ _
/-- what is left of a block's answer -/
def lastB (R : List Bool) : Except Nat (List UInt8) → Except Nat (Bool × List UInt8 × List Bool)
  | .error e => .error e
  | .ok B => .ok (true, B, R)
theorem fixed_block (B : List UInt8) (most : Int) (out : List UInt8) (R : List Bool) : blockR most out (fixedBits B ++ R) = lastB R (openT most out (press B)) := by
  have h := coded_back (fixed_puts (press B)) (fun _ => fix_right.2) (press_right B) most out R
  have e : fixedBits B ++ R = true :: true :: false :: (toksBits SyM.fixA SyM.fixB (press B) ++ R) := rfl
  rw [e, block_cons, show num [true, false] = 1 from rfl]
  unfold kindR
  rw [if_neg (by decide), if_pos rfl, h]
  cases openT most out (press B) <;> rfl
theorem dyn_block (B : List UInt8) (most : Int) (out : List UInt8) (R : List Bool) : blockR most out (dynBits B ++ R) = lastB R (openT most out (press B)) := by
  obtain ⟨P, hn, lX, lY, x15, y15⟩ := dyn_puts (press_right B)
  have tX := trim_len (L := dynX (press B)) (m := 257) (by omega)
  have tY := trim_len (L := dynY (press B)) (m := 1) (by omega)
  have h := coded_back P hn (press_right B) most out R
  have hg := get_put (A := trimL (dynX (press B)) 257) (B := trimL (dynY (press B)) 1) (by omega) (by omega) (by omega) (by omega) (trim_mem x15) (trim_mem y15) (toksBits (dynX (press B)) (dynY (press B)) (press B) ++ R)
  rw [if_neg (by have := P.e; omega)] at hg
  rw [toks_trim (dynX (press B)) (dynY (press B)) (by omega) (by omega)] at hg
  have e : dynBits B ++ R = true :: false :: true :: (putBits (trimL (dynX (press B)) 257) (trimL (dynY (press B)) 1) ++ (toksBits (trimL (dynX (press B)) 257) (trimL (dynY (press B)) 1) (press B) ++ R)) := by
    unfold dynBits
    rw [toks_trim (dynX (press B)) (dynY (press B)) (by omega) (by omega)]
    simp only [List.append_assoc, List.cons_append, List.nil_append]
  rw [e]
  generalize hX : putBits (trimL (dynX (press B)) 257) (trimL (dynY (press B)) 1) ++ (toksBits (trimL (dynX (press B)) 257) (trimL (dynY (press B)) 1) (press B) ++ R) = X at hg
  rw [block_cons, show num [false, true] = 2 from rfl]
  unfold kindR
  rw [if_neg (by decide), if_neg (by decide), if_pos rfl, hg]
  simp only
  rw [h]
  cases openT most out (press B) <;> rfl
theorem byte_low (x : Nat) : low (UInt8.ofNat x).toNat 8 = low x 8 := by
  rw [UInt8.toNat_ofNat', low_mod]
theorem head_bits (last n : Nat) (hn : n ≤ 65535) : bitsOf (head5 last n) = low last 8 ++ low n 16 ++ low (65535 - n) 16 := by
  have h1 := low_split 8 8 n
  have h2 := low_split 8 8 (65535 - n)
  rw [show (2 : Nat) ^ 8 = 256 from rfl, show 8 + 8 = 16 from rfl] at h1 h2
  unfold head5
  simp only [bitsOf_cons, bitsOf_nil, List.append_nil, byte_low]
  have e1 : low (n % 256) 8 = low n 8 := low_mod n 8
  have e2 : low (255 - n % 256) 8 = low (65535 - n) 8 := by
    rw [← low_mod (65535 - n) 8]
    congr 1
    show 255 - n % 256 = (65535 - n) % 256
    omega
  have e3 : 255 - n / 256 = (65535 - n) / 256 := by omega
  rw [e1, e2, e3, h1, h2]
  simp only [List.append_assoc]
/-- a stored block is read -/
theorem stored_read (last : Bool) (P : List UInt8) (hP : P.length ≤ 65535) (most : Int) (out : List UInt8) (R : List Bool) (hR : R.length % 8 = 0) :
    blockR most out (bitsOf (head5 last.toNat P.length ++ P) ++ R) = if ((out.length + P.length : Nat) : Int) > most then .error 4 else .ok (last, out ++ P, R) := by
  have hl8 : low last.toNat 8 = last :: false :: false :: List.replicate 5 false := by cases last <;> decide
  have e : bitsOf (head5 last.toNat P.length ++ P) ++ R = last :: false :: false :: (List.replicate 5 false ++ (low P.length 16 ++ (low (65535 - P.length) 16 ++ (bitsOf P ++ R)))) := by
    rw [bitsOf_append, head_bits _ _ hP, hl8]
    simp only [List.append_assoc, List.cons_append]
  rw [e]
  generalize hX : low P.length 16 ++ (low (65535 - P.length) 16 ++ (bitsOf P ++ R)) = X
  have hXl : X.length = 32 + 8 * P.length + R.length := by
    rw [← hX]
    simp only [List.length_append, low_length, bitsOf_length]
    omega
  have hs : storedR most out (List.replicate 5 false ++ X) = if ((out.length + P.length : Nat) : Int) > most then .error 4 else .ok (out ++ P, R) := by
    unfold storedR
    have d5 : (List.replicate 5 false ++ X).drop ((List.replicate 5 false ++ X).length % 8) = X := by
      rw [show (List.replicate 5 false ++ X).length % 8 = 5 by rw [List.length_append, List.length_replicate]; omega]
      exact List.drop_left' (List.length_replicate ..)
    simp only [d5]
    rw [if_neg (by omega)]
    have a1 : num (X.take 16) = P.length := by rw [← hX]; exact (take_low P.length 16 _ (by omega)).1
    have a2 : X.drop 16 = low (65535 - P.length) 16 ++ (bitsOf P ++ R) := by rw [← hX]; exact (take_low P.length 16 _ (by omega)).2.1
    have a3 : num ((X.drop 16).take 16) = 65535 - P.length := by rw [a2]; exact (take_low (65535 - P.length) 16 _ (by omega)).1
    have a4 : X.drop 32 = bitsOf P ++ R := by
      rw [show 32 = 16 + 16 from rfl, ← List.drop_drop, a2]
      exact (take_low (65535 - P.length) 16 _ (by omega)).2.1
    rw [a1, a3, a4, if_neg (by omega)]
    by_cases hm : ((out.length + P.length : Nat) : Int) > most
    · rw [if_pos hm, if_pos hm]
    · rw [if_neg hm, if_neg hm, if_neg (by rw [List.length_append, bitsOf_length]; omega), List.take_left' (bitsOf_length P), List.drop_left' (bitsOf_length P), pack_bitsOf]
  rw [block_cons, show num [false, false] = 0 from rfl]
  unfold kindR
  rw [if_pos rfl, hs]
  by_cases hm : ((out.length + P.length : Nat) : Int) > most
  · rw [if_pos hm, if_pos hm]
    rfl
  · rw [if_neg hm, if_neg hm]
    rfl
theorem open_out (B out : List UInt8) (most : Int) (hm : ((out.length + B.length : Nat) : Int) ≤ most) : openT most out (press B) = .ok (out ++ B) := by
  have h := open_behind out (most - out.length) (press B) [] (open_press B (most - out.length) (by omega))
  rw [List.append_nil, show most - (out.length : Int) + (out.length : Int) = most by omega] at h
  exact h
/-- what is pressed, whichever way, is a last block that is opened -/
theorem way_block (W B : List UInt8) (hB : B.length ≤ 65535) (hW : W = storedB B ∨ W = pack (fixedBits B) ∨ W = pack (dynBits B)) (most : Int) (out : List UInt8) (hm : ((out.length + B.length : Nat) : Int) ≤ most) (R : List Bool) (hR : R.length % 8 = 0) :
    ∃ pad : List Bool, pad.length < 8 ∧ blockR most out (bitsOf W ++ R) = .ok (true, out ++ B, pad ++ R) := by
  rcases hW with rfl | rfl | rfl
  · refine ⟨[], by simp, ?_⟩
    rw [storedB_less B hB]
    have h := stored_read true B hB most out R hR
    rw [if_neg (by omega)] at h
    exact h
  · refine ⟨List.replicate (lack (fixedBits B).length) false, by rw [List.length_replicate]; exact lack_lt _, ?_⟩
    rw [bits_pack]
    unfold full
    rw [List.append_assoc, fixed_block, open_out B out most hm]
    rfl
  · refine ⟨List.replicate (lack (dynBits B).length) false, by rw [List.length_replicate]; exact lack_lt _, ?_⟩
    rw [bits_pack]
    unfold full
    rw [List.append_assoc, dyn_block, open_out B out most hm]
    rfl
/-- with less room there are too many bytes -/
theorem way_long (W B : List UInt8) (h0 : 0 < B.length) (hB : B.length ≤ 65535) (hW : W = storedB B ∨ W = pack (fixedBits B) ∨ W = pack (dynBits B)) : blockR ((B.length : Int) - 1) [] (bitsOf W) = .error 4 := by
  rcases hW with rfl | rfl | rfl
  · rw [storedB_less B hB]
    have h := stored_read true B hB ((B.length : Int) - 1) [] [] rfl
    rw [if_pos (by simp only [List.length_nil]; omega), List.append_nil] at h
    exact h
  · rw [bits_pack]
    unfold full
    rw [fixed_block, LzV.open_press_short B h0]
    rfl
  · rw [bits_pack]
    unfold full
    rw [dyn_block, LzV.open_press_short B h0]
    rfl
/-- what a block that isn't the last one leaves to open -/
theorem blocks_on (P : List UInt8) (hP : P.length ≤ 65535) (most : Int) (f : Nat) (out : List UInt8) (hm : ((out.length + P.length : Nat) : Int) ≤ most) (R : List Bool) (hR : R.length % 8 = 0) :
    blocksR most (f + 1) out (bitsOf (head5 0 P.length ++ P) ++ R) = blocksR most f (out ++ P) R := by
  have h := stored_read false P hP most out R hR
  rw [if_neg (by omega)] at h
  rw [blocksR]
  have e : bitsOf (head5 0 P.length ++ P) ++ R = bitsOf (head5 false.toNat P.length ++ P) ++ R := rfl
  rw [e, h]
/-- stored blocks ahead -/
def ahead (l : List (List UInt8)) : List UInt8 := l.flatMap fun p => head5 0 p.length ++ p
theorem blocks_ahead (most : Int) (R : List Bool) (hR : R.length % 8 = 0) : ∀ (l : List (List UInt8)) (f : Nat) (out : List UInt8), (∀ p ∈ l, p.length ≤ 65535) → ((out.length + l.flatten.length : Nat) : Int) ≤ most →
    blocksR most (f + l.length) out (bitsOf (ahead l) ++ R) = blocksR most f (out ++ l.flatten) R
  | [], f, out, _, _ => by
    show blocksR most f out ([] ++ R) = _
    rw [List.nil_append, List.flatten_nil, List.append_nil]
  | p :: l, f, out, h, hm => by
    have hpl : ((p :: l).flatten).length = p.length + l.flatten.length := by rw [List.flatten_cons, List.length_append]
    rw [hpl] at hm
    have e : ahead (p :: l) = head5 0 p.length ++ p ++ ahead l := by unfold ahead; rw [List.flatMap_cons]
    rw [e, bitsOf_append, List.append_assoc, List.length_cons, show f + (l.length + 1) = (f + l.length) + 1 by omega]
    rw [blocks_on p (h p (List.mem_cons_self ..)) most (f + l.length) out (by omega) _ (by rw [List.length_append, bitsOf_length]; omega)]
    rw [blocks_ahead most R hR l f (out ++ p) (fun q hq => h q (List.mem_cons_of_mem _ hq)) (by rw [List.length_append]; omega), List.flatten_cons, List.append_assoc]
theorem ahead_len : ∀ (l : List (List UInt8)), l.length ≤ (ahead l).length
  | [] => Nat.le_refl _
  | p :: l => by
    have ih := ahead_len l
    have e : ahead (p :: l) = head5 0 p.length ++ p ++ ahead l := by unfold ahead; rw [List.flatMap_cons]
    rw [e, List.length_append, List.length_append, List.length_cons]
    show _ ≤ 5 + _ + _
    omega
/-- all of them are opened, whatever stands behind -/
theorem open_all (l : List (List UInt8)) (W B more : List UInt8) (hl : ∀ p ∈ l, p.length ≤ 65535) (hB : B.length ≤ 65535) (hW : W = storedB B ∨ W = pack (fixedBits B) ∨ W = pack (dynBits B)) (most : Int) (hm : ((l.flatten.length + B.length : Nat) : Int) ≤ most) :
    openP (ahead l ++ W ++ more) most = .ok (l.flatten ++ B, (ahead l).length + W.length) := by
  obtain ⟨pad, hp, hb⟩ := way_block W B hB hW most l.flatten hm (bitsOf more) (by rw [bitsOf_length]; omega)
  have hal := ahead_len l
  unfold openP
  obtain ⟨f, hf⟩ : ∃ f, 8 * (ahead l ++ W ++ more).length + 1 = (f + 1) + l.length := ⟨8 * (ahead l ++ W ++ more).length - l.length, by rw [List.length_append, List.length_append]; omega⟩
  rw [hf, bitsOf_append, bitsOf_append, List.append_assoc, blocks_ahead most _ (by rw [List.length_append, bitsOf_length, bitsOf_length]; omega) l (f + 1) [] hl (by rw [List.length_nil]; omega), List.nil_append, blocksR, hb]
  simp only
  congr 2
  simp only [List.length_append, bitsOf_length]
  omega
end Go.Proofs.YtgpkiijmembggaaGreatDoor.InM
namespace Go.Proofs.YtgpkiijmembggaaGreatDoor.InM
set_option linter.unusedVariables false
open BitsM CoM HuffM LzM DeM

theorem bcode_num : ∀ (bs : List Bool) (k : Nat), k ≤ bs.length → bcode (bb bs) k = num (bs.take k).reverse
  | bs, 0, _ => rfl
  | bs, k + 1, h => by
    have hk : bs[k]? = some bs[k] := List.getElem?_eq_getElem (by omega)
    rw [bcode_bit hk, bcode_num bs k (by omega), List.take_add_one, hk]
    rw [show (bs.take k ++ (some bs[k]).toList).reverse = [bs[k]] ++ (bs.take k).reverse by simp, num_append, num_one]
    simp
    omega
/-- the bits of a symbol that is read -/
theorem sym_hit {a : List Nat} {bs : List Bool} (h : ¬ (nextS (ints a) (bb bs)).1 < 0) :
    ∃ s, s < a.length ∧ 0 < a[s]! ∧ nextS (ints a) (bb bs) = ((s : Int), (a[s]! : Int)) ∧ bs = (low (codesL (ints a))[s]! a[s]!).reverse ++ bs.drop a[s]! ∧ a[s]! ≤ bs.length := by
  unfold nextS at h ⊢
  cases hf : firstHit (ints a) (bb bs) (ints a).length with
  | none => rw [hf] at h; exact absurd (by show (-1 : Int) < 0; omega) h
  | some s =>
    unfold firstHit at hf
    have hh := List.find?_some hf
    have hs : s < (ints a).length := List.mem_range.1 (List.mem_of_find?_eq_some hf)
    rw [ints_len] at hs
    have hk : (ints a).getD s 0 = (a[s]! : Int) := by rw [ints_getD, getD_bang]
    unfold hits at hh
    simp only [hk, Bool.and_eq_true, bne_iff_ne, ne_eq, decide_eq_true_eq, beq_iff_eq, bb_len, Int.toNat_natCast] at hh
    obtain ⟨⟨h1, h2⟩, h3⟩ := hh
    have h0 : 0 < a[s]! := by omega
    have hle : a[s]! ≤ bs.length := by omega
    refine ⟨s, hs, h0, by simp only [hk], ?_, hle⟩
    have hb := bcode_num bs a[s]! hle
    rw [h3] at hb
    rw [getD_bang, hb]
    have hl := low_num (bs.take a[s]!).reverse
    rw [List.length_reverse, List.length_take, Nat.min_eq_left hle] at hl
    rw [hl, List.reverse_reverse, List.take_append_drop]
/-- reading hangs on what is read alone; R: what stands behind, as many bits as before but for whole bytes -/
def Ext {α : Type} (m : Nat) (f : List Bool → Except Nat (α × List Bool)) : Prop :=
  ∀ bs x r, f bs = .ok (x, r) → ∃ u, bs = u ++ r ∧ m ≤ u.length ∧ ∀ R, R.length % 8 = r.length % 8 → f (u ++ R) = .ok (x, R)
theorem num_ext (n : Nat) : Ext n (numR n) := by
  intro bs x r h
  unfold numR at h
  split at h
  · cases h
  · rename_i hn
    injection h with h
    injection h with h1 h2
    have hl : (bs.take n).length = n := by rw [List.length_take]; omega
    refine ⟨bs.take n, by rw [← h2, List.take_append_drop], by omega, fun R _ => ?_⟩
    unfold numR
    rw [if_neg (by rw [List.length_append]; omega), List.take_left' hl, List.drop_left' hl, h1]
theorem sym_ext {a : List Nat} (hr : rightB (ints a) = true) (hl : a.length ≤ 1000) (h15 : ∀ x ∈ a, x ≤ 15) : Ext 1 (symR (ints a)) := by
  intro bs x r h
  unfold symR at h
  by_cases hn : (nextS (ints a) (bb bs)).1 < 0
  · rw [if_pos hn] at h
    cases h
  · rw [if_neg hn] at h
    injection h with h
    injection h with h1 h2
    obtain ⟨s, hs, h0, hnx, hbs, hle⟩ := sym_hit hn
    rw [hnx] at h1 h2
    simp only [Int.toNat_natCast] at h1 h2
    subst h1
    refine ⟨(low (codesL (ints a))[s]! a[s]!).reverse, by rw [← h2]; exact hbs, by rw [List.length_reverse, low_length]; exact h0, fun R _ => ?_⟩
    have h := sym_back hr hl hs h0 (at_le h15 s) R
    unfold codeBits at h
    rw [Nat.min_eq_left (by have := at_le h15 s; omega)] at h
    exact h
/-- a symbol that is read takes a bit -/
theorem sym_less {a : List Nat} {bs : List Bool} {x : Nat} {r : List Bool} (h : symR (ints a) bs = .ok (x, r)) : r.length < bs.length := by
  unfold symR at h
  by_cases hn : (nextS (ints a) (bb bs)).1 < 0
  · rw [if_pos hn] at h
    cases h
  · rw [if_neg hn] at h
    injection h with h
    injection h with h1 h2
    obtain ⟨s, hs, h0, hnx, hbs, hle⟩ := sym_hit hn
    rw [hnx] at h2
    simp only [Int.toNat_natCast] at h2
    rw [← h2, List.length_drop]
    omega
theorem num_less {n : Nat} {bs : List Bool} {x : Nat} {r : List Bool} (h : numR n bs = .ok (x, r)) : r.length ≤ bs.length := by
  unfold numR at h
  split at h
  · cases h
  · injection h with h
    injection h with h1 h2
    rw [← h2, List.length_drop]
    omega
theorem dist_less {d : Nat} {bs : List Bool} {y : Nat} {r : List Bool} (h : distR d bs = .ok (y, r)) : r.length ≤ bs.length := by
  unfold distR at h
  split at h
  · cases h
  · split at h
    · cases h
    · rename_i hn
      injection h with h
      injection h with h1 h2
      rw [← h2]
      exact num_less hn
theorem match_less {b : List Nat} {s : Nat} {bs : List Bool} {t : Tok} {r : List Bool} (h : matchR b s bs = .ok (t, r)) : r.length ≤ bs.length := by
  unfold matchR at h
  split at h
  · cases h
  · rename_i h1
    split at h
    · cases h
    · split at h
      · cases h
      · rename_i h2
        split at h
        · cases h
        · rename_i h3
          injection h with h
          injection h with _ h
          rw [← h]
          have k1 := num_less h1
          have k2 := sym_less h2
          have k3 := dist_less h3
          omega
theorem tok_less {a b : List Nat} {bs : List Bool} {t : Option Tok} {r : List Bool} (h : tokR a b bs = .ok (t, r)) : r.length < bs.length := by
  unfold tokR at h
  split at h
  · cases h
  · rename_i h1
    have k1 := sym_less h1
    split at h
    · injection h with h
      injection h with _ h
      rw [← h]; exact k1
    · split at h
      · injection h with h
        injection h with _ h
        rw [← h]; exact k1
      · split at h
        · cases h
        · split at h
          · cases h
          · rename_i h2
            injection h with h
            injection h with _ h
            have k2 := match_less h2
            rw [← h]
            omega
theorem dist_ext (d : Nat) : Ext 0 (distR d) := by
  intro bs y r h
  unfold distR at h
  split at h
  · cases h
  · rename_i hd
    split at h
    · cases h
    · rename_i hn
      injection h with h
      injection h with h1 h2
      subst h2
      obtain ⟨u, e, _, hu⟩ := num_ext _ _ _ _ hn
      refine ⟨u, e, Nat.zero_le _, fun R hR => ?_⟩
      unfold distR
      rw [if_neg hd, hu R hR]
      simp only
      rw [h1]
/-- lengths of codes that bits may be read by -/
structure Okay (a b : List Nat) : Prop where
  ra : rightB (ints a) = true
  rb : noneB b = false → rightB (ints b) = true
  la : a.length ≤ 1000
  lb : b.length ≤ 1000
  a15 : ∀ x ∈ a, x ≤ 15
  b15 : ∀ x ∈ b, x ≤ 15
theorem match_ext {a b : List Nat} (K : Okay a b) (s : Nat) : Ext 0 (matchR b s) := by
  intro bs t r h
  unfold matchR at h
  split at h
  · cases h
  · rename_i x r1 h1
    split at h
    · cases h
    · rename_i hn
      have hnb : noneB b = false := by cases hb : noneB b with
        | true => exact absurd hb hn
        | false => rfl
      split at h
      · cases h
      · rename_i d r2 h2
        split at h
        · cases h
        · rename_i y r3 h3
          injection h with h
          injection h with h4 h5
          subst h5
          obtain ⟨u1, e1, _, k1⟩ := num_ext _ _ _ _ h1
          obtain ⟨u2, e2, _, k2⟩ := sym_ext (K.rb hnb) K.lb K.b15 _ _ _ h2
          obtain ⟨u3, e3, _, k3⟩ := dist_ext _ _ _ _ h3
          refine ⟨u1 ++ u2 ++ u3, by rw [e1, e2, e3]; simp only [List.append_assoc], Nat.zero_le _, fun R hR => ?_⟩
          unfold matchR
          rw [List.append_assoc, List.append_assoc, k1 _ (by rw [e2, e3]; simp only [List.length_append]; omega)]
          simp only
          rw [if_neg hn, k2 _ (by rw [e3]; simp only [List.length_append]; omega)]
          simp only
          rw [k3 R hR]
          simp only
          rw [h4]
theorem tok_ext {a b : List Nat} (K : Okay a b) : Ext 1 (tokR a b) := by
  intro bs t r h
  unfold tokR at h
  split at h
  · cases h
  · rename_i s r1 h1
    obtain ⟨u1, e1, l1, k1⟩ := sym_ext K.ra K.la K.a15 _ _ _ h1
    split at h
    · rename_i hs
      injection h with h
      injection h with h2 h3
      subst h3
      refine ⟨u1, e1, l1, fun R hR => ?_⟩
      unfold tokR
      rw [k1 R hR]
      simp only
      rw [if_pos hs, h2]
    · rename_i hs
      split at h
      · rename_i hs2
        injection h with h
        injection h with h2 h3
        subst h3
        refine ⟨u1, e1, l1, fun R hR => ?_⟩
        unfold tokR
        rw [k1 R hR]
        simp only
        rw [if_neg hs, if_pos hs2, h2]
      · rename_i hs2
        split at h
        · cases h
        · rename_i hs3
          split at h
          · cases h
          · rename_i t2 r2 h2
            injection h with h
            injection h with h3 h4
            subst h4
            obtain ⟨u2, e2, _, k2⟩ := match_ext K s _ _ _ h2
            refine ⟨u1 ++ u2, by rw [e1, e2, List.append_assoc], by rw [List.length_append]; omega, fun R hR => ?_⟩
            unfold tokR
            rw [List.append_assoc, k1 _ (by rw [e2]; simp only [List.length_append]; omega)]
            simp only
            rw [if_neg hs, if_neg hs2, if_neg hs3, k2 R hR]
            simp only
            rw [h3]
theorem toks_ext {a b : List Nat} (K : Okay a b) (most : Int) : ∀ (f : Nat) (out : List UInt8) (bs : List Bool) (B : List UInt8) (r : List Bool), toksR a b most f out bs = .ok (B, r) →
    ∃ u, bs = u ++ r ∧ ∀ R, R.length % 8 = r.length % 8 → ∀ f', u.length ≤ f' → toksR a b most f' out (u ++ R) = .ok (B, R)
  | 0, out, bs, B, r, h => by unfold toksR at h; cases h
  | f + 1, out, bs, B, r, h => by
    unfold toksR at h
    split at h
    · cases h
    · rename_i r1 h1
      injection h with h
      injection h with h2 h3
      subst h3
      obtain ⟨u, e, l, k⟩ := tok_ext K _ _ _ h1
      refine ⟨u, e, fun R hR f' hf => ?_⟩
      obtain ⟨g, rfl⟩ : ∃ g, f' = g + 1 := ⟨f' - 1, by omega⟩
      unfold toksR
      rw [k R hR]
      simp only
      rw [h2]
    · rename_i t r1 h1
      obtain ⟨u, e, l, k⟩ := tok_ext K _ _ _ h1
      split at h
      · cases h
      · rename_i out1 h2
        obtain ⟨u2, e2, k2⟩ := toks_ext K most f out1 r1 B r h
        refine ⟨u ++ u2, by rw [e, e2, List.append_assoc], fun R hR f' hf => ?_⟩
        rw [List.length_append] at hf
        obtain ⟨g, rfl⟩ : ∃ g, f' = g + 1 := ⟨f' - 1, by omega⟩
        unfold toksR
        rw [List.append_assoc, k _ (by rw [e2]; simp only [List.length_append]; omega)]
        simp only
        rw [h2]
        exact k2 R hR g (by omega)
theorem sym_err {L : List Int} {bs : List Bool} (h : symR L bs = .error 0) : False := by
  unfold symR at h
  split at h
  · split at h <;> cases h
  · cases h
theorem num_err {n : Nat} {bs : List Bool} (h : numR n bs = .error 0) : False := by
  unfold numR at h
  split at h <;> cases h
theorem tok_err {a b : List Nat} {bs : List Bool} (h : tokR a b bs = .error 0) : False := by
  unfold tokR at h
  split at h
  · rename_i e h1
    injection h with h
    subst h
    exact sym_err h1
  · split at h
    · cases h
    · split at h
      · cases h
      · split at h
        · cases h
        · split at h
          · rename_i e h1
            injection h with h
            subst h
            unfold matchR at h1
            split at h1
            · rename_i e h2
              injection h1 with h1
              subst h1
              exact num_err h2
            · split at h1
              · cases h1
              · split at h1
                · rename_i e h2
                  injection h1 with h1
                  subst h1
                  exact sym_err h2
                · split at h1
                  · rename_i e h2
                    injection h1 with h1
                    subst h1
                    unfold distR at h2
                    split at h2
                    · cases h2
                    · split at h2
                      · rename_i e h3
                        injection h2 with h2
                        subst h2
                        exact num_err h3
                      · cases h2
                  · cases h1
          · cases h
/-- fuel is enough -/
theorem toks_fuel0 (a b : List Nat) (most : Int) : ∀ (f : Nat) (out : List UInt8) (bs : List Bool), bs.length < f → toksR a b most f out bs ≠ .error 0
  | 0, _, _, h => by omega
  | f + 1, out, bs, h => by
    intro he
    unfold toksR at he
    split at he
    · rename_i e h1
      injection he with he
      subst he
      exact tok_err h1
    · cases he
    · rename_i t r h1
      have hl := tok_less h1
      split at he
      · rename_i e h2
        injection he with he
        subst he
        unfold addR at h2
        split at h2
        · cases h2
        · split at h2 <;> cases h2
      · exact toks_fuel0 a b most f _ r (by omega) he
end Go.Proofs.YtgpkiijmembggaaGreatDoor.InM
