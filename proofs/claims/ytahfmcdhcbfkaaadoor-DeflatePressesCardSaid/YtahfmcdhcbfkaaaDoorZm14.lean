/-
  Plain mathematics of layer 5's codes: the symbols that have codes, by their lengths, then by their numbers; codes are counted up in that order. Nothing of any program here.
  The comparison that orders symbols by their lengths.
  The library's sort at numbers: the insertion sort of a piece of a row, by keys; of one key, in the order in which they stood.
  The loops of the library's symMerge at numbers: three searches by halves, two rows of swaps (written by gen_sym.py).
-/
import Derived.Test.YtahfmcdhcbfkaaaDoorZm12
import Derived.Test.YtahfmcdhcbfkaaaDoorZm13
import Derived.Test.YtahfmcdhcbfkaaaDoorZm09
namespace Go.Proofs.YtahfmcdhcbfkaaaDoor.HuffM

/-- the length of a symbol's code -/
def kl (L : List Int) (x : Nat) : Nat := (L.getD x 0).toNat
/-- of the first k symbols those that have codes -/
def syms (L : List Int) (k : Nat) : List Nat := (List.range k).filter fun s => decide (0 < L.getD s 0)
theorem syms_succ (L : List Int) (k : Nat) : syms L (k + 1) = if 0 < L.getD k 0 then syms L k ++ [k] else syms L k := by
  unfold syms
  rw [List.range_succ, List.filter_append]
  by_cases h : 0 < L.getD k 0
  · rw [if_pos h]; simp only [List.filter_cons, List.filter_nil]; rw [if_pos (by simpa using h)]
  · rw [if_neg h]; simp only [List.filter_cons, List.filter_nil]; rw [if_neg (by simpa using h), List.append_nil]
theorem syms_mem {L : List Int} {k s : Nat} : s ∈ syms L k ↔ s < k ∧ 0 < L.getD s 0 := by simp [syms]
theorem syms_le (L : List Int) (k : Nat) : (syms L k).length ≤ k := by
  have := List.length_filter_le (fun s => decide (0 < L.getD s 0)) (List.range k)
  rwa [List.length_range] at this
theorem syms_sta (key : Nat → Nat) (L : List Int) (k : Nat) : Sta key (syms L k) := by
  unfold syms Sta
  exact ((List.pairwise_lt_range (n := k)).filter _).imp (R := fun x y => x < y) (S := fun x y => key x = key y → x < y) (fun h _ => h)
/-- the symbols whose codes have k bits -/
def blk (L : List Int) (k n : Nat) : List Nat := (List.range n).filter fun s => decide (L.getD s 0 = (k : Int))
def cod (L : List Int) : Nat → List Nat
  | 0 => []
  | k + 1 => cod L k ++ blk L (k + 1) L.length
/-- all of them, by rising codes -/
def codedL (L : List Int) : List Nat := cod L 15
theorem blk_mem {L : List Int} {k n s : Nat} : s ∈ blk L k n ↔ s < n ∧ L.getD s 0 = (k : Int) := by simp [blk]
theorem cod_mem {L : List Int} {k s : Nat} : s ∈ cod L k ↔ s < L.length ∧ 0 < L.getD s 0 ∧ L.getD s 0 ≤ (k : Int) := by
  induction k with
  | zero =>
    constructor
    · intro h; simp [cod] at h
    · rintro ⟨_, h1, h2⟩; omega
  | succ k ih =>
    rw [cod, List.mem_append, ih, blk_mem]
    constructor
    · rintro (⟨h1, h2, h3⟩ | ⟨h1, h2⟩)
      · exact ⟨h1, h2, by omega⟩
      · exact ⟨h1, by omega, by omega⟩
    · rintro ⟨h1, h2, h3⟩
      by_cases h : L.getD s 0 = ((k + 1 : Nat) : Int)
      · exact .inr ⟨h1, h⟩
      · exact .inl ⟨h1, h2, by omega⟩
theorem cod_srt (L : List Int) (k : Nat) : Srt (kl L) (cod L k) := by
  induction k with
  | zero => exact List.Pairwise.nil
  | succ k ih =>
    refine srt_app.2 ⟨ih, ?_, ?_⟩
    · unfold blk Srt
      refine List.Pairwise.imp_of_mem ?_ ((List.pairwise_lt_range (n := L.length)).filter _)
      intro x y hx hy h
      have h1 := (blk_mem (k := k + 1)).1 hx
      have h2 := (blk_mem (k := k + 1)).1 hy
      right
      unfold kl
      rw [h1.2, h2.2]
      exact ⟨rfl, h⟩
    · intro x hx y hy
      have h1 := cod_mem.1 hx
      have h2 := blk_mem.1 hy
      left
      unfold kl
      rw [h2.2]
      omega
theorem srt_mem_eq {key : Nat → Nat} {A B : List Nat} (hA : Srt key A) (hB : Srt key B) (hm : ∀ x, x ∈ A ↔ x ∈ B) : A = B := by
  induction A generalizing B with
  | nil =>
    cases B with
    | nil => rfl
    | cons y B => have := (hm y).2 (List.mem_cons_self ..); simp at this
  | cons x A ih =>
    cases B with
    | nil => have := (hm x).1 (List.mem_cons_self ..); simp at this
    | cons y B =>
      have hA' := List.pairwise_cons.1 hA
      have hB' := List.pairwise_cons.1 hB
      have e : x = y := by
        rcases List.mem_cons.1 ((hm x).1 (List.mem_cons_self ..)) with h | h
        · exact h
        · rcases List.mem_cons.1 ((hm y).2 (List.mem_cons_self ..)) with h' | h'
          · exact h'.symm
          · exact (lx_asymm (hB'.1 x h) (hA'.1 y h')).elim
      subst e
      have irr : ∀ z, ¬ lx key z z := fun z h => lx_asymm h h
      rw [ih hA'.2 hB'.2 fun z => ?_]
      constructor
      · intro h
        rcases List.mem_cons.1 ((hm z).1 (List.mem_cons_of_mem _ h)) with h' | h'
        · subst h'; exact (irr _ (hA'.1 z h)).elim
        · exact h'
      · intro h
        rcases List.mem_cons.1 ((hm z).2 (List.mem_cons_of_mem _ h)) with h' | h'
        · subst h'; exact (irr _ (hB'.1 z h)).elim
        · exact h'
/-- what a sort by lengths makes of the symbols that have codes -/
theorem coded_eq {L : List Int} (hL : ∀ x ∈ L, inR x = true) {C : List Nat} (hp : C.Perm (syms L L.length)) (hs : Srt (kl L) C) : C = codedL L := by
  refine srt_mem_eq hs (cod_srt L 15) fun x => ?_
  rw [hp.mem_iff, syms_mem, show codedL L = cod L 15 from rfl, cod_mem]
  constructor
  · rintro ⟨h1, h2⟩
    have h := hL _ (List.getElem_mem h1)
    have h0 : 0 ≤ L[x] ∧ L[x] ≤ 15 := by simpa [inR] using h
    have e : L.getD x 0 = L[x] := by rw [List.getD_eq_getElem?_getD, List.getElem?_eq_getElem h1]; rfl
    exact ⟨h1, h2, by rw [e]; exact h0.2⟩
  · rintro ⟨h1, h2, _⟩
    exact ⟨h1, h2⟩
theorem right_in {L : List Int} (h : rightB L = true) : ∀ x ∈ L, inR x = true := by
  unfold rightB at h
  rw [Bool.and_eq_true] at h
  exact List.all_eq_true.1 h.1
theorem right_some {L : List Int} (h : rightB L = true) : 0 < (syms L L.length).length := by
  rcases Nat.eq_zero_or_pos (syms L L.length).length with h0 | h0
  · exfalso
    have hno : ∀ x ∈ L, ¬ 0 < x := by
      intro x hx hp
      obtain ⟨i, hi, rfl⟩ := List.getElem_of_mem hx
      have : i ∈ syms L L.length := syms_mem.2 ⟨hi, by rw [List.getD_eq_getElem?_getD, List.getElem?_eq_getElem hi]; exact hp⟩
      rw [List.eq_nil_of_length_eq_zero h0] at this
      simp at this
    have hm : many L = 0 := by
      unfold many
      rw [List.countP_eq_zero]
      intro x hx
      simpa using hno x hx
    have hs : rsum L = 0 := by
      clear h h0 hm
      induction L with
      | nil => rfl
      | cons x L ih =>
        show kr x + rsum L = 0
        rw [ih (fun y hy => hno y (List.mem_cons_of_mem _ hy)), kr, if_neg (hno x (List.mem_cons_self ..))]
    unfold rightB at h
    rw [hs, hm] at h
    simp at h
  · exact h0
/-- one more code -/
def cst (L : List Int) (c : CS) (s : Nat) : CS := ⟨nextCode (kl L s) c, kl L s, c.out.set s (nextCode (kl L s) c)⟩
theorem crow_blk (L : List Int) (k n : Nat) (c : CS) : crow L k c n = (blk L k n).foldl (cst L) c := by
  induction n with
  | zero => rfl
  | succ n ih =>
    rw [crow, ih, cstep]
    unfold blk
    rw [List.range_succ, List.filter_append, List.foldl_append]
    by_cases h : L.getD n 0 = (k : Int)
    · rw [if_pos h]
      simp only [List.filter_cons, List.filter_nil]
      rw [if_pos (by simpa using h)]
      have e : kl L n = k := by unfold kl; rw [h]; rfl
      show _ = cst L _ n
      unfold cst
      rw [e]
    · rw [if_neg h]
      simp only [List.filter_cons, List.filter_nil]
      rw [if_neg (by simpa using h)]
      rfl
theorem call_cod (L : List Int) (k : Nat) : call L k = (cod L k).foldl (cst L) ⟨0, 0, List.replicate L.length 0⟩ := by
  induction k with
  | zero => rfl
  | succ k ih => rw [call, crow_blk, ih, cod, List.foldl_append]
/-- the state behind the first k of them -/
def cs (L : List Int) (k : Nat) : CS := ((codedL L).take k).foldl (cst L) ⟨0, 0, List.replicate L.length 0⟩
theorem cs_succ {L : List Int} {k s : Nat} (h : (codedL L)[k]? = some s) : cs L (k + 1) = cst L (cs L k) s := by
  unfold cs
  rw [take_snoc h, List.foldl_append]
  rfl
theorem cs_end (L : List Int) : (cs L (codedL L).length).out = codesL L := by
  unfold cs codesL
  rw [List.take_length, call_cod]
  rfl
end Go.Proofs.YtahfmcdhcbfkaaaDoor.HuffM
namespace Go.Proofs.YtahfmcdhcbfkaaaDoor
open Go.RowKit HuffM Mem Go.Lib
attribute [local go_sem ↓] Go.wp_at_zero Go.wp_at_succ


set_option maxRecDepth 100000 in
set_option maxHeartbeats 1600000 in
theorem cmp_any (bx n c x y : Nat) (A : Option Addr) (L : List Int) (w : World) (hb : w.cell? ⟨bx, 0, none⟩ = some (.slice A n c)) (hr : Rd w A n (L.map intc)) (hx : x < n) (hy : y < n) (hL : ∀ x ∈ L, inR x = true) :
    Calls Tryd.prog 91 #[.int .i64 (x : Int), .int .i64 (y : Int), .pointer (some ⟨bx, 0, none⟩)] w fun e w' => e = .returned (.int .i64 ((kl L x : Int) - (kl L y : Int))) ∧ ∃ q, w' = w.drewN q := by
  have hln : L.length = n := by simpa using hr.1
  have one : ∀ z, z < n → ∃ ad k : Nat → Addr, True := fun _ _ => ⟨fun _ => default, fun _ => default, trivial⟩
  clear one
  have at_ : ∀ z, z < n → ∃ ad, A = some ad ∧ w.cell? (ad.add z) = some (.int .i64 (kl L z : Int)) ∧ kl L z ≤ 15 := by
    intro z hz
    obtain ⟨ad, u, h1, h2, h3⟩ := hr.at_ hz
    have hx : L[z]? = some L[z] := List.getElem?_eq_getElem (by omega)
    rw [List.getElem?_map, hx] at h2
    have hin := hL _ (List.getElem_mem (show z < L.length by omega))
    have h0 : 0 ≤ L[z] ∧ L[z] ≤ 15 := by simpa [inR] using hin
    have hk : kl L z = L[z].toNat := by unfold kl; rw [List.getD_eq_getElem?_getD, hx]; rfl
    refine ⟨ad, h1, ?_, by omega⟩
    rw [h3, ← h2, hk, Int.toNat_of_nonneg h0.1]
    rfl
  obtain ⟨ad, rfl, c1, b1⟩ := at_ x hx
  obtain ⟨ad', e, c2, b2⟩ := at_ y hy
  injection e with e
  subst e
  obtain ⟨p, hp⟩ : ∃ p, p = kl L x := ⟨_, rfl⟩
  obtain ⟨q, hq⟩ : ∃ q, q = kl L y := ⟨_, rfl⟩
  rw [← hp] at c1 b1 ⊢
  rw [← hq] at c2 b2 ⊢
  have rw1 : IntKind.i64.wrap ((p : Int) - (q : Int)) = (p : Int) - (q : Int) := by rw [IntKind.wrap_i64]; omega
  clear at_ hln hr hL hp hq
  go_enter Tryd.func91, Tryd.ntmps91
  go_wp2_with fail
  go_still (by kernel_rfl)
  go_wp2
  go_ret
  exact ⟨rfl, 1, rfl⟩

/-- two symbols can be compared, in every world that the sort comes through -/
structure CmpK (g bx : Nat) (key : Nat → Nat) (N : Nat) (w0 : World) : Prop where
  call : ∀ w x y, Fr (fun b => b = g) w0 w → x < N → y < N → Calls Tryd.prog 91 #[.int .i64 (x : Int), .int .i64 (y : Int), .pointer (some ⟨bx, 0, none⟩)] w fun e w' => e = .returned (.int .i64 ((key x : Int) - (key y : Int))) ∧ ∃ q, w' = w.drewN q
  few : ∀ x, key x ≤ 1000
theorem CmpK.fr {g bx N : Nat} {key : Nat → Nat} {w0 w1 : World} (K : CmpK g bx key N w0) (hf : Fr (fun b => b = g) w0 w1) : CmpK g bx key N w1 := ⟨fun w x y h => K.call w x y (hf.trans h (fun _ _ h => h)), K.few⟩
theorem cmpK_of (g bx n c : Nat) (A : Option Addr) (L : List Int) (w : World) (hb : w.cell? ⟨bx, 0, none⟩ = some (.slice A n c)) (hr : Rd w A n (L.map intc)) (hL : ∀ x ∈ L, inR x = true) (h1 : bx ≠ g) (h2 : ∀ ad, A = some ad → ad.block ≠ g) : CmpK g bx (kl L) n w where
  call := fun w' x y hf hx hy => cmp_any bx n c x y A L w' (hf.cell hb h1) (hr.fr hf h2) hx hy hL
  few := fun x => by
    unfold kl
    rw [List.getD_eq_getElem?_getD]
    cases h : L[x]? with
    | none => decide
    | some z =>
      have h0 : 0 ≤ z ∧ z ≤ 15 := by simpa [inR] using hL z (List.mem_of_getElem? h)
      simp
      omega
end Go.Proofs.YtahfmcdhcbfkaaaDoor
namespace Go.Proofs.YtahfmcdhcbfkaaaDoor
open Go.RowKit HuffM Mem Go.Lib
attribute [local go_sem ↓] Go.wp_at_zero Go.wp_at_succ

theorem snoc_of {C : List Nat} (h : C ≠ []) : ∃ C' z, C = C' ++ [z] := ⟨C.dropLast, C.getLast h, (List.dropLast_concat_getLast h).symm⟩
def fnv (bx : Nat) : Value := .func (.func 91) #[] #[.pointer (some ⟨bx, 0, none⟩)]

set_option maxRecDepth 1000000 in
set_option maxHeartbeats 6400000 in
theorem ins_any (g n c a b bx N : Nat) (key : Nat → Nat) (P A S : List Nat) (w : World) (hc : Col w g (P ++ (A ++ S))) (hn : n = P.length + A.length + S.length) (hn1 : n ≤ 1000) (ha : a = P.length) (hb : b = P.length + A.length)
    (K : CmpK g bx key N w) (hN : ∀ x ∈ A, x < N) (hst : A.Pairwise fun x y => key x = key y → x < y) :
    Calls Tryd.prog 99 #[.slice (some ⟨g, 0, none⟩) n c, .int .i64 (a : Int), .int .i64 (b : Int), .func (.func 91) #[] #[.pointer (some ⟨bx, 0, none⟩)]] w fun e w' =>
      e = .returned (.tuple #[]) ∧ ∃ C, C.Perm A ∧ Srt key C ∧ Col w' g (P ++ (C ++ S)) ∧ Fr (fun b => b = g) w w' := by
  have HC := Lib.hid hc
  have HLn := Lib.hid (show n = P.length + A.length + S.length ∧ a = P.length ∧ b = P.length + A.length from ⟨hn, ha, hb⟩)
  have HK := Lib.hid K
  have HNn := Lib.hid hN
  have HST := Lib.hid hst
  have hbn : b ≤ n := by omega
  have hab : a ≤ b := by omega
  clear hc hn ha hb K hN hst
  go_enter Tryd.func99, Tryd.ntmps99
  go_wp2
  by_cases hab1 : a = b
  · -- nothing is there
    have hA : A = [] := List.eq_nil_of_length_eq_zero (by have := HLn.out; omega)
    subst hA
    refine wp_loop_rounds 1 ?_
    rw [rounds_succ]
    go_wp2
    go_end0
    exact ⟨rfl, [], List.Perm.refl _, List.Pairwise.nil, HC.out, Fr.refl _ _⟩
  go_loopw [8] (fun vi wr => ∃ (i : Nat) (C R : List Nat), vi = .int .i64 (i : Int) ∧ a < i ∧ i ≤ b ∧ Hid (C.Perm (A.take (i - a)) ∧ R = A.drop (i - a)) ∧ Hid (Srt key C) ∧ Hid (Col wr g (P ++ (C ++ (R ++ S)))) ∧ Fr (fun b => b = g) w wr)
    (fun vi _ => b - (intOf vi).toNat)
  case atStart =>
    refine ⟨a + 1, A.take 1, A.drop 1, by go_num, by omega, by omega, ⟨by rw [show a + 1 - a = 1 by omega], by rw [show a + 1 - a = 1 by omega]⟩, ?_, ?_, Fr.refl _ _⟩
    · show Srt key (A.take 1)
      cases A with
      | nil => exact List.Pairwise.nil
      | cons x A => exact List.pairwise_singleton _ _
    · have h := HC.out
      show Col _ _ _
      rw [← List.append_assoc (A.take 1), List.take_append_drop]
      exact h
  case round =>
    clear HC
    obtain ⟨i, C, R, rfl, hai, hib, HP, HS, HCi, hfr⟩ := hrel
    by_cases hlt : i < b
    · obtain ⟨y, R', hR⟩ : ∃ y R', R = y :: R' := by
        cases R with
        | nil =>
          have h := HP.out.2
          have h2 := HLn.out
          have h3 := congrArg List.length h
          simp at h3
          omega
        | cons y R' => exact ⟨y, R', rfl⟩
      subst hR
      have hA1 : A = A.take (i - a) ++ y :: R' := by
        conv => lhs; rw [← List.take_append_drop (i - a) A]
        rw [← HP.out.2]
      have hCl : C.length = i - a := by
        rw [HP.out.1.length_eq, List.length_take]
        have := HLn.out
        omega
      have hstb : ∀ z ∈ C, key z = key y → z < y := by
        intro z hz
        have h := HST.out
        rw [hA1, List.pairwise_append] at h
        exact h.2.2 z (HP.out.1.mem_iff.1 hz) y (List.mem_cons_self ..)
      have hyN : y < N := HNn.out y (by rw [hA1]; simp)
      have hCN : ∀ z ∈ C, z < N := fun z hz => HNn.out z (List.mem_of_mem_take (HP.out.1.mem_iff.1 hz))
      have HY := Lib.hid (And.intro hstb (And.intro hyN (And.intro hCN (And.intro hCl hA1))))
      have HFi := Lib.hid hfr
      rename World => wo
      clear hA1 hCl hstb hyN hCN hfr
      go_wp2_with fail
      go_loopw [9] (fun vj wr => ∃ (j : Nat) (C1 C2 : List Nat), vj = .int .i64 (j : Int) ∧ a ≤ j ∧ j ≤ i ∧ Hid (C = C1 ++ C2 ∧ j = P.length + C1.length) ∧ Hid (∀ z ∈ C2, lx key y z) ∧ Hid (Col wr g (P ++ (C1 ++ (y :: (C2 ++ (R' ++ S)))))) ∧ Fr (fun b => b = g) w wr)
        (fun vj _ => (intOf vj).toNat)
      case atStart =>
        refine ⟨i, C, [], rfl, by omega, by omega, ⟨by simp, ?_⟩, ?_, ?_, HFi.out⟩
        · have := HY.out.2.2.2.1
          have := HLn.out
          omega
        · intro z hz
          simp at hz
        · have h := HCi.out
          show Col _ _ _
          simpa using h
      case round =>
        clear HCi HFi
        obtain ⟨j, C1, C2, rfl, haj, hji, HJ, HG, HCj, hfr⟩ := hrel
        by_cases hja : a < j
        · obtain ⟨C3, z, hC1⟩ := snoc_of (C := C1) (by
            rintro rfl
            have := HJ.out.2
            have := HLn.out
            simp at *
            omega)
          subst hC1
          obtain ⟨jp, rfl⟩ : ∃ jp, j = jp + 1 := ⟨j - 1, by omega⟩
          obtain ⟨jN, hjN⟩ : ∃ jN, jN = jp + 1 := ⟨_, rfl⟩
          have hcol := HCj.out
          have e0 : P ++ (C3 ++ [z] ++ (y :: (C2 ++ (R' ++ S)))) = (P ++ C3) ++ z :: ([] ++ y :: (C2 ++ (R' ++ S))) := by simp
          rw [e0] at hcol
          have l1 : jp = (P ++ C3).length := by
            have := HJ.out.2
            simp at this ⊢
            omega
          have l2 : jN = (P ++ C3).length + 1 + ([] : List Nat).length := by simp at l1 ⊢; omega
          have g1 : ((P ++ C3) ++ z :: ([] ++ y :: (C2 ++ (R' ++ S))))[jp]? = some z := getE_at _ _ _ _ l1
          have g2 : ((P ++ C3) ++ z :: ([] ++ y :: (C2 ++ (R' ++ S))))[jN]? = some y := by
            have := getE_at ((P ++ C3) ++ [z]) y (C2 ++ (R' ++ S)) jN (by simp; simp at l2; omega)
            simpa using this
          have ca := hcol.cell g2
          have cb := hcol.cell g1
          have hzC : z ∈ C := by rw [HJ.out.1]; simp
          have hcmp := fun q => (HK.out.call (wr.drewN q) y z (hfr.drewN q) HY.out.2.1 (HY.out.2.2.1 z hzC))
          obtain ⟨ky, hky⟩ : ∃ ky, ky = key y := ⟨_, rfl⟩
          obtain ⟨kz, hkz⟩ : ∃ kz, kz = key z := ⟨_, rfl⟩
          rw [← hky, ← hkz] at hcmp
          have bky := HK.out.few y
          have bkz := HK.out.few z
          rw [← hky] at bky
          rw [← hkz] at bkz
          have ea : ((jp : Int) + 1).toNat = jN := by omega
          have ra : IntKind.i64.wrap ((jp : Int) + 1) = (jp : Int) + 1 := by rw [IntKind.wrap_i64]; omega
          have rb : IntKind.i64.wrap (jp : Int) = (jp : Int) := by rw [IntKind.wrap_i64]; omega
          have p1 : (jp : Int) + 1 < (n : Int) := by omega
          have p2 : (0 : Int) ≤ (jp : Int) + 1 := by omega
          have p3 : (jp : Int) < (n : Int) := by omega
          have pj : (a : Int) < (jp : Int) + 1 := by omega
          have HKEY := Lib.hid (And.intro hky hkz)
          by_cases hless : ky < kz
          · have tl : decide ((ky : Int) - (kz : Int) < 0) = true := by simp; omega
            have tl' : (ky : Int) - (kz : Int) < 0 := by omega
            have HCM := hcmp
            have HLESS := Lib.hid (show lx key y z from .inl (by rw [← hky, ← hkz]; exact hless))
            clear hky hkz hless e0 hzC hcmp
            have HE := Lib.hid (And.intro l1 (And.intro l2 (And.intro g1 (And.intro g2 hcol))))
            clear l1 l2 g1 g2 hcol
            have HJN := Lib.hid hjN
            clear hjN
            go_wp2_with fail
            go_quiet ((go_at_call 91; refine Calls.quiet_of (HCM _)))
            obtain ⟨w2, hw2⟩ : ∃ w2, w2 = wr.drewN nq := ⟨_, rfl⟩
            have hc2 : Col w2 g ((P ++ C3) ++ z :: ([] ++ y :: (C2 ++ (R' ++ S)))) := by rw [hw2]; exact HE.out.2.2.2.2
            have hf2 : Fr (fun b => b = g) w w2 := by rw [hw2]; exact hfr.drewN nq
            rw [← hw2]
            clear hw2 nq HCM hfr ca cb HCj
            have c1 := hc2.cell HE.out.2.2.2.1
            have c2 := hc2.cell HE.out.2.2.1
            have f1 := hc2.free jN
            have f2 := hc2.free jp
            obtain ⟨u, c3⟩ := hc2.second HE.out.2.2.2.1 HE.out.2.2.1
            have hsw := hc2.swap HE.out.2.2.2.1 HE.out.2.2.1
            rw [swp_comm, swp_at _ _ _ _ _ _ _ HE.out.1 HE.out.2.1] at hsw
            have HSW := Lib.hid hsw
            have HFR := Lib.hid (hf2.trans (fr_swap w2 g jN jp (.int .i64 (z : Int)) (.int .i64 (y : Int))) (fun _ _ h => h))
            clear hc2 hf2 hsw
            go_wp2_with fail
            go_big_region
            generalize ((w2.setCell ⟨g, jN, none⟩ (Value.int IntKind.i64 (z : Int))).setCell ⟨g, jp, none⟩ (Value.int IntKind.i64 (y : Int))).drew = w3 at HSW HFR ⊢
            clear c1 c2 c3 f1 f2 ea ra rb tl tl' p1 p2 p3
            go_wp2
            go_roundw
            case rel =>
              refine ⟨jp, C3, z :: C2, by first | rfl | go_num | (congr 1; omega), by omega, by omega, ⟨by rw [HJ.out.1]; simp, ?_⟩, ?_, ?_, HFR.out⟩
              · have := HJ.out.2
                simp at this
                omega
              · intro x hx
                rcases List.mem_cons.1 hx with rfl | hx
                · exact HLESS.out
                · exact HG.out x hx
              · have h := HSW.out
                show Col _ _ _
                simpa using h
            case measure => simp [intOf] <;> omega
          · have tl : decide ((ky : Int) - (kz : Int) < 0) = false := by simp; omega
            have tl' : ¬ (ky : Int) - (kz : Int) < 0 := by omega
            have HCM := hcmp
            have HLESS := Lib.hid (show lx key z y from lx_of_stb (HY.out.1 z hzC) (by rw [← hky, ← hkz]; exact hless))
            clear hky hkz hless e0 hzC hcmp l1 l2 g1 g2 hcol hjN
            go_wp2_with fail
            go_quiet ((go_at_call 91; refine Calls.quiet_of (HCM _)))
            have HF2 := Lib.hid (hfr.drewN nq)
            have HC2 : Hid (Col (wr.drewN nq) g (P ++ (C3 ++ [z] ++ (y :: (C2 ++ (R' ++ S)))))) := HCj
            generalize wr.drewN nq = w3 at HF2 HC2 ⊢
            clear HCM hfr ca cb HCj ea ra rb tl tl' p1 p2 p3
            go_wp2
            go_roundw
            case rel =>
              refine ⟨i + 1, (C3 ++ [z]) ++ y :: C2, R', by go_num, by omega, by omega, ⟨?_, ?_⟩, ?_, ?_, HF2.out⟩
              · rw [show i + 1 - a = (i - a) + 1 by omega, List.take_add_one]
                have e : A[i - a]? = some y := by
                  conv => lhs; rw [HY.out.2.2.2.2]
                  exact getE_at _ _ _ _ (by rw [List.length_take]; have := HLn.out; omega)
                rw [e]
                have h1 := HP.out.1
                rw [HJ.out.1] at h1
                have h2 : ((C3 ++ [z]) ++ y :: C2).Perm ((C3 ++ [z]) ++ C2 ++ [y]) := by
                  rw [List.append_assoc (C3 ++ [z]) C2]
                  refine List.Perm.append_left _ ?_
                  exact List.perm_append_comm (l₁ := [y])
                exact h2.trans (h1.append_right _)
              · rw [show i + 1 - a = (i - a) + 1 by omega, ← List.drop_drop, ← HP.out.2]
                rfl
              · have h := HS.out
                rw [HJ.out.1] at h
                exact ins_end h (ahead_of (srt_app.1 h).1 HLESS.out) HG.out
              · have h := HC2.out
                show Col _ _ _
                simpa using h
            case measure => simp [intOf] <;> omega
        · -- j = a
          have hja' : j = a := by omega
          have hC1 : C1 = [] := List.eq_nil_of_length_eq_zero (by have := HJ.out.2; have := HLn.out; omega)
          subst hC1
          have tj : decide ((a : Int) < (j : Int)) = false := by simp; omega
          have tj' : decide (a < j) = false := decide_eq_false (by omega)
          have HJA := Lib.hid hja'
          clear hja hja'
          go_wp2_with fail
          go_big_region
          have HF2 := Lib.hid hfr.drew
          have HC2 : Hid (Col wr.drew g (P ++ ([] ++ (y :: (C2 ++ (R' ++ S)))))) := HCj
          generalize wr.drew = w3 at HF2 HC2 ⊢
          clear hfr HCj
          go_wp2
          go_roundw
          case rel =>
            refine ⟨i + 1, y :: C2, R', by go_num, by omega, by omega, ⟨?_, ?_⟩, ?_, ?_, HF2.out⟩
            · rw [show i + 1 - a = (i - a) + 1 by omega, List.take_add_one]
              have e : A[i - a]? = some y := by
                conv => lhs; rw [HY.out.2.2.2.2]
                exact getE_at _ _ _ _ (by rw [List.length_take]; have := HLn.out; omega)
              rw [e]
              have h1 := HP.out.1
              rw [HJ.out.1] at h1
              exact (List.perm_append_comm (l₁ := [y])).trans (h1.append_right _)
            · rw [show i + 1 - a = (i - a) + 1 by omega, ← List.drop_drop, ← HP.out.2]
              rfl
            · have h := HS.out
              rw [HJ.out.1] at h
              exact ins_end (C1 := []) h (fun x hx => by simp at hx) HG.out
            · have h := HC2.out
              show Col _ _ _
              simpa using h
          case measure => simp [intOf] <;> omega
    · obtain rfl : i = b := by omega
      have hp : C.Perm A := by
        have h := HP.out.1
        rwa [List.take_of_length_le (by have := HLn.out; omega)] at h
      have hR : R = [] := by
        have h := HP.out.2
        rwa [List.drop_eq_nil_of_le (by have := HLn.out; omega)] at h
      subst hR
      have HPP := Lib.hid hp
      have h := HCi.out
      have HCC : Hid (Col wr g (P ++ (C ++ S))) := h
      clear h hp HCi HP
      go_wp2
      go_end0
      exact ⟨rfl, C, HPP.out, HS.out, HCC.out, hfr⟩
end Go.Proofs.YtahfmcdhcbfkaaaDoor
namespace Go.Proofs.YtahfmcdhcbfkaaaDoor
open Go.RowKit HuffM Mem Go.Lib
attribute [local go_sem ↓] Go.wp_at_zero Go.wp_at_succ
set_option linter.unusedVariables false

/-- the key at a place -/
def kd (key : Nat → Nat) (d : List Nat) (i : Nat) : Nat := key (d.getD i 0)
theorem getE_D {d : List Nat} {i : Nat} (h : i < d.length) : d[i]? = some (d.getD i 0) := by rw [List.getD_eq_getElem?_getD, List.getElem?_eq_getElem h]; rfl
theorem half_mid {i j h : Nat} (h1 : i < j) (hh : h = (i + j) / 2) : i ≤ h ∧ h < j := by omega

set_option maxRecDepth 1000000 in
noncomputable def bs1Body : Code := ((Tryd.f100.body.bind (loopAt 3)).getD .skip)
set_option maxRecDepth 1000000 in
set_option maxHeartbeats 3200000 in
theorem bs1_loop (Q0 : Exit → Act → World → Prop) (s2 s3 s5 s6 s7 s8 s9 s12 s13 s14 s15 s16 s17 s18 s19 s20 s21 s22 s23 s24 s25 s26 s27 s28 s29 s30 s31 s32 s33 s34 s35 s36 s37 s38 s39 s40 s41 s42 s43 s44 s45 s46 s47 s48 s49 s50 s51 s52 s53 s54 s55 s56 s57 s58 s59 s60 s61 s62 s63 s64 s65 s66 s67 s68 s69 s70 s71 s72 s73 s74 s75 s76 s77 s78 s79 s80 s81 s82 s83 s84 s85 s86 s87 s88 s89 s90 s91 s92 s93 s94 s95 s96 s97 s98 s99 s100 s101 s102 s103 s104 s105 s106 s107 s108 s109 s110 s111 s112 s113 s114 s115 s116 s117 s118 s119 s120 s121 s122 s123 s124 s125 s126 s127 s128 s129 s130 s131 s132 s133 s134 s135 s136 s137 s138 s139 s140 s141 s142 s143 s144 s145 s146 s147 s148 s149 s150 s151 s152 s153 s154 s155 s156 s157 s158 s159 s160 s161 s162 s163 s164 s165 s166 s167 s168 s169 s170 s171 s172 s173 s174 s175 s176 s177 s178 s179 s180 s181 s182 s183 s184 s185 s186 s187 s188 s189 s190 s191 s192 s193 s194 s195 s196 s197 s198 s199 s200 s201 s202 s203 s204 s205 s206 s207 s208 s209 s210 s211 s212 s213 s214 s215 s216 s217 s218 s219 : Value) (g n c bx N lo hi a : Nat) (key : Nat → Nat) (d : List Nat) (w0 : World) (HC : Hid (Col w0 g d)) (HK : Hid (CmpK g bx key N w0)) (HN : Hid (d.length = n)) (hn : n ≤ 1000) (hlow : ∀ x ∈ d, x < N) (hlohi : lo ≤ hi) (han : a < n) (hhi : hi ≤ n)
    (hexit : ∀ (I : Nat) (w'' : World) (r11 r12 r31 r32 r33 r34 r35 r36 r37 r38 r39 r40 r41 r42 r43 r44 r45 r46 r47 r48 r49 r50 r51 r52 r53 : Value), lo ≤ I → I ≤ hi → Hid ((I = lo ∨ kd key d (I - 1) < kd key d a) ∧ (I = hi ∨ ¬ (kd key d I < kd key d a))) → Hid (Col w'' g d) → Hid (Fr (fun b => b = g) w0 w'') → Q0 (.exit 0) ⟨List.toArray (.slice (some ⟨g, 0, none⟩) n c :: .int .i64 (a : Int) :: s2 :: s3 :: .func (.func 91) #[] #[.pointer (some ⟨bx, 0, none⟩)] :: s5 :: s6 :: s7 :: s8 :: s9 :: .int .i64 (I : Int) :: r11 :: r12 :: s13 :: s14 :: s15 :: s16 :: s17 :: s18 :: s19 :: s20 :: s21 :: s22 :: s23 :: s24 :: s25 :: s26 :: s27 :: s28 :: s29 :: s30 :: r31 :: r32 :: r33 :: r34 :: r35 :: r36 :: r37 :: r38 :: r39 :: r40 :: r41 :: r42 :: r43 :: r44 :: r45 :: r46 :: r47 :: r48 :: r49 :: r50 :: r51 :: r52 :: r53 :: s54 :: s55 :: s56 :: s57 :: s58 :: s59 :: s60 :: s61 :: s62 :: s63 :: s64 :: s65 :: s66 :: s67 :: s68 :: s69 :: s70 :: s71 :: s72 :: s73 :: s74 :: s75 :: s76 :: s77 :: s78 :: s79 :: s80 :: s81 :: s82 :: s83 :: s84 :: s85 :: s86 :: s87 :: s88 :: s89 :: s90 :: s91 :: s92 :: s93 :: s94 :: s95 :: s96 :: s97 :: s98 :: s99 :: s100 :: s101 :: s102 :: s103 :: s104 :: s105 :: s106 :: s107 :: s108 :: s109 :: s110 :: s111 :: s112 :: s113 :: s114 :: s115 :: s116 :: s117 :: s118 :: s119 :: s120 :: s121 :: s122 :: s123 :: s124 :: s125 :: s126 :: s127 :: s128 :: s129 :: s130 :: s131 :: s132 :: s133 :: s134 :: s135 :: s136 :: s137 :: s138 :: s139 :: s140 :: s141 :: s142 :: s143 :: s144 :: s145 :: s146 :: s147 :: s148 :: s149 :: s150 :: s151 :: s152 :: s153 :: s154 :: s155 :: s156 :: s157 :: s158 :: s159 :: s160 :: s161 :: s162 :: s163 :: s164 :: s165 :: s166 :: s167 :: s168 :: s169 :: s170 :: s171 :: s172 :: s173 :: s174 :: s175 :: s176 :: s177 :: s178 :: s179 :: s180 :: s181 :: s182 :: s183 :: s184 :: s185 :: s186 :: s187 :: s188 :: s189 :: s190 :: s191 :: s192 :: s193 :: s194 :: s195 :: s196 :: s197 :: s198 :: s199 :: s200 :: s201 :: s202 :: s203 :: s204 :: s205 :: s206 :: s207 :: s208 :: s209 :: s210 :: s211 :: s212 :: s213 :: s214 :: s215 :: s216 :: s217 :: s218 :: s219 :: []), []⟩ w'') :
    Code.wp Tryd.prog (Code.loop bs1Body) Q0 ⟨List.toArray (.slice (some ⟨g, 0, none⟩) n c :: .int .i64 (a : Int) :: s2 :: s3 :: .func (.func 91) #[] #[.pointer (some ⟨bx, 0, none⟩)] :: s5 :: s6 :: s7 :: s8 :: s9 :: .int .i64 (lo : Int) :: .int .i64 (hi : Int) :: s12 :: s13 :: s14 :: s15 :: s16 :: s17 :: s18 :: s19 :: s20 :: s21 :: s22 :: s23 :: s24 :: s25 :: s26 :: s27 :: s28 :: s29 :: s30 :: s31 :: s32 :: s33 :: s34 :: s35 :: s36 :: s37 :: s38 :: s39 :: s40 :: s41 :: s42 :: s43 :: s44 :: s45 :: s46 :: s47 :: s48 :: s49 :: s50 :: s51 :: s52 :: s53 :: s54 :: s55 :: s56 :: s57 :: s58 :: s59 :: s60 :: s61 :: s62 :: s63 :: s64 :: s65 :: s66 :: s67 :: s68 :: s69 :: s70 :: s71 :: s72 :: s73 :: s74 :: s75 :: s76 :: s77 :: s78 :: s79 :: s80 :: s81 :: s82 :: s83 :: s84 :: s85 :: s86 :: s87 :: s88 :: s89 :: s90 :: s91 :: s92 :: s93 :: s94 :: s95 :: s96 :: s97 :: s98 :: s99 :: s100 :: s101 :: s102 :: s103 :: s104 :: s105 :: s106 :: s107 :: s108 :: s109 :: s110 :: s111 :: s112 :: s113 :: s114 :: s115 :: s116 :: s117 :: s118 :: s119 :: s120 :: s121 :: s122 :: s123 :: s124 :: s125 :: s126 :: s127 :: s128 :: s129 :: s130 :: s131 :: s132 :: s133 :: s134 :: s135 :: s136 :: s137 :: s138 :: s139 :: s140 :: s141 :: s142 :: s143 :: s144 :: s145 :: s146 :: s147 :: s148 :: s149 :: s150 :: s151 :: s152 :: s153 :: s154 :: s155 :: s156 :: s157 :: s158 :: s159 :: s160 :: s161 :: s162 :: s163 :: s164 :: s165 :: s166 :: s167 :: s168 :: s169 :: s170 :: s171 :: s172 :: s173 :: s174 :: s175 :: s176 :: s177 :: s178 :: s179 :: s180 :: s181 :: s182 :: s183 :: s184 :: s185 :: s186 :: s187 :: s188 :: s189 :: s190 :: s191 :: s192 :: s193 :: s194 :: s195 :: s196 :: s197 :: s198 :: s199 :: s200 :: s201 :: s202 :: s203 :: s204 :: s205 :: s206 :: s207 :: s208 :: s209 :: s210 :: s211 :: s212 :: s213 :: s214 :: s215 :: s216 :: s217 :: s218 :: s219 :: []), []⟩ w0 := by
  refine Code.wp_mono (onExit_imp (n := 0)) ?_
  conv => arg 2; arg 1; whnf
  have HNx := Lib.hid hlow
  clear hlow
  go_loopw [10, 11] (fun vi vj wr => ∃ i j : Nat, vi = .int .i64 (i : Int) ∧ vj = .int .i64 (j : Int) ∧ lo ≤ i ∧ i ≤ j ∧ j ≤ hi ∧ Hid ((i = lo ∨ kd key d (i - 1) < kd key d a) ∧ (j = hi ∨ ¬ (kd key d j < kd key d a))) ∧ Hid (Col wr g d) ∧ Fr (fun b => b = g) w0 wr)
    (fun vi vj _ => (intOf vj).toNat - (intOf vi).toNat)
  case atStart => exact ⟨lo, hi, rfl, rfl, by omega, hlohi, by omega, ⟨.inl rfl, .inl rfl⟩, HC, Fr.refl _ _⟩
  case round =>
    clear HC
    obtain ⟨i, j, rfl, rfl, hli, hij, hjh, HI, HCj, hfr⟩ := hrel
    by_cases hlt : i < j
    · obtain ⟨h, hh⟩ : ∃ h, h = (i + j) / 2 := ⟨_, rfl⟩
      obtain ⟨hm1, hm2⟩ := half_mid hlt hh
      have hd : ((i : Int) + (j : Int)) / 2 = (h : Int) := by omega
      have HD := Lib.hid hd
      clear hh

      obtain ⟨x, hx⟩ : ∃ x, x = d.getD h 0 := ⟨_, rfl⟩
      obtain ⟨y, hy⟩ : ∃ y, y = d.getD a 0 := ⟨_, rfl⟩
      have gx := getE_D (d := d) (i := h) (by rw [HN.out]; omega)
      have gy := getE_D (d := d) (i := a) (by rw [HN.out]; omega)
      rw [← hx] at gx
      rw [← hy] at gy
      have cx := HCj.out.cell gx
      have cy := HCj.out.cell gy
      have hcmp := fun q => HK.out.call (wr.drewN q) x y (hfr.drewN q) (HNx.out x (List.mem_of_getElem? gx)) (HNx.out y (List.mem_of_getElem? gy))
      obtain ⟨kx, hkx⟩ : ∃ kx, kx = key x := ⟨_, rfl⟩
      obtain ⟨ky, hky⟩ : ∃ ky, ky = key y := ⟨_, rfl⟩
      rw [← hkx, ← hky] at hcmp
      have bkx := HK.out.few x
      have bky := HK.out.few y
      rw [← hkx] at bkx
      rw [← hky] at bky
      rw [hx] at hkx
      rw [hy] at hky
      clear hx hy
      replace hkx : kx = kd key d h := hkx
      replace hky : ky = kd key d a := hky
      by_cases hless : kx < ky
      · skip
        have tl : decide ((kx : Int) - (ky : Int) < 0) = true := by simp; omega
        have tl' : (kx : Int) - (ky : Int) < 0 := by omega
        have HUP := Lib.hid (show kd key d h < kd key d a from by rw [← hkx, ← hky]; omega)
        clear hless hkx hky gx gy
        go_wp2_with fail
        go_quiet ((go_at_call 91; refine Calls.quiet_of (hcmp _)))
        have HF2 := Lib.hid (hfr.drewN nq)
        have HC2 : Hid (Col (wr.drewN nq) g d) := HCj
        generalize wr.drewN nq = w3 at HF2 HC2 ⊢
        clear hcmp hfr cx cy HCj tl tl' 
        go_wp2
        go_roundw
        case rel => exact ⟨h + 1, j, by go_num, rfl, by omega, by omega, by omega, Lib.hid (And.intro (Or.inr (by rw [Nat.add_sub_cancel]; exact HUP.out)) HI.out.2), HC2, HF2.out⟩
        case measure => simp [intOf] <;> omega
      · skip
        have tl : decide ((kx : Int) - (ky : Int) < 0) = false := by simp; omega
        have tl' : ¬ (kx : Int) - (ky : Int) < 0 := by omega
        have HUP := Lib.hid (show ¬ (kd key d h < kd key d a) from by rw [← hkx, ← hky]; omega)
        clear hless hkx hky gx gy
        go_wp2_with fail
        go_quiet ((go_at_call 91; refine Calls.quiet_of (hcmp _)))
        have HF2 := Lib.hid (hfr.drewN nq)
        have HC2 : Hid (Col (wr.drewN nq) g d) := HCj
        generalize wr.drewN nq = w3 at HF2 HC2 ⊢
        clear hcmp hfr cx cy HCj tl tl' 
        go_wp2
        go_roundw
        case rel => exact ⟨i, h, rfl, rfl, by omega, by omega, by omega, Lib.hid (And.intro HI.out.1 (Or.inr HUP.out)), HC2, HF2.out⟩
        case measure => simp [intOf] <;> omega
    · obtain rfl : i = j := by omega
      go_wp2_with fail
      exact ⟨rfl, hexit i wr _ _ _ _ _ _ _ _ _ _ _ _ _ _ _ _ _ _ _ _ _ _ _ _ _ hli hjh HI HCj (Lib.hid hfr)⟩

set_option maxRecDepth 1000000 in
noncomputable def bs2Body : Code := ((Tryd.f100.body.bind (loopAt 15)).getD .skip)
set_option maxRecDepth 1000000 in
set_option maxHeartbeats 3200000 in
theorem bs2_loop (Q0 : Exit → Act → World → Prop) (s1 s3 s5 s6 s7 s8 s9 s10 s11 s12 s13 s16 s17 s18 s19 s20 s21 s22 s23 s24 s25 s26 s27 s28 s29 s30 s31 s32 s33 s34 s35 s36 s37 s38 s39 s40 s41 s42 s43 s44 s45 s46 s47 s48 s49 s50 s51 s52 s53 s54 s55 s56 s57 s58 s59 s60 s61 s62 s63 s64 s65 s66 s67 s68 s69 s70 s71 s72 s73 s74 s75 s76 s77 s78 s79 s80 s81 s82 s83 s84 s85 s86 s87 s88 s89 s90 s91 s92 s93 s94 s95 s96 s97 s98 s99 s100 s101 s102 s103 s104 s105 s106 s107 s108 s109 s110 s111 s112 s113 s114 s115 s116 s117 s118 s119 s120 s121 s122 s123 s124 s125 s126 s127 s128 s129 s130 s131 s132 s133 s134 s135 s136 s137 s138 s139 s140 s141 s142 s143 s144 s145 s146 s147 s148 s149 s150 s151 s152 s153 s154 s155 s156 s157 s158 s159 s160 s161 s162 s163 s164 s165 s166 s167 s168 s169 s170 s171 s172 s173 s174 s175 s176 s177 s178 s179 s180 s181 s182 s183 s184 s185 s186 s187 s188 s189 s190 s191 s192 s193 s194 s195 s196 s197 s198 s199 s200 s201 s202 s203 s204 s205 s206 s207 s208 s209 s210 s211 s212 s213 s214 s215 s216 s217 s218 s219 : Value) (g n c bx N lo hi m : Nat) (key : Nat → Nat) (d : List Nat) (w0 : World) (HC : Hid (Col w0 g d)) (HK : Hid (CmpK g bx key N w0)) (HN : Hid (d.length = n)) (hn : n ≤ 1000) (hlow : ∀ x ∈ d, x < N) (hlohi : lo ≤ hi) (han : m < n) (hhi : hi ≤ n)
    (hexit : ∀ (I : Nat) (w'' : World) (r15 r16 r83 r84 r85 r86 r87 r88 r89 r90 r91 r92 r93 r94 r95 r96 r97 r98 r99 r100 r101 r102 r103 r104 r105 r106 : Value), lo ≤ I → I ≤ hi → Hid ((I = lo ∨ ¬ kd key d m < kd key d (I - 1)) ∧ (I = hi ∨ ¬ (¬ kd key d m < kd key d I))) → Hid (Col w'' g d) → Hid (Fr (fun b => b = g) w0 w'') → Q0 (.exit 4) ⟨List.toArray (.slice (some ⟨g, 0, none⟩) n c :: s1 :: .int .i64 (m : Int) :: s3 :: .func (.func 91) #[] #[.pointer (some ⟨bx, 0, none⟩)] :: s5 :: s6 :: s7 :: s8 :: s9 :: s10 :: s11 :: s12 :: s13 :: .int .i64 (I : Int) :: r15 :: r16 :: s17 :: s18 :: s19 :: s20 :: s21 :: s22 :: s23 :: s24 :: s25 :: s26 :: s27 :: s28 :: s29 :: s30 :: s31 :: s32 :: s33 :: s34 :: s35 :: s36 :: s37 :: s38 :: s39 :: s40 :: s41 :: s42 :: s43 :: s44 :: s45 :: s46 :: s47 :: s48 :: s49 :: s50 :: s51 :: s52 :: s53 :: s54 :: s55 :: s56 :: s57 :: s58 :: s59 :: s60 :: s61 :: s62 :: s63 :: s64 :: s65 :: s66 :: s67 :: s68 :: s69 :: s70 :: s71 :: s72 :: s73 :: s74 :: s75 :: s76 :: s77 :: s78 :: s79 :: s80 :: s81 :: s82 :: r83 :: r84 :: r85 :: r86 :: r87 :: r88 :: r89 :: r90 :: r91 :: r92 :: r93 :: r94 :: r95 :: r96 :: r97 :: r98 :: r99 :: r100 :: r101 :: r102 :: r103 :: r104 :: r105 :: r106 :: s107 :: s108 :: s109 :: s110 :: s111 :: s112 :: s113 :: s114 :: s115 :: s116 :: s117 :: s118 :: s119 :: s120 :: s121 :: s122 :: s123 :: s124 :: s125 :: s126 :: s127 :: s128 :: s129 :: s130 :: s131 :: s132 :: s133 :: s134 :: s135 :: s136 :: s137 :: s138 :: s139 :: s140 :: s141 :: s142 :: s143 :: s144 :: s145 :: s146 :: s147 :: s148 :: s149 :: s150 :: s151 :: s152 :: s153 :: s154 :: s155 :: s156 :: s157 :: s158 :: s159 :: s160 :: s161 :: s162 :: s163 :: s164 :: s165 :: s166 :: s167 :: s168 :: s169 :: s170 :: s171 :: s172 :: s173 :: s174 :: s175 :: s176 :: s177 :: s178 :: s179 :: s180 :: s181 :: s182 :: s183 :: s184 :: s185 :: s186 :: s187 :: s188 :: s189 :: s190 :: s191 :: s192 :: s193 :: s194 :: s195 :: s196 :: s197 :: s198 :: s199 :: s200 :: s201 :: s202 :: s203 :: s204 :: s205 :: s206 :: s207 :: s208 :: s209 :: s210 :: s211 :: s212 :: s213 :: s214 :: s215 :: s216 :: s217 :: s218 :: s219 :: []), []⟩ w'') :
    Code.wp Tryd.prog (Code.loop bs2Body) Q0 ⟨List.toArray (.slice (some ⟨g, 0, none⟩) n c :: s1 :: .int .i64 (m : Int) :: s3 :: .func (.func 91) #[] #[.pointer (some ⟨bx, 0, none⟩)] :: s5 :: s6 :: s7 :: s8 :: s9 :: s10 :: s11 :: s12 :: s13 :: .int .i64 (lo : Int) :: .int .i64 (hi : Int) :: s16 :: s17 :: s18 :: s19 :: s20 :: s21 :: s22 :: s23 :: s24 :: s25 :: s26 :: s27 :: s28 :: s29 :: s30 :: s31 :: s32 :: s33 :: s34 :: s35 :: s36 :: s37 :: s38 :: s39 :: s40 :: s41 :: s42 :: s43 :: s44 :: s45 :: s46 :: s47 :: s48 :: s49 :: s50 :: s51 :: s52 :: s53 :: s54 :: s55 :: s56 :: s57 :: s58 :: s59 :: s60 :: s61 :: s62 :: s63 :: s64 :: s65 :: s66 :: s67 :: s68 :: s69 :: s70 :: s71 :: s72 :: s73 :: s74 :: s75 :: s76 :: s77 :: s78 :: s79 :: s80 :: s81 :: s82 :: s83 :: s84 :: s85 :: s86 :: s87 :: s88 :: s89 :: s90 :: s91 :: s92 :: s93 :: s94 :: s95 :: s96 :: s97 :: s98 :: s99 :: s100 :: s101 :: s102 :: s103 :: s104 :: s105 :: s106 :: s107 :: s108 :: s109 :: s110 :: s111 :: s112 :: s113 :: s114 :: s115 :: s116 :: s117 :: s118 :: s119 :: s120 :: s121 :: s122 :: s123 :: s124 :: s125 :: s126 :: s127 :: s128 :: s129 :: s130 :: s131 :: s132 :: s133 :: s134 :: s135 :: s136 :: s137 :: s138 :: s139 :: s140 :: s141 :: s142 :: s143 :: s144 :: s145 :: s146 :: s147 :: s148 :: s149 :: s150 :: s151 :: s152 :: s153 :: s154 :: s155 :: s156 :: s157 :: s158 :: s159 :: s160 :: s161 :: s162 :: s163 :: s164 :: s165 :: s166 :: s167 :: s168 :: s169 :: s170 :: s171 :: s172 :: s173 :: s174 :: s175 :: s176 :: s177 :: s178 :: s179 :: s180 :: s181 :: s182 :: s183 :: s184 :: s185 :: s186 :: s187 :: s188 :: s189 :: s190 :: s191 :: s192 :: s193 :: s194 :: s195 :: s196 :: s197 :: s198 :: s199 :: s200 :: s201 :: s202 :: s203 :: s204 :: s205 :: s206 :: s207 :: s208 :: s209 :: s210 :: s211 :: s212 :: s213 :: s214 :: s215 :: s216 :: s217 :: s218 :: s219 :: []), []⟩ w0 := by
  refine Code.wp_mono (onExit_imp (n := 4)) ?_
  conv => arg 2; arg 1; whnf
  have HNx := Lib.hid hlow
  clear hlow
  go_loopw [14, 15] (fun vi vj wr => ∃ i j : Nat, vi = .int .i64 (i : Int) ∧ vj = .int .i64 (j : Int) ∧ lo ≤ i ∧ i ≤ j ∧ j ≤ hi ∧ Hid ((i = lo ∨ ¬ kd key d m < kd key d (i - 1)) ∧ (j = hi ∨ ¬ (¬ kd key d m < kd key d j))) ∧ Hid (Col wr g d) ∧ Fr (fun b => b = g) w0 wr)
    (fun vi vj _ => (intOf vj).toNat - (intOf vi).toNat)
  case atStart => exact ⟨lo, hi, rfl, rfl, by omega, hlohi, by omega, ⟨.inl rfl, .inl rfl⟩, HC, Fr.refl _ _⟩
  case round =>
    clear HC
    obtain ⟨i, j, rfl, rfl, hli, hij, hjh, HI, HCj, hfr⟩ := hrel
    by_cases hlt : i < j
    · obtain ⟨h, hh⟩ : ∃ h, h = (i + j) / 2 := ⟨_, rfl⟩
      obtain ⟨hm1, hm2⟩ := half_mid hlt hh
      have hd : ((i : Int) + (j : Int)) / 2 = (h : Int) := by omega
      have HD := Lib.hid hd
      clear hh

      obtain ⟨x, hx⟩ : ∃ x, x = d.getD m 0 := ⟨_, rfl⟩
      obtain ⟨y, hy⟩ : ∃ y, y = d.getD h 0 := ⟨_, rfl⟩
      have gx := getE_D (d := d) (i := m) (by rw [HN.out]; omega)
      have gy := getE_D (d := d) (i := h) (by rw [HN.out]; omega)
      rw [← hx] at gx
      rw [← hy] at gy
      have cx := HCj.out.cell gx
      have cy := HCj.out.cell gy
      have hcmp := fun q => HK.out.call (wr.drewN q) x y (hfr.drewN q) (HNx.out x (List.mem_of_getElem? gx)) (HNx.out y (List.mem_of_getElem? gy))
      obtain ⟨kx, hkx⟩ : ∃ kx, kx = key x := ⟨_, rfl⟩
      obtain ⟨ky, hky⟩ : ∃ ky, ky = key y := ⟨_, rfl⟩
      rw [← hkx, ← hky] at hcmp
      have bkx := HK.out.few x
      have bky := HK.out.few y
      rw [← hkx] at bkx
      rw [← hky] at bky
      rw [hx] at hkx
      rw [hy] at hky
      clear hx hy
      replace hkx : kx = kd key d m := hkx
      replace hky : ky = kd key d h := hky
      by_cases hless : kx < ky
      · skip
        have tl : decide ((kx : Int) - (ky : Int) < 0) = true := by simp; omega
        have tl' : (kx : Int) - (ky : Int) < 0 := by omega
        have HUP := Lib.hid (show ¬ (¬ kd key d m < kd key d h) from by rw [← hkx, ← hky]; omega)
        clear hless hkx hky gx gy
        go_wp2_with fail
        go_quiet ((go_at_call 91; refine Calls.quiet_of (hcmp _)))
        have HF2 := Lib.hid (hfr.drewN nq)
        have HC2 : Hid (Col (wr.drewN nq) g d) := HCj
        generalize wr.drewN nq = w3 at HF2 HC2 ⊢
        clear hcmp hfr cx cy HCj tl tl' 
        go_wp2
        go_roundw
        case rel => exact ⟨i, h, rfl, rfl, by omega, by omega, by omega, Lib.hid (And.intro HI.out.1 (Or.inr HUP.out)), HC2, HF2.out⟩
        case measure => simp [intOf] <;> omega
      · skip
        have tl : decide ((kx : Int) - (ky : Int) < 0) = false := by simp; omega
        have tl' : ¬ (kx : Int) - (ky : Int) < 0 := by omega
        have HUP := Lib.hid (show ¬ kd key d m < kd key d h from by rw [← hkx, ← hky]; omega)
        clear hless hkx hky gx gy
        go_wp2_with fail
        go_quiet ((go_at_call 91; refine Calls.quiet_of (hcmp _)))
        have HF2 := Lib.hid (hfr.drewN nq)
        have HC2 : Hid (Col (wr.drewN nq) g d) := HCj
        generalize wr.drewN nq = w3 at HF2 HC2 ⊢
        clear hcmp hfr cx cy HCj tl tl' 
        go_wp2
        go_roundw
        case rel => exact ⟨h + 1, j, by go_num, rfl, by omega, by omega, by omega, Lib.hid (And.intro (Or.inr (by rw [Nat.add_sub_cancel]; exact HUP.out)) HI.out.2), HC2, HF2.out⟩
        case measure => simp [intOf] <;> omega
    · obtain rfl : i = j := by omega
      go_wp2_with fail
      exact ⟨rfl, hexit i wr _ _ _ _ _ _ _ _ _ _ _ _ _ _ _ _ _ _ _ _ _ _ _ _ _ _ hli hjh HI HCj (Lib.hid hfr)⟩

set_option maxRecDepth 1000000 in
noncomputable def bs3Body : Code := ((Tryd.f100.body.bind (loopAt 33)).getD .skip)
set_option maxRecDepth 1000000 in
set_option maxHeartbeats 3200000 in
theorem bs3_loop (Q0 : Exit → Act → World → Prop) (s1 s2 s3 s5 s6 s7 s8 s9 s10 s11 s12 s13 s14 s15 s16 s17 s18 s19 s23 s24 s25 s26 s27 s28 s29 s30 s31 s32 s33 s34 s35 s36 s37 s38 s39 s40 s41 s42 s43 s44 s45 s46 s47 s48 s49 s50 s51 s52 s53 s54 s55 s56 s57 s58 s59 s60 s61 s62 s63 s64 s65 s66 s67 s68 s69 s70 s71 s72 s73 s74 s75 s76 s77 s78 s79 s80 s81 s82 s83 s84 s85 s86 s87 s88 s89 s90 s91 s92 s93 s94 s95 s96 s97 s98 s99 s100 s101 s102 s103 s104 s105 s106 s107 s108 s109 s110 s111 s112 s113 s114 s115 s116 s117 s118 s119 s120 s121 s122 s123 s124 s125 s126 s127 s128 s129 s130 s131 s132 s133 s134 s135 s136 s137 s138 s139 s140 s141 s142 s143 s144 s145 s146 s147 s148 s149 s150 s151 s152 s153 s154 s155 s156 s157 s158 s159 s160 s161 s162 s163 s164 s165 s166 s167 s168 s169 s170 s171 s172 s173 s174 s175 s176 s177 s178 s179 s180 s181 s182 s183 s184 s185 s186 s187 s188 s189 s190 s191 s192 s193 s194 s195 s196 s197 s198 s199 s200 s201 s202 s203 s204 s205 s206 s207 s208 s209 s210 s211 s212 s213 s214 s215 s216 s217 s218 s219 : Value) (g n c bx N lo hi p : Nat) (key : Nat → Nat) (d : List Nat) (w0 : World) (HC : Hid (Col w0 g d)) (HK : Hid (CmpK g bx key N w0)) (HN : Hid (d.length = n)) (hn : n ≤ 1000) (hlow : ∀ x ∈ d, x < N) (hlohi : lo ≤ hi) (hpn : p - lo < n) (hp2 : p ≤ 2000) (hhi : hi ≤ p + 1) (hhn : hi ≤ n)
    (hexit : ∀ (I : Nat) (w'' : World) (r21 r23 r149 r150 r151 r152 r153 r154 r155 r156 r157 r158 r159 r160 r161 r162 r163 r164 r165 r166 r167 r168 r169 r170 r171 r172 r173 r174 : Value), lo ≤ I → I ≤ hi → Hid ((I = lo ∨ ¬ kd key d (p - (I - 1)) < kd key d (I - 1)) ∧ (I = hi ∨ ¬ (¬ kd key d (p - I) < kd key d I))) → Hid (Col w'' g d) → Hid (Fr (fun b => b = g) w0 w'') → Q0 (.exit 8) ⟨List.toArray (.slice (some ⟨g, 0, none⟩) n c :: s1 :: s2 :: s3 :: .func (.func 91) #[] #[.pointer (some ⟨bx, 0, none⟩)] :: s5 :: s6 :: s7 :: s8 :: s9 :: s10 :: s11 :: s12 :: s13 :: s14 :: s15 :: s16 :: s17 :: s18 :: s19 :: .int .i64 (I : Int) :: r21 :: .int .i64 (p : Int) :: r23 :: s24 :: s25 :: s26 :: s27 :: s28 :: s29 :: s30 :: s31 :: s32 :: s33 :: s34 :: s35 :: s36 :: s37 :: s38 :: s39 :: s40 :: s41 :: s42 :: s43 :: s44 :: s45 :: s46 :: s47 :: s48 :: s49 :: s50 :: s51 :: s52 :: s53 :: s54 :: s55 :: s56 :: s57 :: s58 :: s59 :: s60 :: s61 :: s62 :: s63 :: s64 :: s65 :: s66 :: s67 :: s68 :: s69 :: s70 :: s71 :: s72 :: s73 :: s74 :: s75 :: s76 :: s77 :: s78 :: s79 :: s80 :: s81 :: s82 :: s83 :: s84 :: s85 :: s86 :: s87 :: s88 :: s89 :: s90 :: s91 :: s92 :: s93 :: s94 :: s95 :: s96 :: s97 :: s98 :: s99 :: s100 :: s101 :: s102 :: s103 :: s104 :: s105 :: s106 :: s107 :: s108 :: s109 :: s110 :: s111 :: s112 :: s113 :: s114 :: s115 :: s116 :: s117 :: s118 :: s119 :: s120 :: s121 :: s122 :: s123 :: s124 :: s125 :: s126 :: s127 :: s128 :: s129 :: s130 :: s131 :: s132 :: s133 :: s134 :: s135 :: s136 :: s137 :: s138 :: s139 :: s140 :: s141 :: s142 :: s143 :: s144 :: s145 :: s146 :: s147 :: s148 :: r149 :: r150 :: r151 :: r152 :: r153 :: r154 :: r155 :: r156 :: r157 :: r158 :: r159 :: r160 :: r161 :: r162 :: r163 :: r164 :: r165 :: r166 :: r167 :: r168 :: r169 :: r170 :: r171 :: r172 :: r173 :: r174 :: s175 :: s176 :: s177 :: s178 :: s179 :: s180 :: s181 :: s182 :: s183 :: s184 :: s185 :: s186 :: s187 :: s188 :: s189 :: s190 :: s191 :: s192 :: s193 :: s194 :: s195 :: s196 :: s197 :: s198 :: s199 :: s200 :: s201 :: s202 :: s203 :: s204 :: s205 :: s206 :: s207 :: s208 :: s209 :: s210 :: s211 :: s212 :: s213 :: s214 :: s215 :: s216 :: s217 :: s218 :: s219 :: []), []⟩ w'') :
    Code.wp Tryd.prog (Code.loop bs3Body) Q0 ⟨List.toArray (.slice (some ⟨g, 0, none⟩) n c :: s1 :: s2 :: s3 :: .func (.func 91) #[] #[.pointer (some ⟨bx, 0, none⟩)] :: s5 :: s6 :: s7 :: s8 :: s9 :: s10 :: s11 :: s12 :: s13 :: s14 :: s15 :: s16 :: s17 :: s18 :: s19 :: .int .i64 (lo : Int) :: .int .i64 (hi : Int) :: .int .i64 (p : Int) :: s23 :: s24 :: s25 :: s26 :: s27 :: s28 :: s29 :: s30 :: s31 :: s32 :: s33 :: s34 :: s35 :: s36 :: s37 :: s38 :: s39 :: s40 :: s41 :: s42 :: s43 :: s44 :: s45 :: s46 :: s47 :: s48 :: s49 :: s50 :: s51 :: s52 :: s53 :: s54 :: s55 :: s56 :: s57 :: s58 :: s59 :: s60 :: s61 :: s62 :: s63 :: s64 :: s65 :: s66 :: s67 :: s68 :: s69 :: s70 :: s71 :: s72 :: s73 :: s74 :: s75 :: s76 :: s77 :: s78 :: s79 :: s80 :: s81 :: s82 :: s83 :: s84 :: s85 :: s86 :: s87 :: s88 :: s89 :: s90 :: s91 :: s92 :: s93 :: s94 :: s95 :: s96 :: s97 :: s98 :: s99 :: s100 :: s101 :: s102 :: s103 :: s104 :: s105 :: s106 :: s107 :: s108 :: s109 :: s110 :: s111 :: s112 :: s113 :: s114 :: s115 :: s116 :: s117 :: s118 :: s119 :: s120 :: s121 :: s122 :: s123 :: s124 :: s125 :: s126 :: s127 :: s128 :: s129 :: s130 :: s131 :: s132 :: s133 :: s134 :: s135 :: s136 :: s137 :: s138 :: s139 :: s140 :: s141 :: s142 :: s143 :: s144 :: s145 :: s146 :: s147 :: s148 :: s149 :: s150 :: s151 :: s152 :: s153 :: s154 :: s155 :: s156 :: s157 :: s158 :: s159 :: s160 :: s161 :: s162 :: s163 :: s164 :: s165 :: s166 :: s167 :: s168 :: s169 :: s170 :: s171 :: s172 :: s173 :: s174 :: s175 :: s176 :: s177 :: s178 :: s179 :: s180 :: s181 :: s182 :: s183 :: s184 :: s185 :: s186 :: s187 :: s188 :: s189 :: s190 :: s191 :: s192 :: s193 :: s194 :: s195 :: s196 :: s197 :: s198 :: s199 :: s200 :: s201 :: s202 :: s203 :: s204 :: s205 :: s206 :: s207 :: s208 :: s209 :: s210 :: s211 :: s212 :: s213 :: s214 :: s215 :: s216 :: s217 :: s218 :: s219 :: []), []⟩ w0 := by
  refine Code.wp_mono (onExit_imp (n := 8)) ?_
  conv => arg 2; arg 1; whnf
  have HNx := Lib.hid hlow
  clear hlow
  go_loopw [20, 21] (fun vi vj wr => ∃ i j : Nat, vi = .int .i64 (i : Int) ∧ vj = .int .i64 (j : Int) ∧ lo ≤ i ∧ i ≤ j ∧ j ≤ hi ∧ Hid ((i = lo ∨ ¬ kd key d (p - (i - 1)) < kd key d (i - 1)) ∧ (j = hi ∨ ¬ (¬ kd key d (p - j) < kd key d j))) ∧ Hid (Col wr g d) ∧ Fr (fun b => b = g) w0 wr)
    (fun vi vj _ => (intOf vj).toNat - (intOf vi).toNat)
  case atStart => exact ⟨lo, hi, rfl, rfl, by omega, hlohi, by omega, ⟨.inl rfl, .inl rfl⟩, HC, Fr.refl _ _⟩
  case round =>
    clear HC
    obtain ⟨i, j, rfl, rfl, hli, hij, hjh, HI, HCj, hfr⟩ := hrel
    by_cases hlt : i < j
    · obtain ⟨h, hh⟩ : ∃ h, h = (i + j) / 2 := ⟨_, rfl⟩
      obtain ⟨hm1, hm2⟩ := half_mid hlt hh
      have hd : ((i : Int) + (j : Int)) / 2 = (h : Int) := by omega
      have HD := Lib.hid hd
      clear hh
      obtain ⟨u, hu⟩ : ∃ u, u = p - h := ⟨_, rfl⟩
      have ru : IntKind.i64.wrap ((p : Int) - (h : Int)) = (u : Int) := by rw [IntKind.wrap_i64]; omega
      have hun : u < n := by omega
      have HU := Lib.hid hu
      clear hu

      obtain ⟨x, hx⟩ : ∃ x, x = d.getD u 0 := ⟨_, rfl⟩
      obtain ⟨y, hy⟩ : ∃ y, y = d.getD h 0 := ⟨_, rfl⟩
      have gx := getE_D (d := d) (i := u) (by rw [HN.out]; omega)
      have gy := getE_D (d := d) (i := h) (by rw [HN.out]; omega)
      rw [← hx] at gx
      rw [← hy] at gy
      have cx := HCj.out.cell gx
      have cy := HCj.out.cell gy
      have hcmp := fun q => HK.out.call (wr.drewN q) x y (hfr.drewN q) (HNx.out x (List.mem_of_getElem? gx)) (HNx.out y (List.mem_of_getElem? gy))
      obtain ⟨kx, hkx⟩ : ∃ kx, kx = key x := ⟨_, rfl⟩
      obtain ⟨ky, hky⟩ : ∃ ky, ky = key y := ⟨_, rfl⟩
      rw [← hkx, ← hky] at hcmp
      have bkx := HK.out.few x
      have bky := HK.out.few y
      rw [← hkx] at bkx
      rw [← hky] at bky
      rw [hx] at hkx
      rw [hy] at hky
      clear hx hy
      replace hkx : kx = kd key d u := hkx
      replace hky : ky = kd key d h := hky
      by_cases hless : kx < ky
      · skip
        have tl : decide ((kx : Int) - (ky : Int) < 0) = true := by simp; omega
        have tl' : (kx : Int) - (ky : Int) < 0 := by omega
        have HUP := Lib.hid (show ¬ (¬ kd key d (p - h) < kd key d h) from by rw [← HU.out, ← hkx, ← hky]; omega)
        clear hless hkx hky gx gy
        go_wp2_with fail
        go_quiet ((go_at_call 91; refine Calls.quiet_of (hcmp _)))
        have HF2 := Lib.hid (hfr.drewN nq)
        have HC2 : Hid (Col (wr.drewN nq) g d) := HCj
        generalize wr.drewN nq = w3 at HF2 HC2 ⊢
        clear hcmp hfr cx cy HCj tl tl' 
        go_wp2
        go_roundw
        case rel => exact ⟨i, h, rfl, rfl, by omega, by omega, by omega, Lib.hid (And.intro HI.out.1 (Or.inr HUP.out)), HC2, HF2.out⟩
        case measure => simp [intOf] <;> omega
      · skip
        have tl : decide ((kx : Int) - (ky : Int) < 0) = false := by simp; omega
        have tl' : ¬ (kx : Int) - (ky : Int) < 0 := by omega
        have HUP := Lib.hid (show ¬ kd key d (p - h) < kd key d h from by rw [← HU.out, ← hkx, ← hky]; omega)
        clear hless hkx hky gx gy
        go_wp2_with fail
        go_quiet ((go_at_call 91; refine Calls.quiet_of (hcmp _)))
        have HF2 := Lib.hid (hfr.drewN nq)
        have HC2 : Hid (Col (wr.drewN nq) g d) := HCj
        generalize wr.drewN nq = w3 at HF2 HC2 ⊢
        clear hcmp hfr cx cy HCj tl tl' 
        go_wp2
        go_roundw
        case rel => exact ⟨h + 1, j, by go_num, rfl, by omega, by omega, by omega, Lib.hid (And.intro (Or.inr (by rw [Nat.add_sub_cancel]; exact HUP.out)) HI.out.2), HC2, HF2.out⟩
        case measure => simp [intOf] <;> omega
    · obtain rfl : i = j := by omega
      go_wp2_with fail
      exact ⟨rfl, hexit i wr _ _ _ _ _ _ _ _ _ _ _ _ _ _ _ _ _ _ _ _ _ _ _ _ _ _ _ _ hli hjh HI HCj (Lib.hid hfr)⟩
end Go.Proofs.YtahfmcdhcbfkaaaDoor
