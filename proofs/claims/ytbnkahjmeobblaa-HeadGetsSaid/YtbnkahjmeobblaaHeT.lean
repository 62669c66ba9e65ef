/-
  Layer 20, the reference's num and text; what is left of Get behind each of its parts.
-/
import Derived.Test.YtbnkahjmeobblaaHeN
import Derived.Test.YtbnkahjmeobblaaZm38
import Derived.Test.YtbnkahjmeobblaaCoU
import Derived.Test.YtbnkahjmeobblaaAcF
namespace Go.Proofs.Ytbnkahjmeobblaa
open Go.RowKit Mem Go.Lib LebM UtfM AcM OpM HeM
attribute [local go_sem ↓] Go.wp_at_zero Go.wp_at_succ
set_option linter.unusedVariables false

/-- a number, from lo to hi: it, how many bytes, which error -/
def numH (lo hi : Nat) (B : List UInt8) : Nat × Nat × Nat := if (gu B).2.2 ≠ 0 then (0, 0, (gu B).2.2) else if (gu B).1 < lo then (0, 0, 3) else if hi < (gu B).1 then (0, 0, 4) else ((gu B).1, (gu B).2.1, 0)
/-- a text of such a length: it, how many bytes, which error -/
def textH (lo hi : Nat) (B : List UInt8) : Tx × Nat × Nat :=
  if (numH lo hi B).2.2 ≠ 0 then ([], 0, (numH lo hi B).2.2) else if B.length < (numH lo hi B).2.1 + (numH lo hi B).1 then ([], 0, 2) else ((B.drop (numH lo hi B).2.1).take (numH lo hi B).1, (numH lo hi B).2.1 + (numH lo hi B).1, 0)
theorem numH_le (lo hi : Nat) (B : List UInt8) : (numH lo hi B).2.1 ≤ B.length ∧ (numH lo hi B).1 ≤ hi ∧ (numH lo hi B).2.2 ≤ 4 := by
  have h := DirM.gu_lt B
  unfold numH
  split
  · exact ⟨Nat.zero_le _, Nat.zero_le _, by simp only; omega⟩
  · split
    · exact ⟨Nat.zero_le _, Nat.zero_le _, by simp⟩
    · split
      · exact ⟨Nat.zero_le _, Nat.zero_le _, by simp⟩
      · exact ⟨h.2.1, by simp only; omega, by simp⟩
theorem num_of {hi : Nat} {B : List UInt8} : num hi ⟨B, 0⟩ = ((numH 0 hi B).1, ⟨B.drop (numH 0 hi B).2.1, (numH 0 hi B).2.2⟩) := by
  unfold num DirM.numD numH
  rw [if_neg (by simp)]
  simp only
  by_cases h1 : (gu B).2.2 ≠ 0
  · rw [if_pos h1, if_pos h1]
  · rw [if_neg h1, if_neg h1, if_neg (show ¬ (gu B).1 < 0 by omega)]
theorem pos_of {hi : Nat} {B : List UInt8} : pos hi ⟨B, 0⟩ = ((numH 1 hi B).1, ⟨B.drop (numH 1 hi B).2.1, (numH 1 hi B).2.2⟩) ∨ ((numH 1 hi B).2.2 ≠ 0 ∧ (pos hi ⟨B, 0⟩).2.e = (numH 1 hi B).2.2) := by
  unfold pos
  rw [num_of]
  unfold numH
  by_cases h1 : (gu B).2.2 ≠ 0
  · rw [if_pos h1, if_pos h1]
    exact .inr ⟨h1, rf_keep h1⟩
  · rw [if_neg h1, if_neg h1, if_neg (show ¬ (gu B).1 < 0 by omega)]
    by_cases h2 : hi < (gu B).1
    · rw [if_pos h2]
      by_cases h3 : (gu B).1 < 1
      · rw [if_pos h3]; exact absurd h2 (by omega)
      · rw [if_neg h3]
        first
        | rw [if_pos h2]
        | skip
        refine .inr ⟨by simp, ?_⟩
        simp only
        exact rf_keep (by decide)
    · rw [if_neg h2]
      by_cases h3 : (gu B).1 < 1
      · rw [if_pos h3]
        refine .inr ⟨by simp, ?_⟩
        show rf (decide ((gu B).1 = 0)) 3 0 = 3
        rw [decide_eq_true (by omega)]
        rfl
      · rw [if_neg h3]
        refine .inl ?_
        simp only
        rw [decide_eq_false (by omega), rf_no]
theorem pos_yes {hi : Nat} {B : List UInt8} (h : (numH 1 hi B).2.2 = 0) : pos hi ⟨B, 0⟩ = ((numH 1 hi B).1, ⟨B.drop (numH 1 hi B).2.1, 0⟩) := by
  rcases pos_of (hi := hi) (B := B) with h1 | h1
  · rw [h1, h]
  · exact absurd h h1.1
theorem pos_err {hi : Nat} {B : List UInt8} : (pos hi ⟨B, 0⟩).2.e = (numH 1 hi B).2.2 := by
  rcases pos_of (hi := hi) (B := B) with h1 | h1
  · rw [h1]
  · exact h1.2
/-- what is left of Get behind each of its parts -/
def fin20 (c : Ch) : St → (Ch × List Tx) × St := bnd (tabS c.a) fun T => rt (c, T)
def k7 (D : List Tx) (a : Tx) (q s : Nat) (t : Int) (m : Tx) : St → (Ch × List Tx) × St := bnd (chk (!decide (wh m = m.length))) fun _ => fin20 ⟨a, (q : Int), (s : Int), t, m, D⟩
def k6 (D : List Tx) (a : Tx) (q s : Nat) (t : Int) : St → (Ch × List Tx) × St := bnd (bnd (num 1000) byt) fun m => k7 D a q s t m
def k5 (D : List Tx) (a : Tx) (q s : Nat) : St → (Ch × List Tx) × St := bnd sig fun t => k6 D a q s t
def k4 (D : List Tx) (a : Tx) (q : Nat) : St → (Ch × List Tx) × St := bnd (pos 9007199254740991) fun s => k5 D a q s
def k3 (D : List Tx) (a : Tx) : St → (Ch × List Tx) × St := bnd (pos 9007199254740991) fun q => k4 D a q
def k2 (D : List Tx) : St → (Ch × List Tx) × St := bnd (bnd (pos 16) byt) fun a => k3 D a
theorem bnd_assoc {α β γ : Type} (f : St → α × St) (g : α → St → β × St) (h : β → St → γ × St) : bnd (bnd f g) h = bnd f (fun x => bnd (g x) h) := rfl
theorem bnd_cong {α β : Type} (f : St → α × St) {g g' : α → St → β × St} (h : ∀ x, g x = g' x) : bnd f g = bnd f g' := by rw [show g = g' from funext h]
theorem k2_eq (D : List Tx) : k2 D = bnd (pos 16) fun n => bnd (byt n) fun a => k3 D a := bnd_assoc _ _ _
theorem k6_eq (D a q s t) : k6 D a q s t = bnd (num 1000) fun k => bnd (byt k) fun m => k7 D a q s t m := bnd_assoc _ _ _
theorem rd_k : rdH = bnd deps k2 := by
  unfold rdH chg
  rw [bnd_assoc]
  refine bnd_cong _ fun D => ?_
  rw [k2_eq, bnd_assoc]
  refine bnd_cong _ fun n => ?_
  rw [bnd_assoc]
  refine bnd_cong _ fun a => ?_
  unfold k3
  rw [bnd_assoc]
  refine bnd_cong _ fun q => ?_
  unfold k4
  rw [bnd_assoc]
  refine bnd_cong _ fun s => ?_
  unfold k5
  rw [bnd_assoc]
  refine bnd_cong _ fun t => ?_
  rw [k6_eq, bnd_assoc]
  refine bnd_cong _ fun k => ?_
  rw [bnd_assoc]
  refine bnd_cong _ fun m => ?_
  unfold k7 fin20
  rw [bnd_assoc]
  rfl
theorem s7 (D a q s t m) : Sticky (k7 D a q s t m) := (chk_sticky _).bnd fun _ => (tab_sticky _).bnd fun _ => rt_sticky _
theorem tx_sticky {f : St → Nat × St} (h : Sticky f) : Sticky (bnd f byt) := h.bnd byt_sticky
theorem s6 (D a q s t) : Sticky (k6 D a q s t) := (tx_sticky (num_sticky _)).bnd fun _ => s7 _ _ _ _ _ _
theorem s5 (D a q s) : Sticky (k5 D a q s) := sig_sticky.bnd fun _ => s6 _ _ _ _ _
theorem s4 (D a q) : Sticky (k4 D a q) := (pos_sticky _).bnd fun _ => s5 _ _ _ _
theorem s3 (D a) : Sticky (k3 D a) := (pos_sticky _).bnd fun _ => s4 _ _ _
theorem s2 (D) : Sticky (k2 D) := (tx_sticky (pos_sticky _)).bnd fun _ => s3 _ _
/-- reading stands ahead of r, with s left -/
def At20 (B : List UInt8) (r : St → (Ch × List Tx) × St) (s : St) : Prop := rdH ⟨B, 0⟩ = r s
theorem At20.step {α : Type} {B : List UInt8} {f : St → α × St} {g : α → St → (Ch × List Tx) × St} {s s' : St} {x : α} (h : At20 B (bnd f g) s) (e : f s = (x, s')) : At20 B (g x) s' := by
  unfold At20 at h ⊢
  rw [h, bnd_eq e]
theorem At20.bad {B : List UInt8} {r : St → (Ch × List Tx) × St} {s : St} (h : At20 B r s) (hs : Sticky r) (he : s.e ≠ 0) : getH B = (zeroC, [], 0, s.e) := by
  unfold At20 at h
  have e : (rdH ⟨B, 0⟩).2.e = s.e := by rw [h, hs s he]
  unfold getH
  rw [if_pos (by rw [e]; exact he), e]
/-- a text's length, and it -/
theorem text_err {f : St → Nat × St} {B : List UInt8} {lo hi : Nat} (hf : (numH lo hi B).2.2 = 0 → f ⟨B, 0⟩ = ((numH lo hi B).1, ⟨B.drop (numH lo hi B).2.1, 0⟩)) (he : (f ⟨B, 0⟩).2.e = (numH lo hi B).2.2) :
    ((bnd f byt) ⟨B, 0⟩).2.e = (textH lo hi B).2.2 ∧ ((textH lo hi B).2.2 = 0 → (bnd f byt) ⟨B, 0⟩ = ((textH lo hi B).1, ⟨B.drop (textH lo hi B).2.1, 0⟩)) := by
  unfold textH
  by_cases h0 : (numH lo hi B).2.2 ≠ 0
  · rw [if_pos h0]
    refine ⟨?_, fun h => absurd h h0⟩
    unfold bnd
    rw [byt_sticky _ _ (by rw [he]; exact h0), he]
  · rw [if_neg h0]
    have hz : (numH lo hi B).2.2 = 0 := by omega
    have hl := (numH_le lo hi B).1
    have e := hf hz
    generalize numH lo hi B = X at *
    unfold bnd
    rw [e]
    unfold byt
    simp only
    rw [if_neg (by simp)]
    by_cases h1 : B.length < X.2.1 + X.1
    · rw [if_pos h1, if_pos (by rw [List.length_drop]; omega)]
      exact ⟨rfl, fun h => by cases h⟩
    · rw [if_neg h1, if_neg (by rw [List.length_drop]; omega)]
      refine ⟨rfl, fun _ => ?_⟩
      simp only
      rw [List.drop_drop]
set_option maxRecDepth 100000 in
set_option maxHeartbeats 3200000 in
theorem rNum20_any (A : Option Addr) (n c : Nat) (B : List UInt8) (p lo hi : Nat) (w : World) (hr : Rd w A n (B.map bytec)) (hc : n ≤ c) (hn : n ≤ 1000000) (hp : p ≤ n) (hlo : lo ≤ 1) (hhi : hi ≤ 9007199254740991) :
    Calls Try.prog 41 #[.slice A n c, .int .i64 (p : Int), .int .u64 (lo : Int), .int .u64 (hi : Int)] w fun e w' => e = .returned (.tuple #[.int .i64 ((numH lo hi (B.drop p)).1 : Int), .int .i64 (if (numH lo hi (B.drop p)).2.2 = 0 then ((p + (numH lo hi (B.drop p)).2.1 : Nat) : Int) else 0), .int .i64 ((numH lo hi (B.drop p)).2.2 : Int)]) ∧ Fr (fun _ => False) w w' := by
  have hBn : B.length = n := by simpa using hr.1
  have hrd := rd_from hr hp hc
  rw [← List.map_drop] at hrd
  have hg := racNum_any (cutAt A c p) (n - p) (c - p) (B.drop p) w hrd (by omega)
  have hl := DirM.gu_lt (B.drop p)
  rw [List.length_drop, hBn] at hl
  have hfrom := fun w' => run_fromB A n c p hp (p : Int) rfl w'
  obtain ⟨X, hX⟩ : ∃ X, numH lo hi (B.drop p) = X := ⟨_, rfl⟩
  have hX2 := hX
  unfold numH at hX2
  obtain ⟨N, hN⟩ : ∃ N, (gu (B.drop p)).1 = N := ⟨_, rfl⟩
  obtain ⟨K, hK⟩ : ∃ K, (gu (B.drop p)).2.1 = K := ⟨_, rfl⟩
  obtain ⟨E, hE⟩ : ∃ E, (gu (B.drop p)).2.2 = E := ⟨_, rfl⟩
  rw [hN, hK, hE] at hg hX2 hl
  rw [hX]
  have HG := Lib.hid hg
  clear hg hrd hr hBn hX hN hK hE
  by_cases h1 : E ≠ 0
  · rw [if_pos h1] at hX2
    subst hX2
    have t1 : ((E : Int) != 0) = true := by simp; omega
    simp only
    rw [if_neg h1]
    clear hl
    go_enter Try.func41, Try.ntmps41
    go_wp2_with fail
    refine HG.out.mono ?_
    rintro e w1 ⟨rfl, hf⟩
    have HF := Lib.hid hf
    clear hf
    go_wp2_with fail
    exact bodyPost_ret (v := .tuple #[.int .i64 0, .int .i64 0, .int .i64 (E : Int)]) (by simp [results, Try.results41, go_sem]) rfl ⟨rfl, HF.out⟩
  · rw [if_neg h1] at hX2
    have hE0 : E = 0 := by omega
    subst hE0
    have t1 : (((0 : Nat) : Int) != 0) = false := by simp
    by_cases h2 : N < lo
    · rw [if_pos h2] at hX2
      subst hX2
      have t2 : decide ((N : Int) < (lo : Int)) = true := decide_eq_true (by omega)
      clear hl
      go_enter Try.func41, Try.ntmps41
      go_wp2_with fail
      refine HG.out.mono ?_
      rintro e w1 ⟨rfl, hf⟩
      have HF := Lib.hid hf
      clear hf
      go_wp2_with fail
      exact bodyPost_ret (v := .tuple #[.int .i64 0, .int .i64 0, .int .i64 3]) (by simp [results, Try.results41, go_sem]) rfl ⟨rfl, HF.out⟩
    · rw [if_neg h2] at hX2
      have t2 : decide ((N : Int) < (lo : Int)) = false := decide_eq_false (by omega)
      by_cases h3 : hi < N
      · rw [if_pos h3] at hX2
        subst hX2
        have t3 : decide ((hi : Int) < (N : Int)) = true := decide_eq_true (by omega)
        clear hl
        go_enter Try.func41, Try.ntmps41
        go_wp2_with fail
        refine HG.out.mono ?_
        rintro e w1 ⟨rfl, hf⟩
        have HF := Lib.hid hf
        clear hf
        go_wp2_with fail
        exact bodyPost_ret (v := .tuple #[.int .i64 0, .int .i64 0, .int .i64 4]) (by simp [results, Try.results41, go_sem]) rfl ⟨rfl, HF.out⟩
      · rw [if_neg h3] at hX2
        subst hX2
        have t3 : decide ((hi : Int) < (N : Int)) = false := decide_eq_false (by omega)
        have r1 : IntKind.i64.wrap (N : Int) = (N : Int) := by rw [IntKind.wrap_i64]; omega
        have r2 : IntKind.i64.wrap ((p : Int) + (K : Int)) = ((p + K : Nat) : Int) := by rw [IntKind.wrap_i64]; omega
        simp only
        rw [if_pos trivial]
        go_enter Try.func41, Try.ntmps41
        go_wp2_with fail
        refine HG.out.mono ?_
        rintro e w1 ⟨rfl, hf⟩
        have HF := Lib.hid hf
        clear hf
        go_wp2_with fail
        exact bodyPost_ret (v := .tuple #[.int .i64 (N : Int), .int .i64 ((p + K : Nat) : Int), .int .i64 0]) (by simp [results, Try.results41, go_sem]) rfl ⟨rfl, HF.out⟩
end Go.Proofs.Ytbnkahjmeobblaa
