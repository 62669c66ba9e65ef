/-
  Moves in a region that draws its order, in few words. Nothing of any program here.
  Plain mathematics of the program's utf.Next: what the first byte tells, the number so far; held against nx.
-/
import Derived.Test.YtbnkahjmeobblaaZm11
import Derived.Walk
import Derived.WalkKit
import Derived.Test.YtbnkahjmeobblaaZm04
namespace Go.Proofs.Ytbnkahjmeobblaa
open Go

section
variable {P : Program} {md : Region.Mode} {ops : Array Oper} {Q : Exit → Act → World → Prop} {S : World → Prop} {fuel : Nat} {listed : Array Bool} {a a' : Act} {w : World} {oi : Oper} {v : Value}
/-- operation i reads or reckons: it is taken first -/
theorem tk (i : Nat) (hS : S w) (h : wpAnyH P md ops Q S fuel (listed.setIfInBounds i true) a' w)
    (hi : ops[i]? = some oi := by rfl) (hs : Region.noSelect ops = true := by kernel_rfl) (hf : Region.free md ops listed i = true := by kernel_rfl) (hr : (Region.ready md ops listed).contains i = true := by kernel_rfl)
    (hQ : ∀ c a w, Q (.panic c) (a.put oi.dst v) w → Q (.panic c) a w := by exact fun _ _ _ h => h)
    (hw : Region.wanted oi (yielded ops a.tmps) = true := by rfl)
    (hy : ∀ w, S w → (execOp a.eval oi).run P w = .ok (.value v) w := by (intro w hSw; (try dsimp only at hSw); go_simp; try (with_reducible rfl)))
    (ha : a.put oi.dst v = a' := by ((try simp only [Act.put, List.setIfInBounds_toArray, List.set_cons_zero, List.set_cons_succ, List.getElem_toArray, List.getElem_cons_zero, List.getElem_cons_succ]); try rfl)) : wpAnyH P md ops Q S (fuel + 1) listed a w :=
  wpAnyH_take hi hs hf hr hQ (Or.inl ⟨hw, hy⟩) hS (ha ▸ h)
/-- operation i reads or reckons: of no memory: it is taken first -/
theorem tkp (i : Nat) (hS : S w) (h : wpAnyH P md ops Q S fuel (listed.setIfInBounds i true) a' w)
    (hi : ops[i]? = some oi := by rfl) (hs : Region.noSelect ops = true := by kernel_rfl) (hf : Region.free md ops listed i = true := by kernel_rfl) (hr : (Region.ready md ops listed).contains i = true := by kernel_rfl)
    (hQ : ∀ c a w, Q (.panic c) (a.put oi.dst v) w → Q (.panic c) a w := by exact fun _ _ _ h => h)
    (hw : Region.wanted oi (yielded ops a.tmps) = true := by rfl)
    (hy : ∀ w, S w → (execOp a.eval oi).run P w = .ok (.value v) w := by exact fun _ _ => rfl)
    (ha : a.put oi.dst v = a' := by ((try simp only [Act.put, List.setIfInBounds_toArray, List.set_cons_zero, List.set_cons_succ, List.getElem_toArray, List.getElem_cons_zero, List.getElem_cons_succ]); try rfl)) : wpAnyH P md ops Q S (fuel + 1) listed a w :=
  wpAnyH_take hi hs hf hr hQ (Or.inl ⟨hw, hy⟩) hS (ha ▸ h)
/-- operation i alone may come up -/
theorem rd1 (i : Nat) (h : ∀ K : Act → World → Prop, Shut (∀ a w, S w → wpAnyH P md ops Q S fuel (listed.setIfInBounds i true) a w → K a w) → if Region.wanted oi (yielded ops a.tmps) = true then Oper.wp P oi a w K Q else K (a.put oi.dst undef) w)
    (hi : ops[i]? = some oi := by rfl) (hr : Region.ready md ops listed = [i] := by kernel_rfl) : wpAnyH P md ops Q S (fuel + 1) listed a w :=
  wpAnyH_ready hr (by simp) (AllReadyH.cons hi (fun K hK => h K (fun a w hS hW => hK.out a w hS (fun _ => hW))) AllReadyH.nil)
/-- operation i alone may come up: what is held comes anew behind it -/
theorem rdo (i : Nat) (h : ∀ K : Act → World → Prop, Shut (∀ a w, S w → (S w → wpAnyH P md ops Q S fuel (listed.setIfInBounds i true) a w) → K a w) → if Region.wanted oi (yielded ops a.tmps) = true then Oper.wp P oi a w K Q else K (a.put oi.dst undef) w)
    (hi : ops[i]? = some oi := by rfl) (hr : Region.ready md ops listed = [i] := by kernel_rfl) : wpAnyH P md ops Q S (fuel + 1) listed a w :=
  wpAnyH_ready hr (by simp) (AllReadyH.cons hi h AllReadyH.nil)
/-- the head is done -/
theorem hdone {ops' : Array Oper} {rest : List Oper} (h : wpList P ops' Q rest a' w) (hr : Region.ready md ops listed = [] := by kernel_rfl)
    (ha : a = a' := by ((try simp only [Act.put, List.setIfInBounds_toArray, List.set_cons_zero, List.set_cons_succ, List.getElem_toArray, List.getElem_cons_zero, List.getElem_cons_succ]); try rfl)) : wpAnyH P md ops (headPost P ops' Q rest) S fuel listed a w :=
  wpAnyH_done hr (ha ▸ h) _
end
end Go.Proofs.Ytbnkahjmeobblaa
namespace Go.Proofs.Ytbnkahjmeobblaa.UtfM

def kc (a : Nat) : Nat := if a < 128 then 1 else if a < 192 then 0 else if a < 224 then 2 else if a < 240 then 3 else if a < 248 then 4 else 0
def km (a : Nat) : Nat := if a < 192 then 0 else if a < 224 then 192 else if a < 240 then 224 else if a < 248 then 240 else 0
def kl (a : Nat) : Nat := if a < 192 then 0 else if a < 224 then 128 else if a < 240 then 2048 else if a < 248 then 65536 else 0
def acc (B : List UInt8) : Nat → Nat
  | 0 => (B.getD 0 0).toNat - km (B.getD 0 0).toNat
  | i + 1 => acc B i * 64 + ((B.getD (i + 1) 0).toNat - 128)
def isch (n : Nat) : Bool := decide (n ≤ 1114111) && (decide (n < 55296) || decide (57343 < n))
def contB (b : UInt8) : Bool := decide (128 ≤ b.toNat) && decide (b.toNat < 192)
theorem contB_iff (b : UInt8) : contB b = true ↔ cont b := by simp [contB, cont]
theorem kc_le (a : Nat) : kc a ≤ 4 := by unfold kc; (repeat' split) <;> omega
theorem km_le (a : Nat) : km a ≤ a := by unfold km; (repeat' split) <;> omega
theorem kl_le (a : Nat) : kl a ≤ 65536 := by unfold kl; (repeat' split) <;> omega
theorem acc_bd (B : List UInt8) (i : Nat) (hi : i ≤ 3) : acc B i ≤ 100000000 := by
  have h0 := (B.getD 0 0).toNat_lt
  have h1 := (B.getD 1 0).toNat_lt
  have h2 := (B.getD 2 0).toNat_lt
  have h3 := (B.getD 3 0).toNat_lt
  have e0 : acc B 0 ≤ 255 := by show _ - _ ≤ _; omega
  have e1 : acc B 1 ≤ 255 * 64 + 255 := by show acc B 0 * 64 + ((B.getD 1 0).toNat - 128) ≤ _; omega
  have e2 : acc B 2 ≤ (255 * 64 + 255) * 64 + 255 := by show acc B 1 * 64 + ((B.getD 2 0).toNat - 128) ≤ _; omega
  have e3 : acc B 3 ≤ ((255 * 64 + 255) * 64 + 255) * 64 + 255 := by show acc B 2 * 64 + ((B.getD 3 0).toNat - 128) ≤ _; omega
  rcases (show i = 0 ∨ i = 1 ∨ i = 2 ∨ i = 3 by omega) with rfl | rfl | rfl | rfl <;> omega
theorem kind_of (a : Nat) : (a < 128 ∧ kc a = 1 ∧ km a = 0 ∧ kl a = 0) ∨ (128 ≤ a ∧ a < 192 ∧ kc a = 0 ∧ km a = 0 ∧ kl a = 0) ∨ (192 ≤ a ∧ a < 224 ∧ kc a = 2 ∧ km a = 192 ∧ kl a = 128) ∨
    (224 ≤ a ∧ a < 240 ∧ kc a = 3 ∧ km a = 224 ∧ kl a = 2048) ∨ (240 ≤ a ∧ a < 248 ∧ kc a = 4 ∧ km a = 240 ∧ kl a = 65536) ∨ (248 ≤ a ∧ kc a = 0 ∧ km a = 0 ∧ kl a = 0) := by
  unfold kc km kl
  (repeat' split) <;> omega
theorem nx_1 (a : UInt8) (r : List UInt8) (h : a.toNat < 128) : nx (a :: r) = 1 := by unfold nx; simp [h]
theorem nx_0 (a : UInt8) (r : List UInt8) (h0 : ¬ a.toNat < 128) (h2 : ∀ b, ¬ ok2 a b) (h3 : ∀ b c, ¬ ok3 a b c) (h4 : ∀ b c d, ¬ ok4 a b c d) : nx (a :: r) = 0 := by
  match r with
  | [] => simp [nx, h0]
  | [b] => simp [nx, h0, h2 b]
  | [b, c] => simp [nx, h0, h2 b, h3 b c]
  | b :: c :: d :: r => simp [nx, h0, h2 b, h3 b c, h4 b c d]
theorem nx_two (a b : UInt8) (r : List UInt8) (h0 : 192 ≤ a.toNat) (h1 : a.toNat < 224) : nx (a :: b :: r) = if ok2 a b then 2 else 0 := by
  have n0 : ¬ a.toNat < 128 := by omega
  have n3 : ∀ b c, ¬ ok3 a b c := by intro b c; unfold ok3; omega
  have n4 : ∀ b c d, ¬ ok4 a b c d := by intro b c d; unfold ok4; omega
  by_cases h : ok2 a b
  · rw [if_pos h]; unfold nx; simp [n0, h]
  · rw [if_neg h]
    match r with
    | [] => simp [nx, n0, h]
    | [c] => simp [nx, n0, h, n3 b c]
    | c :: d :: r => simp [nx, n0, h, n3 b c, n4 b c d]
theorem nx_three (a b c : UInt8) (r : List UInt8) (h0 : 224 ≤ a.toNat) (h1 : a.toNat < 240) : nx (a :: b :: c :: r) = if ok3 a b c then 3 else 0 := by
  have n0 : ¬ a.toNat < 128 := by omega
  have n2 : ¬ ok2 a b := by unfold ok2; omega
  have n4 : ∀ b c d, ¬ ok4 a b c d := by intro b c d; unfold ok4; omega
  by_cases h : ok3 a b c
  · rw [if_pos h]; unfold nx; simp [n0, n2, h]
  · rw [if_neg h]
    match r with
    | [] => simp [nx, n0, n2, h]
    | d :: r => simp [nx, n0, n2, h, n4 b c d]
theorem nx_four (a b c d : UInt8) (r : List UInt8) (h0 : 240 ≤ a.toNat) : nx (a :: b :: c :: d :: r) = if ok4 a b c d then 4 else 0 := by
  have n0 : ¬ a.toNat < 128 := by omega
  have n2 : ¬ ok2 a b := by unfold ok2; omega
  have n3 : ¬ ok3 a b c := by unfold ok3; omega
  by_cases h : ok4 a b c d
  · rw [if_pos h]; unfold nx; simp [n0, n2, n3, h]
  · rw [if_neg h]; simp [nx, n0, n2, n3, h]
theorem nx_k0 (a : UInt8) (r : List UInt8) (h : kc a.toNat = 0) : nx (a :: r) = 0 := by
  have hk := kind_of a.toNat
  exact nx_0 a r (by omega) (by intro b; unfold ok2; omega) (by intro b c; unfold ok3; omega) (by intro b c d; unfold ok4; omega)
theorem nx_short (a : UInt8) (r : List UInt8) (h : r.length + 1 < kc a.toNat) : nx (a :: r) = 0 := by
  have hk := kind_of a.toNat
  have n0 : ¬ a.toNat < 128 := by omega
  match r, h with
  | [], _ => simp [nx, n0]
  | [b], h =>
    simp at h
    have n2 : ¬ ok2 a b := by unfold ok2; omega
    simp [nx, n0, n2]
  | [b, c], h =>
    simp at h
    have n2 : ¬ ok2 a b := by unfold ok2; omega
    have n3 : ¬ ok3 a b c := by unfold ok3; omega
    simp [nx, n0, n2, n3]
  | b :: c :: d :: r, h => simp at h; omega
theorem nx_stop (a : UInt8) (r : List UInt8) (i : Nat) (hi : 1 ≤ i) (hk : i < kc a.toNat) (hl : kc a.toNat ≤ r.length + 1) (hcf : contB ((a :: r).getD i 0) = false) : nx (a :: r) = 0 := by
  have hc : ¬ cont ((a :: r).getD i 0) := by rw [← contB_iff, hcf]; simp
  clear hcf
  have ha := kind_of a.toNat
  match r, hl with
  | [], hl => simp at hl; omega
  | [b], hl =>
    simp at hl
    obtain rfl : i = 1 := by omega
    have n2 : ¬ ok2 a b := by intro hq; unfold ok2 at hq; exact hc hq.2.2
    rw [nx_two a b [] (by omega) (by omega), if_neg n2]
  | [b, c], hl =>
    simp at hl
    rcases (show kc a.toNat = 2 ∨ kc a.toNat = 3 by omega) with h2 | h2
    · obtain rfl : i = 1 := by omega
      have n2 : ¬ ok2 a b := by intro hq; unfold ok2 at hq; exact hc hq.2.2
      rw [nx_two a b [c] (by omega) (by omega), if_neg n2]
    · have n3 : ¬ ok3 a b c := by
        intro hq
        unfold ok3 at hq
        rcases (show i = 1 ∨ i = 2 by omega) with rfl | rfl
        · exact hc hq.2.2.1
        · exact hc hq.2.2.2.1
      rw [nx_three a b c [] (by omega) (by omega), if_neg n3]
  | b :: c :: d :: r, hl =>
    rcases (show kc a.toNat = 2 ∨ kc a.toNat = 3 ∨ kc a.toNat = 4 by omega) with h2 | h2 | h2
    · obtain rfl : i = 1 := by omega
      have n2 : ¬ ok2 a b := by intro hq; unfold ok2 at hq; exact hc hq.2.2
      rw [nx_two a b _ (by omega) (by omega), if_neg n2]
    · have n3 : ¬ ok3 a b c := by
        intro hq
        unfold ok3 at hq
        rcases (show i = 1 ∨ i = 2 by omega) with rfl | rfl
        · exact hc hq.2.2.1
        · exact hc hq.2.2.2.1
      rw [nx_three a b c _ (by omega) (by omega), if_neg n3]
    · have n4 : ¬ ok4 a b c d := by
        intro hq
        unfold ok4 at hq
        rcases (show i = 1 ∨ i = 2 ∨ i = 3 by omega) with rfl | rfl | rfl
        · exact hc hq.2.2.1
        · exact hc hq.2.2.2.1
        · exact hc hq.2.2.2.2.1
      rw [nx_four a b c d r (by omega), if_neg n4]
/-- the bytes behind stand for a rest each: what the number tells -/
theorem nx_end (a : UInt8) (r : List UInt8) (k : Nat) (hk : k = kc a.toNat) (h0 : k ≠ 0) (hl : k ≤ r.length + 1) (hc : ∀ i, 1 ≤ i → i < k → contB ((a :: r).getD i 0) = true) :
    nx (a :: r) = if kl a.toNat ≤ acc (a :: r) (k - 1) ∧ isch (acc (a :: r) (k - 1)) = true then k else 0 := by
  have ha := kind_of a.toNat
  have hc : ∀ i, 1 ≤ i → i < k → cont ((a :: r).getD i 0) := fun i h1 h2 => (contB_iff _).1 (hc i h1 h2)
  have e0 : ((a :: r).getD 0 0) = a := rfl
  rcases (show k = 1 ∨ k = 2 ∨ k = 3 ∨ k = 4 by omega) with h | h | h | h
  · rw [nx_1 a r (by omega), h, if_pos]
    rw [show acc (a :: r) (1 - 1) = a.toNat - km a.toNat from rfl]
    constructor
    · omega
    · simp [isch]; omega
  · match r, hl with
    | [], hl => simp at hl; omega
    | b :: r, _ =>
      have c1 := hc 1 (by omega) (by omega)
      change cont b at c1
      rw [nx_two a b r (by omega) (by omega), h]
      rw [show acc (a :: b :: r) (2 - 1) = (a.toNat - km a.toNat) * 64 + (b.toNat - 128) from rfl]
      unfold cont at c1
      congr 1
      rw [eq_iff_iff]
      simp only [isch, ok2, cont, Bool.and_eq_true, Bool.or_eq_true, decide_eq_true_eq]
      omega
  · match r, hl with
    | [], hl => simp at hl; omega
    | [b], hl => simp at hl; omega
    | b :: c :: r, _ =>
      have c1 := hc 1 (by omega) (by omega)
      have c2 := hc 2 (by omega) (by omega)
      change cont b at c1
      change cont c at c2
      rw [nx_three a b c r (by omega) (by omega), h]
      rw [show acc (a :: b :: c :: r) (3 - 1) = ((a.toNat - km a.toNat) * 64 + (b.toNat - 128)) * 64 + (c.toNat - 128) from rfl]
      unfold cont at c1 c2
      congr 1
      rw [eq_iff_iff]
      simp only [isch, ok3, cont, Bool.and_eq_true, Bool.or_eq_true, decide_eq_true_eq]
      omega
  · match r, hl with
    | [], hl => simp at hl; omega
    | [b], hl => simp at hl; omega
    | [b, c], hl => simp at hl; omega
    | b :: c :: d :: r, _ =>
      have c1 := hc 1 (by omega) (by omega)
      have c2 := hc 2 (by omega) (by omega)
      have c3 := hc 3 (by omega) (by omega)
      change cont b at c1
      change cont c at c2
      change cont d at c3
      rw [nx_four a b c d r (by omega), h]
      rw [show acc (a :: b :: c :: d :: r) (4 - 1) = (((a.toNat - km a.toNat) * 64 + (b.toNat - 128)) * 64 + (c.toNat - 128)) * 64 + (d.toNat - 128) from rfl]
      unfold cont at c1 c2 c3
      congr 1
      rw [eq_iff_iff]
      simp only [isch, ok4, cont, Bool.and_eq_true, Bool.or_eq_true, decide_eq_true_eq]
      omega
end Go.Proofs.Ytbnkahjmeobblaa.UtfM
