/-
  Plain mathematics of layer 18: tables of who is spoken of, their bytes, what is read of bytes.
-/
import Derived.Test.YtbagclhghcglbaaLebN
import Derived.Test.YtbagclhghcglbaaZm08
namespace Go.Proofs.Ytbagclhghcglbaa
open Go Go.RowKit Mem LebM OpM
namespace AcM

/-- texts, byte by byte -/
abbrev Tx := List UInt8
theorem bless_lt : ∀ x y : Tx, Op.bytesLess x y = true ↔ x < y
  | [], [] => by simp [Op.bytesLess]
  | [], b :: y => by simp [Op.bytesLess]
  | a :: x, [] => by simp [Op.bytesLess]
  | a :: x, b :: y => by
    rw [bless_cons, bless_lt x y, List.cons_lt_cons_iff, UInt8.lt_iff_toNat_lt]
theorem bless_asym {x y : Tx} (h : Op.bytesLess x y = true) : Op.bytesLess y x = false := by
  cases h2 : Op.bytesLess y x with
  | false => rfl
  | true => have := bless_trans h h2; rw [bless_irr] at this; cases this
theorem bless_ne {x y : Tx} (h : Op.bytesLess x y = true) : x ≠ y := by
  rintro rfl
  rw [bless_irr] at h
  cases h
/-- a row that rises -/
def Rise (l : List Tx) : Prop := l.Pairwise (fun x y => Op.bytesLess x y = true)
theorem rise_uniq : ∀ {l m : List Tx}, Rise l → Rise m → (∀ x, x ∈ l ↔ x ∈ m) → l = m
  | [], [], _, _, _ => rfl
  | [], y :: m, _, _, h => by have := (h y).2 (List.mem_cons_self ..); cases this
  | x :: l, [], _, _, h => by have := (h x).1 (List.mem_cons_self ..); cases this
  | x :: l, y :: m, hl, hm, h => by
    have hl2 := List.pairwise_cons.1 hl
    have hm2 := List.pairwise_cons.1 hm
    have e : x = y := by
      rcases List.mem_cons.1 ((h x).1 (List.mem_cons_self ..)) with e | hx
      · exact e
      · rcases List.mem_cons.1 ((h y).2 (List.mem_cons_self ..)) with e | hy
        · exact e.symm
        · have h1 := hm2.1 x hx
          have h2 := hl2.1 y hy
          rw [bless_asym h1] at h2
          cases h2
    subst e
    congr 1
    refine rise_uniq hl2.2 hm2.2 (fun z => ?_)
    constructor
    · intro hz
      rcases List.mem_cons.1 ((h z).1 (List.mem_cons_of_mem _ hz)) with e | hz2
      · subst e
        exact absurd rfl (bless_ne (hl2.1 _ hz))
      · exact hz2
    · intro hz
      rcases List.mem_cons.1 ((h z).2 (List.mem_cons_of_mem _ hz)) with e | hz2
      · subst e
        exact absurd rfl (bless_ne (hm2.1 _ hz))
      · exact hz2
/-- a text into a row that rises -/
def insT (x : Tx) : List Tx → List Tx
  | [] => [x]
  | y :: l => if Op.bytesLess x y = true then x :: y :: l else if x = y then y :: l else y :: insT x l
theorem ins_mem (x : Tx) : ∀ (l : List Tx) (z : Tx), z ∈ insT x l ↔ z = x ∨ z ∈ l
  | [], z => by simp [insT]
  | y :: l, z => by
    unfold insT
    split
    · simp
    · split
      · rename_i h; subst h; simp
      · simp only [List.mem_cons, ins_mem x l z]
        constructor
        · rintro (h | h | h) <;> simp [h]
        · rintro (h | h | h) <;> simp [h]
theorem ins_rise (x : Tx) : ∀ (l : List Tx), Rise l → Rise (insT x l)
  | [], _ => List.pairwise_singleton _ _
  | y :: l, h => by
    have h2 := List.pairwise_cons.1 h
    unfold insT
    split
    · rename_i hx
      refine List.pairwise_cons.2 ⟨fun z hz => ?_, h⟩
      rcases List.mem_cons.1 hz with rfl | hz
      · exact hx
      · exact bless_trans hx (h2.1 z hz)
    · rename_i hx
      split
      · exact h
      · rename_i hne
        refine List.pairwise_cons.2 ⟨fun z hz => ?_, ins_rise x l h2.2⟩
        rcases (ins_mem x l z).1 hz with rfl | hz
        · rcases bless_tri z y with h3 | h3 | h3
          · exact absurd h3 hx
          · exact absurd h3 hne
          · exact h3
        · exact h2.1 z hz
/-- all others, rising -/
def othersA (a : Tx) : List Nm → List Tx
  | [] => []
  | y :: N => if y.a = a then othersA a N else insT y.a (othersA a N)
theorem others_mem (a : Tx) : ∀ (N : List Nm) (z : Tx), z ∈ othersA a N ↔ z ≠ a ∧ ∃ y ∈ N, y.a = z
  | [], z => by simp [othersA]
  | y :: N, z => by
    unfold othersA
    split
    · rename_i h
      rw [others_mem a N z]
      constructor
      · rintro ⟨h1, y', h2, h3⟩; exact ⟨h1, y', List.mem_cons_of_mem _ h2, h3⟩
      · rintro ⟨h1, y', h2, h3⟩
        rcases List.mem_cons.1 h2 with rfl | h2
        · exact absurd (h3.symm.trans h) h1
        · exact ⟨h1, y', h2, h3⟩
    · rename_i h
      rw [ins_mem, others_mem a N z]
      constructor
      · rintro (h1 | ⟨h1, y', h2, h3⟩)
        · exact ⟨fun e => h (h1.symm.trans e), y, List.mem_cons_self .., h1.symm⟩
        · exact ⟨h1, y', List.mem_cons_of_mem _ h2, h3⟩
      · rintro ⟨h1, y', h2, h3⟩
        rcases List.mem_cons.1 h2 with rfl | h2
        · exact Or.inl h3.symm
        · exact Or.inr ⟨h1, y', h2, h3⟩
theorem others_rise (a : Tx) : ∀ N : List Nm, Rise (othersA a N)
  | [] => List.Pairwise.nil
  | y :: N => by
    unfold othersA
    split
    · exact others_rise a N
    · exact ins_rise _ _ (others_rise a N)
theorem ins_len (x : Tx) : ∀ l : List Tx, (insT x l).length ≤ l.length + 1
  | [] => by simp [insT]
  | y :: l => by
    unfold insT
    have := ins_len x l
    split
    · simp
    · split
      · simp
      · simp; omega
theorem others_len (a : Tx) : ∀ N : List Nm, (othersA a N).length ≤ N.length
  | [] => by simp [othersA]
  | y :: N => by
    unfold othersA
    have h1 := others_len a N
    have h2 := ins_len y.a (othersA a N)
    split
    · simp; omega
    · simp; omega
def tabA (a : Tx) (N : List Nm) : List Tx := a :: othersA a N
/-- whatever rises, and holds just the others, is they -/
theorem others_uniq {a : Tx} {N : List Nm} {l : List Tx} (h1 : Rise l) (h2 : ∀ z, z ∈ l ↔ z ≠ a ∧ ∃ y ∈ N, y.a = z) : l = othersA a N :=
  rise_uniq h1 (others_rise a N) (fun z => (h2 z).trans (others_mem a N z).symm)
theorem others_same {a : Tx} {N M : List Nm} (h : ∀ z, (∃ y ∈ N, y.a = z) ↔ ∃ y ∈ M, y.a = z) : othersA a N = othersA a M :=
  others_uniq (others_rise a N) (fun z => (others_mem a N z).trans (by rw [h z]))

/-- the first place of a text -/
def idxA (a : Tx) : List Tx → Int
  | [] => -1
  | x :: l => if x = a then 0 else if idxA a l < 0 then -1 else idxA a l + 1
theorem idx_no {a : Tx} : ∀ {l : List Tx}, a ∉ l → idxA a l = -1
  | [], _ => rfl
  | x :: l, h => by
    unfold idxA
    rw [idx_no (l := l) (fun hm => h (List.mem_cons_of_mem _ hm)), if_neg (fun e => h (by rw [e]; exact List.mem_cons_self ..)), if_pos (by omega)]
theorem idx_yes {a : Tx} : ∀ {l : List Tx} {k : Nat}, l[k]? = some a → (∀ j, j < k → l[j]? ≠ some a) → idxA a l = (k : Int)
  | [], k, h, _ => by simp at h
  | x :: l, 0, h, _ => by
    simp at h
    unfold idxA
    rw [if_pos h]
    rfl
  | x :: l, k + 1, h, h2 => by
    unfold idxA
    rw [if_neg (fun e => h2 0 (by omega) (by simp [e])), idx_yes (l := l) (k := k) (by simpa using h) (fun j hj => by have := h2 (j + 1) (by omega); simpa using this), if_neg (by omega)]
    omega
theorem idx_mem {a : Tx} {l : List Tx} (h : a ∈ l) : 0 ≤ idxA a l := by
  induction l with
  | nil => cases h
  | cons x l ih =>
    unfold idxA
    split
    · omega
    · rename_i hne
      rcases List.mem_cons.1 h with e | h
      · exact absurd e.symm hne
      · have := ih h
        rw [if_neg (by omega)]
        omega
theorem idx_bd (a : Tx) : ∀ l : List Tx, -1 ≤ idxA a l ∧ idxA a l < (l.length : Int)
  | [] => by simp [idxA]
  | x :: l => by
    have := idx_bd a l
    unfold idxA
    simp only [List.length_cons]
    split
    · omega
    · split <;> omega

/-- the bytes of a table -/
def oneA (a : Tx) : List UInt8 := u a.length ++ a
def putA (l : List Tx) : List UInt8 := u (l.length - 1) ++ (l.drop 1).flatMap oneA
/-- the actor that bytes begin with: it, how many bytes, which error -/
def firstA (B : List UInt8) : Tx × Nat × Nat :=
  if (gu B).2.2 ≠ 0 then ([], 0, (gu B).2.2) else if (gu B).1 < 1 ∨ 16 < (gu B).1 then ([], 0, 4) else if B.length - (gu B).2.1 < (gu B).1 then ([], 0, 2) else
    ((B.drop (gu B).2.1).take (gu B).1, (gu B).2.1 + (gu B).1, 0)
/-- so many others, each greater than the last one -/
def runA (a : Tx) : Nat → Tx → List UInt8 → List Tx × Nat × Nat
  | 0, _, _ => ([], 0, 0)
  | k + 1, last, B =>
    if (firstA B).2.2 ≠ 0 then ([], 0, (firstA B).2.2) else if (firstA B).1 = a ∨ Op.bytesLess last (firstA B).1 = false then ([], 0, 3) else
    if (runA a k (firstA B).1 (B.drop (firstA B).2.1)).2.2 ≠ 0 then ([], 0, (runA a k (firstA B).1 (B.drop (firstA B).2.1)).2.2) else
      ((firstA B).1 :: (runA a k (firstA B).1 (B.drop (firstA B).2.1)).1, (firstA B).2.1 + (runA a k (firstA B).1 (B.drop (firstA B).2.1)).2.1, 0)
def getA (a : Tx) (B : List UInt8) : List Tx × Nat × Nat :=
  if (gu B).2.2 ≠ 0 then ([], 0, (gu B).2.2) else
  if (runA a (gu B).1 [] (B.drop (gu B).2.1)).2.2 ≠ 0 then ([], 0, (runA a (gu B).1 [] (B.drop (gu B).2.1)).2.2) else
    (a :: (runA a (gu B).1 [] (B.drop (gu B).2.1)).1, (gu B).2.1 + (runA a (gu B).1 [] (B.drop (gu B).2.1)).2.1, 0)
end AcM
end Go.Proofs.Ytbagclhghcglbaa
