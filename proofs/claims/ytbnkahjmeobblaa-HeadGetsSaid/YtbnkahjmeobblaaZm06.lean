/-
  Plain mathematics of layer 18: tables of who is spoken of, their bytes, what is read of bytes.
  Plain mathematics of layer 18: what is put is read as it was; a front of it is too short.
-/
import Derived.Test.YtbnkahjmeobblaaZm03
import Derived.Test.YtbnkahjmeobblaaOpM
namespace Go.Proofs.Ytbnkahjmeobblaa
open Go Go.RowKit Mem LebM OpM
namespace AcM

/-- texts, byte by byte -/
abbrev Tx := List UInt8
theorem bless_lt : ∀ x y : Tx, Op.bytesLess x y = true ↔ x < y
  | [], [] => by simp [Op.bytesLess]
  | [], b :: y => by simp [Op.bytesLess]
  | a :: x, [] => by simp [Op.bytesLess]
  | a :: x, b :: y => by
    rw [bless_cons, bless_lt x y, List.cons_lt_cons_iff, UInt8.lt_iff_toNat_lt]
theorem bless_asym {x y : Tx} (h : Op.bytesLess x y = true) : Op.bytesLess y x = false := by
  cases h2 : Op.bytesLess y x with
  | false => rfl
  | true => have := bless_trans h h2; rw [bless_irr] at this; cases this
theorem bless_ne {x y : Tx} (h : Op.bytesLess x y = true) : x ≠ y := by
  rintro rfl
  rw [bless_irr] at h
  cases h
/-- a row that rises -/
def Rise (l : List Tx) : Prop := l.Pairwise (fun x y => Op.bytesLess x y = true)
theorem rise_uniq : ∀ {l m : List Tx}, Rise l → Rise m → (∀ x, x ∈ l ↔ x ∈ m) → l = m
  | [], [], _, _, _ => rfl
  | [], y :: m, _, _, h => by have := (h y).2 (List.mem_cons_self ..); cases this
  | x :: l, [], _, _, h => by have := (h x).1 (List.mem_cons_self ..); cases this
  | x :: l, y :: m, hl, hm, h => by
    have hl2 := List.pairwise_cons.1 hl
    have hm2 := List.pairwise_cons.1 hm
    have e : x = y := by
      rcases List.mem_cons.1 ((h x).1 (List.mem_cons_self ..)) with e | hx
      · exact e
      · rcases List.mem_cons.1 ((h y).2 (List.mem_cons_self ..)) with e | hy
        · exact e.symm
        · have h1 := hm2.1 x hx
          have h2 := hl2.1 y hy
          rw [bless_asym h1] at h2
          cases h2
    subst e
    congr 1
    refine rise_uniq hl2.2 hm2.2 (fun z => ?_)
    constructor
    · intro hz
      rcases List.mem_cons.1 ((h z).1 (List.mem_cons_of_mem _ hz)) with e | hz2
      · subst e
        exact absurd rfl (bless_ne (hl2.1 _ hz))
      · exact hz2
    · intro hz
      rcases List.mem_cons.1 ((h z).2 (List.mem_cons_of_mem _ hz)) with e | hz2
      · subst e
        exact absurd rfl (bless_ne (hm2.1 _ hz))
      · exact hz2
/-- a text into a row that rises -/
def insT (x : Tx) : List Tx → List Tx
  | [] => [x]
  | y :: l => if Op.bytesLess x y = true then x :: y :: l else if x = y then y :: l else y :: insT x l
theorem ins_mem (x : Tx) : ∀ (l : List Tx) (z : Tx), z ∈ insT x l ↔ z = x ∨ z ∈ l
  | [], z => by simp [insT]
  | y :: l, z => by
    unfold insT
    split
    · simp
    · split
      · rename_i h; subst h; simp
      · simp only [List.mem_cons, ins_mem x l z]
        constructor
        · rintro (h | h | h) <;> simp [h]
        · rintro (h | h | h) <;> simp [h]
theorem ins_rise (x : Tx) : ∀ (l : List Tx), Rise l → Rise (insT x l)
  | [], _ => List.pairwise_singleton _ _
  | y :: l, h => by
    have h2 := List.pairwise_cons.1 h
    unfold insT
    split
    · rename_i hx
      refine List.pairwise_cons.2 ⟨fun z hz => ?_, h⟩
      rcases List.mem_cons.1 hz with rfl | hz
      · exact hx
      · exact bless_trans hx (h2.1 z hz)
    · rename_i hx
      split
      · exact h
      · rename_i hne
        refine List.pairwise_cons.2 ⟨fun z hz => ?_, ins_rise x l h2.2⟩
        rcases (ins_mem x l z).1 hz with rfl | hz
        · rcases bless_tri z y with h3 | h3 | h3
          · exact absurd h3 hx
          · exact absurd h3 hne
          · exact h3
        · exact h2.1 z hz
/-- all others, rising -/
def othersA (a : Tx) : List Nm → List Tx
  | [] => []
  | y :: N => if y.a = a then othersA a N else insT y.a (othersA a N)
theorem others_mem (a : Tx) : ∀ (N : List Nm) (z : Tx), z ∈ othersA a N ↔ z ≠ a ∧ ∃ y ∈ N, y.a = z
  | [], z => by simp [othersA]
  | y :: N, z => by
    unfold othersA
    split
    · rename_i h
      rw [others_mem a N z]
      constructor
      · rintro ⟨h1, y', h2, h3⟩; exact ⟨h1, y', List.mem_cons_of_mem _ h2, h3⟩
      · rintro ⟨h1, y', h2, h3⟩
        rcases List.mem_cons.1 h2 with rfl | h2
        · exact absurd (h3.symm.trans h) h1
        · exact ⟨h1, y', h2, h3⟩
    · rename_i h
      rw [ins_mem, others_mem a N z]
      constructor
      · rintro (h1 | ⟨h1, y', h2, h3⟩)
        · exact ⟨fun e => h (h1.symm.trans e), y, List.mem_cons_self .., h1.symm⟩
        · exact ⟨h1, y', List.mem_cons_of_mem _ h2, h3⟩
      · rintro ⟨h1, y', h2, h3⟩
        rcases List.mem_cons.1 h2 with rfl | h2
        · exact Or.inl h3.symm
        · exact Or.inr ⟨h1, y', h2, h3⟩
theorem others_rise (a : Tx) : ∀ N : List Nm, Rise (othersA a N)
  | [] => List.Pairwise.nil
  | y :: N => by
    unfold othersA
    split
    · exact others_rise a N
    · exact ins_rise _ _ (others_rise a N)
theorem ins_len (x : Tx) : ∀ l : List Tx, (insT x l).length ≤ l.length + 1
  | [] => by simp [insT]
  | y :: l => by
    unfold insT
    have := ins_len x l
    split
    · simp
    · split
      · simp
      · simp; omega
theorem others_len (a : Tx) : ∀ N : List Nm, (othersA a N).length ≤ N.length
  | [] => by simp [othersA]
  | y :: N => by
    unfold othersA
    have h1 := others_len a N
    have h2 := ins_len y.a (othersA a N)
    split
    · simp; omega
    · simp; omega
def tabA (a : Tx) (N : List Nm) : List Tx := a :: othersA a N
/-- whatever rises, and holds just the others, is they -/
theorem others_uniq {a : Tx} {N : List Nm} {l : List Tx} (h1 : Rise l) (h2 : ∀ z, z ∈ l ↔ z ≠ a ∧ ∃ y ∈ N, y.a = z) : l = othersA a N :=
  rise_uniq h1 (others_rise a N) (fun z => (h2 z).trans (others_mem a N z).symm)
theorem others_same {a : Tx} {N M : List Nm} (h : ∀ z, (∃ y ∈ N, y.a = z) ↔ ∃ y ∈ M, y.a = z) : othersA a N = othersA a M :=
  others_uniq (others_rise a N) (fun z => (others_mem a N z).trans (by rw [h z]))

/-- the first place of a text -/
def idxA (a : Tx) : List Tx → Int
  | [] => -1
  | x :: l => if x = a then 0 else if idxA a l < 0 then -1 else idxA a l + 1
theorem idx_no {a : Tx} : ∀ {l : List Tx}, a ∉ l → idxA a l = -1
  | [], _ => rfl
  | x :: l, h => by
    unfold idxA
    rw [idx_no (l := l) (fun hm => h (List.mem_cons_of_mem _ hm)), if_neg (fun e => h (by rw [e]; exact List.mem_cons_self ..)), if_pos (by omega)]
theorem idx_yes {a : Tx} : ∀ {l : List Tx} {k : Nat}, l[k]? = some a → (∀ j, j < k → l[j]? ≠ some a) → idxA a l = (k : Int)
  | [], k, h, _ => by simp at h
  | x :: l, 0, h, _ => by
    simp at h
    unfold idxA
    rw [if_pos h]
    rfl
  | x :: l, k + 1, h, h2 => by
    unfold idxA
    rw [if_neg (fun e => h2 0 (by omega) (by simp [e])), idx_yes (l := l) (k := k) (by simpa using h) (fun j hj => by have := h2 (j + 1) (by omega); simpa using this), if_neg (by omega)]
    omega
theorem idx_mem {a : Tx} {l : List Tx} (h : a ∈ l) : 0 ≤ idxA a l := by
  induction l with
  | nil => cases h
  | cons x l ih =>
    unfold idxA
    split
    · omega
    · rename_i hne
      rcases List.mem_cons.1 h with e | h
      · exact absurd e.symm hne
      · have := ih h
        rw [if_neg (by omega)]
        omega
theorem idx_bd (a : Tx) : ∀ l : List Tx, -1 ≤ idxA a l ∧ idxA a l < (l.length : Int)
  | [] => by simp [idxA]
  | x :: l => by
    have := idx_bd a l
    unfold idxA
    simp only [List.length_cons]
    split
    · omega
    · split <;> omega

/-- the bytes of a table -/
def oneA (a : Tx) : List UInt8 := u a.length ++ a
def putA (l : List Tx) : List UInt8 := u (l.length - 1) ++ (l.drop 1).flatMap oneA
/-- the actor that bytes begin with: it, how many bytes, which error -/
def firstA (B : List UInt8) : Tx × Nat × Nat :=
  if (gu B).2.2 ≠ 0 then ([], 0, (gu B).2.2) else if (gu B).1 < 1 ∨ 16 < (gu B).1 then ([], 0, 4) else if B.length - (gu B).2.1 < (gu B).1 then ([], 0, 2) else
    ((B.drop (gu B).2.1).take (gu B).1, (gu B).2.1 + (gu B).1, 0)
/-- so many others, each greater than the last one -/
def runA (a : Tx) : Nat → Tx → List UInt8 → List Tx × Nat × Nat
  | 0, _, _ => ([], 0, 0)
  | k + 1, last, B =>
    if (firstA B).2.2 ≠ 0 then ([], 0, (firstA B).2.2) else if (firstA B).1 = a ∨ Op.bytesLess last (firstA B).1 = false then ([], 0, 3) else
    if (runA a k (firstA B).1 (B.drop (firstA B).2.1)).2.2 ≠ 0 then ([], 0, (runA a k (firstA B).1 (B.drop (firstA B).2.1)).2.2) else
      ((firstA B).1 :: (runA a k (firstA B).1 (B.drop (firstA B).2.1)).1, (firstA B).2.1 + (runA a k (firstA B).1 (B.drop (firstA B).2.1)).2.1, 0)
def getA (a : Tx) (B : List UInt8) : List Tx × Nat × Nat :=
  if (gu B).2.2 ≠ 0 then ([], 0, (gu B).2.2) else
  if (runA a (gu B).1 [] (B.drop (gu B).2.1)).2.2 ≠ 0 then ([], 0, (runA a (gu B).1 [] (B.drop (gu B).2.1)).2.2) else
    (a :: (runA a (gu B).1 [] (B.drop (gu B).2.1)).1, (gu B).2.1 + (runA a (gu B).1 [] (B.drop (gu B).2.1)).2.1, 0)
end AcM
end Go.Proofs.Ytbnkahjmeobblaa
namespace Go.Proofs.Ytbnkahjmeobblaa
open Go Go.RowKit Mem LebM OpM
namespace AcM

theorem first_back {x : Tx} (h1 : 1 ≤ x.length) (h2 : x.length ≤ 16) (R : List UInt8) : firstA (oneA x ++ R) = (x, (oneA x).length, 0) := by
  have hg : gu (oneA x ++ R) = (x.length, (u x.length).length, 0) := by
    unfold oneA
    rw [List.append_assoc]
    exact gu_back _ _ (by omega)
  have hl : (oneA x ++ R).length = (u x.length).length + x.length + R.length := by
    unfold oneA
    rw [List.length_append, List.length_append]
  have hd : (oneA x ++ R).drop (u x.length).length = x ++ R := by
    unfold oneA
    rw [List.append_assoc, List.drop_left]
  unfold firstA
  rw [hg]
  simp only
  rw [if_neg (by simp), if_neg (by omega), if_neg (by rw [hl]; omega), hd, List.take_left]
  unfold oneA
  rw [List.length_append]
theorem first_front {x : Tx} (h1 : 1 ≤ x.length) (h2 : x.length ≤ 16) {c : Nat} (hc : c < (oneA x).length) : firstA ((oneA x).take c) = ([], 0, 2) := by
  by_cases h : c < (u x.length).length
  · have e : (oneA x).take c = (u x.length).take c := by
      unfold oneA
      rw [List.take_append_of_le_length (by omega)]
    have hg := gu_front (u_form x.length) (u_len10 (show x.length < 18446744073709551616 by omega)) c h
    rw [e]
    unfold firstA
    rw [hg]
    simp
  · have e : (oneA x).take c = u x.length ++ x.take (c - (u x.length).length) := by
      unfold oneA
      rw [List.take_append, List.take_of_length_le (by omega)]
    have hg : gu (u x.length ++ x.take (c - (u x.length).length)) = (x.length, (u x.length).length, 0) := gu_back _ _ (by omega)
    have hl : (u x.length ++ x.take (c - (u x.length).length)).length = c := by
      unfold oneA at hc
      rw [List.length_append] at hc
      rw [List.length_append, List.length_take]
      omega
    unfold oneA at hc
    rw [List.length_append] at hc
    rw [e]
    unfold firstA
    rw [hg, hl]
    simp only
    rw [if_neg (by simp), if_neg (by omega), if_pos (by omega)]
theorem run_back {a : Tx} : ∀ (O : List Tx) (last : Tx) (R : List UInt8), (last :: O).Pairwise (fun x y => Op.bytesLess x y = true) → a ∉ O → (∀ x ∈ O, 1 ≤ x.length ∧ x.length ≤ 16) →
    runA a O.length last (O.flatMap oneA ++ R) = (O, (O.flatMap oneA).length, 0)
  | [], _, _, _, _, _ => rfl
  | x :: O, last, R, hr, ha, hl => by
    obtain ⟨h1, h2⟩ := hl x (List.mem_cons_self ..)
    have hp := List.pairwise_cons.1 hr
    have hf := first_back h1 h2 (O.flatMap oneA ++ R)
    have ih := run_back O x R hp.2 (fun h => ha (List.mem_cons_of_mem _ h)) (fun y hy => hl y (List.mem_cons_of_mem _ hy))
    have e : (x :: O).flatMap oneA ++ R = oneA x ++ (O.flatMap oneA ++ R) := by rw [List.flatMap_cons, List.append_assoc]
    rw [e]
    show runA a (O.length + 1) last _ = _
    unfold runA
    rw [hf]
    simp only
    rw [if_neg (by simp), if_neg (by
      rintro (h | h)
      · exact ha (by rw [← h]; exact List.mem_cons_self ..)
      · rw [hp.1 x (List.mem_cons_self ..)] at h; cases h), List.drop_left, ih]
    simp only
    rw [if_neg (by simp), List.flatMap_cons, List.length_append]
theorem run_front {a : Tx} : ∀ (O : List Tx) (last : Tx) (c : Nat), (last :: O).Pairwise (fun x y => Op.bytesLess x y = true) → a ∉ O → (∀ x ∈ O, 1 ≤ x.length ∧ x.length ≤ 16) → c < (O.flatMap oneA).length →
    runA a O.length last ((O.flatMap oneA).take c) = ([], 0, 2)
  | [], _, c, _, _, _, hc => by simp at hc
  | x :: O, last, c, hr, ha, hl, hc => by
    obtain ⟨h1, h2⟩ := hl x (List.mem_cons_self ..)
    have hp := List.pairwise_cons.1 hr
    rw [List.flatMap_cons] at hc ⊢
    rw [List.length_append] at hc
    show runA a (O.length + 1) last _ = _
    by_cases h : c < (oneA x).length
    · rw [List.take_append_of_le_length (by omega)]
      unfold runA
      rw [first_front h1 h2 h]
      simp
    · have ih := run_front O x (c - (oneA x).length) hp.2 (fun h => ha (List.mem_cons_of_mem _ h)) (fun y hy => hl y (List.mem_cons_of_mem _ hy)) (by omega)
      rw [List.take_append, List.take_of_length_le (by omega)]
      have hf := first_back h1 h2 ((O.flatMap oneA).take (c - (oneA x).length))
      unfold runA
      rw [hf]
      simp only
      rw [if_neg (by simp), if_neg (by
        rintro (h | h)
        · exact ha (by rw [← h]; exact List.mem_cons_self ..)
        · rw [hp.1 x (List.mem_cons_self ..)] at h; cases h), List.drop_left, ih]
      simp
theorem rise_nil {O : List Tx} (h : Rise O) (hl : ∀ x ∈ O, 1 ≤ x.length ∧ x.length ≤ 16) : ([] :: O).Pairwise (fun x y => Op.bytesLess x y = true) :=
  List.pairwise_cons.2 ⟨fun x hx => by
    have := (hl x hx).1
    cases x with
    | nil => simp at this
    | cons => rfl, h⟩
theorem put_tab (a : Tx) (O : List Tx) : putA (a :: O) = u O.length ++ O.flatMap oneA := by
  unfold putA
  simp
/-- what is put is read as it was -/
theorem get_back {a : Tx} {O : List Tx} (hr : Rise O) (ha : a ∉ O) (hl : ∀ x ∈ O, 1 ≤ x.length ∧ x.length ≤ 16) (hn : O.length < 18446744073709551616) (R : List UInt8) : getA a (putA (a :: O) ++ R) = (a :: O, (putA (a :: O)).length, 0) := by
  rw [put_tab, List.append_assoc]
  have hg : gu (u O.length ++ (O.flatMap oneA ++ R)) = (O.length, (u O.length).length, 0) := gu_back _ _ hn
  unfold getA
  rw [hg]
  simp only
  rw [if_neg (by simp), List.drop_left, run_back O [] R (rise_nil hr hl) ha hl]
  simp only
  rw [if_neg (by simp), List.length_append]
/-- a front of it is too short -/
theorem get_front {a : Tx} {O : List Tx} (hr : Rise O) (ha : a ∉ O) (hl : ∀ x ∈ O, 1 ≤ x.length ∧ x.length ≤ 16) (hn : O.length < 18446744073709551616) {c : Nat} (hc : c < (putA (a :: O)).length) : getA a ((putA (a :: O)).take c) = ([], 0, 2) := by
  rw [put_tab] at hc ⊢
  rw [List.length_append] at hc
  by_cases h : c < (u O.length).length
  · rw [List.take_append_of_le_length (by omega)]
    have hg := gu_front (u_form O.length) (u_len10 hn) c h
    unfold getA
    rw [hg]
    simp
  · rw [List.take_append, List.take_of_length_le (by omega)]
    have hg : gu (u O.length ++ (O.flatMap oneA).take (c - (u O.length).length)) = (O.length, (u O.length).length, 0) := gu_back _ _ hn
    unfold getA
    rw [hg]
    simp only
    rw [if_neg (by simp), List.drop_left, run_front O [] _ (rise_nil hr hl) ha hl (by omega)]
    simp
theorem one_len {x : Tx} (h : x.length ≤ 16) : (oneA x).length ≤ 26 := by
  have := u_len10 (show x.length < 18446744073709551616 by omega)
  unfold oneA
  rw [List.length_append]
  omega
theorem put_len16 {a : Tx} {O : List Tx} (hl : ∀ x ∈ O, 1 ≤ x.length ∧ x.length ≤ 16) (hn : O.length < 18446744073709551616) : (putA (a :: O)).length ≤ 10 + O.length * 26 ∧ 1 ≤ (putA (a :: O)).length := by
  rw [put_tab, List.length_append]
  have h1 := u_len10 hn
  have h2 := u_pos O.length
  have h3 : (O.flatMap oneA).length ≤ O.length * 26 := by
    clear hn h1 h2
    induction O with
    | nil => simp
    | cons x O ih =>
      have h1 := one_len (hl x (List.mem_cons_self ..)).2
      have h2 := ih (fun y hy => hl y (List.mem_cons_of_mem _ hy))
      rw [List.flatMap_cons, List.length_append, List.length_cons]
      omega
  omega
end AcM
end Go.Proofs.Ytbnkahjmeobblaa
