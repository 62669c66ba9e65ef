import Derived.Test.YtbabgnadgdidmaaGreatZm02
import Derived.WalkKit
namespace Go.Proofs.YtbabgnadgdidmaaGreat.OpM
open Go Go.RowKit LebM UtfM VaM
structure Nm where
 c : Int
 a : List UInt8
def Nm.ok (x : Nm) : Prop := -9223372036854775808 ≤ x.c ∧ x.c < 9223372036854775808
def zeroN : Nm := ⟨0, []⟩
theorem Nm.ext' {x y : Nm} (h1 : x.c = y.c) (h2 : x.a = y.a) : x = y := by
 cases x; cases y;simp only at h1 h2;rw [h1, h2]
def eqN (x y : Nm) : Bool := decide (x.c = y.c) && decide (x.a = y.a)
theorem eqN_iff (x y : Nm) : eqN x y = true ↔ x = y := by
 unfold eqN;simp only [Bool.and_eq_true, decide_eq_true_eq];exact ⟨fun ⟨h1, h2⟩ => Nm.ext' h1 h2, by rintro rfl; exact ⟨rfl, rfl⟩⟩
theorem eqN_self (x : Nm) : eqN x x = true := (eqN_iff x x).2 rfl
theorem eqN_comm (x y : Nm) : eqN x y = eqN y x := by
 rw [Bool.eq_iff_iff, eqN_iff, eqN_iff];exact ⟨Eq.symm, Eq.symm⟩
def zeroB (x : Nm) : Bool := eqN x zeroN
def actorB (s : List UInt8) : Bool := decide (0 < s.length) && decide (s.length ≤ 16)
def idB (x : Nm) : Bool := decide (1 ≤ x.c) && decide (x.c ≤ 9007199254740991) && actorB x.a
def lessN (x y : Nm) : Bool := decide (x.c < y.c) || (decide (x.c = y.c) && Op.bytesLess x.a y.a)
def cmpN (x y : Nm) : Int := if eqN x y = true then 0 else if lessN x y = true then -1 else 1
theorem bless_cons (a b : UInt8) (x y : List UInt8) : Op.bytesLess (a :: x) (b :: y) = true ↔ a.toNat < b.toNat ∨ (a = b ∧ Op.bytesLess x y = true) := by
 simp [Op.bytesLess, UInt8.lt_iff_toNat_lt]
theorem bless_irr : ∀ x : List UInt8, Op.bytesLess x x = false
 | [] => rfl
 | a :: x => by
  cases h : Op.bytesLess (a :: x) (a :: x) with
  | false => rfl
  | true =>
   rcases (bless_cons a a x x).1 h with h | ⟨_, h⟩
   · omega
   · rw [bless_irr x] at h; cases h
theorem bless_tri : ∀ x y : List UInt8, Op.bytesLess x y = true ∨ x = y ∨ Op.bytesLess y x = true
 | [], [] => Or.inr (Or.inl rfl)
 | [], _ :: _ => Or.inl rfl
 | _ :: _, [] => Or.inr (Or.inr rfl)
 | a :: x, b :: y => by
  rcases Nat.lt_trichotomy a.toNat b.toNat with h | h | h
  · exact Or.inl ((bless_cons a b x y).2 (Or.inl h))
  · obtain rfl : a = b := UInt8.toNat_inj.1 h;rcases bless_tri x y with h2 | h2 | h2
    · exact Or.inl ((bless_cons a a x y).2 (Or.inr ⟨rfl, h2⟩))
    · exact Or.inr (Or.inl (by rw [h2]))
    · exact Or.inr (Or.inr ((bless_cons a a y x).2 (Or.inr ⟨rfl, h2⟩)))
  · exact Or.inr (Or.inr ((bless_cons b a y x).2 (Or.inl h)))
theorem bless_trans : ∀ {x y z : List UInt8}, Op.bytesLess x y = true → Op.bytesLess y z = true → Op.bytesLess x z = true
 | [], y, [], h1, h2 => by cases y <;> simp [Op.bytesLess] at h1 h2
 | [], _, _ :: _, _, _ => rfl
 | _ :: _, [], _, h1, _ => by simp [Op.bytesLess] at h1
 | _ :: _, _ :: _, [], _, h2 => by simp [Op.bytesLess] at h2
 | a :: x, b :: y, c :: z, h1, h2 => by
  rw [bless_cons] at *;rcases h1 with h1 | ⟨h1, h1'⟩ <;> rcases h2 with h2 | ⟨h2, h2'⟩
  · exact Or.inl (by omega)
  · subst h2; exact Or.inl h1
  · subst h1; exact Or.inl h2
  · exact Or.inr ⟨h1.trans h2, bless_trans h1' h2'⟩
theorem less_iff (x y : Nm) : lessN x y = true ↔ x.c < y.c ∨ (x.c = y.c ∧ Op.bytesLess x.a y.a = true) := by
 unfold lessN;simp [Bool.or_eq_true, Bool.and_eq_true]
theorem less_irr (x : Nm) : lessN x x = false := by
 cases h : lessN x x with
 | false => rfl
 | true =>
  rcases (less_iff x x).1 h with h | ⟨_, h⟩
  · omega
  · rw [bless_irr] at h; cases h
theorem less_trans {x y z : Nm} (h1 : lessN x y = true) (h2 : lessN y z = true) : lessN x z = true := by
 rw [less_iff] at *;rcases h1 with h1 | ⟨h1, h1'⟩ <;> rcases h2 with h2 | ⟨h2, h2'⟩
 · exact Or.inl (by omega)
 · exact Or.inl (by omega)
 · exact Or.inl (by omega)
 · exact Or.inr ⟨by omega, bless_trans h1' h2'⟩
theorem less_asym {x y : Nm} (h : lessN x y = true) : lessN y x = false := by
 cases h2 : lessN y x with
 | false => rfl
 | true => have := less_trans h h2; rw [less_irr] at this; cases this
theorem less_tri (x y : Nm) : lessN x y = true ∨ x = y ∨ lessN y x = true := by
 rcases Int.lt_trichotomy x.c y.c with h | h | h
 · exact Or.inl ((less_iff x y).2 (Or.inl h))
 · rcases bless_tri x.a y.a with h2 | h2 | h2
   · exact Or.inl ((less_iff x y).2 (Or.inr ⟨h, h2⟩))
   · exact Or.inr (Or.inl (Nm.ext' h h2))
   · exact Or.inr (Or.inr ((less_iff y x).2 (Or.inr ⟨h.symm, h2⟩)))
 · exact Or.inr (Or.inr ((less_iff y x).2 (Or.inl h)))
theorem less_ne {x y : Nm} (h : lessN x y = true) : eqN x y = false := by
 cases h2 : eqN x y with
 | false => rfl
 | true => rw [(eqN_iff x y).1 h2, less_irr] at h; cases h
theorem cmp_ways (x y : Nm) : (cmpN x y = 0 ∧ eqN x y = true ∧ lessN x y = false ∧ lessN y x = false) ∨ (cmpN x y = -1 ∧ eqN x y = false ∧ lessN x y = true ∧ lessN y x = false) ∨ (cmpN x y = 1 ∧ eqN x y = false ∧ lessN x y = false ∧ lessN y x = true) := by
 unfold cmpN;rcases less_tri x y with h | h | h
 · exact Or.inr (Or.inl ⟨by rw [less_ne h, h]; rfl, less_ne h, h, less_asym h⟩)
 · subst h;exact Or.inl ⟨by rw [eqN_self]; rfl, eqN_self x, less_irr x, less_irr x⟩
 · have e : eqN x y = false := by rw [eqN_comm]; exact less_ne h
   exact Or.inr (Or.inr ⟨by rw [e, less_asym h]; rfl, e, less_asym h, h⟩)
structure O where
 obj : Nm
 key : List UInt8
 keyed : Bool
 elem : Nm
 ins : Bool
 act : Int
 val : V
 pr : List Nm
def zeroO : O := ⟨zeroN, [], false, zeroN, false, 0, zeroV, []⟩
def O.ok (o : O) : Prop := o.obj.ok ∧ o.elem.ok ∧ (-9223372036854775808 ≤ o.act ∧ o.act < 9223372036854775808) ∧ o.val.ok ∧ ∀ x ∈ o.pr, x.ok
def ptB (x : Nm) : Bool := zeroB x || idB x
def keyB (o : O) : Bool := if o.keyed then decide (o.key.length ≤ 4000) && (wh o.key == o.key.length) && zeroB o.elem && !o.ins else decide (o.key = []) && ptB o.elem
def riseB : Nm → List Nm → Bool
 | _, [] => true
 | last, x :: l => idB x && lessN last x && riseB x l
def predsB (l : List Nm) : Bool := decide (l.length ≤ 16) && riseB zeroN l
def rightO (o : O) : Bool := ptB o.obj && keyB o && decide (0 ≤ o.act) && decide (o.act ≤ 1000) && rightV o.val && predsB o.pr
def lastN (l : List Nm) : Nm := l.getLast?.getD zeroN
theorem rise_app (a : Nm) : ∀ (l : List Nm) (x : Nm), riseB a (l ++ [x]) = (riseB a l && (idB x && lessN (l.getLast?.getD a) x))
 | [], x => by simp [riseB]
 | y :: l, x => by
  simp only [List.cons_append, riseB];rw [rise_app y l x, ← Bool.and_assoc];congr 2;rw [List.getLast?_cons];rfl
theorem rise_snoc (l : List Nm) (x : Nm) : riseB zeroN (l ++ [x]) = (riseB zeroN l && (idB x && lessN (lastN l) x)) := rise_app zeroN l x
theorem rise_more {a : Nm} : ∀ {l m : List Nm}, riseB a l = false → riseB a (l ++ m) = false
 | [], m, h => by cases h
 | y :: l, m, h => by
  simp only [List.cons_append, riseB] at h ⊢;cases h1 : (idB y && lessN a y) with
  | false => rfl
  | true =>
   rw [h1, Bool.true_and] at h;rw [Bool.true_and];exact rise_more h
theorem zero_less {x : Nm} (h : idB x = true) : lessN zeroN x = true := by
 unfold idB at h;simp only [Bool.and_eq_true, decide_eq_true_eq] at h;exact (less_iff _ _).2 (Or.inl (by show (0 : Int) < _; omega))
def namesO (o : O) : List Nm := (o.obj :: o.elem :: o.pr).filter fun x => !zeroB x
def eqNs : List Nm → List Nm → Bool
 | [], [] => true
 | x :: l, y :: m => eqN x y && eqNs l m
 | _, _ => false
theorem eqNs_iff : ∀ l m : List Nm, eqNs l m = true ↔ l = m
 | [], [] => by simp [eqNs]
 | [], y :: m => by simp [eqNs]
 | x :: l, [] => by simp [eqNs]
 | x :: l, y :: m => by
  simp only [eqNs, Bool.and_eq_true, eqN_iff, eqNs_iff l m, List.cons.injEq]
def eqO (x y : O) : Bool := eqN x.obj y.obj && decide (x.key = y.key) && (x.keyed == y.keyed) && eqN x.elem y.elem && (x.ins == y.ins) && decide (x.act = y.act) && eqV x.val y.val && eqNs x.pr y.pr
theorem O.ext' {x y : O} (h1 : x.obj = y.obj) (h2 : x.key = y.key) (h3 : x.keyed = y.keyed) (h4 : x.elem = y.elem) (h5 : x.ins = y.ins) (h6 : x.act = y.act) (h7 : x.val = y.val) (h8 : x.pr = y.pr) : x = y := by
 cases x; cases y;simp only at h1 h2 h3 h4 h5 h6 h7 h8;rw [h1, h2, h3, h4, h5, h6, h7, h8]
theorem eqO_iff (x y : O) : eqO x y = true ↔ x = y := by
 unfold eqO;simp only [Bool.and_eq_true, decide_eq_true_eq, eqN_iff, eqV_iff, eqNs_iff, beq_iff_eq];exact ⟨fun ⟨⟨⟨⟨⟨⟨⟨h1, h2⟩, h3⟩, h4⟩, h5⟩, h6⟩, h7⟩, h8⟩ => O.ext' h1 h2 h3 h4 h5 h6 h7 h8, by rintro rfl; exact ⟨⟨⟨⟨⟨⟨⟨rfl, rfl⟩, rfl⟩, rfl⟩, rfl⟩, rfl⟩, rfl⟩, rfl⟩⟩
theorem eqO_self (x : O) : eqO x x = true := (eqO_iff x x).2 rfl
def fewO (o : O) : Bool := decide (o.pr.length ≤ 40) && decide (o.key.length ≤ 5000) && decide (o.val.s.length ≤ 5000) && decide (o.obj.a.length ≤ 100) && decide (o.elem.a.length ≤ 100) && o.pr.all fun x => decide (x.a.length ≤ 100)
end Go.Proofs.YtbabgnadgdidmaaGreat.OpM
namespace Go.Proofs.YtbabgnadgdidmaaGreat
open Go Go.RowKit Mem LebM OpM
namespace AcM
abbrev Tx := List UInt8
theorem bless_asym {x y : Tx} (h : Op.bytesLess x y = true) : Op.bytesLess y x = false := by
 cases h2 : Op.bytesLess y x with
 | false => rfl
 | true => have := bless_trans h h2; rw [bless_irr] at this; cases this
def Rise (l : List Tx) : Prop := l.Pairwise (fun x y => Op.bytesLess x y = true)
def insT (x : Tx) : List Tx → List Tx
 | [] => [x]
 | y :: l => if Op.bytesLess x y = true then x :: y :: l else if x = y then y :: l else y :: insT x l
theorem ins_mem (x : Tx) : ∀ (l : List Tx) (z : Tx), z ∈ insT x l ↔ z = x ∨ z ∈ l
 | [], z => by simp [insT]
 | y :: l, z => by
  unfold insT;split
  · simp
  · split
    · rename_i h; subst h; simp
    · simp only [List.mem_cons, ins_mem x l z];constructor
      · rintro (h | h | h) <;> simp [h]
      · rintro (h | h | h) <;> simp [h]
theorem ins_rise (x : Tx) : ∀ (l : List Tx), Rise l → Rise (insT x l)
 | [], _ => List.pairwise_singleton _ _
 | y :: l, h => by
  have h2 := List.pairwise_cons.1 h;unfold insT;split
  · rename_i hx
    refine List.pairwise_cons.2 ⟨fun z hz => ?_, h⟩;rcases List.mem_cons.1 hz with rfl | hz
    · exact hx
    · exact bless_trans hx (h2.1 z hz)
  · rename_i hx
    split
    · exact h
    · rename_i hne
      refine List.pairwise_cons.2 ⟨fun z hz => ?_, ins_rise x l h2.2⟩;rcases (ins_mem x l z).1 hz with rfl | hz
      · rcases bless_tri z y with h3 | h3 | h3
        · exact absurd h3 hx
        · exact absurd h3 hne
        · exact h3
      · exact h2.1 z hz
def othersA (a : Tx) : List Nm → List Tx
 | [] => []
 | y :: N => if y.a = a then othersA a N else insT y.a (othersA a N)
theorem others_mem (a : Tx) : ∀ (N : List Nm) (z : Tx), z ∈ othersA a N ↔ z ≠ a ∧ ∃ y ∈ N, y.a = z
 | [], z => by simp [othersA]
 | y :: N, z => by
  unfold othersA;split
  · rename_i h
    rw [others_mem a N z];constructor
    · rintro ⟨h1, y', h2, h3⟩; exact ⟨h1, y', List.mem_cons_of_mem _ h2, h3⟩
    · rintro ⟨h1, y', h2, h3⟩;rcases List.mem_cons.1 h2 with rfl | h2
      · exact absurd (h3.symm.trans h) h1
      · exact ⟨h1, y', h2, h3⟩
  · rename_i h
    rw [ins_mem, others_mem a N z];constructor
    · rintro (h1 | ⟨h1, y', h2, h3⟩)
      · exact ⟨fun e => h (h1.symm.trans e), y, List.mem_cons_self .., h1.symm⟩
      · exact ⟨h1, y', List.mem_cons_of_mem _ h2, h3⟩
    · rintro ⟨h1, y', h2, h3⟩;rcases List.mem_cons.1 h2 with rfl | h2
      · exact Or.inl h3.symm
      · exact Or.inr ⟨h1, y', h2, h3⟩
theorem others_rise (a : Tx) : ∀ N : List Nm, Rise (othersA a N)
 | [] => List.Pairwise.nil
 | y :: N => by
  unfold othersA;split
  · exact others_rise a N
  · exact ins_rise _ _ (others_rise a N)
theorem ins_len (x : Tx) : ∀ l : List Tx, (insT x l).length ≤ l.length + 1
 | [] => by simp [insT]
 | y :: l => by
  unfold insT;have := ins_len x l;split
  · simp
  · split
    · simp
    · simp; omega
theorem others_len (a : Tx) : ∀ N : List Nm, (othersA a N).length ≤ N.length
 | [] => by simp [othersA]
 | y :: N => by
  unfold othersA;have h1 := others_len a N;have h2 := ins_len y.a (othersA a N);split
  · simp; omega
  · simp; omega
def tabA (a : Tx) (N : List Nm) : List Tx := a :: othersA a N
def idxA (a : Tx) : List Tx → Int
 | [] => -1
 | x :: l => if x = a then 0 else if idxA a l < 0 then -1 else idxA a l + 1
theorem idx_mem {a : Tx} {l : List Tx} (h : a ∈ l) : 0 ≤ idxA a l := by
 induction l with
 | nil => cases h
 | cons x l ih =>
  unfold idxA;split
  · omega
  · rename_i hne
    rcases List.mem_cons.1 h with e | h
    · exact absurd e.symm hne
    · have := ih h;rw [if_neg (by omega)];omega
theorem idx_bd (a : Tx) : ∀ l : List Tx, -1 ≤ idxA a l ∧ idxA a l < (l.length : Int)
 | [] => by simp [idxA]
 | x :: l => by
  have := idx_bd a l;unfold idxA;simp only [List.length_cons];split
  · omega
  · split <;> omega
def oneA (a : Tx) : List UInt8 := u a.length ++ a
end AcM
end Go.Proofs.YtbabgnadgdidmaaGreat
