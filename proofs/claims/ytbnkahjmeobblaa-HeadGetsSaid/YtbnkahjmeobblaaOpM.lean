/-
  Plain mathematics of layer 17: names, which may name something, their order; ops, which may be; what they speak of.
-/
import Derived.Test.YtbnkahjmeobblaaZm04
import Derived.WalkKit
namespace Go.Proofs.Ytbnkahjmeobblaa.OpM
open Go Go.RowKit LebM UtfM VaM

/-- an op's name -/
structure Nm where
  c : Int
  a : List UInt8
def Nm.ok (x : Nm) : Prop := -9223372036854775808 ≤ x.c ∧ x.c < 9223372036854775808
def zeroN : Nm := ⟨0, []⟩
theorem Nm.ext' {x y : Nm} (h1 : x.c = y.c) (h2 : x.a = y.a) : x = y := by
  cases x; cases y
  simp only at h1 h2
  rw [h1, h2]
/-- two names are the same -/
def eqN (x y : Nm) : Bool := decide (x.c = y.c) && decide (x.a = y.a)
theorem eqN_iff (x y : Nm) : eqN x y = true ↔ x = y := by
  unfold eqN
  simp only [Bool.and_eq_true, decide_eq_true_eq]
  exact ⟨fun ⟨h1, h2⟩ => Nm.ext' h1 h2, by rintro rfl; exact ⟨rfl, rfl⟩⟩
theorem eqN_self (x : Nm) : eqN x x = true := (eqN_iff x x).2 rfl
theorem eqN_comm (x y : Nm) : eqN x y = eqN y x := by
  rw [Bool.eq_iff_iff, eqN_iff, eqN_iff]
  exact ⟨Eq.symm, Eq.symm⟩
theorem eqN_false {x y : Nm} (h : eqN x y = false) : x ≠ y := fun e => by rw [(eqN_iff x y).2 e] at h; cases h
def zeroB (x : Nm) : Bool := eqN x zeroN
def actorB (s : List UInt8) : Bool := decide (0 < s.length) && decide (s.length ≤ 16)
def idB (x : Nm) : Bool := decide (1 ≤ x.c) && decide (x.c ≤ 9007199254740991) && actorB x.a
/-- is x the lesser one? -/
def lessN (x y : Nm) : Bool := decide (x.c < y.c) || (decide (x.c = y.c) && Op.bytesLess x.a y.a)
def cmpN (x y : Nm) : Int := if eqN x y = true then 0 else if lessN x y = true then -1 else 1

theorem bless_cons (a b : UInt8) (x y : List UInt8) : Op.bytesLess (a :: x) (b :: y) = true ↔ a.toNat < b.toNat ∨ (a = b ∧ Op.bytesLess x y = true) := by
  simp [Op.bytesLess, UInt8.lt_iff_toNat_lt]
theorem bless_irr : ∀ x : List UInt8, Op.bytesLess x x = false
  | [] => rfl
  | a :: x => by
    cases h : Op.bytesLess (a :: x) (a :: x) with
    | false => rfl
    | true =>
      rcases (bless_cons a a x x).1 h with h | ⟨_, h⟩
      · omega
      · rw [bless_irr x] at h; cases h
theorem bless_tri : ∀ x y : List UInt8, Op.bytesLess x y = true ∨ x = y ∨ Op.bytesLess y x = true
  | [], [] => Or.inr (Or.inl rfl)
  | [], _ :: _ => Or.inl rfl
  | _ :: _, [] => Or.inr (Or.inr rfl)
  | a :: x, b :: y => by
    rcases Nat.lt_trichotomy a.toNat b.toNat with h | h | h
    · exact Or.inl ((bless_cons a b x y).2 (Or.inl h))
    · obtain rfl : a = b := UInt8.toNat_inj.1 h
      rcases bless_tri x y with h2 | h2 | h2
      · exact Or.inl ((bless_cons a a x y).2 (Or.inr ⟨rfl, h2⟩))
      · exact Or.inr (Or.inl (by rw [h2]))
      · exact Or.inr (Or.inr ((bless_cons a a y x).2 (Or.inr ⟨rfl, h2⟩)))
    · exact Or.inr (Or.inr ((bless_cons b a y x).2 (Or.inl h)))
theorem bless_trans : ∀ {x y z : List UInt8}, Op.bytesLess x y = true → Op.bytesLess y z = true → Op.bytesLess x z = true
  | [], y, [], h1, h2 => by cases y <;> simp [Op.bytesLess] at h1 h2
  | [], _, _ :: _, _, _ => rfl
  | _ :: _, [], _, h1, _ => by simp [Op.bytesLess] at h1
  | _ :: _, _ :: _, [], _, h2 => by simp [Op.bytesLess] at h2
  | a :: x, b :: y, c :: z, h1, h2 => by
    rw [bless_cons] at *
    rcases h1 with h1 | ⟨h1, h1'⟩ <;> rcases h2 with h2 | ⟨h2, h2'⟩
    · exact Or.inl (by omega)
    · subst h2; exact Or.inl h1
    · subst h1; exact Or.inl h2
    · exact Or.inr ⟨h1.trans h2, bless_trans h1' h2'⟩
theorem less_iff (x y : Nm) : lessN x y = true ↔ x.c < y.c ∨ (x.c = y.c ∧ Op.bytesLess x.a y.a = true) := by
  unfold lessN
  simp [Bool.or_eq_true, Bool.and_eq_true]
theorem less_irr (x : Nm) : lessN x x = false := by
  cases h : lessN x x with
  | false => rfl
  | true =>
    rcases (less_iff x x).1 h with h | ⟨_, h⟩
    · omega
    · rw [bless_irr] at h; cases h
theorem less_trans {x y z : Nm} (h1 : lessN x y = true) (h2 : lessN y z = true) : lessN x z = true := by
  rw [less_iff] at *
  rcases h1 with h1 | ⟨h1, h1'⟩ <;> rcases h2 with h2 | ⟨h2, h2'⟩
  · exact Or.inl (by omega)
  · exact Or.inl (by omega)
  · exact Or.inl (by omega)
  · exact Or.inr ⟨by omega, bless_trans h1' h2'⟩
theorem less_asym {x y : Nm} (h : lessN x y = true) : lessN y x = false := by
  cases h2 : lessN y x with
  | false => rfl
  | true => have := less_trans h h2; rw [less_irr] at this; cases this
theorem less_tri (x y : Nm) : lessN x y = true ∨ x = y ∨ lessN y x = true := by
  rcases Int.lt_trichotomy x.c y.c with h | h | h
  · exact Or.inl ((less_iff x y).2 (Or.inl h))
  · rcases bless_tri x.a y.a with h2 | h2 | h2
    · exact Or.inl ((less_iff x y).2 (Or.inr ⟨h, h2⟩))
    · exact Or.inr (Or.inl (Nm.ext' h h2))
    · exact Or.inr (Or.inr ((less_iff y x).2 (Or.inr ⟨h.symm, h2⟩)))
  · exact Or.inr (Or.inr ((less_iff y x).2 (Or.inl h)))
theorem less_ne {x y : Nm} (h : lessN x y = true) : eqN x y = false := by
  cases h2 : eqN x y with
  | false => rfl
  | true => rw [(eqN_iff x y).1 h2, less_irr] at h; cases h
/-- the three ways of a comparison -/
theorem cmp_ways (x y : Nm) : (cmpN x y = 0 ∧ eqN x y = true ∧ lessN x y = false ∧ lessN y x = false) ∨ (cmpN x y = -1 ∧ eqN x y = false ∧ lessN x y = true ∧ lessN y x = false) ∨ (cmpN x y = 1 ∧ eqN x y = false ∧ lessN x y = false ∧ lessN y x = true) := by
  unfold cmpN
  rcases less_tri x y with h | h | h
  · exact Or.inr (Or.inl ⟨by rw [less_ne h, h]; rfl, less_ne h, h, less_asym h⟩)
  · subst h
    exact Or.inl ⟨by rw [eqN_self]; rfl, eqN_self x, less_irr x, less_irr x⟩
  · have e : eqN x y = false := by rw [eqN_comm]; exact less_ne h
    exact Or.inr (Or.inr ⟨by rw [e, less_asym h]; rfl, e, less_asym h, h⟩)
theorem cmp_bd (x y : Nm) : -1 ≤ cmpN x y ∧ cmpN x y ≤ 1 := by
  rcases cmp_ways x y with ⟨h, _⟩ | ⟨h, _⟩ | ⟨h, _⟩ <;> rw [h] <;> omega
theorem cmp_anti (x y : Nm) : cmpN x y = -cmpN y x := by
  have e := eqN_comm x y
  rcases cmp_ways x y with ⟨h, h1, h2, h3⟩ | ⟨h, h1, h2, h3⟩ | ⟨h, h1, h2, h3⟩ <;> rcases cmp_ways y x with ⟨g, g1, g2, g3⟩ | ⟨g, g1, g2, g3⟩ | ⟨g, g1, g2, g3⟩ <;> simp_all
theorem cmp_zero (x y : Nm) : (cmpN x y == 0) = eqN x y := by
  rcases cmp_ways x y with ⟨h, h1, h2, h3⟩ | ⟨h, h1, h2, h3⟩ | ⟨h, h1, h2, h3⟩ <;> rw [h, h1] <;> rfl
theorem cmp_trans {x y z : Nm} (h1 : cmpN x y ≤ 0) (h2 : cmpN y z ≤ 0) : cmpN x z ≤ 0 := by
  rcases cmp_ways x y with ⟨h, a1, a2, a3⟩ | ⟨h, a1, a2, a3⟩ | ⟨h, a1, a2, a3⟩
  · rw [(eqN_iff x y).1 a1]; exact h2
  · rcases cmp_ways y z with ⟨g, b1, b2, b3⟩ | ⟨g, b1, b2, b3⟩ | ⟨g, b1, b2, b3⟩
    · rw [← (eqN_iff y z).1 b1]; exact h1
    · have := less_trans a2 b2
      rcases cmp_ways x z with ⟨k, c1, c2, c3⟩ | ⟨k, c1, c2, c3⟩ | ⟨k, c1, c2, c3⟩
      · rw [k]; omega
      · rw [k]; omega
      · rw [this] at c2; cases c2
    · omega
  · omega

/-- an op -/
structure O where
  obj : Nm
  key : List UInt8
  keyed : Bool
  elem : Nm
  ins : Bool
  act : Int
  val : V
  pr : List Nm
def zeroO : O := ⟨zeroN, [], false, zeroN, false, 0, zeroV, []⟩
/-- its texts are no longer than they are looked at -/
def O.ok (o : O) : Prop := o.obj.ok ∧ o.elem.ok ∧ (-9223372036854775808 ≤ o.act ∧ o.act < 9223372036854775808) ∧ o.val.ok ∧ ∀ x ∈ o.pr, x.ok
def ptB (x : Nm) : Bool := zeroB x || idB x
def keyB (o : O) : Bool := if o.keyed then decide (o.key.length ≤ 4000) && (wh o.key == o.key.length) && zeroB o.elem && !o.ins else decide (o.key = []) && ptB o.elem
/-- names that rise, each greater than the last one -/
def riseB : Nm → List Nm → Bool
  | _, [] => true
  | last, x :: l => idB x && lessN last x && riseB x l
def predsB (l : List Nm) : Bool := decide (l.length ≤ 16) && riseB zeroN l
def rightO (o : O) : Bool := ptB o.obj && keyB o && decide (0 ≤ o.act) && decide (o.act ≤ 1000) && rightV o.val && predsB o.pr

/-- the last one of a row's front -/
def lastN (l : List Nm) : Nm := l.getLast?.getD zeroN
theorem rise_app (a : Nm) : ∀ (l : List Nm) (x : Nm), riseB a (l ++ [x]) = (riseB a l && (idB x && lessN (l.getLast?.getD a) x))
  | [], x => by simp [riseB]
  | y :: l, x => by
    simp only [List.cons_append, riseB]
    rw [rise_app y l x, ← Bool.and_assoc]
    congr 2
    rw [List.getLast?_cons]
    rfl
theorem rise_snoc (l : List Nm) (x : Nm) : riseB zeroN (l ++ [x]) = (riseB zeroN l && (idB x && lessN (lastN l) x)) := rise_app zeroN l x
theorem rise_more {a : Nm} : ∀ {l m : List Nm}, riseB a l = false → riseB a (l ++ m) = false
  | [], m, h => by cases h
  | y :: l, m, h => by
    simp only [List.cons_append, riseB] at h ⊢
    cases h1 : (idB y && lessN a y) with
    | false => rfl
    | true =>
      rw [h1, Bool.true_and] at h
      rw [Bool.true_and]
      exact rise_more h
theorem rise_take {a : Nm} {l : List Nm} (h : riseB a l = true) (k : Nat) : riseB a (l.take k) = true := by
  cases h2 : riseB a (l.take k) with
  | true => rfl
  | false =>
    have := rise_more (m := l.drop k) h2
    rw [List.take_append_drop, h] at this
    cases this
theorem zero_less {x : Nm} (h : idB x = true) : lessN zeroN x = true := by
  unfold idB at h
  simp only [Bool.and_eq_true, decide_eq_true_eq] at h
  exact (less_iff _ _).2 (Or.inl (by show (0 : Int) < _; omega))
/-- with fewer of those it takes the place of an op may be, too -/
theorem right_fewer {o : O} (h : rightO o = true) (k : Nat) : rightO { o with pr := o.pr.take k } = true := by
  unfold rightO at *
  simp only [Bool.and_eq_true] at h ⊢
  obtain ⟨⟨⟨⟨⟨h1, h2⟩, h3⟩, h4⟩, h5⟩, h6⟩ := h
  refine ⟨⟨⟨⟨⟨h1, h2⟩, h3⟩, h4⟩, h5⟩, ?_⟩
  unfold predsB at *
  simp only [Bool.and_eq_true, decide_eq_true_eq] at h6 ⊢
  refine ⟨?_, rise_take h6.2 k⟩
  rw [List.length_take]
  omega

/-- what an op speaks of -/
def namesO (o : O) : List Nm := (o.obj :: o.elem :: o.pr).filter fun x => !zeroB x
def namesL (l : List O) : List Nm := l.flatMap namesO
/-- two ops are alike -/
def eqNs : List Nm → List Nm → Bool
  | [], [] => true
  | x :: l, y :: m => eqN x y && eqNs l m
  | _, _ => false
theorem eqNs_iff : ∀ l m : List Nm, eqNs l m = true ↔ l = m
  | [], [] => by simp [eqNs]
  | [], y :: m => by simp [eqNs]
  | x :: l, [] => by simp [eqNs]
  | x :: l, y :: m => by
    simp only [eqNs, Bool.and_eq_true, eqN_iff, eqNs_iff l m, List.cons.injEq]
def eqO (x y : O) : Bool := eqN x.obj y.obj && decide (x.key = y.key) && (x.keyed == y.keyed) && eqN x.elem y.elem && (x.ins == y.ins) && decide (x.act = y.act) && eqV x.val y.val && eqNs x.pr y.pr
theorem O.ext' {x y : O} (h1 : x.obj = y.obj) (h2 : x.key = y.key) (h3 : x.keyed = y.keyed) (h4 : x.elem = y.elem) (h5 : x.ins = y.ins) (h6 : x.act = y.act) (h7 : x.val = y.val) (h8 : x.pr = y.pr) : x = y := by
  cases x; cases y
  simp only at h1 h2 h3 h4 h5 h6 h7 h8
  rw [h1, h2, h3, h4, h5, h6, h7, h8]
theorem eqO_iff (x y : O) : eqO x y = true ↔ x = y := by
  unfold eqO
  simp only [Bool.and_eq_true, decide_eq_true_eq, eqN_iff, eqV_iff, eqNs_iff, beq_iff_eq]
  exact ⟨fun ⟨⟨⟨⟨⟨⟨⟨h1, h2⟩, h3⟩, h4⟩, h5⟩, h6⟩, h7⟩, h8⟩ => O.ext' h1 h2 h3 h4 h5 h6 h7 h8, by rintro rfl; exact ⟨⟨⟨⟨⟨⟨⟨rfl, rfl⟩, rfl⟩, rfl⟩, rfl⟩, rfl⟩, rfl⟩, rfl⟩⟩
theorem eqO_self (x : O) : eqO x x = true := (eqO_iff x x).2 rfl
/-- ops are few, and their texts short -/
def fewO (o : O) : Bool := decide (o.pr.length ≤ 40) && decide (o.key.length ≤ 5000) && decide (o.val.s.length ≤ 5000) && decide (o.obj.a.length ≤ 100) && decide (o.elem.a.length ≤ 100) && o.pr.all fun x => decide (x.a.length ≤ 100)
end Go.Proofs.Ytbnkahjmeobblaa.OpM
