/-
  What layer 8's laws want of the program: its contracts, over a condition of the world that calls keep (its tables, in blocks below T).
  Slices of slices: what a slice expression answers, in letters (written by gen_cut.py).
-/
import Derived.Test.YtjghcacepneipaaDoorZm09
import Derived.Test.YtjghcacepneipaaDoorZm25
import Derived.Test.YtjghcacepneipaaDoorZm01
import Derived.WalkKit
namespace Go.Proofs.YtjghcacepneipaaDoor
open Go.RowKit CoM BitsM Mem Go.Lib

/-- what the program's Get answers, and where the reader stands then -/
def GotP (lo : Nat) (bits : List Bool) (w' : World) (e : Ending) (p' : Nat) : Option (List Nat × List Nat × List Bool) → Prop
  | none => ∃ A1 c1 A2 c2, e = .returned (.tuple #[.slice A1 0 c1, .slice A2 0 c2, .bool false])
  | some (u, v, r) => ∃ A1 c1 A2 c2, e = .returned (.tuple #[.slice A1 u.length c1, .slice A2 v.length c2, .bool true]) ∧ u.length ≤ c1 ∧ v.length ≤ c2 ∧ Rd w' A1 u.length (u.map natc) ∧ Rd w' A2 v.length (v.map natc) ∧ (∀ ad, A1 = some ad → lo ≤ ad.block) ∧ (∀ ad, A2 = some ad → lo ≤ ad.block) ∧ r = bits.drop p'
/-- the program's contracts -/
structure CodesC (T : Nat) (Gl : World → Prop) : Prop where
  fr : ∀ {S : Nat → Prop} {w w' : World}, Gl w → Fr S w w' → (∀ k, S k → T ≤ k) → Gl w'
  size : ∀ {w : World}, Gl w → T ≤ w.heap.size
  press : ∀ w : World, Gl w → PressC w
  put : ∀ (g c : Nat) (A : Option Addr) (bs : List Bool) (A1 A2 : Option Addr) (n1 c1 n2 c2 : Nat) (X Y : List Nat) (w : World), Gl w → T ≤ g → (∀ k, bl A = some k → T ≤ k) → Wr w g A c bs → bs.length ≤ 1000000000 →
    Rd w A1 n1 (X.map natc) → Rd w A2 n2 (Y.map natc) → n1 ≤ c1 → n2 ≤ c2 → 257 ≤ n1 → n1 ≤ 286 → 1 ≤ n2 → n2 ≤ 30 → (∀ x ∈ X, x ≤ 15) → (∀ x ∈ Y, x ≤ 15) → (∀ ad, A1 = some ad → ¬ Ft g A ad.block) → (∀ ad, A2 = some ad → ¬ Ft g A ad.block) →
    Calls Tryd.prog 14 #[.pointer (some ⟨g, 0, none⟩), .slice A1 n1 c1, .slice A2 n2 c2] w fun e w' => ∃ A' c', e = .returned (.tuple #[]) ∧ Wr w' g A' c' (bs ++ putBits (trimL X 257) (trimL Y 1)) ∧ Fr (Ft g A) w w' ∧ Nx w A A'
  get : ∀ (r c p : Nat) (A : Option Addr) (B : List UInt8) (w : World), Gl w → T ≤ r → Re w r A c B p → B.length ≤ 1000000 →
    Calls Tryd.prog 20 #[.pointer (some ⟨r, 0, none⟩)] w fun e w' => ∃ p', Re w' r A c B p' ∧ Fr (fun k => k = r) w w' ∧ GotP w.heap.size (bitsOf B) w' e p' (getB ((bitsOf B).drop p))

theorem itBits_len {T : List It} {len : List Nat} (C : Code8 T len) {t : It} (ht : t ∈ T) (hs : t.s ≤ 18) (hb : t.b ≤ 7) : (itBits (HuffM.codesL (ints len)) len t).length ≤ 14 := by
  have := (C.met t ht hs).2
  unfold itBits
  rw [List.length_append, List.length_reverse, low_length, low_length]
  omega
theorem flat_len_le {α β : Type} (f : α → List β) (N : Nat) : ∀ (l : List α), (∀ x ∈ l, (f x).length ≤ N) → (l.flatMap f).length ≤ N * l.length
  | [], _ => by simp
  | x :: l, h => by
    have h1 := h x (List.mem_cons_self ..)
    have h2 := flat_len_le f N l (fun y hy => h y (List.mem_cons_of_mem _ hy))
    rw [List.flatMap_cons, List.length_append, List.length_cons, Nat.mul_succ]
    omega
/-- how many bits are put at most -/
theorem putBits_len {A B : List Nat} (hA2 : A.length ≤ 286) (hB2 : B.length ≤ 30) (hA0 : 1 ≤ A.length) (hA : ∀ x ∈ A, x ≤ 15) (hB : ∀ x ∈ B, x ≤ 15) : (putBits A B).length ≤ 5000 := by
  have hL : ∀ x ∈ A ++ B, x ≤ 15 := fun x hx => by
    rcases List.mem_append.1 hx with h | h
    · exact hA x h
    · exact hB x h
  have hT0 : ∃ t ∈ items (A ++ B), t.s ≤ 18 := by
    cases hh : items (A ++ B) with
    | nil =>
      exfalso
      unfold items at hh
      obtain ⟨k, hk⟩ : ∃ k, (A ++ B).length = k + 1 := ⟨(A ++ B).length - 1, by rw [List.length_append]; omega⟩
      rw [hk, pressI, if_pos (by omega)] at hh
      cases hh
    | cons t T' => exact ⟨t, List.mem_cons_self .., (items_mem hL t (by rw [hh]; exact List.mem_cons_self ..)).1⟩
  have C := code8 _ hT0
  have hl := items_len (A ++ B)
  rw [List.length_append] at hl
  have hm := manyN_le (HuffM.lens 7 (weigh8 (items (A ++ B)) zeros19)) 15
  have hf := flat_len_le (itBits (HuffM.codesL (ints (HuffM.lens 7 (weigh8 (items (A ++ B)) zeros19)))) (HuffM.lens 7 (weigh8 (items (A ++ B)) zeros19))) 14 (items (A ++ B)) (fun t ht => itBits_len C ht (items_mem hL t ht).1 (items_mem hL t ht).2.1)
  show (low _ 5 ++ low _ 5 ++ low _ 4 ++ (ord.take (manyN (HuffM.lens 7 (weigh8 (items (A ++ B)) zeros19)) 15)).flatMap (fun o => low (HuffM.lens 7 (weigh8 (items (A ++ B)) zeros19))[o]! 3) ++ (items (A ++ B)).flatMap (itBits (HuffM.codesL (ints (HuffM.lens 7 (weigh8 (items (A ++ B)) zeros19)))) (HuffM.lens 7 (weigh8 (items (A ++ B)) zeros19)))).length ≤ 5000
  simp only [List.length_append, low_length, flat3_len, List.length_take]
  omega
theorem trim_len {L : List Nat} {m : Nat} (h : m ≤ L.length) : m ≤ (trimL L m).length ∧ (trimL L m).length ≤ L.length := by
  have h1 := trimN_le L m (L.length - m)
  unfold trimL
  rw [List.length_take]
  omega
theorem trim_mem {L : List Nat} {m : Nat} (hL : ∀ x ∈ L, x ≤ 15) : ∀ x ∈ trimL L m, x ≤ 15 := fun x hx => hL x (List.mem_of_mem_take hx)
theorem trim_getD (L : List Nat) (m : Nat) (h : m ≤ L.length) (i : Nat) : L.getD i 0 = (trimL L m).getD i 0 := by
  have h1 := trimN_le L m (L.length - m)
  unfold trimL
  rw [List.getD_eq_getElem?_getD, List.getD_eq_getElem?_getD, List.getElem?_take]
  by_cases hi : i < trimN L m (L.length - m)
  · rw [if_pos hi]
  · rw [if_neg hi]
    by_cases hl : i < L.length
    · have := trimN_zero L m (L.length - m) i (by omega) (by omega)
      rw [getElem!_pos L i hl] at this
      rw [List.getElem?_eq_getElem hl, this]
      rfl
    · rw [List.getElem?_eq_none (by omega)]
end Go.Proofs.YtjghcacepneipaaDoor
namespace Go.Proofs.YtjghcacepneipaaDoor
open Go.RowKit Mem Go.Lib

/-- what is cut out of a slice -/
def cutAt (A : Option Addr) (c f : Nat) : Option Addr := if c = f then A else A.map (·.add f)
theorem cutAt_zero (A : Option Addr) (c : Nat) : cutAt A c 0 = A := by
  unfold cutAt
  split
  · rfl
  · cases A with
    | none => rfl
    | some ad => obtain ⟨b, o, s⟩ := ad; cases s <;> simp [Addr.add]
theorem rd_cut {w : World} {A : Option Addr} {n c : Nat} {xs : List Value} (h : Rd w A n xs) {f y : Nat} (hf : f ≤ y) (hy : y ≤ n) (hn : n ≤ c) : Rd w (cutAt A c f) (y - f) ((xs.take y).drop f) := h.cut hf hy hn
theorem rd_to {w : World} {A : Option Addr} {n : Nat} {xs : List Value} (h : Rd w A n xs) {y : Nat} (hy : y ≤ n) : Rd w A y (xs.take y) := by
  have h2 := h.cut (k := 0) (m := y) (cap := n + 1) (by omega) hy (by omega)
  rw [show (if n + 1 = 0 then A else A.map (·.add 0)) = A from cutAt_zero A (n + 1)] at h2
  exact h2
theorem rd_from {w : World} {A : Option Addr} {n c : Nat} {xs : List Value} (h : Rd w A n xs) {f : Nat} (hf : f ≤ n) (hn : n ≤ c) : Rd w (cutAt A c f) (n - f) (xs.drop f) := by
  have h2 := rd_cut h hf (Nat.le_refl n) hn
  rwa [List.take_of_length_le (by rw [h.1]; exact Nat.le_refl _)] at h2
theorem cutAt_blk {A : Option Addr} {c f : Nat} {ad : Addr} (h : cutAt A c f = some ad) : ∃ a, A = some a ∧ a.block = ad.block := by
  unfold cutAt at h
  split at h
  · exact ⟨ad, h, rfl⟩
  · cases A with
    | none => cases h
    | some a =>
      injection h with h
      exact ⟨a, rfl, by rw [← h, add_block]⟩
theorem run_cutB (A : Option Addr) (n c f y : Nat) (hf : f ≤ y) (hy : y ≤ n) (hn : n ≤ c) (fi yi : Int) (ef : fi = (f : Int)) (ey : yi = (y : Int)) (w' : World) :
    (Instr.sliceAt 22 (.slice A n c) (some (.int .i64 fi)) (some (.int .i64 yi)) none).run Tryd.prog w' = .ok (.slice (cutAt A c f) (y - f) (c - f)) w' := by
  subst ef ey
  unfold cutAt
  cases A with
  | none =>
    go_simp
    intro h
    omega
  | some ad =>
    go_simp
    intro h
    omega
theorem run_toB (A : Option Addr) (n c y : Nat) (hy : y ≤ n) (hn : n ≤ c) (yi : Int) (ey : yi = (y : Int)) (w' : World) :
    (Instr.sliceAt 22 (.slice A n c) none (some (.int .i64 yi)) none).run Tryd.prog w' = .ok (.slice A y c) w' := by
  subst ey
  have h0 := cutAt_zero A c
  unfold cutAt at h0
  cases A with
  | none =>
    go_simp
    intro h
    omega
  | some ad =>
    simp only [Option.map_some] at h0
    go_simp
    try (rw [h0])
    try (intro h; omega)
    try (refine ⟨fun h => ?_, fun h => ?_⟩ <;> omega)
theorem run_fromB (A : Option Addr) (n c f : Nat) (hf : f ≤ n) (fi : Int) (ef : fi = (f : Int)) (w' : World) :
    (Instr.sliceAt 22 (.slice A n c) (some (.int .i64 fi)) none none).run Tryd.prog w' = .ok (.slice (cutAt A c f) (n - f) (c - f)) w' := by
  subst ef
  unfold cutAt
  cases A with
  | none =>
    go_simp
    try (intro h; omega)
  | some ad =>
    go_simp
    try (intro h; omega)
theorem run_cutI (A : Option Addr) (n c f y : Nat) (hf : f ≤ y) (hy : y ≤ n) (hn : n ≤ c) (fi yi : Int) (ef : fi = (f : Int)) (ey : yi = (y : Int)) (w' : World) :
    (Instr.sliceAt 26 (.slice A n c) (some (.int .i64 fi)) (some (.int .i64 yi)) none).run Tryd.prog w' = .ok (.slice (cutAt A c f) (y - f) (c - f)) w' := by
  subst ef ey
  unfold cutAt
  cases A with
  | none =>
    go_simp
    intro h
    omega
  | some ad =>
    go_simp
    intro h
    omega
theorem run_toI (A : Option Addr) (n c y : Nat) (hy : y ≤ n) (hn : n ≤ c) (yi : Int) (ey : yi = (y : Int)) (w' : World) :
    (Instr.sliceAt 26 (.slice A n c) none (some (.int .i64 yi)) none).run Tryd.prog w' = .ok (.slice A y c) w' := by
  subst ey
  have h0 := cutAt_zero A c
  unfold cutAt at h0
  cases A with
  | none =>
    go_simp
    intro h
    omega
  | some ad =>
    simp only [Option.map_some] at h0
    go_simp
    try (rw [h0])
    try (intro h; omega)
    try (refine ⟨fun h => ?_, fun h => ?_⟩ <;> omega)
theorem run_fromI (A : Option Addr) (n c f : Nat) (hf : f ≤ n) (fi : Int) (ef : fi = (f : Int)) (w' : World) :
    (Instr.sliceAt 26 (.slice A n c) (some (.int .i64 fi)) none none).run Tryd.prog w' = .ok (.slice (cutAt A c f) (n - f) (c - f)) w' := by
  subst ef
  unfold cutAt
  cases A with
  | none =>
    go_simp
    try (intro h; omega)
  | some ad =>
    go_simp
    try (intro h; omega)
end Go.Proofs.YtjghcacepneipaaDoor
