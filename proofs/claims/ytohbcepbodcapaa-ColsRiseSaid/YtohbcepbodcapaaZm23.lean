/-
  Layer 18: rows of texts in memory; Index, Same, alone, less (written by gen_a.py).
  Plain mathematics of layer 11: groups of like cells, a column's bytes, how it is read. Nothing of any program here but what leb's numbers are.
-/
import Derived.Test.YtohbcepbodcapaaZm05
import Derived.Test.YtohbcepbodcapaaZm19
import Derived.Test.YtohbcepbodcapaaZm22
import Derived.BigQuiet
import Derived.Test.YtohbcepbodcapaaZm03
namespace Go.Proofs.Ytohbcepbodcapaa
open Go.RowKit Mem Go.Lib LebM UtfM VaM OpM AcM
attribute [local go_sem ↓] Go.wp_at_zero Go.wp_at_succ
set_option linter.unusedVariables false

/-- a text as a cell -/
def tc (B : Tx) : Value := .string (txt B)
theorem tc_one (l : List Tx) : ∀ u ∈ l.map tc, u.oneCell' = true := by
  intro u hu
  obtain ⟨b, _, rfl⟩ := List.mem_map.1 hu
  rfl
theorem strT : ElemTy Try.prog 28 9 (.string ⟨#[]⟩) 16 := ⟨Try.underlying28, by kernel_rfl, rfl⟩
/-- a row of texts of one's own -/
def OwT (w : World) (base : Nat) (A : Option Addr) (c : Nat) (L : List Tx) : Prop := w.ownsRow base 9 1 (.slice A L.length c) L.length (L.map tc)
theorem OwT.nil (w : World) (base : Nat) : OwT w base none 0 [] := World.ownsRow_nil _ _ _ _
theorem OwT.fr {w w' : World} {base c : Nat} {A : Option Addr} {L : List Tx} (h : OwT w base A c L) (hf : Fr (fun _ => False) w w') : OwT w' base A c L := hf.own h (fun _ _ h => h)
theorem OwT.base {w : World} {b b' c : Nat} {A : Option Addr} {L : List Tx} (h : OwT w b A c L) (hb : b' ≤ b) : OwT w b' A c L := own_base h hb
theorem OwT.rd {w : World} {base c : Nat} {A : Option Addr} {L : List Tx} (h : OwT w base A c L) : Rd w A L.length (L.map tc) := Rd.of_own h
theorem OwT.cap {w : World} {base c : Nat} {A : Option Addr} {L : List Tx} (h : OwT w base A c L) : L.length ≤ c ∧ c ≤ maxLen := ⟨(own_cap h).2.1, (own_cap h).2.2⟩
theorem OwT.one (w : World) (a : Tx) : OwT (w.alloc (.cells #[.string (txt a)] 9)) w.heap.size (some ⟨w.heap.size, 0, none⟩) 1 [a] := World.ownsRow_lit (size := 1) w #[tc a] 1 (Nat.le_refl _) (by decide) rfl
/-- one more text -/
theorem OwT.snoc {w : World} {base c n : Nat} {A : Option Addr} {L : List Tx} {x : Tx} (hn : L.length = n) (h : w.ownsRow base 9 1 (.slice A (n + 1) c) (n + 1) (L.map tc ++ [.string (txt x)])) : OwT w base A c (L ++ [x]) := by
  subst hn
  unfold OwT
  rw [List.length_append, List.map_append, List.map_singleton]
  exact h
theorem rd_tx {w : World} {A : Option Addr} {n k : Nat} {L : List Tx} (h : Rd w A n (L.map tc)) (hk : k < n) : ∃ ad x, A = some ad ∧ L[k]? = some x ∧ w.cell? (ad.add k) = some (.string (txt x)) := by
  obtain ⟨ad, u, rfl, hu, hc⟩ := h.at_ hk
  have hl : L.length = n := by simpa using h.1
  obtain ⟨x, hx⟩ : ∃ x, L[k]? = some x := ⟨_, List.getElem?_eq_getElem (by omega)⟩
  rw [List.getElem?_map, hx] at hu
  injection hu with hu
  exact ⟨ad, x, rfl, hx, by rw [hc, ← hu]; rfl⟩
theorem mem_take {l : List Tx} {k : Nat} {a x : Tx} (h : a ∉ l.take k) (hx : l[k]? = some x) (hne : a ≠ x) : a ∉ l.take (k + 1) := by
  rw [List.take_add_one, hx]
  simp only [Option.toList_some, List.mem_append, List.mem_singleton]
  rintro (h2 | h2)
  · exact h h2
  · exact hne h2
theorem not_take {l : List Tx} {k : Nat} {a : Tx} (h : a ∉ l.take k) : ∀ j, j < k → l[j]? ≠ some a := by
  intro j hj e
  refine h (List.mem_of_getElem? (i := j) ?_)
  rw [List.getElem?_take, if_pos hj, e]
theorem less_tx (x y : Tx) : lessN ⟨1, x⟩ ⟨1, y⟩ = Op.bytesLess x y := by
  unfold lessN
  simp
set_option maxRecDepth 100000 in
set_option maxHeartbeats 800000 in
/-- the reference's less -/
theorem racLess_any (x y : Tx) (w : World) (hx : x.length ≤ 1000000000) (hy : y.length ≤ 1000000000) :
    Calls Try.prog 14 #[.string (txt x), .string (txt y)] w fun e w' => e = .returned (.bool (Op.bytesLess x y)) ∧ Fr (fun _ => False) w w' := by
  have h := rless_any ⟨1, x⟩ ⟨1, y⟩ w hx hy
  rw [less_tx] at h
  unfold nmc at h
  obtain ⟨r, hr⟩ : ∃ r, Op.bytesLess x y = r := ⟨_, rfl⟩
  rw [hr] at h ⊢
  have H := Lib.hid h
  clear h hr
  go_enter Try.func14, Try.ntmps14
  go_wp2_with fail
  refine H.out.mono ?_
  rintro e w' ⟨rfl, hf⟩
  have HF := Lib.hid hf
  clear hf
  go_wp2_with fail
  go_ret
  exact ⟨rfl, HF.out⟩
end Go.Proofs.Ytohbcepbodcapaa
namespace Go.Proofs.Ytohbcepbodcapaa.RleM
open LebM

/-- how a kind's cells are told: what is nothing; a cell's bytes; the cell that bytes begin with, how many they are, the error's number -/
structure Kd (κ : Type) where
  zero : κ
  put : κ → List UInt8
  get : List UInt8 → κ × Nat × Nat
structure Rs (κ : Type) where
  left : List UInt8
  gs : List (κ × Nat)
  count : Nat

section
variable {κ : Type}
def spreadG : List (κ × Nat) → List κ
  | [] => []
  | (c, n) :: l => List.replicate n c ++ spreadG l
def total : List (κ × Nat) → Nat
  | [] => 0
  | (_, n) :: l => n + total l
def puts (K : Kd κ) (l : List (κ × Nat)) : List UInt8 := l.flatMap (fun g => K.put g.1)
/-- no group is empty, neighbours differ -/
def WF : List (κ × Nat) → Prop
  | [] => True
  | (c, n) :: l => 0 < n ∧ (∀ d ∈ l.head?, d.1 ≠ c) ∧ WF l
/-- how long -/
def wt (K : Kd κ) : List (κ × Nat) → Nat
  | [] => 0
  | (c, _) :: l => (K.put c).length + wt K l
theorem snoc_ind {α : Type} {p : List α → Prop} (h0 : p []) (h1 : ∀ l x, p l → p (l ++ [x])) (l : List α) : p l := by
  have h : ∀ m : List α, p m.reverse := by
    intro m
    induction m with
    | nil => exact h0
    | cons x m ih => rw [List.reverse_cons]; exact h1 _ x ih
  have := h l.reverse
  rwa [List.reverse_reverse] at this
theorem snoc_cases (l : List (κ × Nat)) : l = [] ∨ ∃ l' d m, l = l' ++ [(d, m)] := by
  rcases List.eq_nil_or_concat l with h | ⟨l', ⟨d, m⟩, h⟩
  · exact .inl h
  · exact .inr ⟨l', d, m, by rw [h, List.concat_eq_append]⟩
theorem total_app (l k : List (κ × Nat)) : total (l ++ k) = total l + total k := by
  induction l with
  | nil => simp [total]
  | cons g l ih => obtain ⟨c, n⟩ := g; simp only [List.cons_append, total, ih]; omega
theorem spread_app (l k : List (κ × Nat)) : spreadG (l ++ k) = spreadG l ++ spreadG k := by
  induction l with
  | nil => simp [spreadG]
  | cons g l ih => obtain ⟨c, n⟩ := g; simp only [List.cons_append, spreadG, ih, List.append_assoc]
theorem spread_len (l : List (κ × Nat)) : (spreadG l).length = total l := by
  induction l with
  | nil => rfl
  | cons g l ih => obtain ⟨c, n⟩ := g; simp only [spreadG, List.length_append, List.length_replicate, ih, total]
theorem wf_snoc : ∀ (l : List (κ × Nat)) (d : κ) (m : Nat), WF (l ++ [(d, m)]) ↔ WF l ∧ 0 < m ∧ ∀ g ∈ l.getLast?, g.1 ≠ d
  | [], d, m => by simp [WF]
  | [(c, n)], d, m => by
    simp only [List.cons_append, List.nil_append, WF, List.head?_cons, List.head?_nil, List.getLast?_singleton, Option.mem_def]
    constructor
    · rintro ⟨h1, h2, h3, -, -⟩; exact ⟨⟨h1, by simp, trivial⟩, h3, fun g hg => by cases hg; exact fun e => h2 _ rfl e.symm⟩
    · rintro ⟨⟨h1, -, -⟩, h3, h4⟩; exact ⟨h1, fun g hg => by cases hg; exact fun e => h4 _ rfl e.symm, h3, by simp, trivial⟩
  | (c, n) :: (c', n') :: l, d, m => by
    have ih := wf_snoc ((c', n') :: l) d m
    rw [List.cons_append, WF, ih, WF, List.getLast?_cons_cons]
    simp only [List.cons_append, List.head?_cons]
    constructor
    · rintro ⟨h1, h2, h3, h4, h5⟩; exact ⟨⟨h1, h2, h3⟩, h4, h5⟩
    · rintro ⟨⟨h1, h2, h3⟩, h4, h5⟩; exact ⟨h1, h2, h3, h4, h5⟩
theorem wf_len : ∀ {l : List (κ × Nat)}, WF l → l.length ≤ total l
  | [], _ => Nat.le_refl _
  | (c, n) :: l, h => by have := wf_len h.2.2; have := h.1; rw [List.length_cons, total]; omega
theorem mem_total : ∀ {l : List (κ × Nat)} {g : κ × Nat}, g ∈ l → g.2 ≤ total l
  | (c, n) :: l, g, h => by
    rw [total]
    rcases List.mem_cons.1 h with rfl | h
    · show n ≤ _; omega
    · have := mem_total h; omega
theorem wt_app {K : Kd κ} (l k : List (κ × Nat)) : wt K (l ++ k) = wt K l + wt K k := by
  induction l with
  | nil => simp [wt]
  | cons g l ih => obtain ⟨c, n⟩ := g; simp only [List.cons_append, wt, ih]; omega
theorem puts_len {K : Kd κ} (l : List (κ × Nat)) : (puts K l).length = wt K l := by
  induction l with
  | nil => rfl
  | cons g l ih => obtain ⟨c, n⟩ := g; unfold puts at ih ⊢; rw [List.flatMap_cons, List.length_append, ih, wt]
end
section
variable {κ : Type} [DecidableEq κ]
def addG (l : List (κ × Nat)) (c : κ) (n : Nat) : List (κ × Nat) :=
  if n = 0 then l else
  match l.getLast? with
  | some (d, m) => if d = c then l.dropLast ++ [(d, m + n)] else l ++ [(c, n)]
  | none => l ++ [(c, n)]
def gatherG (l : List κ) : List (κ × Nat) := l.foldl (fun g c => addG g c 1) []
def othersG (z : κ) : List (κ × Nat) → Nat
  | [] => 0
  | (c, n) :: l => if c = z ∨ 1 < n then 0 else othersG z l + 1
def tellF (K : Kd κ) : Nat → List (κ × Nat) → List UInt8
  | 0, _ => []
  | _ + 1, [] => []
  | f + 1, (c, n) :: l =>
    if c = K.zero then s 0 ++ (u n ++ tellF K f l)
    else if 1 < n then s (n : Int) ++ (K.put c ++ tellF K f l)
    else s (-((othersG K.zero l + 1 : Nat) : Int)) ++ (K.put c ++ (puts K (l.take (othersG K.zero l)) ++ tellF K f (l.drop (othersG K.zero l))))
def tellG (K : Kd κ) (l : List (κ × Nat)) : List UInt8 := tellF K l.length l
def tellW (K : Kd κ) : List (κ × Nat) → List UInt8
  | [(c, n)] => if c = K.zero then [] else tellG K [(c, n)]
  | l => tellG K l
def manyG (K : Kd κ) : Nat → Rs κ → Except Nat (Rs κ)
  | 0, r => .ok r
  | n + 1, r =>
    if (K.get r.left).2.2 ≠ 0 then .error (K.get r.left).2.2 else
    manyG K n ⟨r.left.drop (K.get r.left).2.1, addG r.gs (K.get r.left).1 1, r.count + 1⟩
def noneG (z : κ) (most : Int) (r : Rs κ) : Except Nat (Rs κ) :=
  if (gu r.left).2.2 ≠ 0 then .error (gu r.left).2.2 else
  if (r.count : Int) + (gu r.left).1 ≤ most then .ok ⟨r.left.drop (gu r.left).2.1, addG r.gs z (gu r.left).1, r.count + (gu r.left).1⟩ else .error 4
def sameG (K : Kd κ) (most : Int) (n : Nat) (r : Rs κ) : Except Nat (Rs κ) :=
  if (r.count : Int) + n ≤ most then
    if (K.get r.left).2.2 ≠ 0 then .error (K.get r.left).2.2 else .ok ⟨r.left.drop (K.get r.left).2.1, addG r.gs (K.get r.left).1 n, r.count + n⟩
  else .error 4
def unlikeG (K : Kd κ) (most : Int) (n : Nat) (r : Rs κ) : Except Nat (Rs κ) :=
  if (r.count : Int) + n ≤ most then manyG K n r else .error 4
def runG (K : Kd κ) (most : Int) (r : Rs κ) : Except Nat (Rs κ) :=
  if (Go.Proofs.Ytohbcepbodcapaa.gs r.left).2.2 ≠ 0 then .error (Go.Proofs.Ytohbcepbodcapaa.gs r.left).2.2 else
  if (Go.Proofs.Ytohbcepbodcapaa.gs r.left).1 = 0 then noneG K.zero most ⟨r.left.drop (Go.Proofs.Ytohbcepbodcapaa.gs r.left).2.1, r.gs, r.count⟩
  else if 0 < (Go.Proofs.Ytohbcepbodcapaa.gs r.left).1 then sameG K most (Go.Proofs.Ytohbcepbodcapaa.gs r.left).1.toNat ⟨r.left.drop (Go.Proofs.Ytohbcepbodcapaa.gs r.left).2.1, r.gs, r.count⟩
  else unlikeG K most (-(Go.Proofs.Ytohbcepbodcapaa.gs r.left).1).toNat ⟨r.left.drop (Go.Proofs.Ytohbcepbodcapaa.gs r.left).2.1, r.gs, r.count⟩
def loopG (K : Kd κ) (most : Int) : Nat → Rs κ → Except Nat (Rs κ)
  | 0, r => .ok r
  | f + 1, r => if r.left = [] then .ok r else
    match runG K most r with
    | .error e => .error e
    | .ok r' => loopG K most f r'
def readG (K : Kd κ) (most : Int) (B : List UInt8) : Except Nat (List (κ × Nat)) :=
  match loopG K most B.length ⟨B, [], 0⟩ with
  | .error e => .error e
  | .ok r => if most < 0 then .error 3 else if tellW K r.gs ≠ B then .error 3 else .ok r.gs
section
variable {l : List (κ × Nat)} {c : κ} {n : Nat}
theorem addG_zero (l : List (κ × Nat)) (c : κ) : addG l c 0 = l := by rw [addG, if_pos rfl]
theorem addG_nil (c : κ) (h : n ≠ 0) : addG [] c n = [(c, n)] := by rw [addG, if_neg h]; rfl
theorem addG_snoc (l : List (κ × Nat)) (d c : κ) (m : Nat) (h : n ≠ 0) : addG (l ++ [(d, m)]) c n = if d = c then l ++ [(d, m + n)] else l ++ [(d, m)] ++ [(c, n)] := by
  rw [addG, if_neg h, List.getLast?_concat]
  simp only [List.dropLast_concat]
theorem total_add (l : List (κ × Nat)) (c : κ) (n : Nat) : total (addG l c n) = total l + n := by
  by_cases h : n = 0
  · subst h; rw [addG_zero]; rfl
  · rcases snoc_cases l with rfl | ⟨l', d, m, rfl⟩
    · rw [addG_nil c h]; simp [total]
    · rw [addG_snoc _ _ _ _ h]
      split <;> simp [total_app, total] <;> omega
theorem spread_add (l : List (κ × Nat)) (c : κ) (n : Nat) : spreadG (addG l c n) = spreadG l ++ List.replicate n c := by
  by_cases h : n = 0
  · subst h; rw [addG_zero]; simp
  · rcases snoc_cases l with rfl | ⟨l', d, m, rfl⟩
    · rw [addG_nil c h]; simp [spreadG]
    · rw [addG_snoc _ _ _ _ h]
      split
      · next e => subst e; simp [spread_app, spreadG, List.append_assoc, List.replicate_append_replicate]
      · simp [spread_app, spreadG]
theorem gather_snoc (l : List κ) (c : κ) : gatherG (l ++ [c]) = addG (gatherG l) c 1 := by unfold gatherG; rw [List.foldl_append]; rfl
theorem spread_gather (l : List κ) : spreadG (gatherG l) = l := by
  refine snoc_ind (p := fun l => spreadG (gatherG l) = l) ?_ (fun l c ih => ?_) l
  · rfl
  · rw [gather_snoc, spread_add, ih]; rfl
theorem wf_add (h : WF l) (c : κ) (n : Nat) : WF (addG l c n) := by
  by_cases h0 : n = 0
  · subst h0; rw [addG_zero]; exact h
  · rcases snoc_cases l with rfl | ⟨l', d, m, rfl⟩
    · rw [addG_nil c h0]; exact ⟨by omega, by simp, trivial⟩
    · rw [addG_snoc _ _ _ _ h0]
      obtain ⟨h1, h2, h3⟩ := (wf_snoc _ _ _).1 h
      split
      · exact (wf_snoc _ _ _).2 ⟨h1, by omega, h3⟩
      · next e => exact (wf_snoc _ _ _).2 ⟨h, by omega, by rw [List.getLast?_concat]; rintro g hg; cases hg; exact e⟩
theorem wf_gather (l : List κ) : WF (gatherG l) := by
  refine snoc_ind (p := fun l => WF (gatherG l)) ?_ (fun l c ih => ?_) l
  · trivial
  · rw [gather_snoc]; exact wf_add ih c 1
theorem foldl_replicate (g : List (κ × Nat)) (c : κ) : ∀ n, 0 < n → (List.replicate n c).foldl (fun g c => addG g c 1) g = addG g c n := by
  intro n
  induction n with
  | zero => intro h; omega
  | succ n ih =>
    intro _
    rcases Nat.eq_zero_or_pos n with rfl | hn
    · rfl
    · rw [List.replicate_succ', List.foldl_append, ih hn]
      show addG (addG g c n) c 1 = addG g c (n + 1)
      rcases snoc_cases g with rfl | ⟨l', d, m, rfl⟩
      · rw [addG_nil c (by omega), addG_nil c (by omega)]
        have := addG_snoc ([] : List (κ × Nat)) c c n (n := 1) (by omega)
        rw [List.nil_append, if_pos rfl] at this
        exact this
      · rw [addG_snoc _ _ _ _ (by omega), addG_snoc _ _ _ _ (by omega)]
        split
        · next e => subst e; rw [addG_snoc _ _ _ _ (by omega), if_pos rfl, Nat.add_assoc]
        · rw [addG_snoc _ _ _ _ (by omega), if_pos rfl]
theorem add_new {g : List (κ × Nat)} (h0 : 0 < n) (h : ∀ d ∈ g.getLast?, d.1 ≠ c) : addG g c n = g ++ [(c, n)] := by
  rcases snoc_cases g with rfl | ⟨l', d, m, rfl⟩
  · rw [addG_nil c (by omega)]; rfl
  · rw [addG_snoc _ _ _ _ (by omega), if_neg (h (d, m) (by rw [List.getLast?_concat]; rfl))]
theorem foldl_spread : ∀ (l g : List (κ × Nat)), WF (g ++ l) → (spreadG l).foldl (fun g c => addG g c 1) g = g ++ l
  | [], g, _ => by simp [spreadG]
  | (c, n) :: l, g, h => by
    have h2 : WF (g ++ [(c, n)] ++ l) := by rw [List.append_assoc]; exact h
    have hp : WF (g ++ [(c, n)]) := by
      clear foldl_spread h
      revert h2
      refine snoc_ind (p := fun l => WF (g ++ [(c, n)] ++ l) → WF (g ++ [(c, n)])) (fun h2 => by simpa using h2) (fun l x ih h2 => ?_) l
      rw [← List.append_assoc] at h2
      exact ih ((wf_snoc _ x.1 x.2).1 h2).1
    obtain ⟨h3, h4, h5⟩ := (wf_snoc _ _ _).1 hp
    rw [spreadG, List.foldl_append, foldl_replicate _ _ _ h4, add_new h4 h5, foldl_spread l _ h2, List.append_assoc]
    rfl
theorem total_gather (l : List κ) : total (gatherG l) = l.length := by rw [← spread_len, spread_gather]
theorem gather_len (l : List κ) : (gatherG l).length ≤ l.length := by have := wf_len (wf_gather l); rwa [total_gather] at this
theorem gather_mem {l : List κ} {g : κ × Nat} (h : g ∈ gatherG l) : g.2 ≤ l.length := by have := mem_total h; rwa [total_gather] at this
theorem gather_spread (h : WF l) : gatherG (spreadG l) = l := by
  have := foldl_spread l [] h
  rwa [List.nil_append] at this
end

section
variable {K : Kd κ}
theorem others_le (z : κ) : ∀ l : List (κ × Nat), othersG z l ≤ l.length
  | [] => Nat.le_refl _
  | (c, n) :: l => by have := others_le z l; rw [othersG, List.length_cons]; split <;> omega
theorem tellF_fuel : ∀ (f g : Nat) (l : List (κ × Nat)), l.length ≤ f → l.length ≤ g → tellF K f l = tellF K g l
  | 0, 0, _, _, _ => rfl
  | 0, g + 1, l, h, _ => by obtain rfl : l = [] := List.eq_nil_of_length_eq_zero (by omega); rfl
  | f + 1, 0, l, _, h => by obtain rfl : l = [] := List.eq_nil_of_length_eq_zero (by omega); rfl
  | f + 1, g + 1, [], _, _ => rfl
  | f + 1, g + 1, (c, n) :: l, h1, h2 => by
    rw [List.length_cons] at h1 h2
    rw [tellF, tellF, tellF_fuel f g l (by omega) (by omega), tellF_fuel f g (l.drop (othersG K.zero l)) (by rw [List.length_drop]; omega) (by rw [List.length_drop]; omega)]
theorem tell_nil : tellG K ([] : List (κ × Nat)) = [] := rfl
theorem tell_none (n : Nat) (l : List (κ × Nat)) : tellG K ((K.zero, n) :: l) = s 0 ++ (u n ++ tellG K l) := by
  unfold tellG
  rw [List.length_cons, tellF, if_pos rfl]
theorem tell_same {c : κ} {n : Nat} (hc : c ≠ K.zero) (hn : 1 < n) (l : List (κ × Nat)) : tellG K ((c, n) :: l) = s (n : Int) ++ (K.put c ++ tellG K l) := by
  unfold tellG
  rw [List.length_cons, tellF, if_neg hc, if_pos hn]
theorem tell_other {c : κ} {n : Nat} (hc : c ≠ K.zero) (hn : ¬ 1 < n) (l : List (κ × Nat)) :
    tellG K ((c, n) :: l) = s (-((othersG K.zero ((c, n) :: l) : Nat) : Int)) ++ (puts K (((c, n) :: l).take (othersG K.zero ((c, n) :: l))) ++ tellG K (((c, n) :: l).drop (othersG K.zero ((c, n) :: l)))) := by
  have ho : othersG K.zero ((c, n) :: l) = othersG K.zero l + 1 := by rw [othersG, if_neg (by rintro (h | h); exact hc h; exact hn h)]
  unfold tellG
  rw [ho, List.length_cons, tellF, if_neg hc, if_neg hn, List.take_succ_cons, List.drop_succ_cons, tellF_fuel l.length (l.drop (othersG K.zero l)).length _ (by rw [List.length_drop]; omega) (Nat.le_refl _)]
  unfold puts
  rw [List.flatMap_cons, List.append_assoc]
theorem others_pos {z c : κ} {n : Nat} (hc : c ≠ z) (hn : ¬ 1 < n) (l : List (κ × Nat)) : 0 < othersG z ((c, n) :: l) := by
  rw [othersG, if_neg (by rintro (h | h); exact hc h; exact hn h)]; omega
theorem others_zero {z c : κ} {n : Nat} (l : List (κ × Nat)) (h : c = z ∨ 1 < n) : othersG z ((c, n) :: l) = 0 := by rw [othersG, if_pos h]
/-- the ones ahead of 'others' come once, and aren't nothing; the one behind isn't so -/
theorem others_mem (z : κ) : ∀ (l : List (κ × Nat)) (k : Nat) (g : κ × Nat), k < othersG z l → l[k]? = some g → g.1 ≠ z ∧ ¬ 1 < g.2
  | [], k, g, h, _ => by simp [othersG] at h
  | (c, n) :: l, k, g, h, hk => by
    rw [othersG] at h
    split at h
    · omega
    · next hq =>
      match k, hk with
      | 0, hk => simp at hk; subst hk; exact ⟨fun e => hq (.inl e), fun e => hq (.inr e)⟩
      | k + 1, hk => exact others_mem z l k g (by omega) (by simpa using hk)
theorem others_stop (z : κ) : ∀ (l : List (κ × Nat)) (g : κ × Nat), l[othersG z l]? = some g → g.1 = z ∨ 1 < g.2
  | [], g, h => by simp at h
  | (c, n) :: l, g, h => by
    rw [othersG] at h
    split at h
    · next hq => simp at h; subst h; exact hq
    · exact others_stop z l g (by simpa using h)
theorem tell_len : ∀ (f : Nat) (l : List (κ × Nat)), (∀ g ∈ l, g.2 < 9223372036854775808) → l.length < 1000000000 → (tellF K f l).length ≤ 20 * l.length + wt K l
  | 0, _, _, _ => by simp [tellF]
  | f + 1, [], _, _ => by simp [tellF]
  | f + 1, (c, n) :: l, h, hl => by
    have hn : n < 9223372036854775808 := h (c, n) (List.mem_cons_self ..)
    rw [List.length_cons] at hl
    have i1 := tell_len f l (fun g hg => h g (List.mem_cons_of_mem _ hg)) (by omega)
    have i2 := tell_len f (l.drop (othersG K.zero l)) (fun g hg => h g (List.mem_cons_of_mem _ (List.mem_of_mem_drop hg))) (by rw [List.length_drop]; omega)
    have hu := u_len10 (n := n) (by omega)
    have hs := s_len10 (n := (n : Int)) (by omega) (by omega)
    have ho := others_le K.zero l
    have hs2 := s_len10 (n := -((othersG K.zero l + 1 : Nat) : Int)) (by omega) (by omega)
    have hs0 := s_len10 (n := 0) (by omega) (by omega)
    have hw : wt K l = wt K (l.take (othersG K.zero l)) + wt K (l.drop (othersG K.zero l)) := by rw [← wt_app, List.take_append_drop]
    rw [List.length_drop] at i2
    have hp := puts_len (K := K) (l.take (othersG K.zero l))
    rw [tellF, wt, List.length_cons]
    split
    · simp only [List.length_append]; omega
    · split
      · simp only [List.length_append]; omega
      · simp only [List.length_append]; omega
end
end
end Go.Proofs.Ytohbcepbodcapaa.RleM
