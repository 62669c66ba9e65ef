/-
  Layer 18: rows of texts in memory; Index, Same, alone, less (written by gen_a.py).
  Plain mathematics of layer 11: groups of like cells, a column's bytes, how it is read. Nothing of any program here but what leb's numbers are.
  Layer 11: the three kinds of columns, plain.
  Plain mathematics of layer 11: what is told is read as it was; what is read is told so.
  Plain: what the reference makes of cells; its cells as a kind.
  Plain: where groups lie in their cells.
  Plain: how long columns are.
  Plain mathematics of layer 12: a column's differences, their sums, how long a row's bytes are. No program named.
  Layer 13, plain: columns of truths by how many are alike; what their numbers tell; the bytes. No program is named.
-/
import Derived.Test.YtedmnkcoflbciaaGreatZm03
import Derived.Test.YtedmnkcoflbciaaGreatZm13
import Derived.Test.YtedmnkcoflbciaaGreatOpZ
import Derived.BigQuiet
namespace Go.Proofs.YtedmnkcoflbciaaGreat
open Go.RowKit Mem Go.Lib LebM UtfM VaM OpM AcM
attribute [local go_sem ↓] Go.wp_at_zero Go.wp_at_succ
set_option linter.unusedVariables false

/-- a text as a cell -/
def tc (B : Tx) : Value := .string (txt B)
theorem tc_one (l : List Tx) : ∀ u ∈ l.map tc, u.oneCell' = true := by
  intro u hu
  obtain ⟨b, _, rfl⟩ := List.mem_map.1 hu
  rfl
theorem strT : ElemTy Tryz.prog 26 9 (.string ⟨#[]⟩) 16 := ⟨Tryz.underlying26, by kernel_rfl, rfl⟩
/-- a row of texts of one's own -/
def OwT (w : World) (base : Nat) (A : Option Addr) (c : Nat) (L : List Tx) : Prop := w.ownsRow base 9 1 (.slice A L.length c) L.length (L.map tc)
theorem OwT.nil (w : World) (base : Nat) : OwT w base none 0 [] := World.ownsRow_nil _ _ _ _
theorem OwT.fr {w w' : World} {base c : Nat} {A : Option Addr} {L : List Tx} (h : OwT w base A c L) (hf : Fr (fun _ => False) w w') : OwT w' base A c L := hf.own h (fun _ _ h => h)
theorem OwT.base {w : World} {b b' c : Nat} {A : Option Addr} {L : List Tx} (h : OwT w b A c L) (hb : b' ≤ b) : OwT w b' A c L := own_base h hb
theorem OwT.rd {w : World} {base c : Nat} {A : Option Addr} {L : List Tx} (h : OwT w base A c L) : Rd w A L.length (L.map tc) := Rd.of_own h
theorem OwT.cap {w : World} {base c : Nat} {A : Option Addr} {L : List Tx} (h : OwT w base A c L) : L.length ≤ c ∧ c ≤ maxLen := ⟨(own_cap h).2.1, (own_cap h).2.2⟩
theorem OwT.one (w : World) (a : Tx) : OwT (w.alloc (.cells #[.string (txt a)] 9)) w.heap.size (some ⟨w.heap.size, 0, none⟩) 1 [a] := World.ownsRow_lit (size := 1) w #[tc a] 1 (Nat.le_refl _) (by decide) rfl
/-- one more text -/
theorem OwT.snoc {w : World} {base c n : Nat} {A : Option Addr} {L : List Tx} {x : Tx} (hn : L.length = n) (h : w.ownsRow base 9 1 (.slice A (n + 1) c) (n + 1) (L.map tc ++ [.string (txt x)])) : OwT w base A c (L ++ [x]) := by
  subst hn
  unfold OwT
  rw [List.length_append, List.map_append, List.map_singleton]
  exact h
theorem rd_tx {w : World} {A : Option Addr} {n k : Nat} {L : List Tx} (h : Rd w A n (L.map tc)) (hk : k < n) : ∃ ad x, A = some ad ∧ L[k]? = some x ∧ w.cell? (ad.add k) = some (.string (txt x)) := by
  obtain ⟨ad, u, rfl, hu, hc⟩ := h.at_ hk
  have hl : L.length = n := by simpa using h.1
  obtain ⟨x, hx⟩ : ∃ x, L[k]? = some x := ⟨_, List.getElem?_eq_getElem (by omega)⟩
  rw [List.getElem?_map, hx] at hu
  injection hu with hu
  exact ⟨ad, x, rfl, hx, by rw [hc, ← hu]; rfl⟩
theorem mem_take {l : List Tx} {k : Nat} {a x : Tx} (h : a ∉ l.take k) (hx : l[k]? = some x) (hne : a ≠ x) : a ∉ l.take (k + 1) := by
  rw [List.take_add_one, hx]
  simp only [Option.toList_some, List.mem_append, List.mem_singleton]
  rintro (h2 | h2)
  · exact h h2
  · exact hne h2
theorem not_take {l : List Tx} {k : Nat} {a : Tx} (h : a ∉ l.take k) : ∀ j, j < k → l[j]? ≠ some a := by
  intro j hj e
  refine h (List.mem_of_getElem? (i := j) ?_)
  rw [List.getElem?_take, if_pos hj, e]
set_option maxRecDepth 100000 in
set_option maxHeartbeats 1600000 in
/-- the reference's Index -/
theorem racIndex_any (A : Option Addr) (n c : Nat) (L : List Tx) (a : Tx) (w : World) (hL : Rd w A n (L.map tc)) (hn : n ≤ 1000000000) :
    Calls Tryz.prog 13 #[.slice A n c, .string (txt a)] w fun e w' => e = .returned (.int .i64 (idxA a L)) ∧ w = w' := by
  have hln : L.length = n := by simpa using hL.1
  obtain ⟨r, hr⟩ : ∃ r, idxA a L = r := ⟨_, rfl⟩
  rw [hr]
  have HR := Lib.hid hr
  have HL := Lib.hid hL
  have HLN := Lib.hid hln
  clear hL hln hr
  go_enter Tryz.func13, Tryz.ntmps13
  go_wp2_with fail
  go_loopw [5] (fun v wr => ∃ k : Nat, k ≤ n ∧ v = .int .i64 (k : Int) ∧ Hid (a ∉ L.take k) ∧ w = wr) (fun v _ => n - (intOf v).toNat)
  case atStart => exact ⟨0, Nat.zero_le _, rfl, Lib.hid (by simp), rfl⟩
  case round =>
    obtain ⟨k, hk, rfl, HE, rfl⟩ := hrel
    by_cases hlt : k < n
    · obtain ⟨ad, x, rfl, hx, hcell⟩ := rd_tx HL.out hlt
      have t0 := beq_txt x a
      by_cases e : a = x
      · rw [decide_eq_true (by rw [e])] at t0
        have HX : Hid (r = (k : Int)) := Lib.hid (by rw [← HR.out]; exact idx_yes (e ▸ hx) (not_take HE.out))
        clear hx e
        go_wp2_with fail
        go_ret
        rw [HX.out]
        exact ⟨rfl, rfl⟩
      · rw [decide_eq_false (by exact fun h => e h.symm)] at t0
        have HN2 : Hid (a ∉ L.take (k + 1)) := Lib.hid (mem_take HE.out hx e)
        clear hx e
        go_wp2_with fail
        go_roundw
        case rel => exact ⟨k + 1, by omega, by go_num, HN2, trivial⟩
        case measure => simp [intOf] <;> omega
    · obtain rfl : k = n := by omega
      have HX : Hid (r = -1) := Lib.hid (by
        rw [← HR.out]
        have h := HE.out
        rw [List.take_of_length_le (by have := HLN.out; omega)] at h
        exact idx_no h)
      go_wp2_with fail
      go_ret
      rw [HX.out]
      exact ⟨rfl, rfl⟩
theorem less_tx (x y : Tx) : lessN ⟨1, x⟩ ⟨1, y⟩ = Op.bytesLess x y := by
  unfold lessN
  simp
set_option maxRecDepth 100000 in
set_option maxHeartbeats 800000 in
/-- the reference's less -/
theorem racLess_any (x y : Tx) (w : World) (hx : x.length ≤ 1000000000) (hy : y.length ≤ 1000000000) :
    Calls Tryz.prog 19 #[.string (txt x), .string (txt y)] w fun e w' => e = .returned (.bool (Op.bytesLess x y)) ∧ Fr (fun _ => False) w w' := by
  have h := rless_any ⟨1, x⟩ ⟨1, y⟩ w hx hy
  rw [less_tx] at h
  unfold nmc at h
  obtain ⟨r, hr⟩ : ∃ r, Op.bytesLess x y = r := ⟨_, rfl⟩
  rw [hr] at h ⊢
  have H := Lib.hid h
  clear h hr
  go_enter Tryz.func19, Tryz.ntmps19
  go_wp2_with fail
  refine H.out.mono ?_
  rintro e w' ⟨rfl, hf⟩
  have HF := Lib.hid hf
  clear hf
  go_wp2_with fail
  go_ret
  exact ⟨rfl, HF.out⟩
end Go.Proofs.YtedmnkcoflbciaaGreat
namespace Go.Proofs.YtedmnkcoflbciaaGreat.RleM
open LebM

/-- how a kind's cells are told: what is nothing; a cell's bytes; the cell that bytes begin with, how many they are, the error's number -/
structure Kd (κ : Type) where
  zero : κ
  put : κ → List UInt8
  get : List UInt8 → κ × Nat × Nat
structure Rs (κ : Type) where
  left : List UInt8
  gs : List (κ × Nat)
  count : Nat

section
variable {κ : Type}
def spreadG : List (κ × Nat) → List κ
  | [] => []
  | (c, n) :: l => List.replicate n c ++ spreadG l
def total : List (κ × Nat) → Nat
  | [] => 0
  | (_, n) :: l => n + total l
def puts (K : Kd κ) (l : List (κ × Nat)) : List UInt8 := l.flatMap (fun g => K.put g.1)
/-- no group is empty, neighbours differ -/
def WF : List (κ × Nat) → Prop
  | [] => True
  | (c, n) :: l => 0 < n ∧ (∀ d ∈ l.head?, d.1 ≠ c) ∧ WF l
/-- how long -/
def wt (K : Kd κ) : List (κ × Nat) → Nat
  | [] => 0
  | (c, _) :: l => (K.put c).length + wt K l
theorem snoc_ind {α : Type} {p : List α → Prop} (h0 : p []) (h1 : ∀ l x, p l → p (l ++ [x])) (l : List α) : p l := by
  have h : ∀ m : List α, p m.reverse := by
    intro m
    induction m with
    | nil => exact h0
    | cons x m ih => rw [List.reverse_cons]; exact h1 _ x ih
  have := h l.reverse
  rwa [List.reverse_reverse] at this
theorem snoc_cases (l : List (κ × Nat)) : l = [] ∨ ∃ l' d m, l = l' ++ [(d, m)] := by
  rcases List.eq_nil_or_concat l with h | ⟨l', ⟨d, m⟩, h⟩
  · exact .inl h
  · exact .inr ⟨l', d, m, by rw [h, List.concat_eq_append]⟩
theorem total_app (l k : List (κ × Nat)) : total (l ++ k) = total l + total k := by
  induction l with
  | nil => simp [total]
  | cons g l ih => obtain ⟨c, n⟩ := g; simp only [List.cons_append, total, ih]; omega
theorem spread_app (l k : List (κ × Nat)) : spreadG (l ++ k) = spreadG l ++ spreadG k := by
  induction l with
  | nil => simp [spreadG]
  | cons g l ih => obtain ⟨c, n⟩ := g; simp only [List.cons_append, spreadG, ih, List.append_assoc]
theorem spread_len (l : List (κ × Nat)) : (spreadG l).length = total l := by
  induction l with
  | nil => rfl
  | cons g l ih => obtain ⟨c, n⟩ := g; simp only [spreadG, List.length_append, List.length_replicate, ih, total]
theorem wf_snoc : ∀ (l : List (κ × Nat)) (d : κ) (m : Nat), WF (l ++ [(d, m)]) ↔ WF l ∧ 0 < m ∧ ∀ g ∈ l.getLast?, g.1 ≠ d
  | [], d, m => by simp [WF]
  | [(c, n)], d, m => by
    simp only [List.cons_append, List.nil_append, WF, List.head?_cons, List.head?_nil, List.getLast?_singleton, Option.mem_def]
    constructor
    · rintro ⟨h1, h2, h3, -, -⟩; exact ⟨⟨h1, by simp, trivial⟩, h3, fun g hg => by cases hg; exact fun e => h2 _ rfl e.symm⟩
    · rintro ⟨⟨h1, -, -⟩, h3, h4⟩; exact ⟨h1, fun g hg => by cases hg; exact fun e => h4 _ rfl e.symm, h3, by simp, trivial⟩
  | (c, n) :: (c', n') :: l, d, m => by
    have ih := wf_snoc ((c', n') :: l) d m
    rw [List.cons_append, WF, ih, WF, List.getLast?_cons_cons]
    simp only [List.cons_append, List.head?_cons]
    constructor
    · rintro ⟨h1, h2, h3, h4, h5⟩; exact ⟨⟨h1, h2, h3⟩, h4, h5⟩
    · rintro ⟨⟨h1, h2, h3⟩, h4, h5⟩; exact ⟨h1, h2, h3, h4, h5⟩
theorem wf_len : ∀ {l : List (κ × Nat)}, WF l → l.length ≤ total l
  | [], _ => Nat.le_refl _
  | (c, n) :: l, h => by have := wf_len h.2.2; have := h.1; rw [List.length_cons, total]; omega
theorem mem_total : ∀ {l : List (κ × Nat)} {g : κ × Nat}, g ∈ l → g.2 ≤ total l
  | (c, n) :: l, g, h => by
    rw [total]
    rcases List.mem_cons.1 h with rfl | h
    · show n ≤ _; omega
    · have := mem_total h; omega
theorem wt_app {K : Kd κ} (l k : List (κ × Nat)) : wt K (l ++ k) = wt K l + wt K k := by
  induction l with
  | nil => simp [wt]
  | cons g l ih => obtain ⟨c, n⟩ := g; simp only [List.cons_append, wt, ih]; omega
theorem puts_len {K : Kd κ} (l : List (κ × Nat)) : (puts K l).length = wt K l := by
  induction l with
  | nil => rfl
  | cons g l ih => obtain ⟨c, n⟩ := g; unfold puts at ih ⊢; rw [List.flatMap_cons, List.length_append, ih, wt]
end
section
variable {κ : Type} [DecidableEq κ]
def addG (l : List (κ × Nat)) (c : κ) (n : Nat) : List (κ × Nat) :=
  if n = 0 then l else
  match l.getLast? with
  | some (d, m) => if d = c then l.dropLast ++ [(d, m + n)] else l ++ [(c, n)]
  | none => l ++ [(c, n)]
def gatherG (l : List κ) : List (κ × Nat) := l.foldl (fun g c => addG g c 1) []
def othersG (z : κ) : List (κ × Nat) → Nat
  | [] => 0
  | (c, n) :: l => if c = z ∨ 1 < n then 0 else othersG z l + 1
def tellF (K : Kd κ) : Nat → List (κ × Nat) → List UInt8
  | 0, _ => []
  | _ + 1, [] => []
  | f + 1, (c, n) :: l =>
    if c = K.zero then s 0 ++ (u n ++ tellF K f l)
    else if 1 < n then s (n : Int) ++ (K.put c ++ tellF K f l)
    else s (-((othersG K.zero l + 1 : Nat) : Int)) ++ (K.put c ++ (puts K (l.take (othersG K.zero l)) ++ tellF K f (l.drop (othersG K.zero l))))
def tellG (K : Kd κ) (l : List (κ × Nat)) : List UInt8 := tellF K l.length l
def tellW (K : Kd κ) : List (κ × Nat) → List UInt8
  | [(c, n)] => if c = K.zero then [] else tellG K [(c, n)]
  | l => tellG K l
section
variable {l : List (κ × Nat)} {c : κ} {n : Nat}
theorem addG_zero (l : List (κ × Nat)) (c : κ) : addG l c 0 = l := by rw [addG, if_pos rfl]
theorem addG_nil (c : κ) (h : n ≠ 0) : addG [] c n = [(c, n)] := by rw [addG, if_neg h]; rfl
theorem addG_snoc (l : List (κ × Nat)) (d c : κ) (m : Nat) (h : n ≠ 0) : addG (l ++ [(d, m)]) c n = if d = c then l ++ [(d, m + n)] else l ++ [(d, m)] ++ [(c, n)] := by
  rw [addG, if_neg h, List.getLast?_concat]
  simp only [List.dropLast_concat]
theorem total_add (l : List (κ × Nat)) (c : κ) (n : Nat) : total (addG l c n) = total l + n := by
  by_cases h : n = 0
  · subst h; rw [addG_zero]; rfl
  · rcases snoc_cases l with rfl | ⟨l', d, m, rfl⟩
    · rw [addG_nil c h]; simp [total]
    · rw [addG_snoc _ _ _ _ h]
      split <;> simp [total_app, total] <;> omega
theorem spread_add (l : List (κ × Nat)) (c : κ) (n : Nat) : spreadG (addG l c n) = spreadG l ++ List.replicate n c := by
  by_cases h : n = 0
  · subst h; rw [addG_zero]; simp
  · rcases snoc_cases l with rfl | ⟨l', d, m, rfl⟩
    · rw [addG_nil c h]; simp [spreadG]
    · rw [addG_snoc _ _ _ _ h]
      split
      · next e => subst e; simp [spread_app, spreadG, List.append_assoc, List.replicate_append_replicate]
      · simp [spread_app, spreadG]
theorem gather_snoc (l : List κ) (c : κ) : gatherG (l ++ [c]) = addG (gatherG l) c 1 := by unfold gatherG; rw [List.foldl_append]; rfl
theorem spread_gather (l : List κ) : spreadG (gatherG l) = l := by
  refine snoc_ind (p := fun l => spreadG (gatherG l) = l) ?_ (fun l c ih => ?_) l
  · rfl
  · rw [gather_snoc, spread_add, ih]; rfl
theorem wf_add (h : WF l) (c : κ) (n : Nat) : WF (addG l c n) := by
  by_cases h0 : n = 0
  · subst h0; rw [addG_zero]; exact h
  · rcases snoc_cases l with rfl | ⟨l', d, m, rfl⟩
    · rw [addG_nil c h0]; exact ⟨by omega, by simp, trivial⟩
    · rw [addG_snoc _ _ _ _ h0]
      obtain ⟨h1, h2, h3⟩ := (wf_snoc _ _ _).1 h
      split
      · exact (wf_snoc _ _ _).2 ⟨h1, by omega, h3⟩
      · next e => exact (wf_snoc _ _ _).2 ⟨h, by omega, by rw [List.getLast?_concat]; rintro g hg; cases hg; exact e⟩
theorem wf_gather (l : List κ) : WF (gatherG l) := by
  refine snoc_ind (p := fun l => WF (gatherG l)) ?_ (fun l c ih => ?_) l
  · trivial
  · rw [gather_snoc]; exact wf_add ih c 1
theorem total_gather (l : List κ) : total (gatherG l) = l.length := by rw [← spread_len, spread_gather]
theorem gather_len (l : List κ) : (gatherG l).length ≤ l.length := by have := wf_len (wf_gather l); rwa [total_gather] at this
theorem gather_mem {l : List κ} {g : κ × Nat} (h : g ∈ gatherG l) : g.2 ≤ l.length := by have := mem_total h; rwa [total_gather] at this
end

section
variable {K : Kd κ}
theorem others_le (z : κ) : ∀ l : List (κ × Nat), othersG z l ≤ l.length
  | [] => Nat.le_refl _
  | (c, n) :: l => by have := others_le z l; rw [othersG, List.length_cons]; split <;> omega
theorem tellF_fuel : ∀ (f g : Nat) (l : List (κ × Nat)), l.length ≤ f → l.length ≤ g → tellF K f l = tellF K g l
  | 0, 0, _, _, _ => rfl
  | 0, g + 1, l, h, _ => by obtain rfl : l = [] := List.eq_nil_of_length_eq_zero (by omega); rfl
  | f + 1, 0, l, _, h => by obtain rfl : l = [] := List.eq_nil_of_length_eq_zero (by omega); rfl
  | f + 1, g + 1, [], _, _ => rfl
  | f + 1, g + 1, (c, n) :: l, h1, h2 => by
    rw [List.length_cons] at h1 h2
    rw [tellF, tellF, tellF_fuel f g l (by omega) (by omega), tellF_fuel f g (l.drop (othersG K.zero l)) (by rw [List.length_drop]; omega) (by rw [List.length_drop]; omega)]
theorem tell_nil : tellG K ([] : List (κ × Nat)) = [] := rfl
theorem tell_none (n : Nat) (l : List (κ × Nat)) : tellG K ((K.zero, n) :: l) = s 0 ++ (u n ++ tellG K l) := by
  unfold tellG
  rw [List.length_cons, tellF, if_pos rfl]
theorem tell_same {c : κ} {n : Nat} (hc : c ≠ K.zero) (hn : 1 < n) (l : List (κ × Nat)) : tellG K ((c, n) :: l) = s (n : Int) ++ (K.put c ++ tellG K l) := by
  unfold tellG
  rw [List.length_cons, tellF, if_neg hc, if_pos hn]
theorem tell_other {c : κ} {n : Nat} (hc : c ≠ K.zero) (hn : ¬ 1 < n) (l : List (κ × Nat)) :
    tellG K ((c, n) :: l) = s (-((othersG K.zero ((c, n) :: l) : Nat) : Int)) ++ (puts K (((c, n) :: l).take (othersG K.zero ((c, n) :: l))) ++ tellG K (((c, n) :: l).drop (othersG K.zero ((c, n) :: l)))) := by
  have ho : othersG K.zero ((c, n) :: l) = othersG K.zero l + 1 := by rw [othersG, if_neg (by rintro (h | h); exact hc h; exact hn h)]
  unfold tellG
  rw [ho, List.length_cons, tellF, if_neg hc, if_neg hn, List.take_succ_cons, List.drop_succ_cons, tellF_fuel l.length (l.drop (othersG K.zero l)).length _ (by rw [List.length_drop]; omega) (Nat.le_refl _)]
  unfold puts
  rw [List.flatMap_cons, List.append_assoc]
theorem others_pos {z c : κ} {n : Nat} (hc : c ≠ z) (hn : ¬ 1 < n) (l : List (κ × Nat)) : 0 < othersG z ((c, n) :: l) := by
  rw [othersG, if_neg (by rintro (h | h); exact hc h; exact hn h)]; omega
theorem others_zero {z c : κ} {n : Nat} (l : List (κ × Nat)) (h : c = z ∨ 1 < n) : othersG z ((c, n) :: l) = 0 := by rw [othersG, if_pos h]
/-- the ones ahead of 'others' come once, and aren't nothing; the one behind isn't so -/
theorem others_mem (z : κ) : ∀ (l : List (κ × Nat)) (k : Nat) (g : κ × Nat), k < othersG z l → l[k]? = some g → g.1 ≠ z ∧ ¬ 1 < g.2
  | [], k, g, h, _ => by simp [othersG] at h
  | (c, n) :: l, k, g, h, hk => by
    rw [othersG] at h
    split at h
    · omega
    · next hq =>
      match k, hk with
      | 0, hk => simp at hk; subst hk; exact ⟨fun e => hq (.inl e), fun e => hq (.inr e)⟩
      | k + 1, hk => exact others_mem z l k g (by omega) (by simpa using hk)
theorem others_stop (z : κ) : ∀ (l : List (κ × Nat)) (g : κ × Nat), l[othersG z l]? = some g → g.1 = z ∨ 1 < g.2
  | [], g, h => by simp at h
  | (c, n) :: l, g, h => by
    rw [othersG] at h
    split at h
    · next hq => simp at h; subst h; exact hq
    · exact others_stop z l g (by simpa using h)
theorem tell_len : ∀ (f : Nat) (l : List (κ × Nat)), (∀ g ∈ l, g.2 < 9223372036854775808) → l.length < 1000000000 → (tellF K f l).length ≤ 20 * l.length + wt K l
  | 0, _, _, _ => by simp [tellF]
  | f + 1, [], _, _ => by simp [tellF]
  | f + 1, (c, n) :: l, h, hl => by
    have hn : n < 9223372036854775808 := h (c, n) (List.mem_cons_self ..)
    rw [List.length_cons] at hl
    have i1 := tell_len f l (fun g hg => h g (List.mem_cons_of_mem _ hg)) (by omega)
    have i2 := tell_len f (l.drop (othersG K.zero l)) (fun g hg => h g (List.mem_cons_of_mem _ (List.mem_of_mem_drop hg))) (by rw [List.length_drop]; omega)
    have hu := u_len10 (n := n) (by omega)
    have hs := s_len10 (n := (n : Int)) (by omega) (by omega)
    have ho := others_le K.zero l
    have hs2 := s_len10 (n := -((othersG K.zero l + 1 : Nat) : Int)) (by omega) (by omega)
    have hs0 := s_len10 (n := 0) (by omega) (by omega)
    have hw : wt K l = wt K (l.take (othersG K.zero l)) + wt K (l.drop (othersG K.zero l)) := by rw [← wt_app, List.take_append_drop]
    rw [List.length_drop] at i2
    have hp := puts_len (K := K) (l.take (othersG K.zero l))
    rw [tellF, wt, List.length_cons]
    split
    · simp only [List.length_append]; omega
    · split
      · simp only [List.length_append]; omega
      · simp only [List.length_append]; omega
end
end
end Go.Proofs.YtedmnkcoflbciaaGreat.RleM
namespace Go.Proofs.YtedmnkcoflbciaaGreat.RleM
open LebM

def kU : Kd (Bool × Int) where
  zero := (false, 0)
  put c := u c.2.toNat
  get B := if (gu B).2.2 ≠ 0 then ((false, 0), 0, (gu B).2.2) else if 9223372036854775807 < (gu B).1 then ((false, 0), 0, 4) else ((true, ((gu B).1 : Int)), (gu B).2.1, 0)
def kS : Kd (Bool × Int) where
  zero := (false, 0)
  put c := s c.2
  get B := if (gs B).2.2 ≠ 0 then ((false, 0), 0, (gs B).2.2) else ((true, (gs B).1), (gs B).2.1, 0)
def kW : Kd (Bool × List UInt8) where
  zero := (false, [])
  put c := u c.2.length ++ c.2
  get B := if (gu B).2.2 ≠ 0 then ((false, []), 0, (gu B).2.2) else if B.length - (gu B).2.1 < (gu B).1 then ((false, []), 0, 2) else ((true, (B.drop (gu B).2.1).take (gu B).1), (gu B).2.1 + (gu B).1, 0)
/-- what may be told: the numbers' range, the texts' length -/
def okU (c : Bool × Int) : Prop := 0 ≤ c.2 ∧ c.2 < 9223372036854775808
def okS (c : Bool × Int) : Prop := -9223372036854775808 ≤ c.2 ∧ c.2 < 9223372036854775808
def okW (c : Bool × List UInt8) : Prop := c.2.length ≤ 1000000
/-- what a reader keeps -/
structure Inv {κ : Type} (ok : κ → Prop) (r : Rs κ) : Prop where
  len : r.left.length + r.gs.length ≤ 1000000
  tot : total r.gs = r.count
  cnt : r.count ≤ 1000000
  all : ∀ g ∈ r.gs, ok g.1
section
variable {κ : Type}
theorem Inv.less {ok : κ → Prop} {left left' : List UInt8} {G : List (κ × Nat)} {cnt : Nat} (h : Inv ok ⟨left, G, cnt⟩) (hl : left'.length ≤ left.length) : Inv ok ⟨left', G, cnt⟩ := ⟨by have := h.len; simp only at this ⊢; omega, h.tot, h.cnt, h.all⟩
theorem Inv.small {ok : κ → Prop} {r : Rs κ} (h : Inv ok r) : r.gs.length ≤ 1000000 ∧ ∀ g ∈ r.gs, ∀ n, n ≤ 1000000 → g.2 + n < 9223372036854775808 :=
  ⟨by have := h.len; omega, fun g hg n hn => by have := mem_total hg; rw [h.tot] at this; have := h.cnt; omega⟩
end
section
variable {κ : Type} [DecidableEq κ]
theorem addG_len (l : List (κ × Nat)) (c : κ) (n : Nat) : (addG l c n).length ≤ l.length + 1 := by
  by_cases h : n = 0
  · subst h; rw [addG_zero]; omega
  · rcases snoc_cases l with rfl | ⟨l', d, m, rfl⟩
    · rw [addG_nil c h]; simp
    · rw [addG_snoc _ _ _ _ h]
      split <;> simp
theorem mem_addG {l : List (κ × Nat)} {c : κ} {n : Nat} {g : κ × Nat} (hg : g ∈ addG l c n) : g.1 = c ∨ ∃ g' ∈ l, g'.1 = g.1 := by
  by_cases h : n = 0
  · subst h; rw [addG_zero] at hg; exact .inr ⟨g, hg, rfl⟩
  · rcases snoc_cases l with rfl | ⟨l', d, m, rfl⟩
    · rw [addG_nil c h] at hg; simp at hg; exact .inl (by rw [hg])
    · rw [addG_snoc _ _ _ _ h] at hg
      split at hg
      · next e =>
        rcases List.mem_append.1 hg with h | h
        · exact .inr ⟨g, List.mem_append_left _ h, rfl⟩
        · simp at h; exact .inl (by rw [h]; exact e)
      · rcases List.mem_append.1 hg with h | h
        · exact .inr ⟨g, h, rfl⟩
        · simp at h; exact .inl (by rw [h])
theorem Inv.add {ok : κ → Prop} {left left' : List UInt8} {G : List (κ × Nat)} {cnt : Nat} (h : Inv ok ⟨left, G, cnt⟩) {c : κ} {n : Nat} (hl : left'.length + 1 ≤ left.length) (hc : ok c) (hn : cnt + n ≤ 1000000) : Inv ok ⟨left', addG G c n, cnt + n⟩ := by
  obtain ⟨h1, h2, h3, h4⟩ := h
  simp only at h1 h2 h3 h4
  refine ⟨?_, ?_, hn, ?_⟩
  · have := addG_len G c n; simp only; omega
  · rw [total_add, h2]
  · intro g hg
    rcases mem_addG hg with e | ⟨g', hg', e⟩
    · rw [e]; exact hc
    · rw [← e]; exact h4 g' hg'
section
variable {K : Kd κ} {ok : κ → Prop} {most : Int}
end
end
theorem putU_len {c : Bool × Int} (h : okU c) : (kU.put c).length ≤ 1000010 := by
  have h1 : 0 ≤ c.2 := h.1
  have h2 : c.2 < 9223372036854775808 := h.2
  have := u_len10 (n := c.2.toNat) (by omega)
  show (u c.2.toNat).length ≤ _
  omega
theorem putS_len {c : Bool × Int} (h : okS c) : (kS.put c).length ≤ 1000010 := by
  have := s_len10 h.1 h.2
  show (s c.2).length ≤ _
  omega
theorem putW_len {c : Bool × List UInt8} (h : okW c) : (kW.put c).length ≤ 1000010 := by
  have h1 : c.2.length ≤ 1000000 := h
  have := u_len10 (n := c.2.length) (by omega)
  show (u c.2.length ++ c.2).length ≤ _
  rw [List.length_append]
  omega
theorem wt_le {κ : Type} {K : Kd κ} {M : Nat} : ∀ (l : List (κ × Nat)), (∀ g ∈ l, (K.put g.1).length ≤ M) → wt K l ≤ l.length * M
  | [], _ => Nat.zero_le _
  | (c, n) :: l, h => by
    have h1 := h (c, n) (List.mem_cons_self ..)
    have h2 := wt_le l (fun g hg => h g (List.mem_cons_of_mem _ hg))
    rw [wt, List.length_cons, Nat.add_mul, Nat.one_mul]
    simp only at h1
    omega
theorem tell_bound {κ : Type} [DecidableEq κ] {K : Kd κ} (l : List (κ × Nat)) (h : ∀ g ∈ l, (K.put g.1).length ≤ 1000010) (hc : ∀ g ∈ l, g.2 < 9223372036854775808) (hl : l.length ≤ 1000000) : (tellG K l).length ≤ 2000000000000 := by
  have h1 := tell_len (K := K) l.length l hc (by omega)
  have h2 := wt_le l h
  have h3 : l.length * 1000010 ≤ 1000000 * 1000010 := Nat.mul_le_mul_right _ hl
  unfold tellG
  omega
end Go.Proofs.YtedmnkcoflbciaaGreat.RleM
namespace Go.Proofs.YtedmnkcoflbciaaGreat.RleM
open LebM
set_option linter.unusedVariables false

section
variable {κ : Type}
end
section
variable {κ : Type} [DecidableEq κ] {K : Kd κ} {p : κ → Prop}
theorem total_take (z : κ) : ∀ l : List (κ × Nat), WF l → total (l.take (othersG z l)) = othersG z l
  | [], _ => rfl
  | (c, n) :: l, h => by
    rw [othersG]
    split
    · rfl
    · next hq =>
      have h0 : 0 < n := h.1
      have hn : n = 1 := by omega
      rw [List.take_succ_cons, total, total_take z l h.2.2, hn, Nat.add_comm]
/-- all of them nothing -/
theorem told_none {x : List κ} (h : ∀ c ∈ x, c = K.zero) : tellW K (gatherG x) = [] := by
  have hw := wf_gather x
  have hm : ∀ g ∈ gatherG x, g.1 = K.zero := by
    intro g hg
    have hs : g.1 ∈ spreadG (gatherG x) ∨ g.2 = 0 := by
      clear hw
      generalize gatherG x = l at hg
      induction l with
      | nil => cases hg
      | cons a l ih =>
        obtain ⟨c, n⟩ := a
        rcases List.mem_cons.1 hg with rfl | hg
        · rcases Nat.eq_zero_or_pos n with h0 | h0
          · exact .inr h0
          · exact .inl (by rw [spreadG]; exact List.mem_append_left _ (List.mem_replicate.2 ⟨by omega, rfl⟩))
        · rcases ih hg with h | h
          · exact .inl (by rw [spreadG]; exact List.mem_append_right _ h)
          · exact .inr h
    rcases hs with hs | hs
    · rw [spread_gather] at hs; exact h _ hs
    · exfalso
      generalize gatherG x = l at hg hw
      induction l with
      | nil => cases hg
      | cons a l ih =>
        obtain ⟨c, n⟩ := a
        rcases List.mem_cons.1 hg with rfl | hg
        · have := hw.1; simp only at hs; omega
        · exact ih hg hw.2.2
  match gatherG x, hw, hm with
  | [], _, _ => rfl
  | [(c, n)], _, hm =>
    have e : c = K.zero := hm (c, n) (List.mem_cons_self ..)
    show (if c = K.zero then _ else _) = _
    exact if_pos e
  | (c, n) :: (d, k) :: l, hw, hm =>
    exfalso
    have e1 : c = K.zero := hm (c, n) (List.mem_cons_self ..)
    have e2 : d = K.zero := hm (d, k) (List.mem_cons_of_mem _ (List.mem_cons_self ..))
    exact hw.2.1 (d, k) rfl (by rw [e1]; exact e2)
theorem told_some {x : List κ} {c : κ} (hc : c ∈ x) (hz : c ≠ K.zero) : tellW K (gatherG x) = tellG K (gatherG x) := by
  have hx := spread_gather x
  match gatherG x, hx with
  | [], hx => rfl
  | [(d, n)], hx =>
    show (if d = K.zero then _ else _) = _
    refine if_neg (fun e => hz ?_)
    rw [← hx] at hc
    simp [spreadG] at hc
    rw [hc.2, e]
  | _ :: _ :: _, hx => rfl
end
/-- cells that may be -/
def mayU (c : Bool × Int) : Prop := (c.1 = false → c.2 = 0) ∧ okU c
def mayS (c : Bool × Int) : Prop := (c.1 = false → c.2 = 0) ∧ okS c
def mayW (c : Bool × List UInt8) : Prop := (c.1 = false → c.2 = []) ∧ okW c
end Go.Proofs.YtedmnkcoflbciaaGreat.RleM
namespace Go.Proofs.YtedmnkcoflbciaaGreat.RleM
open LebM
set_option linter.unusedVariables false

/-- cells as texts of their bytes -/
def refS (sign : Bool) (c : Bool × Int) : Bool × List UInt8 := (c.1, if c.1 = false then [] else if sign = true then s c.2 else u c.2.toNat)
def refW (c : Bool × List UInt8) : Bool × List UInt8 := (c.1, if c.1 = false then [] else u c.2.length ++ c.2)
def kR : Kd (Bool × List UInt8) where
  zero := (false, [])
  put c := c.2
  get _ := ((false, []), 0, 0)
section
variable {κ κ' : Type} {K : Kd κ} {K' : Kd κ'} {f : κ → κ'} {p : κ → Prop}
/-- groups of what is turned one by one, if unlike ones stay unlike -/
def mapG (f : κ → κ') (l : List (κ × Nat)) : List (κ' × Nat) := l.map fun g => (f g.1, g.2)
theorem puts_map (hp : ∀ c, p c → c ≠ K.zero → K'.put (f c) = K.put c) : ∀ (l : List (κ × Nat)), (∀ g ∈ l, p g.1 ∧ g.1 ≠ K.zero) → puts K' (mapG f l) = puts K l
  | [], _ => rfl
  | (c, n) :: l, h => by
    obtain ⟨h1, h2⟩ := h (c, n) (List.mem_cons_self ..)
    have ih := puts_map hp l (fun g hg => h g (List.mem_cons_of_mem _ hg))
    unfold puts at ih ⊢
    show List.flatMap _ ((f c, n) :: mapG f l) = _
    rw [List.flatMap_cons, List.flatMap_cons, ih, hp c h1 h2]
end
section
variable {κ κ' : Type} [DecidableEq κ] [DecidableEq κ'] {K : Kd κ} {K' : Kd κ'} {f : κ → κ'} {p : κ → Prop}
theorem map_add (hf : ∀ a b, p a → p b → f a = f b → a = b) {l : List (κ × Nat)} (hl : ∀ g ∈ l, p g.1) {c : κ} (hc : p c) (n : Nat) : addG (mapG f l) (f c) n = mapG f (addG l c n) := by
  by_cases h : n = 0
  · subst h; rw [addG_zero, addG_zero]
  · rcases snoc_cases l with rfl | ⟨l', d, m, rfl⟩
    · rw [addG_nil c h]; show addG [] _ _ = _; rw [addG_nil _ h]; rfl
    · have e : mapG f (l' ++ [(d, m)]) = mapG f l' ++ [(f d, m)] := by simp [mapG]
      rw [e, addG_snoc _ _ _ _ h, addG_snoc _ _ _ _ h]
      have hd : p d := hl (d, m) (by simp)
      by_cases hdc : d = c
      · rw [if_pos hdc, if_pos (by rw [hdc])]; simp [mapG]
      · rw [if_neg hdc, if_neg (fun e => hdc (hf d c hd hc e))]; simp [mapG]
theorem mem_gather' {L : List κ} (h : ∀ x ∈ L, p x) : ∀ g ∈ gatherG L, p g.1 := by
  revert h
  refine snoc_ind (p := fun L => (∀ x ∈ L, p x) → ∀ g ∈ gatherG L, p g.1) (fun _ g hg => by cases hg) (fun l x ih h g hg => ?_) L
  rw [gather_snoc] at hg
  rcases mem_addG hg with e | ⟨g', hg', e⟩
  · rw [e]; exact h x (by simp)
  · rw [← e]; exact ih (fun y hy => h y (by simp [hy])) g' hg'
theorem gather_map (hf : ∀ a b, p a → p b → f a = f b → a = b) : ∀ (L : List κ), (∀ c ∈ L, p c) → gatherG (L.map f) = mapG f (gatherG L) := by
  intro L
  refine snoc_ind (p := fun L => (∀ c ∈ L, p c) → gatherG (L.map f) = mapG f (gatherG L)) (fun _ => rfl) (fun l x ih h => ?_) L
  have hl : ∀ c ∈ l, p c := fun c hc => h c (by simp [hc])
  rw [List.map_append, List.map_singleton, gather_snoc, ih hl, map_add hf (mem_gather' hl) (h x (by simp)), gather_snoc]
theorem others_map (hf : ∀ a b, p a → p b → f a = f b → a = b) {z : κ} (hz : p z) : ∀ (l : List (κ × Nat)), (∀ g ∈ l, p g.1) → othersG (f z) (mapG f l) = othersG z l
  | [], _ => rfl
  | (c, n) :: l, h => by
    have hc : p c := h (c, n) (List.mem_cons_self ..)
    show othersG (f z) ((f c, n) :: mapG f l) = _
    rw [othersG, othersG, others_map hf hz l (fun g hg => h g (List.mem_cons_of_mem _ hg))]
    by_cases e : c = z
    · rw [if_pos (.inl (by rw [e])), if_pos (.inl e)]
    · by_cases hn : 1 < n
      · rw [if_pos (.inr hn), if_pos (.inr hn)]
      · rw [if_neg (by rintro (h | h); exact e (hf c z hc hz h); exact hn h), if_neg (by rintro (h | h); exact e h; exact hn h)]
theorem tell_map (hf : ∀ a b, p a → p b → f a = f b → a = b) (hz : p K.zero) (hfz : f K.zero = K'.zero) (hp : ∀ c, p c → c ≠ K.zero → K'.put (f c) = K.put c) : ∀ (m : Nat) (l : List (κ × Nat)), l.length ≤ m → (∀ g ∈ l, p g.1) → tellG K' (mapG f l) = tellG K l := by
  intro m
  induction m with
  | zero => intro l hl _; obtain rfl : l = [] := List.eq_nil_of_length_eq_zero (by omega); rfl
  | succ m ih =>
    intro l hl h
    match l, hl with
    | [], _ => rfl
    | (c, n) :: l, hl =>
      rw [List.length_cons] at hl
      have hc : p c := h (c, n) (List.mem_cons_self ..)
      have hl2 : ∀ g ∈ l, p g.1 := fun g hg => h g (List.mem_cons_of_mem _ hg)
      have e0 : mapG f ((c, n) :: l) = (f c, n) :: mapG f l := rfl
      by_cases e : c = K.zero
      · subst e
        rw [e0, hfz, tell_none, tell_none, ih l (by omega) hl2]
      · have e' : f c ≠ K'.zero := fun h => e (hf c _ hc hz (by rw [h, hfz]))
        by_cases hn : 1 < n
        · rw [e0, tell_same e' hn, tell_same e hn, ih l (by omega) hl2, hp c hc e]
        · have ho := others_map hf hz ((c, n) :: l) h
          rw [hfz, e0] at ho
          have hO : 0 < othersG K.zero ((c, n) :: l) := others_pos e hn l
          rw [e0, tell_other e' hn, tell_other e hn, ho, ← e0]
          have ht : (mapG f ((c, n) :: l)).take (othersG K.zero ((c, n) :: l)) = mapG f (((c, n) :: l).take (othersG K.zero ((c, n) :: l))) := by simp [mapG, List.map_take]
          have hd : (mapG f ((c, n) :: l)).drop (othersG K.zero ((c, n) :: l)) = mapG f (((c, n) :: l).drop (othersG K.zero ((c, n) :: l))) := by simp [mapG, List.map_drop]
          rw [ht, hd, ih _ (by rw [List.length_drop, List.length_cons]; omega) (fun g hg => h g (List.mem_of_mem_drop hg)), puts_map hp]
          intro g hg
          obtain ⟨k, hk⟩ := List.getElem?_of_mem hg
          rw [List.getElem?_take] at hk
          split at hk
          · next hko => exact ⟨h g (List.mem_of_getElem? hk), (others_mem K.zero _ k g hko hk).1⟩
          · cases hk
theorem tellW_map (hf : ∀ a b, p a → p b → f a = f b → a = b) (hz : p K.zero) (hfz : f K.zero = K'.zero) (hp : ∀ c, p c → c ≠ K.zero → K'.put (f c) = K.put c) (l : List (κ × Nat)) (h : ∀ g ∈ l, p g.1) : tellW K' (mapG f l) = tellW K l := by
  have ht := tell_map hf hz hfz hp l.length l (Nat.le_refl _) h
  match l, h, ht with
  | [], _, _ => rfl
  | [(c, n)], h, ht =>
    show (if f c = K'.zero then [] else tellG K' [(f c, n)]) = if c = K.zero then [] else tellG K [(c, n)]
    by_cases e : c = K.zero
    · rw [if_pos e, if_pos (by rw [e, hfz])]
    · rw [if_neg e, if_neg (fun h2 => e (hf c _ (h (c, n) (List.mem_cons_self ..)) hz (by rw [h2, hfz])))]
      exact ht
  | _ :: _ :: _, _, ht => exact ht
end
theorem ref_U {L : List (Bool × Int)} (h : ∀ c ∈ L, mayU c) : tellW kR (gatherG (L.map (refS false))) = tellW kU (gatherG L) := by
  have hf : ∀ a b, mayU a → mayU b → refS false a = refS false b → a = b := by
    rintro ⟨i, x⟩ ⟨j, y⟩ ⟨h1, h2, h3⟩ ⟨k1, k2, k3⟩ e
    unfold refS at e
    simp only [Prod.mk.injEq] at e h1 h2 h3 k1 k2 k3
    obtain ⟨rfl, e⟩ := e
    cases i with
    | false => rw [h1 rfl, k1 rfl]
    | true =>
      simp only [Bool.false_eq_true, if_false, Bool.true_eq_false] at e
      have := u_inj e
      congr 1
      omega
  have hz : mayU kU.zero := ⟨fun _ => rfl, Int.le_refl _, by show (0 : Int) < _; omega⟩
  rw [gather_map hf L h, tellW_map (K := kU) (K' := kR) hf hz rfl ?_ _ (mem_gather' h)]
  rintro ⟨i, x⟩ ⟨h1, _⟩ hne
  cases i with
  | false => exact absurd (by have h0 := h1 rfl; simp only at h0; rw [h0]; rfl) hne
  | true => rfl
theorem ref_S {L : List (Bool × Int)} (h : ∀ c ∈ L, mayS c) : tellW kR (gatherG (L.map (refS true))) = tellW kS (gatherG L) := by
  have hf : ∀ a b, mayS a → mayS b → refS true a = refS true b → a = b := by
    rintro ⟨i, x⟩ ⟨j, y⟩ ⟨h1, h2, h3⟩ ⟨k1, k2, k3⟩ e
    unfold refS at e
    simp only [Prod.mk.injEq] at e h1 h2 h3 k1 k2 k3
    obtain ⟨rfl, e⟩ := e
    cases i with
    | false => rw [h1 rfl, k1 rfl]
    | true =>
      simp only [if_true, if_false, Bool.true_eq_false] at e
      have := s_inj e
      congr 1
  have hz : mayS kS.zero := ⟨fun _ => rfl, by show (_ : Int) ≤ 0; omega, by show (0 : Int) < _; omega⟩
  rw [gather_map hf L h, tellW_map (K := kS) (K' := kR) hf hz rfl ?_ _ (mem_gather' h)]
  rintro ⟨i, x⟩ ⟨h1, _⟩ hne
  cases i with
  | false => exact absurd (by have h0 := h1 rfl; simp only at h0; rw [h0]; rfl) hne
  | true => rfl
theorem ref_W {L : List (Bool × List UInt8)} (h : ∀ c ∈ L, mayW c) : tellW kR (gatherG (L.map refW)) = tellW kW (gatherG L) := by
  have hf : ∀ a b, mayW a → mayW b → refW a = refW b → a = b := by
    rintro ⟨i, x⟩ ⟨j, y⟩ ⟨h1, h2⟩ ⟨k1, k2⟩ e
    unfold refW at e
    simp only [Prod.mk.injEq] at e h1 k1
    obtain ⟨rfl, e⟩ := e
    cases i with
    | false => rw [h1 rfl, k1 rfl]
    | true =>
      simp only [if_false, Bool.true_eq_false] at e
      have e1 := form_apart (u_form x.length) (u_form y.length) e
      rw [e1] at e
      rw [List.append_cancel_left e]
  have hz : mayW kW.zero := ⟨fun _ => rfl, Nat.zero_le _⟩
  rw [gather_map hf L h, tellW_map (K := kW) (K' := kR) hf hz rfl ?_ _ (mem_gather' h)]
  rintro ⟨i, x⟩ ⟨h1, _⟩ hne
  cases i with
  | false => exact absurd (by have h0 := h1 rfl; simp only at h0; rw [h0]; rfl) hne
  | true => rfl
end Go.Proofs.YtedmnkcoflbciaaGreat.RleM
namespace Go.Proofs.YtedmnkcoflbciaaGreat.RleM
open LebM
set_option linter.unusedVariables false

section
variable {κ : Type}
theorem spread_head {c : κ} {m : Nat} {D : List (κ × Nat)} {t : Nat} (h : t < m) : (spreadG ((c, m) :: D))[t]? = some c := by
  rw [spreadG, List.getElem?_append_left (by simpa using h), List.getElem?_replicate]
  simp [h]
theorem spread_next {c : κ} {m : Nat} {D : List (κ × Nat)} (t : Nat) : (spreadG ((c, m) :: D))[m + t]? = (spreadG D)[t]? := by
  rw [spreadG, List.getElem?_append_right (by simp), List.length_replicate, Nat.add_sub_cancel_left]
theorem spread_first {D : List (κ × Nat)} (hw : WF D) : (spreadG D)[0]? = (D[0]?).map (·.1) := by
  match D, hw with
  | [], _ => rfl
  | (c, m) :: D, hw => rw [spread_head hw.1]; rfl
theorem after_group {c : κ} {m : Nat} {D : List (κ × Nat)} (hw : WF ((c, m) :: D)) {e : κ} (h : (spreadG ((c, m) :: D))[m]? = some e) : e ≠ c := by
  have h2 := spread_next (c := c) (m := m) (D := D) 0
  rw [Nat.add_zero] at h2
  rw [h2, spread_first hw.2.2] at h
  match D, hw, h with
  | (d, k) :: D, hw, h =>
    simp at h
    subst h
    exact hw.2.1 (d, k) rfl
theorem wf_adj : ∀ {D : List (κ × Nat)} (hw : WF D) {t : Nat} {a b : κ × Nat}, D[t]? = some a → D[t + 1]? = some b → b.1 ≠ a.1
  | (c, m) :: D, hw, 0, a, b, ha, hb => by
    simp at ha hb
    subst ha
    exact hw.2.1 b (by rw [List.head?_eq_getElem?]; exact hb)
  | (c, m) :: D, hw, t + 1, a, b, ha, hb => wf_adj hw.2.2 (t := t) (by simpa using ha) (by simpa using hb)
theorem wf_drop : ∀ {D : List (κ × Nat)} (hw : WF D) (t : Nat), WF (D.drop t)
  | [], _, t => by rw [List.drop_nil]; trivial
  | (c, m) :: D, hw, 0 => hw
  | (c, m) :: D, hw, t + 1 => wf_drop hw.2.2 t
end
section
variable {κ : Type} [DecidableEq κ]
theorem spread_others (z : κ) : ∀ {D : List (κ × Nat)} (hw : WF D) (t : Nat), t ≤ othersG z D → (spreadG D)[t]? = (D[t]?).map (·.1)
  | [], _, t, h => by simp [othersG] at h; subst h; rfl
  | (c, m) :: D, hw, 0, _ => spread_first hw
  | (c, m) :: D, hw, t + 1, h => by
    rw [othersG] at h
    split at h
    · omega
    · next hq =>
      have hm : m = 1 := by have := hw.1; omega
      subst hm
      rw [Nat.add_comm t 1, spread_next, spread_others z hw.2.2 t (by omega), Nat.add_comm 1 t, List.getElem?_cons_succ]
theorem spread_drop (z : κ) : ∀ {D : List (κ × Nat)} (hw : WF D), (spreadG D).drop (othersG z D) = spreadG (D.drop (othersG z D))
  | [], _ => rfl
  | (c, m) :: D, hw => by
    rw [othersG]
    split
    · rfl
    · next hq =>
      have hm : m = 1 := by have := hw.1; omega
      subst hm
      rw [List.drop_succ_cons, ← spread_drop z hw.2.2, spreadG, Nat.add_comm, ← List.drop_drop]
      rfl
theorem spread_twice (z : κ) {D : List (κ × Nat)} (hw : WF D) {c : κ} {m : Nat} (h : D[othersG z D]? = some (c, m)) (hm : 1 < m) : (spreadG D)[othersG z D + 1]? = some c := by
  have h1 := congrArg (fun l => l[1]?) (spread_drop z hw)
  simp only [List.getElem?_drop] at h1
  rw [h1]
  have h2 : D.drop (othersG z D) = (c, m) :: D.drop (othersG z D + 1) := by
    have hl := (List.getElem?_eq_some_iff.1 h).1
    rw [List.drop_eq_getElem_cons hl]
    congr 1
    exact (List.getElem?_eq_some_iff.1 h).2
  rw [h2]
  exact spread_head hm
end
end Go.Proofs.YtedmnkcoflbciaaGreat.RleM
namespace Go.Proofs.YtedmnkcoflbciaaGreat.RleM
open LebM
set_option linter.unusedVariables false

theorem tell_le {κ : Type} [DecidableEq κ] {K : Kd κ} (x : List κ) (M N : Nat) (hx : x.length ≤ N) (hN : N ≤ 1000000) (hM : ∀ c ∈ x, (K.put c).length ≤ M) : (tellG K (gatherG x)).length ≤ N * (20 + M) ∧ (tellW K (gatherG x)).length ≤ N * (20 + M) := by
  have hg := gather_len x
  have hm := mem_gather' (p := fun c => (K.put c).length ≤ M) hM
  have h1 := tell_len (K := K) (gatherG x).length (gatherG x) (fun g hg => by have := gather_mem hg; omega) (by omega)
  have h2 := wt_le (gatherG x) hm
  have h3 : (gatherG x).length * M ≤ N * M := Nat.mul_le_mul_right _ (by omega)
  have h4 : N * (20 + M) = 20 * N + N * M := by rw [Nat.mul_add, Nat.mul_comm]
  have h5 : (tellG K (gatherG x)).length ≤ N * (20 + M) := by unfold tellG; omega
  refine ⟨h5, ?_⟩
  have h6 : tellW K (gatherG x) = [] ∨ tellW K (gatherG x) = tellG K (gatherG x) := by
    match gatherG x with
    | [] => exact .inr rfl
    | [(c, n)] =>
      by_cases e : c = K.zero
      · exact .inl (if_pos e)
      · exact .inr (if_neg e)
    | _ :: _ :: _ => exact .inr rfl
  rcases h6 with h | h
  · rw [h]; exact Nat.zero_le _
  · rw [h]; exact h5
theorem putS10 {c : Bool × Int} (h : okS c) : (kS.put c).length ≤ 10 := s_len10 h.1 h.2
theorem lenS {x : List (Bool × Int)} (hx : x.length ≤ 600) (h : ∀ c ∈ x, mayS c) : (tellW kS (gatherG x)).length ≤ 18000 := (tell_le x 10 600 hx (by omega) (fun c hc => putS10 (h c hc).2)).2
theorem tellW_one {κ : Type} [DecidableEq κ] {K : Kd κ} {c : κ} {n : Nat} (hz : c ≠ K.zero) : tellW K [(c, n)] = tellG K [(c, n)] := by
  show (if c = K.zero then [] else _) = _
  exact if_neg hz
section
variable {κ : Type} [DecidableEq κ] {K : Kd κ} {most : Int}
end
/-- ones that rise -/
def rises (v k : Nat) : List (Bool × Int) := (List.range k).map fun i => (true, (((v + i) % 100 : Nat) : Int))
end Go.Proofs.YtedmnkcoflbciaaGreat.RleM
namespace Go.Proofs.YtedmnkcoflbciaaGreat.RleM
open LebM

/-- the last number, p ahead of all -/
def lastF (p : Int) : List (Bool × Int) → Int
  | [] => p
  | c :: l => lastF (if c.1 = true then c.2 else p) l
def stepF (p : Int) (c : Bool × Int) : Bool × Int := (c.1, if c.1 = true then IntKind.i64.wrap (c.2 - p) else c.2)
def stepsF (p : Int) : List (Bool × Int) → List (Bool × Int)
  | [] => []
  | c :: l => stepF p c :: stepsF (if c.1 = true then c.2 else p) l
theorem steps_len : ∀ (p : Int) (L : List (Bool × Int)), (stepsF p L).length = L.length
  | _, [] => rfl
  | _, c :: l => by rw [stepsF, List.length_cons, List.length_cons, steps_len _ l]
theorem last_snoc : ∀ (p : Int) (L : List (Bool × Int)) (c : Bool × Int), lastF p (L ++ [c]) = if c.1 = true then c.2 else lastF p L
  | _, [], _ => rfl
  | p, d :: l, c => by rw [List.cons_append, lastF, last_snoc _ l c, lastF]
theorem steps_snoc : ∀ (p : Int) (L : List (Bool × Int)) (c : Bool × Int), stepsF p (L ++ [c]) = stepsF p L ++ [stepF (lastF p L) c]
  | _, [], _ => rfl
  | p, d :: l, c => by rw [List.cons_append, stepsF, steps_snoc _ l c, stepsF, lastF, List.cons_append]
theorem steps_take (p : Int) (L : List (Bool × Int)) (i : Nat) (c : Bool × Int) (h : L[i]? = some c) : stepsF p (L.take (i + 1)) = stepsF p (L.take i) ++ [stepF (lastF p (L.take i)) c] ∧ lastF p (L.take (i + 1)) = if c.1 = true then c.2 else lastF p (L.take i) := by
  have e : L.take (i + 1) = L.take i ++ [c] := by rw [List.take_add_one, h]; rfl
  rw [e]
  exact ⟨steps_snoc _ _ _, last_snoc _ _ _⟩
theorem wrap_ok (z : Int) : -9223372036854775808 ≤ IntKind.i64.wrap z ∧ IntKind.i64.wrap z < 9223372036854775808 := by
  rw [IntKind.wrap_i64]
  omega
theorem steps_may : ∀ (p : Int) (L : List (Bool × Int)), (∀ c ∈ L, mayS c) → ∀ c ∈ stepsF p L, mayS c
  | _, [], _, c, hc => by cases hc
  | p, (b, a) :: l, h, c, hc => by
    have h0 : mayS (b, a) := h _ (List.mem_cons_self ..)
    rcases List.mem_cons.1 hc with e | hc
    · rw [e]
      cases b with
      | true => exact ⟨fun h => (by cases h), wrap_ok _⟩
      | false => exact h0
    · exact steps_may _ l (fun c hc => h c (List.mem_cons_of_mem _ hc)) c hc
theorem s_zero : (s 0).length = 1 := by rw [s_small (by omega)]; rfl
end Go.Proofs.YtedmnkcoflbciaaGreat.RleM
namespace Go.Proofs.YtedmnkcoflbciaaGreat.BooM
open LebM
set_option linter.unusedVariables false

/-- one truth more: the numbers, and which truth was the last -/
def addB (s : List Nat × Bool) (x : Bool) : List Nat × Bool :=
  if x = s.2 then (s.1.dropLast ++ [(s.1.getLast?.getD 0) + 1], s.2) else (s.1 ++ [1], x)
def stB (L : List Bool) : List Nat × Bool := L.foldl addB ([0], false)
def numsB (L : List Bool) : List Nat := (stB L).1
/-- the truths that numbers tell, from the truth x on -/
def spr (x : Bool) : List Nat → List Bool
  | [] => []
  | n :: l => List.replicate n x ++ spr (!x) l
/-- the truth behind so many numbers -/
def odd (x : Bool) : List Nat → Bool
  | [] => x
  | _ :: l => odd (!x) l

theorem add_same (M : List Nat) (k : Nat) (x : Bool) : addB (M ++ [k], x) x = (M ++ [k + 1], x) := by simp [addB]
theorem add_other (M : List Nat) (x y : Bool) (h : y ≠ x) : addB (M, x) y = (M ++ [1], y) := by simp [addB, h]
theorem odd_snoc : ∀ (M : List Nat) (x : Bool) (k : Nat), odd x (M ++ [k]) = !(odd x M)
  | [], x, k => rfl
  | _ :: M, x, k => odd_snoc M (!x) k
theorem odd_is : ∀ (M : List Nat) (x : Bool), odd x M = (if M.length % 2 = 0 then x else !x)
  | [], x => rfl
  | _ :: M, x => by
    show odd (!x) M = _
    rw [odd_is M (!x), List.length_cons]
    by_cases h : M.length % 2 = 0
    · rw [if_pos h, if_neg (by omega)]
    · rw [if_neg h, if_pos (by omega), Bool.not_not]
theorem spr_app : ∀ (M M' : List Nat) (x : Bool), spr x (M ++ M') = spr x M ++ spr (odd x M) M'
  | [], M', x => rfl
  | n :: M, M', x => by
    show List.replicate n x ++ spr (!x) (M ++ M') = (List.replicate n x ++ spr (!x) M) ++ spr (odd (!x) M) M'
    rw [spr_app M M' (!x), List.append_assoc]
theorem spr_one (x : Bool) (n : Nat) : spr x [n] = List.replicate n x := by simp [spr]
theorem spr_snoc (M : List Nat) (n : Nat) (x : Bool) : spr x (M ++ [n]) = spr x M ++ List.replicate n (odd x M) := by rw [spr_app, spr_one]
/-- what the fold keeps: a row that is not empty, the last truth by its length, all but the first above 0 -/
structure St (s : List Nat × Bool) (L : List Bool) : Prop where
  ex : ∃ M k, s.1 = M ++ [k] ∧ s.2 = odd false M
  spr : spr false s.1 = L
  pos : ∀ n ∈ s.1.tail, n ≠ 0
theorem tail_snoc {M : List Nat} {k : Nat} (h : M ≠ []) : (M ++ [k]).tail = M.tail ++ [k] := by
  cases M with
  | nil => exact absurd rfl h
  | cons a M => rfl
theorem St.zero : St ([0], false) [] := ⟨⟨[], 0, rfl, rfl⟩, rfl, fun n h => by simp at h⟩
theorem St.step {s : List Nat × Bool} {L : List Bool} (h : St s L) (y : Bool) : St (addB s y) (L ++ [y]) := by
  obtain ⟨⟨M, k, h1, h2⟩, h3, h4⟩ := h
  obtain ⟨N, x⟩ := s
  dsimp only at h1 h2 h3 h4
  subst h1
  by_cases hy : y = x
  · subst hy
    rw [add_same]
    refine ⟨⟨M, k + 1, rfl, h2⟩, ?_, ?_⟩
    · dsimp only
      rw [← h3, spr_snoc, spr_snoc, ← h2, List.replicate_succ', List.append_assoc]
    · dsimp only
      intro n hn
      by_cases hM : M = []
      · subst hM; simp at hn
      · rw [tail_snoc hM] at hn h4
        rcases List.mem_append.1 hn with hn | hn
        · exact h4 n (List.mem_append_left _ hn)
        · simp at hn; omega
  · rw [add_other _ _ _ hy]
    have hx : y = odd false (M ++ [k]) := by rw [odd_snoc, ← h2]; revert hy; clear h2 h3 h4; cases x <;> cases y <;> simp
    refine ⟨⟨M ++ [k], 1, rfl, hx⟩, ?_, ?_⟩
    · dsimp only
      rw [spr_snoc, h3, ← hx]
      rfl
    · dsimp only
      intro n hn
      rw [tail_snoc (by simp)] at hn
      rcases List.mem_append.1 hn with hn | hn
      · exact h4 n hn
      · simp at hn; omega
theorem st_snoc (L : List Bool) (y : Bool) : stB (L ++ [y]) = addB (stB L) y := by simp [stB]
theorem st_st (L : List Bool) : St (stB L) L := by
  have h : ∀ (L : List Bool) (s : List Nat × Bool) (L0 : List Bool), St s L0 → St (L.foldl addB s) (L0 ++ L) := by
    intro L
    induction L with
    | nil => intro s L0 h; simpa using h
    | cons y L ih =>
      intro s L0 h
      have := ih _ _ (h.step y)
      simpa using this
  have := h L _ _ St.zero
  simpa [stB] using this
/-- the fold goes over a run -/
theorem fold_run (M : List Nat) (x : Bool) : ∀ (n k : Nat), (List.replicate n x).foldl addB (M ++ [k], x) = (M ++ [k + n], x)
  | 0, k => rfl
  | n + 1, k => by
    rw [List.replicate_succ, List.foldl_cons, add_same, fold_run M x n (k + 1), show k + 1 + n = k + (n + 1) by omega]
theorem fold_spr : ∀ (l : List Nat) (M : List Nat) (k : Nat) (x : Bool), (∀ n ∈ l, n ≠ 0) → ((spr (!x) l).foldl addB (M ++ [k], x)).1 = M ++ [k] ++ l
  | [], M, k, x, _ => by simp [spr]
  | n :: l, M, k, x, h => by
    obtain ⟨m, rfl⟩ : ∃ m, n = m + 1 := ⟨n - 1, by have := h n (List.mem_cons_self ..); omega⟩
    show ((List.replicate (m + 1) (!x) ++ spr (!!x) l).foldl addB (M ++ [k], x)).1 = _
    rw [List.foldl_append, List.replicate_succ, List.foldl_cons, add_other _ _ _ (by cases x <;> simp), fold_run, fold_spr l _ _ _ (fun n hn => h n (List.mem_cons_of_mem _ hn)), show 1 + m = m + 1 by omega]
    simp
theorem nums_spr (n : Nat) (l : List Nat) (h : ∀ n ∈ l, n ≠ 0) : numsB (spr false (n :: l)) = n :: l := by
  show ((List.replicate n false ++ spr (!false) l).foldl addB ([0], false)).1 = _
  rw [List.foldl_append]
  have := fold_run [] false n 0
  simp only [List.nil_append, Nat.zero_add] at this
  rw [this]
  exact fold_spr l [] n false h
theorem sum_len : ∀ (N : List Nat) (x : Bool), (spr x N).length = N.sum
  | [], x => rfl
  | n :: N, x => by
    show (List.replicate n x ++ spr (!x) N).length = _
    rw [List.length_append, List.length_replicate, sum_len N (!x), List.sum_cons]
theorem nums_len (L : List Bool) : (numsB L).length ≤ L.length + 1 := by
  have hs := st_st L
  obtain ⟨⟨M, k, h1, _⟩, h3, h4⟩ := hs
  have h5 : (spr false (stB L).1).length = (stB L).1.sum := sum_len _ _
  rw [h3] at h5
  have hpos : ∀ (T : List Nat), (∀ n ∈ T, n ≠ 0) → T.length ≤ T.sum := by
    intro T
    induction T with
    | nil => intro _; exact Nat.le_refl _
    | cons a T ih =>
      intro h
      have := ih (fun n hn => h n (List.mem_cons_of_mem _ hn))
      have := h a (List.mem_cons_self ..)
      simp only [List.length_cons, List.sum_cons]
      omega
  show (stB L).1.length ≤ _
  cases hN : (stB L).1 with
  | nil => simp
  | cons a T =>
    rw [hN] at h4 h5
    have := hpos T h4
    simp only [List.sum_cons] at h5
    simp only [List.length_cons]
    omega
theorem nums_sum (L : List Bool) : (numsB L).sum = L.length := by rw [← sum_len _ false]; exact congrArg _ (st_st L).spr
theorem mem_le_sum : ∀ (N : List Nat) (n : Nat), n ∈ N → n ≤ N.sum
  | [], n, h => by simp at h
  | a :: N, n, h => by
    rw [List.sum_cons]
    rcases List.mem_cons.1 h with rfl | h
    · omega
    · have := mem_le_sum N n h; omega
theorem nums_le (L : List Bool) : ∀ n ∈ numsB L, n ≤ L.length := fun n hn => by rw [← nums_sum]; exact mem_le_sum _ n hn
/-- is there a true -/
theorem nums_some (L : List Bool) : (numsB L).length = 1 ↔ ¬ true ∈ L := by
  obtain ⟨⟨M, k, h1, _⟩, h3, h4⟩ := st_st L
  have e : numsB L = M ++ [k] := h1
  rw [e]
  constructor
  · intro h
    have hM : M = [] := by cases M with | nil => rfl | cons a M => simp at h
    subst hM
    rw [h1] at h3
    rw [← h3]
    intro hm
    simp [spr] at hm
  · intro h
    cases M with
    | nil => rfl
    | cons a M =>
      exfalso
      apply h
      rw [← h3, h1]
      have h5 : (stB L).1.tail = M ++ [k] := by rw [h1]; rfl
      rw [h5] at h4
      show true ∈ List.replicate a false ++ spr (!false) (M ++ [k])
      cases hT : M ++ [k] with
      | nil => simp at hT
      | cons b T =>
        rw [hT] at h4
        have hb := h4 b (List.mem_cons_self ..)
        refine List.mem_append_right _ (List.mem_append_left _ ?_)
        exact List.mem_replicate.2 ⟨hb, rfl⟩
/-- the bytes -/
def putB (L : List Bool) : List UInt8 := if (numsB L).length = 1 then [] else (numsB L).flatMap u
end Go.Proofs.YtedmnkcoflbciaaGreat.BooM
