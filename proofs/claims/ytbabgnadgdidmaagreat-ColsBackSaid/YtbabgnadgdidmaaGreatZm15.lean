import Derived.Test.YtbabgnadgdidmaaGreatZm02
namespace Go.Proofs.YtbabgnadgdidmaaGreat.RleM
section
open LebM
structure Kd (κ : Type) where
 zero : κ
 put : κ → List UInt8
 get : List UInt8 → κ × Nat × Nat
structure Rs (κ : Type) where
 left : List UInt8
 gs : List (κ × Nat)
 count : Nat
section
variable {κ : Type}
def spreadG : List (κ × Nat) → List κ
 | [] => []
 | (c, n) :: l => List.replicate n c ++ spreadG l
def total : List (κ × Nat) → Nat
 | [] => 0
 | (_, n) :: l => n + total l
def puts (K : Kd κ) (l : List (κ × Nat)) : List UInt8 := l.flatMap (fun g => K.put g.1)
def WF : List (κ × Nat) → Prop
 | [] => True
 | (c, n) :: l => 0 < n ∧ (∀ d ∈ l.head?, d.1 ≠ c) ∧ WF l
def wt (K : Kd κ) : List (κ × Nat) → Nat
 | [] => 0
 | (c, _) :: l => (K.put c).length + wt K l
theorem snoc_ind {α : Type} {p : List α → Prop} (h0 : p []) (h1 : ∀ l x, p l → p (l ++ [x])) (l : List α) : p l := by
 have h : ∀ m : List α, p m.reverse := by
  intro m
  induction m with
  | nil => exact h0
  | cons x m ih => rw [List.reverse_cons]; exact h1 _ x ih
 have := h l.reverse;rwa [List.reverse_reverse] at this
theorem snoc_cases (l : List (κ × Nat)) : l = [] ∨ ∃ l' d m, l = l' ++ [(d, m)] := by
 rcases List.eq_nil_or_concat l with h | ⟨l', ⟨d, m⟩, h⟩
 · exact .inl h
 · exact .inr ⟨l', d, m, by rw [h, List.concat_eq_append]⟩
theorem total_app (l k : List (κ × Nat)) : total (l ++ k) = total l + total k := by
 induction l with
 | nil => simp [total]
 | cons g l ih => obtain ⟨c, n⟩ := g; simp only [List.cons_append, total, ih]; omega
theorem spread_app (l k : List (κ × Nat)) : spreadG (l ++ k) = spreadG l ++ spreadG k := by
 induction l with
 | nil => simp [spreadG]
 | cons g l ih => obtain ⟨c, n⟩ := g; simp only [List.cons_append, spreadG, ih, List.append_assoc]
theorem spread_len (l : List (κ × Nat)) : (spreadG l).length = total l := by
 induction l with
 | nil => rfl
 | cons g l ih => obtain ⟨c, n⟩ := g; simp only [spreadG, List.length_append, List.length_replicate, ih, total]
theorem wf_snoc : ∀ (l : List (κ × Nat)) (d : κ) (m : Nat), WF (l ++ [(d, m)]) ↔ WF l ∧ 0 < m ∧ ∀ g ∈ l.getLast?, g.1 ≠ d
 | [], d, m => by simp [WF]
 | [(c, n)], d, m => by
  simp only [List.cons_append, List.nil_append, WF, List.head?_cons, List.head?_nil, List.getLast?_singleton, Option.mem_def];constructor
  · rintro ⟨h1, h2, h3, -, -⟩; exact ⟨⟨h1, by simp, trivial⟩, h3, fun g hg => by cases hg; exact fun e => h2 _ rfl e.symm⟩
  · rintro ⟨⟨h1, -, -⟩, h3, h4⟩; exact ⟨h1, fun g hg => by cases hg; exact fun e => h4 _ rfl e.symm, h3, by simp, trivial⟩
 | (c, n) :: (c', n') :: l, d, m => by
  have ih := wf_snoc ((c', n') :: l) d m;rw [List.cons_append, WF, ih, WF, List.getLast?_cons_cons];simp only [List.cons_append, List.head?_cons];constructor
  · rintro ⟨h1, h2, h3, h4, h5⟩; exact ⟨⟨h1, h2, h3⟩, h4, h5⟩
  · rintro ⟨⟨h1, h2, h3⟩, h4, h5⟩; exact ⟨h1, h2, h3, h4, h5⟩
theorem wf_len : ∀ {l : List (κ × Nat)}, WF l → l.length ≤ total l
 | [], _ => Nat.le_refl _
 | (c, n) :: l, h => by have := wf_len h.2.2; have := h.1; rw [List.length_cons, total]; omega
theorem mem_total : ∀ {l : List (κ × Nat)} {g : κ × Nat}, g ∈ l → g.2 ≤ total l
 | (c, n) :: l, g, h => by
  rw [total];rcases List.mem_cons.1 h with rfl | h
  · show n ≤ _; omega
  · have := mem_total h; omega
theorem wt_app {K : Kd κ} (l k : List (κ × Nat)) : wt K (l ++ k) = wt K l + wt K k := by
 induction l with
 | nil => simp [wt]
 | cons g l ih => obtain ⟨c, n⟩ := g; simp only [List.cons_append, wt, ih]; omega
theorem puts_len {K : Kd κ} (l : List (κ × Nat)) : (puts K l).length = wt K l := by
 induction l with
 | nil => rfl
 | cons g l ih => obtain ⟨c, n⟩ := g; unfold puts at ih ⊢; rw [List.flatMap_cons, List.length_append, ih, wt]
end
section
variable {κ : Type} [DecidableEq κ]
def addG (l : List (κ × Nat)) (c : κ) (n : Nat) : List (κ × Nat) :=
 if n = 0 then l else
 match l.getLast? with
 | some (d, m) => if d = c then l.dropLast ++ [(d, m + n)] else l ++ [(c, n)]
 | none => l ++ [(c, n)]
def gatherG (l : List κ) : List (κ × Nat) := l.foldl (fun g c => addG g c 1) []
def othersG (z : κ) : List (κ × Nat) → Nat
 | [] => 0
 | (c, n) :: l => if c = z ∨ 1 < n then 0 else othersG z l + 1
def tellF (K : Kd κ) : Nat → List (κ × Nat) → List UInt8
 | 0, _ => []
 | _ + 1, [] => []
 | f + 1, (c, n) :: l =>
  if c = K.zero then s 0 ++ (u n ++ tellF K f l)
  else if 1 < n then s (n : Int) ++ (K.put c ++ tellF K f l)
  else s (-((othersG K.zero l + 1 : Nat) : Int)) ++ (K.put c ++ (puts K (l.take (othersG K.zero l)) ++ tellF K f (l.drop (othersG K.zero l))))
def tellG (K : Kd κ) (l : List (κ × Nat)) : List UInt8 := tellF K l.length l
def tellW (K : Kd κ) : List (κ × Nat) → List UInt8
 | [(c, n)] => if c = K.zero then [] else tellG K [(c, n)]
 | l => tellG K l
def manyG (K : Kd κ) : Nat → Rs κ → Except Nat (Rs κ)
 | 0, r => .ok r
 | n + 1, r =>
  if (K.get r.left).2.2 ≠ 0 then .error (K.get r.left).2.2 else
  manyG K n ⟨r.left.drop (K.get r.left).2.1, addG r.gs (K.get r.left).1 1, r.count + 1⟩
def noneG (z : κ) (most : Int) (r : Rs κ) : Except Nat (Rs κ) :=
 if (gu r.left).2.2 ≠ 0 then .error (gu r.left).2.2 else
 if (r.count : Int) + (gu r.left).1 ≤ most then .ok ⟨r.left.drop (gu r.left).2.1, addG r.gs z (gu r.left).1, r.count + (gu r.left).1⟩ else .error 4
def sameG (K : Kd κ) (most : Int) (n : Nat) (r : Rs κ) : Except Nat (Rs κ) :=
 if (r.count : Int) + n ≤ most then
  if (K.get r.left).2.2 ≠ 0 then .error (K.get r.left).2.2 else .ok ⟨r.left.drop (K.get r.left).2.1, addG r.gs (K.get r.left).1 n, r.count + n⟩
 else .error 4
def unlikeG (K : Kd κ) (most : Int) (n : Nat) (r : Rs κ) : Except Nat (Rs κ) :=
 if (r.count : Int) + n ≤ most then manyG K n r else .error 4
def runG (K : Kd κ) (most : Int) (r : Rs κ) : Except Nat (Rs κ) :=
 if (Go.Proofs.YtbabgnadgdidmaaGreat.gs r.left).2.2 ≠ 0 then .error (Go.Proofs.YtbabgnadgdidmaaGreat.gs r.left).2.2 else
 if (Go.Proofs.YtbabgnadgdidmaaGreat.gs r.left).1 = 0 then noneG K.zero most ⟨r.left.drop (Go.Proofs.YtbabgnadgdidmaaGreat.gs r.left).2.1, r.gs, r.count⟩
 else if 0 < (Go.Proofs.YtbabgnadgdidmaaGreat.gs r.left).1 then sameG K most (Go.Proofs.YtbabgnadgdidmaaGreat.gs r.left).1.toNat ⟨r.left.drop (Go.Proofs.YtbabgnadgdidmaaGreat.gs r.left).2.1, r.gs, r.count⟩
 else unlikeG K most (-(Go.Proofs.YtbabgnadgdidmaaGreat.gs r.left).1).toNat ⟨r.left.drop (Go.Proofs.YtbabgnadgdidmaaGreat.gs r.left).2.1, r.gs, r.count⟩
def loopG (K : Kd κ) (most : Int) : Nat → Rs κ → Except Nat (Rs κ)
 | 0, r => .ok r
 | f + 1, r => if r.left = [] then .ok r else
  match runG K most r with
  | .error e => .error e
  | .ok r' => loopG K most f r'
def readG (K : Kd κ) (most : Int) (B : List UInt8) : Except Nat (List (κ × Nat)) :=
 match loopG K most B.length ⟨B, [], 0⟩ with
 | .error e => .error e
 | .ok r => if most < 0 then .error 3 else if tellW K r.gs ≠ B then .error 3 else .ok r.gs
section
variable {l : List (κ × Nat)} {c : κ} {n : Nat}
theorem addG_zero (l : List (κ × Nat)) (c : κ) : addG l c 0 = l := by rw [addG, if_pos rfl]
theorem addG_nil (c : κ) (h : n ≠ 0) : addG [] c n = [(c, n)] := by rw [addG, if_neg h]; rfl
theorem addG_snoc (l : List (κ × Nat)) (d c : κ) (m : Nat) (h : n ≠ 0) : addG (l ++ [(d, m)]) c n = if d = c then l ++ [(d, m + n)] else l ++ [(d, m)] ++ [(c, n)] := by
 rw [addG, if_neg h, List.getLast?_concat];simp only [List.dropLast_concat]
theorem total_add (l : List (κ × Nat)) (c : κ) (n : Nat) : total (addG l c n) = total l + n := by
 by_cases h : n = 0
 · subst h; rw [addG_zero]; rfl
 · rcases snoc_cases l with rfl | ⟨l', d, m, rfl⟩
   · rw [addG_nil c h]; simp [total]
   · rw [addG_snoc _ _ _ _ h];split <;> simp [total_app, total] <;> omega
theorem spread_add (l : List (κ × Nat)) (c : κ) (n : Nat) : spreadG (addG l c n) = spreadG l ++ List.replicate n c := by
 by_cases h : n = 0
 · subst h; rw [addG_zero]; simp
 · rcases snoc_cases l with rfl | ⟨l', d, m, rfl⟩
   · rw [addG_nil c h]; simp [spreadG]
   · rw [addG_snoc _ _ _ _ h];split
     · next e => subst e; simp [spread_app, spreadG, List.append_assoc, List.replicate_append_replicate]
     · simp [spread_app, spreadG]
theorem gather_snoc (l : List κ) (c : κ) : gatherG (l ++ [c]) = addG (gatherG l) c 1 := by unfold gatherG; rw [List.foldl_append]; rfl
theorem spread_gather (l : List κ) : spreadG (gatherG l) = l := by
 refine snoc_ind (p := fun l => spreadG (gatherG l) = l) ?_ (fun l c ih => ?_) l
 · rfl
 · rw [gather_snoc, spread_add, ih]; rfl
theorem wf_add (h : WF l) (c : κ) (n : Nat) : WF (addG l c n) := by
 by_cases h0 : n = 0
 · subst h0; rw [addG_zero]; exact h
 · rcases snoc_cases l with rfl | ⟨l', d, m, rfl⟩
   · rw [addG_nil c h0]; exact ⟨by omega, by simp, trivial⟩
   · rw [addG_snoc _ _ _ _ h0];obtain ⟨h1, h2, h3⟩ := (wf_snoc _ _ _).1 h;split
     · exact (wf_snoc _ _ _).2 ⟨h1, by omega, h3⟩
     · next e => exact (wf_snoc _ _ _).2 ⟨h, by omega, by rw [List.getLast?_concat]; rintro g hg; cases hg; exact e⟩
theorem wf_gather (l : List κ) : WF (gatherG l) := by
 refine snoc_ind (p := fun l => WF (gatherG l)) ?_ (fun l c ih => ?_) l
 · trivial
 · rw [gather_snoc]; exact wf_add ih c 1
theorem foldl_replicate (g : List (κ × Nat)) (c : κ) : ∀ n, 0 < n → (List.replicate n c).foldl (fun g c => addG g c 1) g = addG g c n := by
 intro n
 induction n with
 | zero => intro h; omega
 | succ n ih =>
  intro _;rcases Nat.eq_zero_or_pos n with rfl | hn
  · rfl
  · rw [List.replicate_succ', List.foldl_append, ih hn];show addG (addG g c n) c 1 = addG g c (n + 1);rcases snoc_cases g with rfl | ⟨l', d, m, rfl⟩
    · rw [addG_nil c (by omega), addG_nil c (by omega)];have := addG_snoc ([] : List (κ × Nat)) c c n (n := 1) (by omega);rw [List.nil_append, if_pos rfl] at this;exact this
    · rw [addG_snoc _ _ _ _ (by omega), addG_snoc _ _ _ _ (by omega)];split
      · next e => subst e; rw [addG_snoc _ _ _ _ (by omega), if_pos rfl, Nat.add_assoc]
      · rw [addG_snoc _ _ _ _ (by omega), if_pos rfl]
theorem add_new {g : List (κ × Nat)} (h0 : 0 < n) (h : ∀ d ∈ g.getLast?, d.1 ≠ c) : addG g c n = g ++ [(c, n)] := by
 rcases snoc_cases g with rfl | ⟨l', d, m, rfl⟩
 · rw [addG_nil c (by omega)]; rfl
 · rw [addG_snoc _ _ _ _ (by omega), if_neg (h (d, m) (by rw [List.getLast?_concat]; rfl))]
theorem foldl_spread : ∀ (l g : List (κ × Nat)), WF (g ++ l) → (spreadG l).foldl (fun g c => addG g c 1) g = g ++ l
 | [], g, _ => by simp [spreadG]
 | (c, n) :: l, g, h => by
  have h2 : WF (g ++ [(c, n)] ++ l) := by rw [List.append_assoc]; exact h
  have hp : WF (g ++ [(c, n)]) := by
   clear foldl_spread h;revert h2;refine snoc_ind (p := fun l => WF (g ++ [(c, n)] ++ l) → WF (g ++ [(c, n)])) (fun h2 => by simpa using h2) (fun l x ih h2 => ?_) l;rw [← List.append_assoc] at h2;exact ih ((wf_snoc _ x.1 x.2).1 h2).1
  obtain ⟨h3, h4, h5⟩ := (wf_snoc _ _ _).1 hp;rw [spreadG, List.foldl_append, foldl_replicate _ _ _ h4, add_new h4 h5, foldl_spread l _ h2, List.append_assoc];rfl
theorem total_gather (l : List κ) : total (gatherG l) = l.length := by rw [← spread_len, spread_gather]
theorem gather_len (l : List κ) : (gatherG l).length ≤ l.length := by have := wf_len (wf_gather l); rwa [total_gather] at this
theorem gather_mem {l : List κ} {g : κ × Nat} (h : g ∈ gatherG l) : g.2 ≤ l.length := by have := mem_total h; rwa [total_gather] at this
theorem gather_spread (h : WF l) : gatherG (spreadG l) = l := by
 have := foldl_spread l [] h;rwa [List.nil_append] at this
end
section
variable {K : Kd κ}
theorem others_le (z : κ) : ∀ l : List (κ × Nat), othersG z l ≤ l.length
 | [] => Nat.le_refl _
 | (c, n) :: l => by have := others_le z l; rw [othersG, List.length_cons]; split <;> omega
theorem tellF_fuel : ∀ (f g : Nat) (l : List (κ × Nat)), l.length ≤ f → l.length ≤ g → tellF K f l = tellF K g l
 | 0, 0, _, _, _ => rfl
 | 0, g + 1, l, h, _ => by obtain rfl : l = [] := List.eq_nil_of_length_eq_zero (by omega); rfl
 | f + 1, 0, l, _, h => by obtain rfl : l = [] := List.eq_nil_of_length_eq_zero (by omega); rfl
 | f + 1, g + 1, [], _, _ => rfl
 | f + 1, g + 1, (c, n) :: l, h1, h2 => by
  rw [List.length_cons] at h1 h2;rw [tellF, tellF, tellF_fuel f g l (by omega) (by omega), tellF_fuel f g (l.drop (othersG K.zero l)) (by rw [List.length_drop]; omega) (by rw [List.length_drop]; omega)]
theorem tell_nil : tellG K ([] : List (κ × Nat)) = [] := rfl
theorem tell_none (n : Nat) (l : List (κ × Nat)) : tellG K ((K.zero, n) :: l) = s 0 ++ (u n ++ tellG K l) := by
 unfold tellG;rw [List.length_cons, tellF, if_pos rfl]
theorem tell_same {c : κ} {n : Nat} (hc : c ≠ K.zero) (hn : 1 < n) (l : List (κ × Nat)) : tellG K ((c, n) :: l) = s (n : Int) ++ (K.put c ++ tellG K l) := by
 unfold tellG;rw [List.length_cons, tellF, if_neg hc, if_pos hn]
theorem tell_other {c : κ} {n : Nat} (hc : c ≠ K.zero) (hn : ¬ 1 < n) (l : List (κ × Nat)) :
    tellG K ((c, n) :: l) = s (-((othersG K.zero ((c, n) :: l) : Nat) : Int)) ++ (puts K (((c, n) :: l).take (othersG K.zero ((c, n) :: l))) ++ tellG K (((c, n) :: l).drop (othersG K.zero ((c, n) :: l)))) := by
 have ho : othersG K.zero ((c, n) :: l) = othersG K.zero l + 1 := by rw [othersG, if_neg (by rintro (h | h); exact hc h; exact hn h)]
 unfold tellG;rw [ho, List.length_cons, tellF, if_neg hc, if_neg hn, List.take_succ_cons, List.drop_succ_cons, tellF_fuel l.length (l.drop (othersG K.zero l)).length _ (by rw [List.length_drop]; omega) (Nat.le_refl _)];unfold puts;rw [List.flatMap_cons, List.append_assoc]
theorem others_pos {z c : κ} {n : Nat} (hc : c ≠ z) (hn : ¬ 1 < n) (l : List (κ × Nat)) : 0 < othersG z ((c, n) :: l) := by
 rw [othersG, if_neg (by rintro (h | h); exact hc h; exact hn h)]; omega
theorem others_zero {z c : κ} {n : Nat} (l : List (κ × Nat)) (h : c = z ∨ 1 < n) : othersG z ((c, n) :: l) = 0 := by rw [othersG, if_pos h]
theorem others_mem (z : κ) : ∀ (l : List (κ × Nat)) (k : Nat) (g : κ × Nat), k < othersG z l → l[k]? = some g → g.1 ≠ z ∧ ¬ 1 < g.2
 | [], k, g, h, _ => by simp [othersG] at h
 | (c, n) :: l, k, g, h, hk => by
  rw [othersG] at h;split at h
  · omega
  · next hq =>
    match k, hk with
    | 0, hk => simp at hk; subst hk; exact ⟨fun e => hq (.inl e), fun e => hq (.inr e)⟩
    | k + 1, hk => exact others_mem z l k g (by omega) (by simpa using hk)
theorem tell_len : ∀ (f : Nat) (l : List (κ × Nat)), (∀ g ∈ l, g.2 < 9223372036854775808) → l.length < 1000000000 → (tellF K f l).length ≤ 20 * l.length + wt K l
 | 0, _, _, _ => by simp [tellF]
 | f + 1, [], _, _ => by simp [tellF]
 | f + 1, (c, n) :: l, h, hl => by
  have hn : n < 9223372036854775808 := h (c, n) (List.mem_cons_self ..);rw [List.length_cons] at hl;have i1 := tell_len f l (fun g hg => h g (List.mem_cons_of_mem _ hg)) (by omega);have i2 := tell_len f (l.drop (othersG K.zero l)) (fun g hg => h g (List.mem_cons_of_mem _ (List.mem_of_mem_drop hg))) (by rw [List.length_drop]; omega);have hu := u_len10 (n := n) (by omega);have hs := s_len10 (n := (n : Int)) (by omega) (by omega);have ho := others_le K.zero l;have hs2 := s_len10 (n := -((othersG K.zero l + 1 : Nat) : Int)) (by omega) (by omega);have hs0 := s_len10 (n := 0) (by omega) (by omega);have hw : wt K l = wt K (l.take (othersG K.zero l)) + wt K (l.drop (othersG K.zero l)) := by rw [← wt_app, List.take_append_drop]
  rw [List.length_drop] at i2;have hp := puts_len (K := K) (l.take (othersG K.zero l));rw [tellF, wt, List.length_cons];split
  · simp only [List.length_append]; omega
  · split
    · simp only [List.length_append]; omega
    · simp only [List.length_append]; omega
end
end
end
section
open LebM
def kU : Kd (Bool × Int) where
 zero := (false, 0)
 put c := u c.2.toNat
 get B := if (gu B).2.2 ≠ 0 then ((false, 0), 0, (gu B).2.2) else if 9223372036854775807 < (gu B).1 then ((false, 0), 0, 4) else ((true, ((gu B).1 : Int)), (gu B).2.1, 0)
def kS : Kd (Bool × Int) where
 zero := (false, 0)
 put c := s c.2
 get B := if (gs B).2.2 ≠ 0 then ((false, 0), 0, (gs B).2.2) else ((true, (gs B).1), (gs B).2.1, 0)
def kW : Kd (Bool × List UInt8) where
 zero := (false, [])
 put c := u c.2.length ++ c.2
 get B := if (gu B).2.2 ≠ 0 then ((false, []), 0, (gu B).2.2) else if B.length - (gu B).2.1 < (gu B).1 then ((false, []), 0, 2) else ((true, (B.drop (gu B).2.1).take (gu B).1), (gu B).2.1 + (gu B).1, 0)
def okU (c : Bool × Int) : Prop := 0 ≤ c.2 ∧ c.2 < 9223372036854775808
def okS (c : Bool × Int) : Prop := -9223372036854775808 ≤ c.2 ∧ c.2 < 9223372036854775808
def okW (c : Bool × List UInt8) : Prop := c.2.length ≤ 1000000
theorem gu_bd (B : List UInt8) : (gu B).1 < 18446744073709551616 ∧ (gu B).2.1 ≤ B.length ∧ (gu B).2.2 ≤ 3 := by
 have h := spanK_le B;have h2 := spanE_le B;unfold gu;split
 · exact ⟨by show 0 < _; omega, Nat.zero_le _, h2⟩
 · split
   · exact ⟨Nat.mod_lt _ (by omega), h.1, Nat.zero_le _⟩
   · exact ⟨by show 0 < _; omega, Nat.zero_le _, Nat.le_refl _⟩
theorem gs_bd (B : List UInt8) : -9223372036854775808 ≤ (gs B).1 ∧ (gs B).1 < 9223372036854775808 ∧ (gs B).2.1 ≤ B.length ∧ (gs B).2.2 ≤ 3 := by
 have h := spanK_le B;have h2 := spanE_le B;unfold gs;split
 · exact ⟨by show (_ : Int) ≤ 0; omega, by show (0 : Int) < _; omega, Nat.zero_le _, h2⟩
 · split
   · exact ⟨(sgn_bd _ _).1, (sgn_bd _ _).2, h.1, Nat.zero_le _⟩
   · exact ⟨by show (_ : Int) ≤ 0; omega, by show (0 : Int) < _; omega, Nat.zero_le _, Nat.le_refl _⟩
theorem getU_bd (B : List UInt8) : okU (kU.get B).1 ∧ (kU.get B).2.1 ≤ B.length ∧ (kU.get B).2.2 ≤ 4 := by
 have h := gu_bd B;unfold kU okU;simp only;split
 · simp only; omega
 · split
   · simp only; omega
   · simp only; omega
theorem getS_bd (B : List UInt8) : okS (kS.get B).1 ∧ (kS.get B).2.1 ≤ B.length ∧ (kS.get B).2.2 ≤ 4 := by
 have h := gs_bd B;unfold kS okS;simp only;split
 · simp only; omega
 · simp only; omega
theorem getW_bd (B : List UInt8) (hB : B.length ≤ 1000000) : okW (kW.get B).1 ∧ (kW.get B).2.1 ≤ B.length ∧ (kW.get B).2.2 ≤ 4 := by
 have h := gu_bd B;unfold kW okW;simp only;split
 · simp only [List.length_nil]; omega
 · split
   · simp only [List.length_nil]; omega
   · simp only [List.length_take, List.length_drop]; omega
theorem spanK_pos {B : List UInt8} (h : spanE B = 0) : 1 ≤ spanK B := by
 unfold spanE at h;unfold spanK;split
 · omega
 · next hq => rw [if_neg hq] at h; split at h <;> omega
theorem gu_pos {B : List UInt8} (h : (gu B).2.2 = 0) : 1 ≤ (gu B).2.1 := by
 unfold gu at h ⊢;split
 · next hq => rw [if_pos hq] at h; exact absurd h hq
 · next hq =>
   rw [if_neg hq] at h;split
   · exact spanK_pos (by omega)
   · next hq2 => rw [if_neg hq2] at h; exact absurd h (by decide)
theorem gs_pos {B : List UInt8} (h : (gs B).2.2 = 0) : 1 ≤ (gs B).2.1 := by
 unfold gs at h ⊢;split
 · next hq => rw [if_pos hq] at h; exact absurd h hq
 · next hq =>
   rw [if_neg hq] at h;split
   · exact spanK_pos (by omega)
   · next hq2 => rw [if_neg hq2] at h; exact absurd h (by decide)
theorem getU_pos {B : List UInt8} (h : (kU.get B).2.2 = 0) : 1 ≤ (kU.get B).2.1 := by
 unfold kU at h ⊢;simp only at h ⊢;split
 · next hq => rw [if_pos hq] at h; exact absurd h hq
 · next hq =>
   rw [if_neg hq] at h;split
   · next hq2 => rw [if_pos hq2] at h; exact absurd h (by decide)
   · exact gu_pos (by omega)
theorem getS_pos {B : List UInt8} (h : (kS.get B).2.2 = 0) : 1 ≤ (kS.get B).2.1 := by
 unfold kS at h ⊢;simp only at h ⊢;split
 · next hq => rw [if_pos hq] at h; exact absurd h hq
 · exact gs_pos (by omega)
theorem getW_pos {B : List UInt8} (h : (kW.get B).2.2 = 0) : 1 ≤ (kW.get B).2.1 := by
 unfold kW at h ⊢;simp only at h ⊢;split
 · next hq => rw [if_pos hq] at h; exact absurd h hq
 · next hq =>
   rw [if_neg hq] at h;split
   · next hq2 => rw [if_pos hq2] at h; exact absurd h (by decide)
   · have := gu_pos (B := B) (by omega); simp only; omega
structure Inv {κ : Type} (ok : κ → Prop) (r : Rs κ) : Prop where
 len : r.left.length + r.gs.length ≤ 1000000
 tot : total r.gs = r.count
 cnt : r.count ≤ 1000000
 all : ∀ g ∈ r.gs, ok g.1
section
variable {κ : Type}
theorem Inv.less {ok : κ → Prop} {left left' : List UInt8} {G : List (κ × Nat)} {cnt : Nat} (h : Inv ok ⟨left, G, cnt⟩) (hl : left'.length ≤ left.length) : Inv ok ⟨left', G, cnt⟩ := ⟨by have := h.len; simp only at this ⊢; omega, h.tot, h.cnt, h.all⟩
theorem Inv.small {ok : κ → Prop} {r : Rs κ} (h : Inv ok r) : r.gs.length ≤ 1000000 ∧ ∀ g ∈ r.gs, ∀ n, n ≤ 1000000 → g.2 + n < 9223372036854775808 :=
 ⟨by have := h.len; omega, fun g hg n hn => by have := mem_total hg; rw [h.tot] at this; have := h.cnt; omega⟩
end
section
variable {κ : Type} [DecidableEq κ]
theorem addG_len (l : List (κ × Nat)) (c : κ) (n : Nat) : (addG l c n).length ≤ l.length + 1 := by
 by_cases h : n = 0
 · subst h; rw [addG_zero]; omega
 · rcases snoc_cases l with rfl | ⟨l', d, m, rfl⟩
   · rw [addG_nil c h]; simp
   · rw [addG_snoc _ _ _ _ h];split <;> simp
theorem mem_addG {l : List (κ × Nat)} {c : κ} {n : Nat} {g : κ × Nat} (hg : g ∈ addG l c n) : g.1 = c ∨ ∃ g' ∈ l, g'.1 = g.1 := by
 by_cases h : n = 0
 · subst h; rw [addG_zero] at hg; exact .inr ⟨g, hg, rfl⟩
 · rcases snoc_cases l with rfl | ⟨l', d, m, rfl⟩
   · rw [addG_nil c h] at hg; simp at hg; exact .inl (by rw [hg])
   · rw [addG_snoc _ _ _ _ h] at hg;split at hg
     · next e =>
       rcases List.mem_append.1 hg with h | h
       · exact .inr ⟨g, List.mem_append_left _ h, rfl⟩
       · simp at h; exact .inl (by rw [h]; exact e)
     · rcases List.mem_append.1 hg with h | h
       · exact .inr ⟨g, h, rfl⟩
       · simp at h; exact .inl (by rw [h])
theorem Inv.add {ok : κ → Prop} {left left' : List UInt8} {G : List (κ × Nat)} {cnt : Nat} (h : Inv ok ⟨left, G, cnt⟩) {c : κ} {n : Nat} (hl : left'.length + 1 ≤ left.length) (hc : ok c) (hn : cnt + n ≤ 1000000) : Inv ok ⟨left', addG G c n, cnt + n⟩ := by
 obtain ⟨h1, h2, h3, h4⟩ := h;simp only at h1 h2 h3 h4;refine ⟨?_, ?_, hn, ?_⟩
 · have := addG_len G c n; simp only; omega
 · rw [total_add, h2]
 · intro g hg;rcases mem_addG hg with e | ⟨g', hg', e⟩
   · rw [e]; exact hc
   · rw [← e]; exact h4 g' hg'
structure Good (K : Kd κ) (ok : κ → Prop) : Prop where
 zero : ok K.zero
 bd : ∀ B : List UInt8, B.length ≤ 1000000 → ok (K.get B).1 ∧ (K.get B).2.1 ≤ B.length
 pos : ∀ B : List UInt8, (K.get B).2.2 = 0 → 1 ≤ (K.get B).2.1
section
variable {K : Kd κ} {ok : κ → Prop} {most : Int}
theorem noneG_inv (hz : ok K.zero) (hm : most ≤ 1000000) {r r' : Rs κ} (h : noneG K.zero most r = .ok r') (hI : Inv ok r) : Inv ok r' ∧ r'.left.length < r.left.length := by
 obtain ⟨left, gs, cnt⟩ := r;unfold noneG at h;simp only at h;split at h
 · cases h
 · next he =>
   split at h
   · next hf =>
     injection h with h
     subst h;have h1 := gu_pos (B := left) (by omega);have h2 := (gu_bd left).2.1;exact ⟨hI.add (by rw [List.length_drop]; omega) hz (by omega), by simp only [List.length_drop]; omega⟩
   · cases h
theorem sameG_inv (hG : Good K ok) (hm : most ≤ 1000000) {n : Nat} {r r' : Rs κ} (h : sameG K most n r = .ok r') (hI : Inv ok r) : Inv ok r' ∧ r'.left.length < r.left.length := by
 obtain ⟨left, gs, cnt⟩ := r;have hl := hI.len;unfold sameG at h;simp only at h hl;split at h
 · next hf =>
   split at h
   · cases h
   · next he =>
     injection h with h
     subst h;have h1 := hG.pos left (by omega);have h2 := hG.bd left (by omega);exact ⟨hI.add (by rw [List.length_drop]; omega) h2.1 (by omega), by simp only [List.length_drop]; omega⟩
 · cases h
theorem manyG_inv (hG : Good K ok) : ∀ (n : Nat) {r r' : Rs κ}, manyG K n r = .ok r' → Inv ok r → r.count + n ≤ 1000000 → Inv ok r' ∧ r'.left.length ≤ r.left.length
 | 0, r, r', h, hI, _ => by injection h with h; subst h; exact ⟨hI, Nat.le_refl _⟩
 | n + 1, ⟨left, gs, cnt⟩, r', h, hI, hn => by
  have hl := hI.len;rw [manyG] at h;simp only at h hl hn;split at h
  · cases h
  · next he =>
    have h1 := hG.pos left (by omega);have h2 := hG.bd left (by omega);have h3 : Inv ok ⟨left.drop (K.get left).2.1, addG gs (K.get left).1 1, cnt + 1⟩ := hI.add (by rw [List.length_drop]; omega) h2.1 (by omega);obtain ⟨h4, h5⟩ := manyG_inv hG n h h3 (by simp only; omega);exact ⟨h4, by simp only [List.length_drop] at h5 ⊢; omega⟩
theorem runG_inv (hG : Good K ok) (hm : most ≤ 1000000) {r r' : Rs κ} (h : runG K most r = .ok r') (hI : Inv ok r) : Inv ok r' ∧ r'.left.length < r.left.length := by
 obtain ⟨left, gs0, cnt⟩ := r;unfold runG at h;simp only at h;split at h
 · cases h
 · next he =>
   have h1 := gs_pos (B := left) (by omega);have h2 := (gs_bd left).2.2.1;have hI2 : Inv ok ⟨left.drop (Go.Proofs.YtbabgnadgdidmaaGreat.gs left).2.1, gs0, cnt⟩ := hI.less (by rw [List.length_drop]; omega);split at h
   · obtain ⟨h3, h4⟩ := noneG_inv hG.zero hm h hI2;exact ⟨h3, by simp only [List.length_drop] at h4 ⊢; omega⟩
   · split at h
     · obtain ⟨h3, h4⟩ := sameG_inv hG hm h hI2;exact ⟨h3, by simp only [List.length_drop] at h4 ⊢; omega⟩
     · unfold unlikeG at h;split at h
       · next hf =>
         obtain ⟨h3, h4⟩ := manyG_inv hG _ h hI2 (by simp only at hf ⊢; omega);exact ⟨h3, by simp only [List.length_drop] at h4 ⊢; omega⟩
       · cases h
end
end
theorem goodU : Good kU okU := ⟨⟨Int.le_refl _, by show (0 : Int) < _; omega⟩, fun B _ => ⟨(getU_bd B).1, (getU_bd B).2.1⟩, fun _ h => getU_pos h⟩
theorem goodS : Good kS okS := ⟨⟨by show (_ : Int) ≤ 0; omega, by show (0 : Int) < _; omega⟩, fun B _ => ⟨(getS_bd B).1, (getS_bd B).2.1⟩, fun _ h => getS_pos h⟩
theorem goodW : Good kW okW := ⟨Nat.zero_le _, fun B hB => ⟨(getW_bd B hB).1, (getW_bd B hB).2.1⟩, fun _ h => getW_pos h⟩
theorem putU_len {c : Bool × Int} (h : okU c) : (kU.put c).length ≤ 1000010 := by
 have h1 : 0 ≤ c.2 := h.1;have h2 : c.2 < 9223372036854775808 := h.2;have := u_len10 (n := c.2.toNat) (by omega);show (u c.2.toNat).length ≤ _;omega
theorem putS_len {c : Bool × Int} (h : okS c) : (kS.put c).length ≤ 1000010 := by
 have := s_len10 h.1 h.2;show (s c.2).length ≤ _;omega
theorem putW_len {c : Bool × List UInt8} (h : okW c) : (kW.put c).length ≤ 1000010 := by
 have h1 : c.2.length ≤ 1000000 := h;have := u_len10 (n := c.2.length) (by omega);show (u c.2.length ++ c.2).length ≤ _;rw [List.length_append];omega
theorem wt_le {κ : Type} {K : Kd κ} {M : Nat} : ∀ (l : List (κ × Nat)), (∀ g ∈ l, (K.put g.1).length ≤ M) → wt K l ≤ l.length * M
 | [], _ => Nat.zero_le _
 | (c, n) :: l, h => by
  have h1 := h (c, n) (List.mem_cons_self ..);have h2 := wt_le l (fun g hg => h g (List.mem_cons_of_mem _ hg));rw [wt, List.length_cons, Nat.add_mul, Nat.one_mul];simp only at h1;omega
theorem tell_bound {κ : Type} [DecidableEq κ] {K : Kd κ} (l : List (κ × Nat)) (h : ∀ g ∈ l, (K.put g.1).length ≤ 1000010) (hc : ∀ g ∈ l, g.2 < 9223372036854775808) (hl : l.length ≤ 1000000) : (tellG K l).length ≤ 2000000000000 := by
 have h1 := tell_len (K := K) l.length l hc (by omega);have h2 := wt_le l h;have h3 : l.length * 1000010 ≤ 1000000 * 1000010 := Nat.mul_le_mul_right _ hl;unfold tellG;omega
end
end Go.Proofs.YtbabgnadgdidmaaGreat.RleM
