/-
  Plain: what the reference makes of cells; its cells as a kind.
  Plain: where groups lie in their cells.
-/
import Derived.Test.YtohbcepbodcapaaZm24
namespace Go.Proofs.Ytohbcepbodcapaa.RleM
open LebM
set_option linter.unusedVariables false

/-- cells that may be, of any -/
def cellS (sign : Bool) (c : Bool × Int) : Bool × Int := (c.1, if c.1 = false then 0 else if c.2 < 0 ∧ sign = false then -(c.2 + 1) else c.2)
def cellW (c : Bool × List UInt8) : Bool × List UInt8 := (c.1, if c.1 = false then [] else c.2)
/-- cells as texts of their bytes -/
def refS (sign : Bool) (c : Bool × Int) : Bool × List UInt8 := (c.1, if c.1 = false then [] else if sign = true then s c.2 else u c.2.toNat)
def refW (c : Bool × List UInt8) : Bool × List UInt8 := (c.1, if c.1 = false then [] else u c.2.length ++ c.2)
def kR : Kd (Bool × List UInt8) where
  zero := (false, [])
  put c := c.2
  get _ := ((false, []), 0, 0)
theorem may_cellU {c : Bool × Int} (h0 : -9223372036854775808 ≤ c.2) (h1 : c.2 < 9223372036854775808) : mayU (cellS false c) := by
  unfold mayU okU cellS
  simp only
  split
  · next h => exact ⟨fun _ => rfl, by omega, by omega⟩
  · next h =>
    refine ⟨fun e => absurd e h, ?_⟩
    split
    · omega
    · next h2 =>
      have h3 : ¬ c.2 < 0 := fun e => h2 ⟨e, trivial⟩
      omega
theorem may_cellS {c : Bool × Int} (h0 : -9223372036854775808 ≤ c.2) (h1 : c.2 < 9223372036854775808) : mayS (cellS true c) := by
  unfold mayS okS cellS
  simp only
  split
  · next h => exact ⟨fun _ => rfl, by omega, by omega⟩
  · next h =>
    refine ⟨fun e => absurd e h, ?_⟩
    rw [if_neg (by simp)]
    exact ⟨h0, h1⟩
theorem may_cellW {c : Bool × List UInt8} (h : c.2.length ≤ 1000000) : mayW (cellW c) := by
  unfold mayW okW cellW
  simp only
  split
  · next h => exact ⟨fun _ => rfl, Nat.zero_le _⟩
  · next h1 => exact ⟨fun e => absurd e h1, h⟩
section
variable {κ κ' : Type} {K : Kd κ} {K' : Kd κ'} {f : κ → κ'} {p : κ → Prop}
/-- groups of what is turned one by one, if unlike ones stay unlike -/
def mapG (f : κ → κ') (l : List (κ × Nat)) : List (κ' × Nat) := l.map fun g => (f g.1, g.2)
theorem puts_map (hp : ∀ c, p c → c ≠ K.zero → K'.put (f c) = K.put c) : ∀ (l : List (κ × Nat)), (∀ g ∈ l, p g.1 ∧ g.1 ≠ K.zero) → puts K' (mapG f l) = puts K l
  | [], _ => rfl
  | (c, n) :: l, h => by
    obtain ⟨h1, h2⟩ := h (c, n) (List.mem_cons_self ..)
    have ih := puts_map hp l (fun g hg => h g (List.mem_cons_of_mem _ hg))
    unfold puts at ih ⊢
    show List.flatMap _ ((f c, n) :: mapG f l) = _
    rw [List.flatMap_cons, List.flatMap_cons, ih, hp c h1 h2]
end
section
variable {κ κ' : Type} [DecidableEq κ] [DecidableEq κ'] {K : Kd κ} {K' : Kd κ'} {f : κ → κ'} {p : κ → Prop}
theorem map_add (hf : ∀ a b, p a → p b → f a = f b → a = b) {l : List (κ × Nat)} (hl : ∀ g ∈ l, p g.1) {c : κ} (hc : p c) (n : Nat) : addG (mapG f l) (f c) n = mapG f (addG l c n) := by
  by_cases h : n = 0
  · subst h; rw [addG_zero, addG_zero]
  · rcases snoc_cases l with rfl | ⟨l', d, m, rfl⟩
    · rw [addG_nil c h]; show addG [] _ _ = _; rw [addG_nil _ h]; rfl
    · have e : mapG f (l' ++ [(d, m)]) = mapG f l' ++ [(f d, m)] := by simp [mapG]
      rw [e, addG_snoc _ _ _ _ h, addG_snoc _ _ _ _ h]
      have hd : p d := hl (d, m) (by simp)
      by_cases hdc : d = c
      · rw [if_pos hdc, if_pos (by rw [hdc])]; simp [mapG]
      · rw [if_neg hdc, if_neg (fun e => hdc (hf d c hd hc e))]; simp [mapG]
theorem mem_gather' {L : List κ} (h : ∀ x ∈ L, p x) : ∀ g ∈ gatherG L, p g.1 := by
  revert h
  refine snoc_ind (p := fun L => (∀ x ∈ L, p x) → ∀ g ∈ gatherG L, p g.1) (fun _ g hg => by cases hg) (fun l x ih h g hg => ?_) L
  rw [gather_snoc] at hg
  rcases mem_addG hg with e | ⟨g', hg', e⟩
  · rw [e]; exact h x (by simp)
  · rw [← e]; exact ih (fun y hy => h y (by simp [hy])) g' hg'
theorem gather_map (hf : ∀ a b, p a → p b → f a = f b → a = b) : ∀ (L : List κ), (∀ c ∈ L, p c) → gatherG (L.map f) = mapG f (gatherG L) := by
  intro L
  refine snoc_ind (p := fun L => (∀ c ∈ L, p c) → gatherG (L.map f) = mapG f (gatherG L)) (fun _ => rfl) (fun l x ih h => ?_) L
  have hl : ∀ c ∈ l, p c := fun c hc => h c (by simp [hc])
  rw [List.map_append, List.map_singleton, gather_snoc, ih hl, map_add hf (mem_gather' hl) (h x (by simp)), gather_snoc]
theorem others_map (hf : ∀ a b, p a → p b → f a = f b → a = b) {z : κ} (hz : p z) : ∀ (l : List (κ × Nat)), (∀ g ∈ l, p g.1) → othersG (f z) (mapG f l) = othersG z l
  | [], _ => rfl
  | (c, n) :: l, h => by
    have hc : p c := h (c, n) (List.mem_cons_self ..)
    show othersG (f z) ((f c, n) :: mapG f l) = _
    rw [othersG, othersG, others_map hf hz l (fun g hg => h g (List.mem_cons_of_mem _ hg))]
    by_cases e : c = z
    · rw [if_pos (.inl (by rw [e])), if_pos (.inl e)]
    · by_cases hn : 1 < n
      · rw [if_pos (.inr hn), if_pos (.inr hn)]
      · rw [if_neg (by rintro (h | h); exact e (hf c z hc hz h); exact hn h), if_neg (by rintro (h | h); exact e h; exact hn h)]
theorem tell_map (hf : ∀ a b, p a → p b → f a = f b → a = b) (hz : p K.zero) (hfz : f K.zero = K'.zero) (hp : ∀ c, p c → c ≠ K.zero → K'.put (f c) = K.put c) : ∀ (m : Nat) (l : List (κ × Nat)), l.length ≤ m → (∀ g ∈ l, p g.1) → tellG K' (mapG f l) = tellG K l := by
  intro m
  induction m with
  | zero => intro l hl _; obtain rfl : l = [] := List.eq_nil_of_length_eq_zero (by omega); rfl
  | succ m ih =>
    intro l hl h
    match l, hl with
    | [], _ => rfl
    | (c, n) :: l, hl =>
      rw [List.length_cons] at hl
      have hc : p c := h (c, n) (List.mem_cons_self ..)
      have hl2 : ∀ g ∈ l, p g.1 := fun g hg => h g (List.mem_cons_of_mem _ hg)
      have e0 : mapG f ((c, n) :: l) = (f c, n) :: mapG f l := rfl
      by_cases e : c = K.zero
      · subst e
        rw [e0, hfz, tell_none, tell_none, ih l (by omega) hl2]
      · have e' : f c ≠ K'.zero := fun h => e (hf c _ hc hz (by rw [h, hfz]))
        by_cases hn : 1 < n
        · rw [e0, tell_same e' hn, tell_same e hn, ih l (by omega) hl2, hp c hc e]
        · have ho := others_map hf hz ((c, n) :: l) h
          rw [hfz, e0] at ho
          have hO : 0 < othersG K.zero ((c, n) :: l) := others_pos e hn l
          rw [e0, tell_other e' hn, tell_other e hn, ho, ← e0]
          have ht : (mapG f ((c, n) :: l)).take (othersG K.zero ((c, n) :: l)) = mapG f (((c, n) :: l).take (othersG K.zero ((c, n) :: l))) := by simp [mapG, List.map_take]
          have hd : (mapG f ((c, n) :: l)).drop (othersG K.zero ((c, n) :: l)) = mapG f (((c, n) :: l).drop (othersG K.zero ((c, n) :: l))) := by simp [mapG, List.map_drop]
          rw [ht, hd, ih _ (by rw [List.length_drop, List.length_cons]; omega) (fun g hg => h g (List.mem_of_mem_drop hg)), puts_map hp]
          intro g hg
          obtain ⟨k, hk⟩ := List.getElem?_of_mem hg
          rw [List.getElem?_take] at hk
          split at hk
          · next hko => exact ⟨h g (List.mem_of_getElem? hk), (others_mem K.zero _ k g hko hk).1⟩
          · cases hk
theorem tellW_map (hf : ∀ a b, p a → p b → f a = f b → a = b) (hz : p K.zero) (hfz : f K.zero = K'.zero) (hp : ∀ c, p c → c ≠ K.zero → K'.put (f c) = K.put c) (l : List (κ × Nat)) (h : ∀ g ∈ l, p g.1) : tellW K' (mapG f l) = tellW K l := by
  have ht := tell_map hf hz hfz hp l.length l (Nat.le_refl _) h
  match l, h, ht with
  | [], _, _ => rfl
  | [(c, n)], h, ht =>
    show (if f c = K'.zero then [] else tellG K' [(f c, n)]) = if c = K.zero then [] else tellG K [(c, n)]
    by_cases e : c = K.zero
    · rw [if_pos e, if_pos (by rw [e, hfz])]
    · rw [if_neg e, if_neg (fun h2 => e (hf c _ (h (c, n) (List.mem_cons_self ..)) hz (by rw [h2, hfz])))]
      exact ht
  | _ :: _ :: _, _, ht => exact ht
end
theorem ref_U {L : List (Bool × Int)} (h : ∀ c ∈ L, mayU c) : tellW kR (gatherG (L.map (refS false))) = tellW kU (gatherG L) := by
  have hf : ∀ a b, mayU a → mayU b → refS false a = refS false b → a = b := by
    rintro ⟨i, x⟩ ⟨j, y⟩ ⟨h1, h2, h3⟩ ⟨k1, k2, k3⟩ e
    unfold refS at e
    simp only [Prod.mk.injEq] at e h1 h2 h3 k1 k2 k3
    obtain ⟨rfl, e⟩ := e
    cases i with
    | false => rw [h1 rfl, k1 rfl]
    | true =>
      simp only [Bool.false_eq_true, if_false, Bool.true_eq_false] at e
      have := u_inj e
      congr 1
      omega
  have hz : mayU kU.zero := ⟨fun _ => rfl, Int.le_refl _, by show (0 : Int) < _; omega⟩
  rw [gather_map hf L h, tellW_map (K := kU) (K' := kR) hf hz rfl ?_ _ (mem_gather' h)]
  rintro ⟨i, x⟩ ⟨h1, _⟩ hne
  cases i with
  | false => exact absurd (by have h0 := h1 rfl; simp only at h0; rw [h0]; rfl) hne
  | true => rfl
theorem ref_S {L : List (Bool × Int)} (h : ∀ c ∈ L, mayS c) : tellW kR (gatherG (L.map (refS true))) = tellW kS (gatherG L) := by
  have hf : ∀ a b, mayS a → mayS b → refS true a = refS true b → a = b := by
    rintro ⟨i, x⟩ ⟨j, y⟩ ⟨h1, h2, h3⟩ ⟨k1, k2, k3⟩ e
    unfold refS at e
    simp only [Prod.mk.injEq] at e h1 h2 h3 k1 k2 k3
    obtain ⟨rfl, e⟩ := e
    cases i with
    | false => rw [h1 rfl, k1 rfl]
    | true =>
      simp only [if_true, if_false, Bool.true_eq_false] at e
      have := s_inj e
      congr 1
  have hz : mayS kS.zero := ⟨fun _ => rfl, by show (_ : Int) ≤ 0; omega, by show (0 : Int) < _; omega⟩
  rw [gather_map hf L h, tellW_map (K := kS) (K' := kR) hf hz rfl ?_ _ (mem_gather' h)]
  rintro ⟨i, x⟩ ⟨h1, _⟩ hne
  cases i with
  | false => exact absurd (by have h0 := h1 rfl; simp only at h0; rw [h0]; rfl) hne
  | true => rfl
theorem ref_W {L : List (Bool × List UInt8)} (h : ∀ c ∈ L, mayW c) : tellW kR (gatherG (L.map refW)) = tellW kW (gatherG L) := by
  have hf : ∀ a b, mayW a → mayW b → refW a = refW b → a = b := by
    rintro ⟨i, x⟩ ⟨j, y⟩ ⟨h1, h2⟩ ⟨k1, k2⟩ e
    unfold refW at e
    simp only [Prod.mk.injEq] at e h1 k1
    obtain ⟨rfl, e⟩ := e
    cases i with
    | false => rw [h1 rfl, k1 rfl]
    | true =>
      simp only [if_false, Bool.true_eq_false] at e
      have e1 := form_apart (u_form x.length) (u_form y.length) e
      rw [e1] at e
      rw [List.append_cancel_left e]
  have hz : mayW kW.zero := ⟨fun _ => rfl, Nat.zero_le _⟩
  rw [gather_map hf L h, tellW_map (K := kW) (K' := kR) hf hz rfl ?_ _ (mem_gather' h)]
  rintro ⟨i, x⟩ ⟨h1, _⟩ hne
  cases i with
  | false => exact absurd (by have h0 := h1 rfl; simp only at h0; rw [h0]; rfl) hne
  | true => rfl
end Go.Proofs.Ytohbcepbodcapaa.RleM
namespace Go.Proofs.Ytohbcepbodcapaa.RleM
open LebM
set_option linter.unusedVariables false

section
variable {κ : Type}
theorem spread_head {c : κ} {m : Nat} {D : List (κ × Nat)} {t : Nat} (h : t < m) : (spreadG ((c, m) :: D))[t]? = some c := by
  rw [spreadG, List.getElem?_append_left (by simpa using h), List.getElem?_replicate]
  simp [h]
theorem spread_next {c : κ} {m : Nat} {D : List (κ × Nat)} (t : Nat) : (spreadG ((c, m) :: D))[m + t]? = (spreadG D)[t]? := by
  rw [spreadG, List.getElem?_append_right (by simp), List.length_replicate, Nat.add_sub_cancel_left]
theorem spread_first {D : List (κ × Nat)} (hw : WF D) : (spreadG D)[0]? = (D[0]?).map (·.1) := by
  match D, hw with
  | [], _ => rfl
  | (c, m) :: D, hw => rw [spread_head hw.1]; rfl
theorem after_group {c : κ} {m : Nat} {D : List (κ × Nat)} (hw : WF ((c, m) :: D)) {e : κ} (h : (spreadG ((c, m) :: D))[m]? = some e) : e ≠ c := by
  have h2 := spread_next (c := c) (m := m) (D := D) 0
  rw [Nat.add_zero] at h2
  rw [h2, spread_first hw.2.2] at h
  match D, hw, h with
  | (d, k) :: D, hw, h =>
    simp at h
    subst h
    exact hw.2.1 (d, k) rfl
theorem wf_adj : ∀ {D : List (κ × Nat)} (hw : WF D) {t : Nat} {a b : κ × Nat}, D[t]? = some a → D[t + 1]? = some b → b.1 ≠ a.1
  | (c, m) :: D, hw, 0, a, b, ha, hb => by
    simp at ha hb
    subst ha
    exact hw.2.1 b (by rw [List.head?_eq_getElem?]; exact hb)
  | (c, m) :: D, hw, t + 1, a, b, ha, hb => wf_adj hw.2.2 (t := t) (by simpa using ha) (by simpa using hb)
theorem wf_pos : ∀ {D : List (κ × Nat)} (hw : WF D) {g : κ × Nat}, g ∈ D → 0 < g.2
  | (c, m) :: D, hw, g, hg => by
    rcases List.mem_cons.1 hg with rfl | hg
    · exact hw.1
    · exact wf_pos hw.2.2 hg
theorem wf_drop : ∀ {D : List (κ × Nat)} (hw : WF D) (t : Nat), WF (D.drop t)
  | [], _, t => by rw [List.drop_nil]; trivial
  | (c, m) :: D, hw, 0 => hw
  | (c, m) :: D, hw, t + 1 => wf_drop hw.2.2 t
end
section
variable {κ : Type} [DecidableEq κ]
theorem spread_others (z : κ) : ∀ {D : List (κ × Nat)} (hw : WF D) (t : Nat), t ≤ othersG z D → (spreadG D)[t]? = (D[t]?).map (·.1)
  | [], _, t, h => by simp [othersG] at h; subst h; rfl
  | (c, m) :: D, hw, 0, _ => spread_first hw
  | (c, m) :: D, hw, t + 1, h => by
    rw [othersG] at h
    split at h
    · omega
    · next hq =>
      have hm : m = 1 := by have := hw.1; omega
      subst hm
      rw [Nat.add_comm t 1, spread_next, spread_others z hw.2.2 t (by omega), Nat.add_comm 1 t, List.getElem?_cons_succ]
theorem spread_drop (z : κ) : ∀ {D : List (κ × Nat)} (hw : WF D), (spreadG D).drop (othersG z D) = spreadG (D.drop (othersG z D))
  | [], _ => rfl
  | (c, m) :: D, hw => by
    rw [othersG]
    split
    · rfl
    · next hq =>
      have hm : m = 1 := by have := hw.1; omega
      subst hm
      rw [List.drop_succ_cons, ← spread_drop z hw.2.2, spreadG, Nat.add_comm, ← List.drop_drop]
      rfl
theorem spread_twice (z : κ) {D : List (κ × Nat)} (hw : WF D) {c : κ} {m : Nat} (h : D[othersG z D]? = some (c, m)) (hm : 1 < m) : (spreadG D)[othersG z D + 1]? = some c := by
  have h1 := congrArg (fun l => l[1]?) (spread_drop z hw)
  simp only [List.getElem?_drop] at h1
  rw [h1]
  have h2 : D.drop (othersG z D) = (c, m) :: D.drop (othersG z D + 1) := by
    have hl := (List.getElem?_eq_some_iff.1 h).1
    rw [List.drop_eq_getElem_cons hl]
    congr 1
    exact (List.getElem?_eq_some_iff.1 h).2
  rw [h2]
  exact spread_head hm
end
end Go.Proofs.Ytohbcepbodcapaa.RleM
