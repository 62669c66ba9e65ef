import Derived.Test.YtbabgnadgdidmaaGreatZm15
set_option linter.unusedVariables false
namespace Go.Proofs.YtbabgnadgdidmaaGreat.RleM
section
open LebM
section
variable {κ : Type}
theorem wf_cut {l k : List (κ × Nat)} (h : WF (l ++ k)) : WF l ∧ WF k := by
 constructor
 · revert h;refine snoc_ind (p := fun k => WF (l ++ k) → WF l) (fun h => by simpa using h) (fun k x ih h => ?_) k;rw [← List.append_assoc] at h;exact ih ((wf_snoc _ x.1 x.2).1 h).1
 · induction l with
   | nil => exact h
   | cons x l ih => exact ih h.2.2
end
section
variable {κ : Type} [DecidableEq κ] {K : Kd κ} {p : κ → Prop}
def Back (K : Kd κ) (p : κ → Prop) : Prop := ∀ c, p c → c ≠ K.zero → ∀ R : List UInt8, K.get (K.put c ++ R) = (c, (K.put c).length, 0)
theorem add_next {g0 l : List (κ × Nat)} {c : κ} {n : Nat} (h : WF (g0 ++ (c, n) :: l)) : addG g0 c n = g0 ++ [(c, n)] := by
 have h2 : WF (g0 ++ [(c, n)]) := by
  have e : g0 ++ (c, n) :: l = (g0 ++ [(c, n)]) ++ l := by simp
  rw [e] at h;exact (wf_cut h).1
 obtain ⟨-, h3, h4⟩ := (wf_snoc _ _ _).1 h2;exact add_new h3 h4
theorem many_back (hb : Back K p) : ∀ (M g0 : List (κ × Nat)) (R : List UInt8) (cnt : Nat), WF (g0 ++ M) → (∀ g ∈ M, p g.1 ∧ g.1 ≠ K.zero ∧ ¬ 1 < g.2) →
    manyG K M.length ⟨puts K M ++ R, g0, cnt⟩ = .ok ⟨R, g0 ++ M, cnt + M.length⟩
 | [], g0, R, cnt, _, _ => by simp [manyG, puts]
 | (c, n) :: M, g0, R, cnt, hw, h => by
  obtain ⟨h1, h2, h3⟩ := h (c, n) (List.mem_cons_self ..);simp only at h1 h2 h3;have hn : n = 1 := by have h0 : 0 < n := (wf_cut hw).2.1; omega
  subst hn;have hg := hb c h1 h2 (puts K M ++ R);have hp : puts K ((c, 1) :: M) ++ R = K.put c ++ (puts K M ++ R) := by unfold puts; rw [List.flatMap_cons, List.append_assoc]
  rw [hp, List.length_cons, manyG];simp only [hg, ne_eq, not_true_eq_false, if_false, List.drop_left];rw [add_next hw, many_back hb M (g0 ++ [(c, 1)]) R (cnt + 1) (by simpa using hw) (fun g hg => h g (List.mem_cons_of_mem _ hg))];simp;omega
theorem drop_others {z : κ} (l : List (κ × Nat)) : (l.take (othersG z l)).length = othersG z l := by rw [List.length_take, Nat.min_eq_left (others_le z l)]
theorem total_take (z : κ) : ∀ l : List (κ × Nat), WF l → total (l.take (othersG z l)) = othersG z l
 | [], _ => rfl
 | (c, n) :: l, h => by
  rw [othersG];split
  · rfl
  · next hq =>
    have h0 : 0 < n := h.1;have hn : n = 1 := by omega
    rw [List.take_succ_cons, total, total_take z l h.2.2, hn, Nat.add_comm]
theorem loop_back (hb : Back K p) (most : Int) : ∀ (m : Nat) (l : List (κ × Nat)), l.length ≤ m → ∀ (f : Nat) (g0 : List (κ × Nat)) (cnt : Nat), WF (g0 ++ l) → (∀ g ∈ l, p g.1) → (tellG K l).length ≤ f → (cnt : Int) ≤ most → total l < 9223372036854775808 →
    loopG K most f ⟨tellG K l, g0, cnt⟩ = if (cnt : Int) + total l ≤ most then .ok ⟨[], g0 ++ l, cnt + total l⟩ else .error 4 := by
 intro m
 induction m with
 | zero =>
  intro l hl f g0 cnt hw hp hf hc ht;obtain rfl : l = [] := List.eq_nil_of_length_eq_zero (by omega);rw [tell_nil, if_pos (by simp [total]; exact hc)];cases f <;> simp [loopG, total]
 | succ m ih =>
  intro l hl f g0 cnt hw hp hf hc ht
  match l, hl with
  | [], _ =>
   rw [tell_nil, if_pos (by simp [total]; exact hc)];cases f <;> simp [loopG, total]
  | (c, n) :: l, hl =>
   have hn0 : 0 < n := (wf_cut hw).2.1;rw [List.length_cons] at hl;rw [total] at ht;have hw2 : WF (g0 ++ [(c, n)] ++ l) := by simpa using hw
   by_cases hz : c = K.zero
   · subst hz;rw [tell_none] at hf ⊢;have hsp := s_pos 0;rw [List.length_append] at hf;obtain ⟨f, rfl⟩ : ∃ f', f = f' + 1 := ⟨f - 1, by omega⟩
     rw [loopG, if_neg (by intro e; have := congrArg List.length e; simp only [List.length_append, List.length_nil] at this; omega)];have h1 := gs_back 0 (u n ++ tellG K l) (by omega) (by omega);have h2 := gu_back n (tellG K l) (by omega);have hrun : runG K most ⟨s 0 ++ (u n ++ tellG K l), g0, cnt⟩ = if (cnt : Int) + n ≤ most then .ok ⟨tellG K l, g0 ++ [(K.zero, n)], cnt + n⟩ else .error 4 := by
      unfold runG noneG;simp only [h1, h2, List.drop_left, ne_eq, not_true_eq_false, if_false, if_true, add_next hw]
     rw [hrun];by_cases hfit : (cnt : Int) + n ≤ most
     · rw [if_pos hfit];simp only;rw [ih l (by omega) f _ _ hw2 (fun g hg => hp g (List.mem_cons_of_mem _ hg)) (by rw [List.length_append] at hf; omega) (by omega) (by omega)];by_cases hall : (cnt : Int) + total ((K.zero, n) :: l) ≤ most
       · rw [if_pos hall, if_pos (by rw [total] at hall; omega), total];simp [Nat.add_assoc]
       · rw [if_neg hall, if_neg (by rw [total] at hall; omega)]
     · rw [if_neg hfit, if_neg (by rw [total]; omega)]
   · by_cases hm : 1 < n
     · rw [tell_same hz hm] at hf ⊢;have hsp := s_pos (n : Int);rw [List.length_append] at hf;obtain ⟨f, rfl⟩ : ∃ f', f = f' + 1 := ⟨f - 1, by omega⟩
       rw [loopG, if_neg (by intro e; have := congrArg List.length e; simp only [List.length_append, List.length_nil] at this; omega)];have h1 := gs_back (n : Int) (K.put c ++ tellG K l) (by omega) (by omega);have h2 := hb c (hp (c, n) (List.mem_cons_self ..)) hz (tellG K l);have hrun : runG K most ⟨s (n : Int) ++ (K.put c ++ tellG K l), g0, cnt⟩ = if (cnt : Int) + n ≤ most then .ok ⟨tellG K l, g0 ++ [(c, n)], cnt + n⟩ else .error 4 := by
        unfold runG sameG;simp only [h1, h2, List.drop_left, ne_eq, not_true_eq_false, if_false, add_next hw, Int.toNat_natCast];rw [if_neg (by omega), if_pos (by omega)]
       rw [hrun];by_cases hfit : (cnt : Int) + n ≤ most
       · rw [if_pos hfit];simp only;rw [ih l (by omega) f _ _ hw2 (fun g hg => hp g (List.mem_cons_of_mem _ hg)) (by rw [List.length_append] at hf; omega) (by omega) (by omega)];by_cases hall : (cnt : Int) + total ((c, n) :: l) ≤ most
         · rw [if_pos hall, if_pos (by rw [total] at hall; omega), total];simp [Nat.add_assoc]
         · rw [if_neg hall, if_neg (by rw [total] at hall; omega)]
       · rw [if_neg hfit, if_neg (by rw [total]; omega)]
     · obtain ⟨O, hO⟩ : ∃ O, O = othersG K.zero ((c, n) :: l) := ⟨_, rfl⟩
       have hOp : 0 < O := by rw [hO]; exact others_pos hz hm l
       have hOl : O ≤ l.length + 1 := by rw [hO]; exact others_le K.zero ((c, n) :: l)
       have hwl := (wf_cut hw).2;have htt := total_take K.zero _ hwl;have hlen := drop_others (z := K.zero) ((c, n) :: l);have hmem : ∀ g ∈ ((c, n) :: l).take O, p g.1 ∧ g.1 ≠ K.zero ∧ ¬ 1 < g.2 := by
        intro g hg;obtain ⟨k, hk⟩ := List.getElem?_of_mem hg;rw [List.getElem?_take] at hk;split at hk
        · next hko =>
          rw [hO] at hko;exact ⟨hp g (List.mem_of_getElem? hk), others_mem K.zero _ k g hko hk⟩
        · cases hk
       have hte := tell_other (K := K) hz hm l;rw [← hO] at hte htt hlen;obtain ⟨M, hM⟩ : ∃ M, M = ((c, n) :: l).take O := ⟨_, rfl⟩
       obtain ⟨D, hD⟩ : ∃ D, D = ((c, n) :: l).drop O := ⟨_, rfl⟩
       have hMD : (c, n) :: l = M ++ D := by rw [hM, hD, List.take_append_drop]
       have hDl : D.length ≤ m := by rw [hD, List.length_drop, List.length_cons]; omega
       rw [← hM, ← hD] at hte;rw [← hM] at htt hlen hmem;have htd : total ((c, n) :: l) = O + total D := by rw [hMD, total_app, htt]
       have htd2 : O + total D < 9223372036854775808 := by rw [← htd, total]; exact ht
       rw [hte] at hf ⊢;have hsp := s_pos (-((O : Nat) : Int));rw [List.length_append] at hf;obtain ⟨f, rfl⟩ : ∃ f', f = f' + 1 := ⟨f - 1, by omega⟩
       rw [loopG, if_neg (by intro e; have := congrArg List.length e; simp only [List.length_append, List.length_nil] at this; omega)];have h1 := gs_back (-((O : Nat) : Int)) (puts K M ++ tellG K D) (by omega) (by omega);have hw3 : WF (g0 ++ M ++ D) := by rw [List.append_assoc, ← hMD]; exact hw
       have h2 := many_back hb M g0 (tellG K D) cnt (wf_cut hw3).1 hmem;rw [hlen] at h2;have hrun : runG K most ⟨s (-((O : Nat) : Int)) ++ (puts K M ++ tellG K D), g0, cnt⟩ = if (cnt : Int) + O ≤ most then .ok ⟨tellG K D, g0 ++ M, cnt + O⟩ else .error 4 := by
        unfold runG unlikeG;simp only [h1, List.drop_left, ne_eq, not_true_eq_false, if_false, Int.neg_neg, Int.toNat_natCast, h2];rw [if_neg (by omega), if_neg (by omega)]
       rw [hrun, htd];by_cases hfit : (cnt : Int) + O ≤ most
       · rw [if_pos hfit];simp only;rw [ih D hDl f _ _ hw3 (fun g hg => hp g (by rw [hMD]; exact List.mem_append_right _ hg)) (by rw [List.length_append] at hf; omega) (by omega) (by omega)];by_cases hall : (cnt : Int) + (O + total D : Nat) ≤ most
         · rw [if_pos hall, if_pos (by omega), hMD];simp [Nat.add_assoc]
         · rw [if_neg hall, if_neg (by omega)]
       · rw [if_neg hfit, if_neg (by omega)]
theorem told_none {x : List κ} (h : ∀ c ∈ x, c = K.zero) : tellW K (gatherG x) = [] := by
 have hw := wf_gather x;have hm : ∀ g ∈ gatherG x, g.1 = K.zero := by
  intro g hg;have hs : g.1 ∈ spreadG (gatherG x) ∨ g.2 = 0 := by
   clear hw;generalize gatherG x = l at hg
   induction l with
   | nil => cases hg
   | cons a l ih =>
    obtain ⟨c, n⟩ := a;rcases List.mem_cons.1 hg with rfl | hg
    · rcases Nat.eq_zero_or_pos n with h0 | h0
      · exact .inr h0
      · exact .inl (by rw [spreadG]; exact List.mem_append_left _ (List.mem_replicate.2 ⟨by omega, rfl⟩))
    · rcases ih hg with h | h
      · exact .inl (by rw [spreadG]; exact List.mem_append_right _ h)
      · exact .inr h
  rcases hs with hs | hs
  · rw [spread_gather] at hs; exact h _ hs
  · exfalso;generalize gatherG x = l at hg hw
    induction l with
    | nil => cases hg
    | cons a l ih =>
     obtain ⟨c, n⟩ := a;rcases List.mem_cons.1 hg with rfl | hg
     · have := hw.1; simp only at hs; omega
     · exact ih hg hw.2.2
 match gatherG x, hw, hm with
 | [], _, _ => rfl
 | [(c, n)], _, hm =>
  have e : c = K.zero := hm (c, n) (List.mem_cons_self ..);show (if c = K.zero then _ else _) = _;exact if_pos e
 | (c, n) :: (d, k) :: l, hw, hm =>
  exfalso;have e1 : c = K.zero := hm (c, n) (List.mem_cons_self ..);have e2 : d = K.zero := hm (d, k) (List.mem_cons_of_mem _ (List.mem_cons_self ..));exact hw.2.1 (d, k) rfl (by rw [e1]; exact e2)
theorem told_some {x : List κ} {c : κ} (hc : c ∈ x) (hz : c ≠ K.zero) : tellW K (gatherG x) = tellG K (gatherG x) := by
 have hx := spread_gather x
 match gatherG x, hx with
 | [], hx => rfl
 | [(d, n)], hx =>
  show (if d = K.zero then _ else _) = _;refine if_neg (fun e => hz ?_);rw [← hx] at hc;simp [spreadG] at hc;rw [hc.2, e]
 | _ :: _ :: _, hx => rfl
theorem tell_ne : ∀ {l : List (κ × Nat)}, l ≠ [] → tellG K l ≠ []
 | [], h => absurd rfl h
 | (c, n) :: l, _ => by
  intro e;have := congrArg List.length e;by_cases hz : c = K.zero
  · subst hz; rw [tell_none, List.length_append] at this; have := s_pos 0; simp only [List.length_nil] at *; omega
  · by_cases hm : 1 < n
    · rw [tell_same hz hm, List.length_append] at this; have := s_pos (n : Int); simp only [List.length_nil] at *; omega
    · rw [tell_other hz hm, List.length_append] at this; have := s_pos (-((othersG K.zero ((c, n) :: l) : Nat) : Int)); simp only [List.length_nil] at *; omega
theorem read_back (hb : Back K p) {x : List κ} {c : κ} (hp : ∀ c ∈ x, p c) (hc : c ∈ x) (hz : c ≠ K.zero) (hx : x.length < 9223372036854775808) (most : Int) (hm : 0 ≤ most) :
    readG K most (tellW K (gatherG x)) = if (x.length : Int) ≤ most then .ok (gatherG x) else .error 4 := by
 have hpg : ∀ g ∈ gatherG x, p g.1 := by
  intro g hg;have : g.1 ∈ x := by
   have hw := wf_gather x;have hs : g.1 ∈ spreadG (gatherG x) := by
    generalize gatherG x = l at hg hw
    induction l with
    | nil => cases hg
    | cons a l ih =>
     obtain ⟨c, n⟩ := a;rw [spreadG];rcases List.mem_cons.1 hg with rfl | hg
     · have := hw.1; exact List.mem_append_left _ (List.mem_replicate.2 ⟨by omega, rfl⟩)
     · exact List.mem_append_right _ (ih hg hw.2.2)
   rwa [spread_gather] at hs
  exact hp _ this
 have ht := total_gather x;have h := loop_back hb most _ (gatherG x) (Nat.le_refl _) (tellG K (gatherG x)).length [] 0 (by simpa using wf_gather x) hpg (Nat.le_refl _) hm (by rw [ht]; exact hx);rw [ht] at h;have hs := told_some (K := K) hc hz;unfold readG;rw [hs, h];by_cases hf : (x.length : Int) ≤ most
 · rw [if_pos (by simpa using hf), if_pos hf];simp only [List.nil_append];rw [if_neg (by omega), hs, if_neg (by simp)]
 · rw [if_neg (by simpa using hf), if_neg hf]
theorem read_nil (most : Int) (hm : 0 ≤ most) : readG K most [] = .ok [] := by
 unfold readG;simp only [List.length_nil, loopG];rw [if_neg (by omega), if_neg (by show ¬ (tellW K [] ≠ []); intro h; exact h rfl)]
theorem none_wf {most : Int} {z : κ} {r r' : Rs κ} (h : noneG z most r = .ok r') (hw : WF r.gs) : WF r'.gs := by
 unfold noneG at h;split at h
 · cases h
 · split at h
   · injection h with h; subst h; exact wf_add hw _ _
   · cases h
theorem same_wf {most : Int} {n : Nat} {r r' : Rs κ} (h : sameG K most n r = .ok r') (hw : WF r.gs) : WF r'.gs := by
 unfold sameG at h;split at h
 · split at h
   · cases h
   · injection h with h; subst h; exact wf_add hw _ _
 · cases h
theorem many_wf : ∀ (n : Nat) {r r' : Rs κ}, manyG K n r = .ok r' → WF r.gs → WF r'.gs
 | 0, r, r', h, hw => by injection h with h; subst h; exact hw
 | n + 1, r, r', h, hw => by
  rw [manyG] at h;split at h
  · cases h
  · exact many_wf n (r := ⟨r.left.drop (K.get r.left).2.1, addG r.gs (K.get r.left).1 1, r.count + 1⟩) h (wf_add hw (K.get r.left).1 1)
theorem run_wf {most : Int} {r r' : Rs κ} (h : runG K most r = .ok r') (hw : WF r.gs) : WF r'.gs := by
 unfold runG at h;split at h
 · cases h
 · split at h
   · exact none_wf h hw
   · split at h
     · exact same_wf h hw
     · unfold unlikeG at h;split at h
       · exact many_wf _ h hw
       · cases h
theorem loop_inv {ok : κ → Prop} (hG : Good K ok) {most : Int} (hm : most ≤ 1000000) : ∀ (f : Nat) {r r' : Rs κ}, loopG K most f r = .ok r' → WF r.gs → Inv ok r → WF r'.gs ∧ Inv ok r'
 | 0, r, r', h, hw, hI => by injection h with h; subst h; exact ⟨hw, hI⟩
 | f + 1, r, r', h, hw, hI => by
  rw [loopG] at h;split at h
  · injection h with h; subst h; exact ⟨hw, hI⟩
  · split at h
    · cases h
    · next r2 hr => exact loop_inv hG hm f h (run_wf hr hw) (runG_inv hG hm hr hI).1
theorem read_ok {ok : κ → Prop} (hG : Good K ok) {most : Int} (hm : most ≤ 1000000) {B : List UInt8} (hB : B.length ≤ 1000000) {gs : List (κ × Nat)} (h : readG K most B = .ok gs) :
    tellW K (gatherG (spreadG gs)) = B ∧ (∀ c ∈ spreadG gs, ok c) ∧ (spreadG gs).length ≤ 1000000 := by
 unfold readG at h;split at h
 · cases h
 · next r hr =>
   split at h
   · cases h
   · split at h
     · cases h
     · next hq =>
       injection h with h
       subst h;obtain ⟨h1, h2⟩ := loop_inv hG hm _ hr trivial ⟨by simp; exact hB, rfl, Nat.zero_le _, fun g hg => by cases hg⟩;refine ⟨by rw [gather_spread h1]; exact Decidable.byContradiction hq, ?_, by rw [spread_len, h2.tot]; exact h2.cnt⟩;have ha := h2.all;clear hr h1 h2 hq;generalize r.gs = l at ha;intro c hc
       induction l with
       | nil => cases hc
       | cons a l ih =>
        obtain ⟨d, n⟩ := a;rw [spreadG] at hc;rcases List.mem_append.1 hc with hc | hc
        · rw [(List.mem_replicate.1 hc).2]; exact ha (d, n) (List.mem_cons_self ..)
        · exact ih (fun g hg => ha g (List.mem_cons_of_mem _ hg)) hc
end
def mayU (c : Bool × Int) : Prop := (c.1 = false → c.2 = 0) ∧ okU c
def mayS (c : Bool × Int) : Prop := (c.1 = false → c.2 = 0) ∧ okS c
def mayW (c : Bool × List UInt8) : Prop := (c.1 = false → c.2 = []) ∧ okW c
theorem backU : Back kU mayU := by
 rintro ⟨i, x⟩ ⟨h0, h1, h2⟩ hz R;simp only at h0 h1 h2;have hi : i = true := by
  cases i with
  | true => rfl
  | false => exact absurd (by rw [h0 rfl]; rfl) hz
 subst hi;have hg : gu (kU.put (true, x) ++ R) = (x.toNat, (u x.toNat).length, 0) := gu_back x.toNat R (by omega);show (if (gu (kU.put (true, x) ++ R)).2.2 ≠ 0 then _ else if 9223372036854775807 < (gu (kU.put (true, x) ++ R)).1 then _ else ((true, ((gu (kU.put (true, x) ++ R)).1 : Int)), (gu (kU.put (true, x) ++ R)).2.1, 0)) = _;rw [hg];rw [if_neg (by simp), if_neg (by simp only; omega)];show ((true, ((x.toNat : Nat) : Int)), (u x.toNat).length, 0) = ((true, x), (u x.toNat).length, 0);rw [show ((x.toNat : Nat) : Int) = x by omega]
theorem backS : Back kS mayS := by
 rintro ⟨i, x⟩ ⟨h0, h1, h2⟩ hz R;simp only at h0 h1 h2;have hi : i = true := by
  cases i with
  | true => rfl
  | false => exact absurd (by rw [h0 rfl]; rfl) hz
 subst hi;have hg : gs (kS.put (true, x) ++ R) = (x, (s x).length, 0) := gs_back x R h1 h2;show (if (gs (kS.put (true, x) ++ R)).2.2 ≠ 0 then _ else ((true, (gs (kS.put (true, x) ++ R)).1), (gs (kS.put (true, x) ++ R)).2.1, 0)) = _;rw [hg];rw [if_neg (by simp)];rfl
theorem backW : Back kW mayW := by
 rintro ⟨i, x⟩ ⟨h0, h1⟩ hz R;simp only at h0;have h1' : x.length ≤ 1000000 := h1;have hi : i = true := by
  cases i with
  | true => rfl
  | false => exact absurd (by rw [h0 rfl]; rfl) hz
 subst hi;have hg : gu (kW.put (true, x) ++ R) = (x.length, (u x.length).length, 0) := by
  have h := gu_back x.length (x ++ R) (by omega);rw [← List.append_assoc] at h;exact h
 show (if (gu (kW.put (true, x) ++ R)).2.2 ≠ 0 then _ else if (kW.put (true, x) ++ R).length - (gu (kW.put (true, x) ++ R)).2.1 < (gu (kW.put (true, x) ++ R)).1 then _ else ((true, ((kW.put (true, x) ++ R).drop (gu (kW.put (true, x) ++ R)).2.1).take (gu (kW.put (true, x) ++ R)).1), (gu (kW.put (true, x) ++ R)).2.1 + (gu (kW.put (true, x) ++ R)).1, 0)) = _;rw [hg];have hl : (kW.put (true, x) ++ R).length = (u x.length).length + x.length + R.length := by show (u x.length ++ x ++ R).length = _; simp only [List.length_append]
 rw [if_neg (by simp), if_neg (by rw [hl]; simp only; omega)];show ((true, ((u x.length ++ x ++ R).drop (u x.length).length).take x.length), (u x.length).length + x.length, 0) = ((true, x), (u x.length ++ x).length, 0);rw [List.append_assoc, List.drop_left, List.take_left, List.length_append]
end
section
open LebM
section
variable {κ κ' : Type} {K : Kd κ} {K' : Kd κ'} {f : κ → κ'} {p : κ → Prop}
end
section
variable {κ κ' : Type} [DecidableEq κ] [DecidableEq κ'] {K : Kd κ} {K' : Kd κ'} {f : κ → κ'} {p : κ → Prop}
theorem mem_gather' {L : List κ} (h : ∀ x ∈ L, p x) : ∀ g ∈ gatherG L, p g.1 := by
 revert h;refine snoc_ind (p := fun L => (∀ x ∈ L, p x) → ∀ g ∈ gatherG L, p g.1) (fun _ g hg => by cases hg) (fun l x ih h g hg => ?_) L;rw [gather_snoc] at hg;rcases mem_addG hg with e | ⟨g', hg', e⟩
 · rw [e]; exact h x (by simp)
 · rw [← e]; exact ih (fun y hy => h y (by simp [hy])) g' hg'
end
end
end Go.Proofs.YtbabgnadgdidmaaGreat.RleM
