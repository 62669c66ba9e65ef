import Derived.Test.YtbabgnadgdidmaaGreatZm16
set_option linter.unusedVariables false
namespace Go.Proofs.YtbabgnadgdidmaaGreat.RleM
section
open LebM
section
variable {κ : Type}
end
section
variable {κ : Type} [DecidableEq κ]
end
end
section
open LebM
theorem tell_le {κ : Type} [DecidableEq κ] {K : Kd κ} (x : List κ) (M N : Nat) (hx : x.length ≤ N) (hN : N ≤ 1000000) (hM : ∀ c ∈ x, (K.put c).length ≤ M) : (tellG K (gatherG x)).length ≤ N * (20 + M) ∧ (tellW K (gatherG x)).length ≤ N * (20 + M) := by
 have hg := gather_len x;have hm := mem_gather' (p := fun c => (K.put c).length ≤ M) hM;have h1 := tell_len (K := K) (gatherG x).length (gatherG x) (fun g hg => by have := gather_mem hg; omega) (by omega);have h2 := wt_le (gatherG x) hm;have h3 : (gatherG x).length * M ≤ N * M := Nat.mul_le_mul_right _ (by omega);have h4 : N * (20 + M) = 20 * N + N * M := by rw [Nat.mul_add, Nat.mul_comm]
 have h5 : (tellG K (gatherG x)).length ≤ N * (20 + M) := by unfold tellG; omega
 refine ⟨h5, ?_⟩;have h6 : tellW K (gatherG x) = [] ∨ tellW K (gatherG x) = tellG K (gatherG x) := by
  match gatherG x with
  | [] => exact .inr rfl
  | [(c, n)] =>
   by_cases e : c = K.zero
   · exact .inl (if_pos e)
   · exact .inr (if_neg e)
  | _ :: _ :: _ => exact .inr rfl
 rcases h6 with h | h
 · rw [h]; exact Nat.zero_le _
 · rw [h]; exact h5
theorem putU10 {c : Bool × Int} (h : okU c) : (kU.put c).length ≤ 10 := by
 have h1 : 0 ≤ c.2 := h.1;have h2 : c.2 < 9223372036854775808 := h.2;exact u_len10 (n := c.2.toNat) (by omega)
theorem putS10 {c : Bool × Int} (h : okS c) : (kS.put c).length ≤ 10 := s_len10 h.1 h.2
theorem putW10 {c : Bool × List UInt8} (h : c.2.length ≤ 1000000) : (kW.put c).length ≤ 10 + c.2.length := by
 have := u_len10 (n := c.2.length) (by omega);show (u c.2.length ++ c.2).length ≤ _;rw [List.length_append];omega
theorem lenS {x : List (Bool × Int)} (hx : x.length ≤ 600) (h : ∀ c ∈ x, mayS c) : (tellW kS (gatherG x)).length ≤ 18000 := (tell_le x 10 600 hx (by omega) (fun c hc => putS10 (h c hc).2)).2
theorem tellW_one {κ : Type} [DecidableEq κ] {K : Kd κ} {c : κ} {n : Nat} (hz : c ≠ K.zero) : tellW K [(c, n)] = tellG K [(c, n)] := by
 show (if c = K.zero then [] else _) = _;exact if_neg hz
section
variable {κ : Type} [DecidableEq κ] {K : Kd κ} {most : Int}
theorem none_err {z : κ} {r : Rs κ} {e : Nat} (h : noneG z most r = .error e) : e ≠ 0 := by
 unfold noneG at h;split at h
 · next hq => injection h with h; subst h; exact hq
 · split at h
   · cases h
   · injection h with h; omega
theorem same_err {n : Nat} {r : Rs κ} {e : Nat} (h : sameG K most n r = .error e) : e ≠ 0 := by
 unfold sameG at h;split at h
 · split at h
   · next hq => injection h with h; subst h; exact hq
   · cases h
 · injection h with h; omega
theorem many_err : ∀ (n : Nat) {r : Rs κ} {e : Nat}, manyG K n r = .error e → e ≠ 0
 | 0, r, e, h => by cases h
 | n + 1, r, e, h => by
  rw [manyG] at h;split at h
  · next hq => injection h with h; subst h; exact hq
  · exact many_err n h
theorem run_err {r : Rs κ} {e : Nat} (h : runG K most r = .error e) : e ≠ 0 := by
 unfold runG at h;split at h
 · next hq => injection h with h; subst h; exact hq
 · split at h
   · exact none_err h
   · split at h
     · exact same_err h
     · unfold unlikeG at h;split at h
       · exact many_err _ h
       · injection h with h; omega
theorem loop_err : ∀ (f : Nat) {r : Rs κ} {e : Nat}, loopG K most f r = .error e → e ≠ 0
 | 0, r, e, h => by cases h
 | f + 1, r, e, h => by
  rw [loopG] at h;split at h
  · cases h
  · split at h
    · next e' he => injection h with h; subst h; exact run_err he
    · exact loop_err f h
theorem read_err {B : List UInt8} {e : Nat} (h : readG K most B = .error e) : e ≠ 0 := by
 unfold readG at h;split at h
 · next e' he => injection h with h; subst h; exact loop_err _ he
 · split at h
   · injection h with h; omega
   · split at h
     · injection h with h; omega
     · cases h
end
end
end Go.Proofs.YtbabgnadgdidmaaGreat.RleM
